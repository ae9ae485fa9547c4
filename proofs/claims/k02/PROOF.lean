import PyProof.Rows.All
import Wide.All
import OpenK.AllK
import Wide.FinOn
import HandS.ForMost
import HandS.IsInst
import PySem.Challenge.RW_firstneed_k02_integers_judged
set_option Elab.async false
set_option maxRecDepth 100000
/-! Rules and promises that all laws share: powers of great numbers, repr of a truth value, the dice. -/
namespace Fn
open PySem PySem.Spec PyProof.Rows L2
section
variable {X : Cx}
def CPowW (i j : Int) : Prop := 0 ≤ j ∧ (Builtin.Int.intBits i : Int) * j ≤ 2 ^ 27
theorem op_powW : OpR X (binaryOp .Pow) (rI CPowW fun i j => .int (i ^ j.toNat)) := opI fun _ _ _ _ _ _ _ hc q => pow_int hc.1 hc.2 q
theorem call_repr_b : CallR X (.builtin "repr") (fun xs H Q => ∃ b, xs = [.bl b] ∧ Q (.str (if b then "True" else "False")) H) := by
  intro pins s σ H xs us Q I r h
  obtain ⟨b, rfl, q⟩ := h
  obtain ⟨u, rfl, r1⟩ := vals1 r
  cases r1
  exact PySem.P.repr_of_bool ⟨.str _, H, I.tok _, ⟨_, rfl⟩, q⟩
end
theorem powOk {i j : Int} (h : (decide (0 ≤ j) && decide ((Builtin.Int.intBits i : Int) * j ≤ 2 ^ 27)) = true) : CPowW i j := by
  rw [Bool.and_eq_true] at h
  exact ⟨of_decide_eq_true h.1, of_decide_eq_true h.2⟩
theorem modc {j : Int} (h : 0 < j) : 0 < j := h
theorem szr {α : Type} {xs : List α} (h : Nat.ble xs.length 100000 = true) : xs.length ≤ sizeLine := Nat.le_trans (Nat.le_of_ble_eq_true h) (by decide)
theorem szl {α : Type} {xs : List α} (h : xs.length ≤ 100000) : xs.length ≤ sizeLine := Nat.le_trans h (by decide)
theorem szlt {n : Nat} (h : n ≤ 100000) : n < sizeLine := Nat.lt_of_le_of_lt h (by decide)
theorem script_at {ns : List Int} {k : Int} (h0 : 0 ≤ k) (h : k < (ns.length : Int)) : ∃ c : Int, atI (ns.map V.int) k = some (.int c) := by
  have hlt : k.toNat < ns.length := by omega
  have ek : ((k.toNat : Nat) : Int) = k := by omega
  have g : atI (ns.map V.int) ((k.toNat : Nat) : Int) = some (.int ns[k.toNat]) := atI_nat (by rw [List.getElem?_map, List.getElem?_eq_getElem hlt] <;> rfl)
  rw [ek] at g
  exact ⟨_, g⟩
/-! ### places in the text: the scope of a comprehension -/
def kidsE : Expr → List Expr
  | .BoolOp _ vs _ => vs
  | .BinOp a _ b _ => [a, b]
  | .UnaryOp _ a _ => [a]
  | .IfExp t a b _ => [t, a, b]
  | .ListComp e gs _ _ => e :: gs.flatMap fun c => c.iter :: c.ifs
  | .Compare l _ cs _ => l :: cs
  | .Call f xs _ _ => f :: xs
  | .Attribute v _ _ => [v]
  | .Subscript a b _ => [a, b]
  | .List es _ => es
  | .Tuple es _ _ => es
  | _ => []
def goE (e : Expr) (path : List Nat) : Expr := path.foldl (fun e i => (kidsE e).getD i e) e
def stE : Stmt → Expr
  | .Return (some e) _ => e
  | .Assign _ e _ => e
  | .AugAssign _ _ e _ => e
  | .For _ e _ _ _ => e
  | .While e _ _ _ => e
  | .If e _ _ _ => e
  | .Expr e _ => e
  | _ => .Name "" ⟨0, 0, 0, 0⟩
def stB : Stmt → List Stmt
  | .For _ _ a b _ => a ++ b
  | .While _ a b _ => a ++ b
  | .If _ a b _ => a ++ b
  | _ => []
def goS (body : List Stmt) (path : List Nat) : Stmt := match path with
  | [] => .Pass ⟨0, 0, 0, 0⟩
  | i :: r => r.foldl (fun s j => (stB s).getD j s) (body.getD i (.Pass ⟨0, 0, 0, 0⟩))
def lcSc : Expr → Scope
  | .ListComp _ _ sc _ => sc
  | _ => { kind := .function, names := [], isGenerator := false, isCoroutine := false }
theorem mulL {i j : Int} (h : -(2 ^ 64) < i ∧ i < 2 ^ 64) : CMul i j := Or.inl h
theorem mulR {i j : Int} (h : -(2 ^ 64) < j ∧ j < 2 ^ 64) : CMul i j := Or.inr h
/-- a def as a callee: its name, its object, how its arguments bind -/
structure Cal (K : PySem.W.Frag) (mg : Str → Option Value) (x : Str) (f : Addr) (fd : FuncData) (ps : List Str) : Prop where
  m : mg x = some (.ref f)
  k : PySem.W.keepIn K (.ref f) = true
  b : Binds K fd ps []
/-- three ints: the dice -/
def dl (x y z : Int) : HO := .lst [.int x, .int y, .int z]
theorem sq_upd {K : PySem.W.Frag} {H : Hp} {p a : Addr} {o : HO} {xs : List V} (h : a ≠ p) (hs : H a = some (.lst xs)) : SqL K (upd H p o) a xs := SqL.of (by rw [upd_ne h]; exact hs)

/-! ### what stays: all but the contents of lists -/
def Ev2 (H H' : Hp) : Prop := ∀ (a : Addr) (o : HO), H a = some o → (∃ xs ys, o = .lst xs ∧ H' a = some (.lst ys)) ∨ H' a = some o
theorem Ev2.refl (H : Hp) : Ev2 H H := fun _ _ h => .inr h
theorem Ev2.trans {H H1 H2 : Hp} (a : Ev2 H H1) (b : Ev2 H1 H2) : Ev2 H H2 := fun x o h => by
  rcases a x o h with ⟨xs, ys, rfl, h1⟩ | h1
  · rcases b x _ h1 with ⟨_, zs, _, h2⟩ | h2
    · exact .inl ⟨_, zs, rfl, h2⟩
    · exact .inl ⟨_, ys, rfl, h2⟩
  · exact b x o h1
theorem Ev2.new {H : Hp} {p : Addr} {o : HO} (h : H p = none) : Ev2 H (upd H p o) := fun a u e => .inr (by
  rw [upd_ne (ne_of_none e h)]
  exact e)
theorem Ev2.lst {H : Hp} {p : Addr} {xs ys : List V} (h : H p = some (.lst xs)) : Ev2 H (upd H p (.lst ys)) := fun a u e => by
  by_cases q : a = p
  · subst q
    rw [h] at e
    exact .inl ⟨xs, ys, (Option.some.inj e).symm, upd_same⟩
  · exact .inr (by rw [upd_ne q]; exact e)
theorem Ev2.tup {H H' : Hp} {a : Addr} {xs : List V} (h : H a = some (.tup xs)) (e : Ev2 H H') : H' a = some (.tup xs) := by
  rcases e a _ h with ⟨_, _, q, _⟩ | q
  · cases q
  · exact q
theorem Ev2.frz {H H' : Hp} {a : Addr} {o : Obj} {u : HO} (h : H a = some (.frz o u)) (e : Ev2 H H') : H' a = some (.frz o u) := by
  rcases e a _ h with ⟨_, _, q, _⟩ | q
  · cases q
  · exact q
theorem Ev2.dK {H H' : Hp} {a : Addr} {kvs : List (Key × V)} (h : H a = some (.dK kvs)) (e : Ev2 H H') : H' a = some (.dK kvs) := by
  rcases e a _ h with ⟨_, _, q, _⟩ | q
  · cases q
  · exact q
theorem Ev2.isL {H H' : Hp} {a : Addr} {xs : List V} (h : H a = some (.lst xs)) (e : Ev2 H H') : ∃ ys, H' a = some (.lst ys) := by
  rcases e a _ h with ⟨_, ys, _, q⟩ | q
  · exact ⟨ys, q⟩
  · exact ⟨xs, q⟩
theorem Ev2.some {H H' : Hp} {a : Addr} {o : HO} (h : H a = some o) (e : Ev2 H H') : ∃ u, H' a = some u := by
  rcases e a _ h with ⟨_, ys, _, q⟩ | q
  · exact ⟨_, q⟩
  · exact ⟨_, q⟩
theorem Ev2.fresh {H H' : Hp} {a : Addr} (e : Ev2 H H') (h : H' a = none) : H a = none := by
  cases q : H a with
  | none => rfl
  | some o =>
    obtain ⟨u, z⟩ := Ev2.some q e
    rw [z] at h
    cases h
theorem ne_new {H H' : Hp} {a p : Addr} {o : HO} (h : H a = some o) (e : Ev2 H H') (hp : H' p = none) : a ≠ p := ne_of_none h (e.fresh hp)
/-- a new object: the heap behind is named -/
theorem made {H H1 : Hp} {p : Addr} {o : HO} (n : H p = none) (g : upd H p o = H1) : Ev2 H H1 ∧ (∀ b, b ≠ p → H1 b = H b) ∧ H1 p = some o := by
  subst g
  exact ⟨Ev2.new n, fun _ hb => upd_ne hb, upd_same⟩
/-- the script, in a heap that knows nothing else -/
def Scr (K : PySem.W.Frag) (H : Hp) (a : Addr) (xs : List V) : Prop := SqL K H a xs ∧ ∀ H', Ev2 H H' → SqL K H' a xs
theorem scr_of {K : PySem.W.Frag} {H : Hp} {a : Addr} {xs : List V} (hO : Only H) (h : SqL K H a xs) : Scr K H a xs := by
  refine ⟨h, fun H' e => ?_⟩
  rcases h with (h | ⟨o, h⟩) | h
  · rcases hO a with q | ⟨o, ys, q⟩
    · rw [q] at h
      cases h
    · rw [q] at h
      cases h
  · exact .inl (.inr ⟨o, Ev2.frz h e⟩)
  · exact .inr h
theorem Scr.mono {K : PySem.W.Frag} {H H' : Hp} {a : Addr} {xs : List V} (h : Scr K H a xs) (e : Ev2 H H') : Scr K H' a xs := ⟨h.2 _ e, fun _ e2 => h.2 _ (e.trans e2)⟩
/-- kinds of values that are looked at by isinstance -/
def Ty (K : PySem.W.Frag) (H : Hp) (v : V) (n : String) : Prop := match v with
  | .non => n = "NoneType" | .bl _ => n = "bool" | .int _ => n = "int" | .str _ => n = "str"
  | .ref a => (n = "list" ∧ ∃ xs, H a = some (.lst xs)) ∨ (n = "tuple" ∧ ∃ xs, H a = some (.tup xs)) ∨ (n = "dict" ∧ ∃ kvs, H a = some (.dK kvs))
  | _ => False
theorem Ty.x {K : PySem.W.Frag} {H : Hp} {v : V} {n : String} (h : Ty K H v n) : TyX K H v (.type n) := by
  cases v with
  | non => cases (show n = "NoneType" from h); exact .base .non
  | bl b => cases (show n = "bool" from h); exact .base (.bl b)
  | int i => cases (show n = "int" from h); exact .base (.int i)
  | str x => cases (show n = "str" from h); exact .base (.str x)
  | byt b => exact h.elim
  | flt b => exact h.elim
  | ty b => exact h.elim
  | ref a =>
    rcases h with ⟨rfl, xs, e⟩ | ⟨rfl, xs, e⟩ | ⟨rfl, xs, e⟩
    · exact .base (.lst e)
    · exact .base (.tup e)
    · exact .base (.dK e)
theorem Ty.mono {K : PySem.W.Frag} {H H' : Hp} {v : V} {n : String} (h : Ty K H v n) (e : Ev2 H H') : Ty K H' v n := by
  cases v with
  | ref a =>
    rcases h with ⟨rfl, xs, q⟩ | ⟨rfl, xs, q⟩ | ⟨rfl, xs, q⟩
    · exact .inl ⟨rfl, Ev2.isL q e⟩
    · exact .inr (.inl ⟨rfl, xs, Ev2.tup q e⟩)
    · exact .inr (.inr ⟨rfl, xs, Ev2.dK q e⟩)
  | non => exact h
  | bl b => exact h
  | int i => exact h
  | str x => exact h
  | byt b => exact h
  | flt b => exact h
  | ty b => exact h
/-- the dice stand at p -/
def Dc (H : Hp) (p : Addr) : Prop := ∃ x y z : Int, H p = some (dl x y z)
/-- only what stands at p is another -/
def Only1 (H H' : Hp) (p : Addr) : Prop := ∀ b, b ≠ p → H' b = H b
theorem keepAt {H H1 : Hp} {a p : Addr} {o : HO} (t : H a = some o) (n : H p = none) (k : ∀ b, b ≠ p → H1 b = H b) : H1 a = some o := (k a (ne_of_none t n)).trans t
theorem sameOf {H H1 : Hp} {p : Addr} (n : H p = none) (k : ∀ b, b ≠ p → H1 b = H b) : Same H H1 := fun _ _ e => keepAt e n k
theorem Ev2.same {H H1 : Hp} (s : Same H H1) : Ev2 H H1 := fun a o e => .inr (s a o e)
theorem Dc.keep {H H1 : Hp} {a p : Addr} (t : Dc H a) (n : H p = none) (k : ∀ b, b ≠ p → H1 b = H b) : Dc H1 a := by
  obtain ⟨x, y, z, t⟩ := t
  exact ⟨x, y, z, keepAt t n k⟩
theorem Dc.ne {H : Hp} {a p : Addr} (t : Dc H a) (n : H p = none) : a ≠ p := by
  obtain ⟨x, y, z, t⟩ := t
  exact ne_of_none t n
/-- all but what stands at p is the same -/
def But (p : Addr) (H H' : Hp) : Prop := ∀ a o, a ≠ p → H a = some o → H' a = some o
theorem But.refl (p : Addr) (H : Hp) : But p H H := fun _ _ _ h => h
theorem But.trans {p : Addr} {H H1 H2 : Hp} (x : But p H H1) (y : But p H1 H2) : But p H H2 := fun a o n h => y a o n (x a o n h)
theorem But.of1 {p : Addr} {H H' : Hp} (k : Only1 H H' p) : But p H H' := fun a o n h => (k a n).trans h
theorem But.ofS {p : Addr} {H H' : Hp} (k : Same H H') : But p H H' := fun a o _ h => k a o h
theorem But.ev {p : Addr} {H H' : Hp} (k : But p H H') (d : Dc H p) (d' : Dc H' p) : Ev2 H H' := fun a o h => by
  by_cases e : a = p
  · subst e
    obtain ⟨x, y, z, h1⟩ := d
    obtain ⟨x', y', z', h2⟩ := d'
    rw [h1] at h
    exact .inl ⟨_, _, (Option.some.inj h).symm, h2⟩
  · exact .inr (k a o e h)
theorem But.at {p : Addr} {H H' : Hp} {a : Addr} {o : HO} (h : H a = some o) (n : a ≠ p) (k : But p H H') : H' a = some o := k a o n h
theorem Dc.same {H H' : Hp} {p : Addr} (d : Dc H p) (s : Same H H') : Dc H' p := by
  obtain ⟨x, y, z, h⟩ := d
  exact ⟨x, y, z, s _ _ h⟩
theorem Dc.neOf {H : Hp} {a p : Addr} {xs : List V} (d : Dc H p) (h : H a = some (.lst xs)) (n : ∀ x y z : Int, xs ≠ [.int x, .int y, .int z]) : a ≠ p := by
  rintro rfl
  obtain ⟨x, y, z, h1⟩ := d
  rw [h1] at h
  exact n x y z (HO.lst.inj (Option.some.inj h)).symm
def spDice (K : PySem.W.Frag) : Sp := fun vs H Q _ => ∃ (a : Addr) (ns : List Int) (k : Int), vs = [.ref a, .int k] ∧ SqL K H a (ns.map V.int) ∧ ns.length ≤ 1000 ∧ 0 ≤ k ∧ k < 1000 ∧
  ∀ (p : Addr) (H' : Hp), H p = none → Ev2 H H' → Only1 H H' p → Dc H' p → Q (.ref p) H'
def spRoll : Sp := fun vs H Q _ => ∃ (p : Addr) (n : Int), vs = [.ref p, .int n] ∧ Dc H p ∧ 0 < n ∧ n < 1000000 ∧
  ∀ (r : Int) (H' : Hp), 0 ≤ r → r < n → Ev2 H H' → Only1 H H' p → Dc H' p → Q (.int r) H'
def spPick (K : PySem.W.Frag) : Sp := fun vs H Q _ => ∃ (p a : Addr) (xs : List V), vs = [.ref p, .ref a] ∧ Dc H p ∧ SqL K H a xs ∧ (∀ H', Ev2 H H' → Only1 H H' p → SqL K H' a xs) ∧ 0 < xs.length ∧ xs.length < 1000000 ∧
  ∀ (i : Nat) (v : V) (H' : Hp), xs[i]? = some v → Ev2 H H' → Only1 H H' p → Dc H' p → Q v H'
theorem perm_erase {α : Type} : ∀ {zs : List α} {i : Nat} (h : i < zs.length), ([zs[i]] ++ zs.eraseIdx i).Perm zs
  | z :: zs, 0, _ => List.Perm.refl _
  | z :: zs, i + 1, h => by
    have h' : i < zs.length := by simpa using h
    have ih := perm_erase h'
    exact (List.Perm.swap z (zs[i]'h') _).trans (List.Perm.cons z ih)
/-- some of a list, taken without putting back -/
def spSome (K : PySem.W.Frag) : Sp := fun vs H Q _ => ∃ (p a : Addr) (xs : List V) (n : Int), vs = [.ref p, .ref a, .int n] ∧ Dc H p ∧ H a = some (.lst xs) ∧ 0 ≤ n ∧ n ≤ 1000 ∧ xs.length ≤ 1000 ∧
  ∀ (l : Addr) (ys zs : List V) (H' : Hp), But p H H' → Dc H' p → H l = none → l ≠ p → H' l = some (.lst ys) → (ys ++ zs).Perm xs → (ys.length : Int) = (if (xs.length : Int) < n then (xs.length : Int) else n) → Q (.ref l) H'
theorem Dc.set {H : Hp} {p : Addr} (h : Dc H p) (x y z : Int) : Ev2 H (upd H p (dl x y z)) ∧ Only1 H (upd H p (dl x y z)) p ∧ Dc (upd H p (dl x y z)) p := by
  obtain ⟨x0, y0, z0, h⟩ := h
  exact ⟨Ev2.lst h, fun _ hb => upd_ne hb, x, y, z, upd_same⟩
/-- the list that is picked from is not the dice -/
theorem pick_l {K : PySem.W.Frag} {H : Hp} {a p : Addr} {xs : List V} (h : H a = some (.lst xs)) (d : a ≠ p) : SqL K H a xs ∧ ∀ H', Ev2 H H' → Only1 H H' p → SqL K H' a xs :=
  ⟨SqL.of h, fun H' _ k => SqL.of ((k a d).trans h)⟩
def spLaw (K : PySem.W.Frag) : Sp := fun vs H Q _ => ∃ (a : Addr) (ns : List Int), vs = [.ref a] ∧ Scr K H a (ns.map V.int) ∧ ns.length ≤ 63 ∧ ∀ H', Q (.bl true) H'
/-- the number of turns of a law: between 1 and 8 -/
theorem turns {n : Nat} : 0 ≤ (if (if (n : Int) < 8 then (n : Int) else 8) > 1 then (if (n : Int) < 8 then (n : Int) else 8) else 1) ∧ (if (if (n : Int) < 8 then (n : Int) else 8) > 1 then (if (n : Int) < 8 then (n : Int) else 8) else 1) ≤ 8 := by
  split <;> split <;> omega
end Fn

set_option Elab.async false
set_option maxRecDepth 100000
set_option maxHeartbeats 4000000
namespace K02
open PySem PySem.Spec PyProof.Rows L2 Fn
local macro_rules | `(tactic| walk_at "ev") => `(tactic| first | exact Ev2.refl _ | assumption | (refine Ev2.trans (by assumption) ?_; walk_at "ev"))
def top (i : Nat) : Stmt := PySem.Challenge.pw_firstneed_k02_integers_judged.main.body.getD i (.Pass ⟨0, 0, 0, 0⟩)
abbrev s__law_dice : Stmt := top 3
abbrev N__law_dice : List Str := ["_law_script", "_law_spot", "_law_cell", "_law_great", "_law_blend"]
abbrev P__law_dice : List Str := ["_law_script", "_law_spot"]
theorem sc__law_dice : FnScope N__law_dice P__law_dice (defScope s__law_dice) := ⟨rfl, rfl, rfl, by decide +kernel, rfl, by decide +kernel, by decide +kernel⟩
abbrev s__law_roll : Stmt := top 4
abbrev N__law_roll : List Str := ["_law_dice_here", "_law_total", "_law_found", "_law_one", "_law_two"]
abbrev P__law_roll : List Str := ["_law_dice_here", "_law_total"]
theorem sc__law_roll : FnScope N__law_roll P__law_roll (defScope s__law_roll) := ⟨rfl, rfl, rfl, by decide +kernel, rfl, by decide +kernel, by decide +kernel⟩
abbrev s__law_pick : Stmt := top 5
abbrev N__law_pick : List Str := ["_law_dice_here", "_law_items"]
abbrev P__law_pick : List Str := ["_law_dice_here", "_law_items"]
theorem sc__law_pick : FnScope N__law_pick P__law_pick (defScope s__law_pick) := ⟨rfl, rfl, rfl, by decide +kernel, rfl, by decide +kernel, by decide +kernel⟩
abbrev s_is_integer : Stmt := top 1
abbrev N_is_integer : List Str := ["value"]
abbrev P_is_integer : List Str := ["value"]
theorem sc_is_integer : FnScope N_is_integer P_is_integer (defScope s_is_integer) := ⟨rfl, rfl, rfl, by decide +kernel, rfl, by decide +kernel, by decide +kernel⟩
abbrev s__law_row : Stmt := top 6
abbrev N__law_row : List Str := ["_law_dice_here", "_law_size", "_law_small", "_law_some", "_law_odd"]
abbrev P__law_row : List Str := ["_law_dice_here"]
theorem sc__law_row : FnScope N__law_row P__law_row (defScope s__law_row) := ⟨rfl, rfl, rfl, by decide +kernel, rfl, by decide +kernel, by decide +kernel⟩
abbrev s_law : Stmt := top 7
abbrev N_law : List Str := ["_law_script", "_law_spot", "_law_dice_here", "_law_turn", "_law_value", "_law_due"]
abbrev P_law : List Str := ["_law_script"]
theorem sc_law : FnScope N_law P_law (defScope s_law) := ⟨rfl, rfl, rfl, by decide +kernel, rfl, by decide +kernel, by decide +kernel⟩
structure Txt (mg : Str → Option Value) : Prop where
  n_len : mg "len" = none
  n_int : mg "int" = none
  n_abs : mg "abs" = none
  n_max : mg "max" = none
  n_min : mg "min" = none
  n_isinstance : mg "isinstance" = none
  n_bool : mg "bool" = none
  n_repr : mg "repr" = none
  n_range : mg "range" = none
section
variable {P : Program} {w : World} {K : PySem.W.Frag} {mg : Str → Option Value} {base : Heap}
theorem ok__law_dice {f : Addr} {fd : FuncData} (F : Fun K "_law_dice" "_law_dice" s__law_dice f fd) (T : Txt mg) : FnOk P w K mg base CX0 1 f fd P__law_dice (spDice K) := by
  refine F.ok sc__law_dice (fun vs H Q E h => ?_) (fun cdv A outer s H vs Q E hr h => ?_)
  · obtain ⟨a, ns, k, rfl, _⟩ := h
    rfl
  · obtain ⟨a, ns, k, rfl, hS, hlen, h0, hk, q⟩ := h
    refine ⟨_, (pss_cons (ps_set (i := 2) sc__law_dice.nd rfl (Or.inl rfl) (pe_op op_add (pe_op op_mul pe_int (pv 1)) pe_int))
      (pss_cons (ps_if (pt_cmpR op_lt (pv 1) (pe_callB call_len_seq (by rfl) T.n_len (by decide +kernel) (pa_cons (pv 0) pa_nil)) (nomark _)) (pss_one (ps_set (i := 2) sc__law_dice.nd rfl (Or.inl rfl) (pe_ix ix_list (pv 0) (pv 1) (fun _ _ => rfl)))) pss_nil)
      (pss_cons (ps_set (i := 3) sc__law_dice.nd rfl (Or.inl rfl) (pe_op op_mod (pe_callTy call_int1 (by rfl) T.n_int (by decide +kernel) (pa_cons (pe_callB call_abs (by rfl) T.n_abs (by decide +kernel) (pa_cons (pv 2) pa_nil)) pa_nil)) (pe_op op_powW (pe_op op_powW pe_int pe_int) pe_int)))
      (pss_cons (ps_set (i := 4) sc__law_dice.nd rfl (Or.inl rfl) (pe_op op_add (pe_op op_add (pe_op op_add (pe_op op_mul (pe_op op_mod (pe_callTy call_int1 (by rfl) T.n_int (by decide +kernel) (pa_cons (pv 3) pa_nil)) pe_int) pe_int) (pe_op op_mul pe_int (pv 1))) (pe_op op_mul pe_int (pe_callTy call_int1 (by rfl) T.n_int (by decide +kernel) (pa_cons (pe_cmpR op_lt (pv 2) pe_int (nomark _)) pa_nil)))) pe_int))
      (pss_one (ps_ret (pe_lst (pa_cons (pe_callB (call_max2 rfl) (by rfl) T.n_max (by decide +kernel) (pa_cons pe_int (pa_cons (pe_op op_sub (pv 3) (pe_op op_powW pe_int pe_int)) pa_nil))) (pa_cons (pe_op op_mod (pe_callTy call_int1 (by rfl) T.n_int (by decide +kernel) (pa_cons (pv 4) pa_nil)) pe_int) (pa_cons pe_int pa_nil)))))))))), ?_⟩
    refine ⟨_, rfl, _, _, rfl, rfl, mulL (by decide), _, _, rfl, rfl, ?_⟩
    refine ⟨_, rfl, _, rfl, _, _, rfl, .inl hS, _, _, rfl, rfl, _, rfl, ?_⟩
    refine ite2 (fun hc => ?_) (fun hc => ?_)
    · have hc' := of_decide_eq_true hc
      rw [List.length_map] at hc'
      obtain ⟨c, hat⟩ := script_at h0 hc'
      refine ⟨_, rfl, _, rfl, _, _, _, _, rfl, rfl, hS, hat, ?_⟩
      refine ⟨_, rfl, _, rfl, .inl ⟨_, rfl, _, _, rfl, rfl, (powOk (by decide +kernel)), _, _, rfl, rfl, (powOk (by decide +kernel)), _, _, rfl, rfl, (modc (by decide +kernel)), ?_⟩⟩
      refine ⟨_, rfl, .inl ⟨_, rfl, _, _, rfl, rfl, (modc (by decide)), _, _, rfl, rfl, mulR (by decide), _, rfl, _, _, rfl, rfl, mulL (by decide), _, _, rfl, rfl, _, rfl, _, _, rfl, rfl, .inr ⟨_, rfl, _, _, rfl, rfl, mulL (by decide), _, _, rfl, rfl, _, _, rfl, rfl, ?_⟩⟩⟩
      refine ⟨_, rfl, _, _, rfl, rfl, (powOk (by decide +kernel)), _, _, rfl, rfl, _, _, rfl, _, rfl, .inl ⟨_, rfl, _, _, rfl, rfl, (modc (by decide)), (szr rfl), fun p hp => ?_⟩⟩
      exact q p _ hp (Ev2.new hp) (fun _ hb => upd_ne hb) ⟨_, _, _, upd_same⟩
    · generalize 53 * k + 29 = c
      refine ⟨_, rfl, _, rfl, .inl ⟨_, rfl, _, _, rfl, rfl, (powOk (by decide +kernel)), _, _, rfl, rfl, (powOk (by decide +kernel)), _, _, rfl, rfl, (modc (by decide +kernel)), ?_⟩⟩
      refine ⟨_, rfl, .inl ⟨_, rfl, _, _, rfl, rfl, (modc (by decide)), _, _, rfl, rfl, mulR (by decide), _, rfl, _, _, rfl, rfl, mulL (by decide), _, _, rfl, rfl, _, rfl, _, _, rfl, rfl, .inr ⟨_, rfl, _, _, rfl, rfl, mulL (by decide), _, _, rfl, rfl, _, _, rfl, rfl, ?_⟩⟩⟩
      refine ⟨_, rfl, _, _, rfl, rfl, (powOk (by decide +kernel)), _, _, rfl, rfl, _, _, rfl, _, rfl, .inl ⟨_, rfl, _, _, rfl, rfl, (modc (by decide)), (szr rfl), fun p hp => ?_⟩⟩
      exact q p _ hp (Ev2.new hp) (fun _ hb => upd_ne hb) ⟨_, _, _, upd_same⟩
theorem ok__law_roll {f : Addr} {fd : FuncData} (F : Fun K "_law_roll" "_law_roll" s__law_roll f fd) (T : Txt mg) : FnOk P w K mg base CX0 1 f fd P__law_roll spRoll := by
  refine F.ok sc__law_roll (fun vs H Q E h => ?_) (fun cdv A outer s H vs Q E hr h => ?_)
  · obtain ⟨p, n, rfl, _⟩ := h
    rfl
  · obtain ⟨p, n, rfl, hd, h0, hn, q⟩ := h
    obtain ⟨x, y, z, hp⟩ := id hd
    have a0 : ∀ x y z : Int, atI [V.int x, .int y, .int z] 0 = some (.int x) := fun _ _ _ => rfl
    have a1 : ∀ x y z : Int, atI [V.int x, .int y, .int z] 1 = some (.int y) := fun _ _ _ => rfl
    have a2 : ∀ x y z : Int, atI [V.int x, .int y, .int z] 2 = some (.int z) := fun _ _ _ => rfl
    refine ⟨_, (pss_cons (ps_if (pt_cmpR op_gt (pe_ix ix_list (pv 0) pe_int (fun _ _ => rfl)) pe_int (nomark _)) (pss_cons (ps_set (i := 2) sc__law_roll.nd rfl (Or.inl rfl) (pe_op op_mod (pe_callTy call_int1 (by rfl) T.n_int (by decide +kernel) (pa_cons (pe_ix ix_list (pv 0) pe_int (fun _ _ => rfl)) pa_nil)) (pv 1)))
      (pss_cons (ps_asg (pe_op op_fdiv (pe_ix ix_list (pv 0) pe_int (fun _ _ => rfl)) (pv 1)) (pg_sub (pv 0) pe_int set_list))
      (pss_one (ps_ret (pv 2))))) pss_nil)
      (pss_cons (ps_asg (pe_op op_add (pe_ix ix_list (pv 0) pe_int (fun _ _ => rfl)) pe_int) (pg_sub (pv 0) pe_int set_list))
      (pss_cons (ps_set (i := 3) sc__law_roll.nd rfl (Or.inl rfl) (pe_op op_mod (pe_callTy call_int1 (by rfl) T.n_int (by decide +kernel) (pa_cons (pe_op op_add (pe_ix ix_list (pv 0) pe_int (fun _ _ => rfl)) (pe_op op_mul pe_int (pe_ix ix_list (pv 0) pe_int (fun _ _ => rfl)))) pa_nil)) pe_int))
      (pss_cons (ps_set (i := 4) sc__law_roll.nd rfl (Or.inl rfl) (pe_op op_add (pe_op op_mul (pe_op op_mod (pe_callTy call_int1 (by rfl) T.n_int (by decide +kernel) (pa_cons (pe_op op_mul (pv 3) (pv 3)) pa_nil)) pe_int) (pv 3)) (pe_op op_mul pe_int (pe_ix ix_list (pv 0) pe_int (fun _ _ => rfl)))))
      (pss_cons (ps_set (i := 4) sc__law_roll.nd rfl (Or.inl rfl) (pe_op op_mod (pe_callTy call_int1 (by rfl) T.n_int (by decide +kernel) (pa_cons (pv 4) pa_nil)) pe_int))
      (pss_one (ps_ret (pe_op op_mod (pe_callTy call_int1 (by rfl) T.n_int (by decide +kernel) (pa_cons (pe_op op_fdiv (pv 4) pe_int) pa_nil)) (pv 1))))))))), ?_⟩
    refine ⟨_, rfl, _, _, _, _, rfl, rfl, SqL.of hp, a0 _ _ _, _, _, rfl, rfl, _, rfl, ?_⟩
    refine ite2 (fun hc => ?_) (fun hc => ?_)
    · refine ⟨_, rfl, _, _, _, _, rfl, rfl, SqL.of hp, a0 _ _ _, .inl ⟨_, rfl, _, rfl, _, _, rfl, rfl, (modc h0), ?_⟩⟩
      refine ⟨_, rfl, _, _, _, _, rfl, rfl, SqL.of hp, a0 _ _ _, _, rfl, _, _, rfl, rfl, ⟨h0, by omega⟩, _, rfl, _, _, _, _, rfl, rfl, hp, rfl, ?_⟩
      refine ⟨_, rfl, ?_⟩
      exact q _ _ (Int.emod_nonneg _ (by omega)) (Int.emod_lt_of_pos _ h0) (hd.set _ _ _).1 (hd.set _ _ _).2.1 (hd.set _ _ _).2.2
    · refine ⟨_, rfl, _, _, _, _, rfl, rfl, SqL.of hp, a2 _ _ _, _, _, rfl, rfl, _, rfl, _, _, _, _, rfl, rfl, hp, rfl, ?_⟩
      have hp2 : (upd H p (dl x y (z + 1))) p = some (dl x y (z + 1)) := upd_same
      refine ⟨_, rfl, _, _, _, _, rfl, rfl, SqL.of hp2, a1 _ _ _, _, rfl, _, _, _, _, rfl, rfl, SqL.of hp2, a2 _ _ _, _, _, rfl, rfl, mulL (by decide), _, _, rfl, rfl, .inl ⟨_, rfl, _, _, rfl, rfl, (modc (by decide)), ?_⟩⟩
      have b1 := Int.emod_nonneg (y + 998244341 * (z + 1)) (b := 2305843009213693951) (by decide)
      have b2 := Int.emod_lt_of_pos (y + 998244341 * (z + 1)) (b := 2305843009213693951) (by decide)
      generalize (y + 998244341 * (z + 1)) % 2305843009213693951 = one at b1 b2
      refine ⟨_, rfl, _, rfl, _, _, rfl, rfl, mulL (by omega), .inl ⟨_, rfl, _, _, rfl, rfl, (modc (by decide)), _, rfl, _, _, rfl, rfl, mulR (by omega), _, rfl, _, _, _, _, rfl, rfl, SqL.of hp2, a2 _ _ _, _, _, rfl, rfl, mulL (by decide), _, _, rfl, rfl, ?_⟩⟩
      refine ⟨_, rfl, .inl ⟨_, rfl, _, _, rfl, rfl, (modc (by decide)), ?_⟩⟩
      refine ⟨_, rfl, _, _, rfl, rfl, ⟨by decide, by decide⟩, .inl ⟨_, rfl, _, rfl, _, _, rfl, rfl, (modc h0), ?_⟩⟩
      exact q _ _ (Int.emod_nonneg _ (by omega)) (Int.emod_lt_of_pos _ h0) (hd.set _ _ _).1 (hd.set _ _ _).2.1 (hd.set _ _ _).2.2
theorem ok__law_pick {f : Addr} {fd : FuncData} (F : Fun K "_law_pick" "_law_pick" s__law_pick f fd) (T : Txt mg) {f__law_roll : Addr} {fd__law_roll : FuncData} (G__law_roll : FnOk P w K mg base CX0 1 f__law_roll fd__law_roll P__law_roll spRoll) (C__law_roll : Cal K mg "_law_roll" f__law_roll fd__law_roll P__law_roll) : FnOk P w K mg base CX0 2 f fd P__law_pick (spPick K) := by
  refine F.ok sc__law_pick (fun vs H Q E h => ?_) (fun cdv A outer s H vs Q E hr h => ?_)
  · obtain ⟨p, a, xs, rfl, _⟩ := h
    rfl
  · obtain ⟨p, a, xs, rfl, hp, hS, hS2, h0, hn, q⟩ := h
    refine ⟨_, (pss_one (ps_ret (pe_ix ix_list (pv 1) (pe_call G__law_roll (hr.mono (by decide)) rfl C__law_roll.m C__law_roll.k C__law_roll.b .nil pass0 (pa_cons (pv 0) (pa_cons (pe_callB call_len_seq (by rfl) T.n_len (by decide +kernel) (pa_cons (pv 1) pa_nil)) pa_nil))) (fun _ _ => rfl)))), ?_⟩
    refine ⟨_, rfl, _, rfl, _, rfl, _, _, rfl, .inl hS, ?_⟩
    refine ⟨p, _, rfl, hp, by omega, by omega, fun r H' r0 r1 e1 o1 d1 => ?_⟩
    have hlt : r.toNat < xs.length := by omega
    have hat : atI xs ((r.toNat : Nat) : Int) = some xs[r.toNat] := atI_nat (List.getElem?_eq_getElem hlt)
    rw [show ((r.toNat : Nat) : Int) = r by omega] at hat
    exact ⟨_, _, _, _, rfl, rfl, hS2 _ e1 o1, hat, q _ _ _ (List.getElem?_eq_getElem hlt) e1 o1 d1⟩

def isInt (i : Int) : Bool := decide ((if i < 0 then -i else i) < 10 ^ Int.toNat 60)
def nonint : List String := ["NoneType", "str", "list", "tuple", "dict"]
/-- what is known of a value and its due answer -/
def Good (K : PySem.W.Frag) (H : Hp) (v : V) (d : Bool) : Prop := (∃ i, v = .int i ∧ isInt i = d) ∨ (∃ b, v = .bl b ∧ d = false) ∨ ∃ n, Ty K H v n ∧ n ∈ nonint ∧ d = false
theorem Good.mono {K : PySem.W.Frag} {H H' : Hp} {v : V} {d : Bool} (h : Good K H v d) (e : Ev2 H H') : Good K H' v d := by
  rcases h with h | h | ⟨n, h1, h2⟩
  · exact .inl h
  · exact .inr (.inl h)
  · exact .inr (.inr ⟨n, h1.mono e, h2⟩)
def spIs (K : PySem.W.Frag) : Sp := fun vs H Q _ => ∃ v d, vs = [v] ∧ Good K H v d ∧ Q (.bl d) H
theorem kits : ∀ n ∈ nonint, kitB n "int" = some false := by decide +kernel
theorem ok_is_integer {f : Addr} {fd : FuncData} (F : Fun K "is_integer" "is_integer" s_is_integer f fd) (T : Txt mg) : FnOk P w K mg base CX0 1 f fd P_is_integer (spIs K) := by
  refine F.ok sc_is_integer (fun vs H Q E h => ?_) (fun cdv A outer s H vs Q E hr h => ?_)
  · obtain ⟨v, d, rfl, _⟩ := h
    rfl
  · obtain ⟨v, d, rfl, hG, q⟩ := h
    refine ⟨_, (pss_one (ps_ret (pe_and (pe_callB call_isi (by rfl) T.n_isinstance (by decide +kernel) (pa_cons (pv 0) (pa_cons (pe_bltn (v := .ty "int") rfl T.n_int (by decide +kernel) rfl) pa_nil))) (pe_and (pe_not (pe_callB call_isi (by rfl) T.n_isinstance (by decide +kernel) (pa_cons (pv 0) (pa_cons (pe_bltn (v := .ty "bool") rfl T.n_bool (by decide +kernel) rfl) pa_nil)))) (pe_one (pe_cmpR op_lt (pe_callB call_abs (by rfl) T.n_abs (by decide +kernel) (pa_cons (pv 0) pa_nil)) (pe_op op_powW pe_int pe_int) (nomark _))))))), ?_⟩
    rcases hG with ⟨i, rfl, hi⟩ | ⟨b, rfl, rfl⟩ | ⟨n, ht, hn, rfl⟩
    · refine ⟨_, rfl, _, _, _, _, true, rfl, .ty _, .base (.int i), (kit_ty (by decide +kernel)), _, rfl, ?_⟩
      refine iteT ?_
      refine ⟨_, rfl, _, _, _, _, false, rfl, .ty _, .base (.int i), (kit_ty (by decide +kernel)), _, rfl, _, rfl, ?_⟩
      refine iteT ?_
      refine ⟨_, rfl, _, rfl, _, _, rfl, rfl, (powOk (by decide +kernel)), _, _, rfl, rfl, ?_⟩
      rw [← hi] at q
      exact q
    · refine ⟨_, rfl, _, _, _, _, true, rfl, .ty _, .base (.bl b), (kit_ty (by decide +kernel)), _, rfl, ?_⟩
      refine iteT ?_
      refine ⟨_, rfl, _, _, _, _, true, rfl, .ty _, .base (.bl b), (kit_ty (by decide +kernel)), _, rfl, _, rfl, ?_⟩
      refine iteF ?_
      exact q
    · refine ⟨_, rfl, _, _, _, _, false, rfl, .ty _, ht.x, (kit_ty (kits n hn)), _, rfl, ?_⟩
      refine iteF ?_
      exact q
/-- a row of the table: a pair of a value and its due answer -/
def GT (K : PySem.W.Frag) (H : Hp) (x : V) : Prop := ∃ t v d, x = .ref t ∧ H t = some (.tup [v, .bl d]) ∧ Good K H v d
theorem GT.mono {K : PySem.W.Frag} {H H' : Hp} {x : V} (h : GT K H x) (e : Ev2 H H') : GT K H' x := by
  obtain ⟨t, v, d, rfl, h1, h2⟩ := h
  exact ⟨t, v, d, rfl, Ev2.tup h1 e, h2.mono e⟩
theorem sizes_ok : ∀ v ∈ [V.int (10 ^ Int.toNat 59), V.int (10 ^ Int.toNat 60 - 1), V.int 200, V.int 1000, V.int (10 ^ Int.toNat 18)], ∃ i, v = .int i ∧ isInt i = true ∧ isInt (-i) = true := by
  intro v hv
  simp only [List.mem_cons, List.not_mem_nil, or_false] at hv
  rcases hv with rfl | rfl | rfl | rfl | rfl <;> exact ⟨_, rfl, by decide +kernel, by decide +kernel⟩
theorem smalls_ok : ∀ v ∈ [V.int 0, V.int 1, V.int 2, V.int 42, V.int 199], ∃ i, v = .int i ∧ isInt (10 ^ Int.toNat 60 + i) = false ∧ isInt i = true ∧ isInt (-1 - i) = true ∧ isInt (-10 ^ Int.toNat 60 - i) = false := by
  intro v hv
  simp only [List.mem_cons, List.not_mem_nil, or_false] at hv
  rcases hv with rfl | rfl | rfl | rfl | rfl <;> exact ⟨_, rfl, by decide +kernel, by decide +kernel, by decide +kernel, by decide +kernel⟩
def spRow (K : PySem.W.Frag) : Sp := fun vs H Q _ => ∃ (p : Addr), vs = [.ref p] ∧ Dc H p ∧
  ∀ (t : Addr) (v : V) (d : Bool) (H' : Hp), Ev2 H H' → Dc H' p → H' t = some (.tup [v, .bl d]) → Good K H' v d → Q (.ref t) H'
def Odd (K : PySem.W.Frag) (H : Hp) (v : V) : Prop := ∃ n, Ty K H v n ∧ n ∈ nonint
theorem Odd.mono {K : PySem.W.Frag} {H H' : Hp} {v : V} (h : Odd K H v) (e : Ev2 H H') : Odd K H' v := ⟨h.choose, h.choose_spec.1.mono e, h.choose_spec.2⟩
theorem ok__law_row {f : Addr} {fd : FuncData} (F : Fun K "_law_row" "_law_row" s__law_row f fd) (T : Txt mg) {f__law_pick : Addr} {fd__law_pick : FuncData} (G__law_pick : FnOk P w K mg base CX0 2 f__law_pick fd__law_pick P__law_pick (spPick K)) (C__law_pick : Cal K mg "_law_pick" f__law_pick fd__law_pick P__law_pick) : FnOk P w K mg base CX0 3 f fd P__law_row (spRow K) := by
  refine F.ok sc__law_row (fun vs H Q E h => ?_) (fun cdv A outer s H vs Q E hr h => ?_)
  · obtain ⟨p, rfl, _⟩ := h
    rfl
  · obtain ⟨p, rfl, hp, q⟩ := h
    refine ⟨_, (pss_cons (ps_par (i := 1) (j := 2) (by rfl) sc__law_row.nd rfl rfl (by decide) rfl rfl (pa_cons (pe_call G__law_pick (hr.mono (by decide)) rfl C__law_pick.m C__law_pick.k C__law_pick.b .nil pass0 (pa_cons (pv 0) (pa_cons (pe_lst (pa_cons (pe_op op_powW pe_int pe_int) (pa_cons (pe_op op_sub (pe_op op_powW pe_int pe_int) pe_int) (pa_cons pe_int (pa_cons pe_int (pa_cons (pe_op op_powW pe_int pe_int) pa_nil)))))) pa_nil))) (pa_cons (pe_call G__law_pick (hr.mono (by decide)) rfl C__law_pick.m C__law_pick.k C__law_pick.b .nil pass0 (pa_cons (pv 0) (pa_cons (pe_lst (pa_cons pe_int (pa_cons pe_int (pa_cons pe_int (pa_cons pe_int (pa_cons pe_int pa_nil)))))) pa_nil))) pa_nil)) (by rfl))
      (pss_cons (ps_set (i := 3) sc__law_row.nd rfl (Or.inl rfl) (pe_lst (pa_cons (pe_tup (pa_cons (pv 1) (pa_cons pe_bl pa_nil))) (pa_cons (pe_tup (pa_cons (pe_un un_neg (pv 1)) (pa_cons pe_bl pa_nil))) (pa_cons (pe_tup (pa_cons (pe_op op_add (pe_op op_powW pe_int pe_int) (pv 2)) (pa_cons pe_bl pa_nil))) (pa_cons (pe_tup (pa_cons (pv 2) (pa_cons pe_bl pa_nil))) (pa_cons (pe_tup (pa_cons (pe_op op_sub (pe_un un_neg pe_int) (pv 2)) (pa_cons pe_bl pa_nil))) pa_nil)))))))
      (pss_cons (ps_set (i := 3) sc__law_row.nd rfl (Or.inl rfl) (pe_op op_cat (pv 3) (pe_lst (pa_cons (pe_tup (pa_cons (pe_op op_sub (pe_un un_neg (pe_op op_powW pe_int pe_int)) (pv 2)) (pa_cons pe_bl pa_nil))) (pa_cons (pe_tup (pa_cons (pe_cmpR op_eq (pv 2) pe_int (nomark _)) (pa_cons pe_bl pa_nil))) pa_nil)))))
      (pss_cons (ps_for PassesOwn.never rfl (pi_list (pe_lst (pa_cons pe_non (pa_cons pe_str (pa_cons pe_str (pa_cons (pe_tup (pa_cons pe_int pa_nil)) (pa_cons (pe_lst pa_nil) (pa_cons pe_dnewK (pa_cons (pe_tup pa_nil) (pa_cons (pe_lst (pa_cons (pv 2) pa_nil)) (pa_cons (pe_tup (pa_cons (pv 2) pa_nil)) (pa_cons pe_str pa_nil)))))))))))) (pg_name (i := 4) sc__law_row.nd rfl (Or.inl rfl)) (pss_one (ps_expr (pe_bm PySem.F.plainAttrs_list PySem.F.slot_list_append PySem.F.type_list_append mt_append (pv 3) (pa_cons (pe_tup (pa_cons (pv 4) (pa_cons pe_bl pa_nil))) pa_nil)))))
      (pss_one (ps_ret (pe_call G__law_pick (hr.mono (by decide)) rfl C__law_pick.m C__law_pick.k C__law_pick.b .nil pass0 (pa_cons (pv 0) (pa_cons (pv 3) pa_nil))))))))), ?_⟩
    -- _law_size, _law_small
    refine ⟨_, rfl, _, _, rfl, rfl, (powOk (by decide +kernel)), _, _, rfl, rfl, (powOk (by decide +kernel)), _, _, rfl, rfl, _, _, rfl, rfl, (powOk (by decide +kernel)), (szr rfl), fun p1 n1 => ?_⟩
    generalize g1 : upd _ p1 _ = H1; obtain ⟨e1, o1, t1⟩ := made n1 g1; clear g1
    have d1 := hp.keep n1 o1
    have k1 := pick_l (K := K) t1 (hp.ne n1).symm
    refine ⟨p, p1, _, rfl, d1, k1.1, k1.2, (by decide), (by decide), fun i v G1 hv f1 u1 d1 => ?_⟩
    obtain ⟨size, rfl, z1, z2⟩ := sizes_ok v (List.mem_of_getElem? hv)
    refine ⟨_, rfl, (szr rfl), fun p2 n2 => ?_⟩
    generalize g2 : upd _ p2 _ = H2; obtain ⟨e2, o2, t2⟩ := made n2 g2; clear g2
    have d2 := d1.keep n2 o2
    have k2 := pick_l (K := K) t2 (d1.ne n2).symm
    refine ⟨p, p2, _, rfl, d2, k2.1, k2.2, (by decide), (by decide), fun i v G2 hv f2 u2 d2 => ?_⟩
    obtain ⟨small, rfl, y1, y2, y3, y4⟩ := smalls_ok v (List.mem_of_getElem? hv)
    refine ⟨_, _, rfl, ?_⟩
    -- _law_some = [(_law_size, True), ..]
    refine ⟨_, rfl, (szr rfl), fun p3 n3 => ?_⟩
    generalize g3 : upd _ p3 _ = H3; obtain ⟨e3, o3, t3⟩ := made n3 g3; clear g3
    refine ⟨_, rfl, _, rfl, (szr rfl), fun p4 n4 => ?_⟩
    generalize g4 : upd _ p4 _ = H4; obtain ⟨e4, o4, t4⟩ := made n4 g4; clear g4
    refine ⟨_, _, rfl, rfl, (powOk (by decide +kernel)), _, rfl, _, _, rfl, rfl, (szr rfl), fun p5 n5 => ?_⟩
    generalize g5 : upd _ p5 _ = H5; obtain ⟨e5, o5, t5⟩ := made n5 g5; clear g5
    refine ⟨_, rfl, (szr rfl), fun p6 n6 => ?_⟩
    generalize g6 : upd _ p6 _ = H6; obtain ⟨e6, o6, t6⟩ := made n6 g6; clear g6
    refine ⟨_, rfl, _, rfl, _, _, rfl, rfl, (szr rfl), fun p7 n7 => ?_⟩
    generalize g7 : upd _ p7 _ = H7; obtain ⟨e7, o7, t7⟩ := made n7 g7; clear g7
    refine ⟨(szr rfl), fun p8 n8 => ?_⟩
    generalize g8 : upd _ p8 _ = H8; obtain ⟨e8, o8, t8⟩ := made n8 g8; clear g8
    -- _law_some = _law_some + [(-10 ** 60 - _law_small, False), (_law_small == 1, False)]
    refine ⟨_, rfl, _, _, rfl, rfl, (powOk (by decide +kernel)), _, rfl, _, rfl, _, _, rfl, rfl, (szr rfl), fun p9 n9 => ?_⟩
    generalize g9 : upd _ p9 _ = H9; obtain ⟨e9, o9, t9⟩ := made n9 g9; clear g9
    refine ⟨_, rfl, rfl, (szr rfl), fun p10 n10 => ?_⟩
    generalize g10 : upd _ p10 _ = H10; obtain ⟨e10, o10, t10⟩ := made n10 g10; clear g10
    refine ⟨(szr rfl), fun p11 n11 => ?_⟩
    generalize g11 : upd _ p11 _ = H11; obtain ⟨e11, o11, t11⟩ := made n11 g11; clear g11
    have t8' := keepAt (keepAt (keepAt t8 n9 o9) n10 o10) n11 o11
    refine ⟨_, _, _, _, rfl, rfl, t8', t11, (by show 5 + 2 ≤ sizeLine; decide), fun p12 n12 => ?_⟩
    generalize g12 : upd _ p12 _ = H12; obtain ⟨e12, o12, t12⟩ := made n12 g12; clear g12
    have d12 := (((((((((d2.keep n3 o3).keep n4 o4).keep n5 o5).keep n6 o6).keep n7 o7).keep n8 o8).keep n9 o9).keep n10 o10).keep n11 o11).keep n12 o12
    have all : ∀ x ∈ [V.ref p3, .ref p4, .ref p5, .ref p6, .ref p7] ++ [V.ref p9, .ref p10], GT K H12 x := by
      intro x hx
      simp only [List.mem_append, List.mem_cons, List.not_mem_nil, or_false] at hx
      rcases hx with (rfl | rfl | rfl | rfl | rfl) | (rfl | rfl)
      · exact ⟨p3, _, _, rfl, Ev2.tup t3 (by walk_at "ev"), .inl ⟨_, rfl, z1⟩⟩
      · exact ⟨p4, _, _, rfl, Ev2.tup t4 (by walk_at "ev"), .inl ⟨_, rfl, z2⟩⟩
      · exact ⟨p5, _, _, rfl, Ev2.tup t5 (by walk_at "ev"), .inl ⟨_, rfl, y1⟩⟩
      · exact ⟨p6, _, _, rfl, Ev2.tup t6 (by walk_at "ev"), .inl ⟨_, rfl, y2⟩⟩
      · exact ⟨p7, _, _, rfl, Ev2.tup t7 (by walk_at "ev"), .inl ⟨_, rfl, y3⟩⟩
      · exact ⟨p9, _, _, rfl, Ev2.tup t9 (by walk_at "ev"), .inl ⟨_, rfl, y4⟩⟩
      · exact ⟨p10, _, _, rfl, Ev2.tup t10 (by walk_at "ev"), .inr (.inl ⟨_, rfl, rfl⟩)⟩
    have e0 : Ev2 H H12 := by walk_at "ev"
    have hne : p12 ≠ p := (((((((((d2.keep n3 o3).keep n4 o4).keep n5 o5).keep n6 o6).keep n7 o7).keep n8 o8).keep n9 o9).keep n10 o10).keep n11 o11).ne n12 |>.symm
    have hlen : ([V.ref p3, .ref p4, .ref p5, .ref p6, .ref p7] ++ [V.ref p9, .ref p10]).length = 7 := rfl
    generalize [V.ref p3, .ref p4, .ref p5, .ref p6, .ref p7] ++ [V.ref p9, .ref p10] = mde at t12 all hlen
    clear t1 t2 t3 t4 t5 t6 t7 t8 t9 t10 t11 o1 o2 o3 o4 o5 o6 o7 o8 o9 o10 o11 o12 n1 n2 n3 n4 n5 n6 n7 n8 n9 n10 n11 n12 u1 u2 d1 d2 k1 k2 t8'
    clear f1 f2 e1 e2 e3 e4 e5 e6 e7 e8 e9 e10 e11 e12
    -- for _law_odd in [..]
    refine ⟨(szr rfl), fun p13 n13 => ?_⟩
    generalize g13 : upd _ p13 _ = H13; obtain ⟨e13, o13, t13⟩ := Fn.made n13 g13; clear g13
    refine ⟨(szr rfl), fun p14 n14 => ?_⟩
    generalize g14 : upd _ p14 _ = H14; obtain ⟨e14, o14, t14⟩ := Fn.made n14 g14; clear g14
    refine fun p15 n15 => ?_
    generalize g15 : upd _ p15 _ = H15; obtain ⟨e15, o15, t15⟩ := Fn.made n15 g15; clear g15
    refine ⟨(szr rfl), fun p16 n16 => ?_⟩
    generalize g16 : upd _ p16 _ = H16; obtain ⟨e16, o16, t16⟩ := Fn.made n16 g16; clear g16
    refine ⟨_, rfl, (szr rfl), fun p17 n17 => ?_⟩
    generalize g17 : upd _ p17 _ = H17; obtain ⟨e17, o17, t17⟩ := Fn.made n17 g17; clear g17
    refine ⟨_, rfl, (szr rfl), fun p18 n18 => ?_⟩
    generalize g18 : upd _ p18 _ = H18; obtain ⟨e18, o18, t18⟩ := Fn.made n18 g18; clear g18
    refine ⟨(szr rfl), fun p19 n19 => ?_⟩
    generalize g19 : upd _ p19 _ = H19; obtain ⟨e19, o19, t19⟩ := Fn.made n19 g19; clear g19
    have d19 := ((((((d12.keep n13 o13).keep n14 o14).keep n15 o15).keep n16 o16).keep n17 o17).keep n18 o18).keep n19 o19
    have t12' := keepAt (keepAt (keepAt (keepAt (keepAt (keepAt (keepAt t12 n13 o13) n14 o14) n15 o15) n16 o16) n17 o17) n18 o18) n19 o19
    have e12 : Ev2 H12 H19 := by walk_at "ev"
    have ne1 : p19 ≠ p := (((((((d12.keep n13 o13).keep n14 o14).keep n15 o15).keep n16 o16).keep n17 o17).keep n18 o18).ne n19).symm
    have ne2 : p12 ≠ p19 := ne_of_none (keepAt (keepAt (keepAt (keepAt (keepAt (keepAt t12 n13 o13) n14 o14) n15 o15) n16 o16) n17 o17) n18 o18) n19
    have odds : ∀ x ∈ [V.non, .str "1", .str "", .ref p13, .ref p14, .ref p15, .ref p16, .ref p17, .ref p18, .str "a"], Odd K H19 x := by
      intro x hx
      simp only [List.mem_cons, List.not_mem_nil, or_false] at hx
      rcases hx with rfl | rfl | rfl | rfl | rfl | rfl | rfl | rfl | rfl | rfl
      · exact ⟨"NoneType", rfl, by decide⟩
      · exact ⟨"str", rfl, by decide⟩
      · exact ⟨"str", rfl, by decide⟩
      · exact ⟨"tuple", .inr (.inl ⟨rfl, _, Ev2.tup t13 (by walk_at "ev")⟩), by decide⟩
      · exact ⟨"list", .inl ⟨rfl, Ev2.isL t14 (by walk_at "ev")⟩, by decide⟩
      · exact ⟨"dict", .inr (.inr ⟨rfl, _, Ev2.dK t15 (by walk_at "ev")⟩), by decide⟩
      · exact ⟨"tuple", .inr (.inl ⟨rfl, _, Ev2.tup t16 (by walk_at "ev")⟩), by decide⟩
      · exact ⟨"list", .inl ⟨rfl, Ev2.isL t17 (by walk_at "ev")⟩, by decide⟩
      · exact ⟨"tuple", .inr (.inl ⟨rfl, _, Ev2.tup t18 (by walk_at "ev")⟩), by decide⟩
      · exact ⟨"str", rfl, by decide⟩
    have all19 : ∀ x ∈ mde, GT K H19 x := fun x hx => (all x hx).mono e12
    have e19 := e0.trans e12
    clear e0 e12 e13 e14 e15 e16 e17 e18
    refine ⟨_, rfl, ⟨_, SqL.of t19⟩, for_list (K := K) (xs := [V.non, .str "1", .str "", .ref p13, .ref p14, .ref p15, .ref p16, .ref p17, .ref p18, .str "a"])
      (fun i σ H' => ∃ v xs, σ = [some (.ref p), some (.int size), some (.int small), some (.ref p12), v] ∧ Ev2 H19 H' ∧ Dc H' p ∧ H' p19 = some (.lst [V.non, .str "1", .str "", .ref p13, .ref p14, .ref p15, .ref p16, .ref p17, .ref p18, .str "a"]) ∧ H' p12 = some (.lst xs) ∧ xs.length = 7 + i ∧ ∀ x ∈ xs, GT K H' x)
      ⟨none, mde, rfl, Ev2.refl _, d19, t19, t12', hlen, all19⟩ (fun i σ H' _ ⟨_, _, _, _, _, q, _⟩ => SqL.of q) ?_ ?_⟩
    · rintro i y σ H' hi ⟨v, xs, rfl, e, d, tl, ts, hl, hx⟩
      have ho : Odd K H' y := (odds y (List.mem_of_getElem? hi)).mono e
      have hi2 : i < 10 := (List.getElem?_eq_some_iff.mp hi).1
      refine ⟨_, rfl, (.inl ⟨rfl, _, SqL.of ts⟩), _, rfl, (szr rfl), fun p20 n20 => ?_⟩
      generalize g20 : upd _ p20 _ = H20; obtain ⟨e20, o20, t20⟩ := Fn.made n20 g20; clear g20
      have ts' := keepAt ts n20 o20
      refine ⟨_, _, _, rfl, rfl, ts', szlt (by omega), ?_⟩
      generalize g21 : upd _ p12 _ = H21
      have e21 : Ev2 H20 H21 := by subst g21; exact Ev2.lst ts'
      have o21 : ∀ b, b ≠ p12 → H21 b = H20 b := by subst g21; exact fun b hb => upd_ne hb
      have t21 : H21 p12 = some (.lst (xs ++ [.ref p20])) := by subst g21; exact upd_same
      have e22 := e20.trans e21
      obtain ⟨n, h1, h2⟩ := ho
      refine ⟨_, _, rfl, e.trans e22, ?_, (o21 _ ne2.symm).trans (keepAt tl n20 o20), t21, by rw [List.length_append, hl]; rfl, ?_⟩
      · obtain ⟨x, y, z, hd⟩ := d.keep n20 o20
        exact ⟨x, y, z, (o21 _ hne.symm).trans hd⟩
      · intro x hx2
        rcases List.mem_append.mp hx2 with hx2 | hx2
        · exact (hx x hx2).mono e22
        · cases List.mem_singleton.mp hx2
          exact ⟨p20, _, _, rfl, Ev2.tup t20 e21, .inr (.inr ⟨n, h1.mono e22, h2, rfl⟩)⟩
    · rintro σ H' ⟨v, xs, rfl, e, d, tl, ts, hl, hx⟩
      have k3 := pick_l (K := K) ts hne
      have hl2 : xs.length = 17 := hl
      refine ⟨_, rfl, _, rfl, p, p12, _, rfl, d, k3.1, k3.2, by omega, by omega, fun i v G hv g u d => ?_⟩
      obtain ⟨t, v, b, rfl, h1, h2⟩ := hx _ (List.mem_of_getElem? hv)
      exact q t v b G ((e19.trans e).trans g) d (Ev2.tup h1 g) (h2.mono g)
theorem ok_law {f : Addr} {fd : FuncData} (F : Fun K "law" "law" s_law f fd) (T : Txt mg) {f__law_dice : Addr} {fd__law_dice : FuncData} (G__law_dice : FnOk P w K mg base CX0 1 f__law_dice fd__law_dice P__law_dice (spDice K)) (C__law_dice : Cal K mg "_law_dice" f__law_dice fd__law_dice P__law_dice) {f__law_row : Addr} {fd__law_row : FuncData} (G__law_row : FnOk P w K mg base CX0 3 f__law_row fd__law_row P__law_row (spRow K)) (C__law_row : Cal K mg "_law_row" f__law_row fd__law_row P__law_row) {f_is_integer : Addr} {fd_is_integer : FuncData} (G_is_integer : FnOk P w K mg base CX0 1 f_is_integer fd_is_integer P_is_integer (spIs K)) (C_is_integer : Cal K mg "is_integer" f_is_integer fd_is_integer P_is_integer) : FnOk P w K mg base CX0 4 f fd P_law (spLaw K) := by
  refine F.ok sc_law (fun vs H Q E h => ?_) (fun cdv A outer s H vs Q E hr h => ?_)
  · obtain ⟨a, ns, rfl, _⟩ := h
    rfl
  · obtain ⟨a, ns, rfl, hS, hlen, q⟩ := h
    refine ⟨_, (pss_cons (ps_for PassesOwn.never rfl (pi_range1 (by rfl) T.n_range (pa_cons (pe_callB (call_max2 rfl) (by rfl) T.n_max (by decide +kernel) (pa_cons pe_int (pa_cons (pe_callB (call_min2 rfl) (by rfl) T.n_min (by decide +kernel) (pa_cons pe_int (pa_cons (pe_callB call_len_seq (by rfl) T.n_len (by decide +kernel) (pa_cons (pv 0) pa_nil)) pa_nil))) pa_nil))) pa_nil)) (pg_name (i := 1) sc_law.nd rfl (Or.inl rfl)) (pss_cons (ps_set (i := 2) sc_law.nd rfl (Or.inl rfl) (pe_call G__law_dice (hr.mono (by decide)) rfl C__law_dice.m C__law_dice.k C__law_dice.b .nil pass0 (pa_cons (pv 0) (pa_cons (pv 1) pa_nil))))
      (pss_one (ps_for PassesOwn.never rfl (pi_range1 (by rfl) T.n_range (pa_cons pe_int pa_nil)) (pg_name (i := 3) sc_law.nd rfl (Or.inl rfl)) (pss_cons (ps_asg (pe_call G__law_row (hr.mono (by decide)) rfl C__law_row.m C__law_row.k C__law_row.b .nil pass0 (pa_cons (pv 2) pa_nil)) (pg_tup rfl (pgs_cons (pg_name (i := 4) sc_law.nd rfl (Or.inl rfl)) (pgs_cons (pg_name (i := 5) sc_law.nd rfl (Or.inl rfl)) pgs_nil))))
      (pss_one (ps_if (pt_cmpR op_ne (pe_callB call_repr_b (by rfl) T.n_repr (by decide +kernel) (pa_cons (pe_call G_is_integer (hr.mono (by decide)) rfl C_is_integer.m C_is_integer.k C_is_integer.b .nil pass0 (pa_cons (pv 4) pa_nil)) pa_nil)) (pe_callB call_repr_b (by rfl) T.n_repr (by decide +kernel) (pa_cons (pv 5) pa_nil)) (nomark _)) (pss_one (ps_ret pe_bl)) pss_nil)))))))
      (pss_one (ps_ret (pe_cmpR (op_eqD hr.units) (pe_lst (pa_cons (pe_call G_is_integer (hr.mono (by decide)) rfl C_is_integer.m C_is_integer.k C_is_integer.b .nil pass0 (pa_cons (pe_op op_sub (pe_op op_powW pe_int pe_int) pe_int) pa_nil)) (pa_cons (pe_call G_is_integer (hr.mono (by decide)) rfl C_is_integer.m C_is_integer.k C_is_integer.b .nil pass0 (pa_cons (pe_op op_powW pe_int pe_int) pa_nil)) (pa_cons (pe_call G_is_integer (hr.mono (by decide)) rfl C_is_integer.m C_is_integer.k C_is_integer.b .nil pass0 (pa_cons (pe_un un_neg (pe_op op_powW pe_int pe_int)) pa_nil)) (pa_cons (pe_call G_is_integer (hr.mono (by decide)) rfl C_is_integer.m C_is_integer.k C_is_integer.b .nil pass0 (pa_cons pe_bl pa_nil)) pa_nil))))) (pe_op op_cat (pe_lst (pa_cons pe_bl pa_nil)) (pe_op op_rep (pe_lst (pa_cons pe_bl pa_nil)) pe_int)) (nomark _))))), ?_⟩
    have hb := turns (n := (ns.map V.int).length)
    refine ⟨_, rfl, _, _, rfl, .inl hS.1, _, _, rfl, _, _, rfl, _, rfl, by omega, by omega, ?_⟩
    generalize (if (if ((ns.map V.int).length : Int) < 8 then ((ns.map V.int).length : Int) else 8) > 1 then (if ((ns.map V.int).length : Int) < 8 then ((ns.map V.int).length : Int) else 8) else 1) = m at hb
    refine for_range (lo := 0) (n := m.toNat) (fun i σ H' => ∃ a1 a2 a3 a4 a5, σ = [some (.ref a), a1, a2, a3, a4, a5] ∧ Scr K H' a (ns.map V.int)) ⟨none, none, none, none, none, rfl, hS⟩ ?_ ?_
    · rintro i σ H1 hi ⟨a1, a2, a3, a4, a5, rfl, hS1⟩
      refine ⟨_, rfl, _, rfl, a, ns, _, rfl, hS1.1, by omega, by omega, by omega, fun p H2 np e2 o2 d2 => ?_⟩
      refine ⟨_, rfl, by decide, by decide, ?_⟩
      refine for_range (lo := 0) (n := Int.toNat 30) (fun j σ H' => ∃ a1 a3 a4 a5, σ = [some (.ref a), a1, some (.ref p), a3, a4, a5] ∧ Scr K H' a (ns.map V.int) ∧ Dc H' p) ⟨_, _, _, _, rfl, hS1.mono e2, d2⟩ ?_ ?_
      · rintro j σ H3 hj ⟨b1, b3, b4, b5, rfl, hS3, d3⟩
        refine ⟨_, rfl, p, rfl, d3, fun t v d H4 e4 d4 ht hG => ?_⟩
        refine ⟨_, _, rfl, SqT.of ht, rfl, _, _, rfl, _, _, rfl, rfl, ?_⟩
        refine ⟨_, rfl, v, d, rfl, hG, ?_⟩
        refine ⟨_, rfl, _, rfl, _, rfl, rfl, _, rfl, ?_⟩
        refine iteNS rfl ?_
        exact ⟨_, _, _, _, rfl, hS3.mono e4, d4⟩
      · rintro σ H3 ⟨b1, b3, b4, b5, rfl, hS3, d3⟩
        exact ⟨_, _, _, _, _, rfl, hS3⟩
    · rintro σ H1 ⟨a1, a2, a3, a4, a5, rfl, hS1⟩
      refine ⟨_, _, rfl, rfl, (powOk (by decide +kernel)), _, _, rfl, rfl, _, true, rfl, .inl ⟨_, rfl, by decide +kernel⟩, ?_⟩
      refine ⟨_, _, rfl, rfl, (powOk (by decide +kernel)), _, false, rfl, .inl ⟨_, rfl, by decide +kernel⟩, ?_⟩
      refine ⟨_, _, rfl, rfl, (powOk (by decide +kernel)), _, rfl, _, false, rfl, .inl ⟨_, rfl, by decide +kernel⟩, ?_⟩
      refine ⟨_, false, rfl, .inr (.inl ⟨_, rfl, rfl⟩), ?_⟩
      refine ⟨(szr rfl), fun p1 n1 => ?_⟩
      generalize g1 : upd _ p1 _ = H1; obtain ⟨e1, o1, t1⟩ := made n1 g1; clear g1
      refine ⟨(szr rfl), fun p2 n2 => ?_⟩
      generalize g2 : upd _ p2 _ = H2; obtain ⟨e2, o2, t2⟩ := made n2 g2; clear g2
      refine ⟨(szr rfl), fun p3 n3 => ?_⟩
      generalize g3 : upd _ p3 _ = H3; obtain ⟨e3, o3, t3⟩ := made n3 g3; clear g3
      refine ⟨_, _, _, rfl, rfl, t3, (by decide), (by decide), (by decide), fun p4 n4 => ?_⟩
      generalize g4 : upd _ p4 _ = H4; obtain ⟨e4, o4, t4⟩ := made n4 g4; clear g4
      have t2' := keepAt (keepAt t2 n3 o3) n4 o4
      refine ⟨_, _, _, _, rfl, rfl, t2', t4, (by decide), fun p5 n5 => ?_⟩
      generalize g5 : upd _ p5 _ = H5; obtain ⟨e5, o5, t5⟩ := made n5 g5; clear g5
      have t1' := keepAt (keepAt (keepAt (keepAt t1 n2 o2) n3 o3) n4 o4) n5 o5
      refine ⟨_, _, .lst (SqL.of t1') (.cons (.bl _) (.cons (.bl _) (.cons (.bl _) (.cons (.bl _) .nil)))), .lst (SqL.of t5) (.cons (.bl _) (.cons (.bl _) (.cons (.bl _) (.cons (.bl _) .nil)))), by decide, by decide, ?_⟩
      exact q H5
end
theorem all_mk {l : PySem.W.OpenLaw} {w : World} {K : PySem.W.Frag} {h : Heap} {mg : Str → Option Value} {fa f__law_dice f__law_roll f__law_pick f_is_integer f__law_row f_law : Addr} (X : K.In h) (G : h.Ns mainGlobals mg) (hfa : mg "law" = some (.ref fa))
    {od0 an0 od1 an1 od2 an2 od3 an3 od4 an4 od5 an5 : Option Addr} {sl0 sl1 sl2 sl3 sl4 sl5 : Array (Option Value)} {oc0 kV0 dc0 pm0 cd0 ct0 oc1 kV1 dc1 pm1 cd1 ct1 oc2 kV2 dc2 pm2 cd2 ct2 oc3 kV3 dc3 pm3 cd3 ct3 oc4 kV4 dc4 pm4 cd4 ct4 oc5 kV5 dc5 pm5 cd5 ct5 : Value}
    (a0 : PySem.W.nsIn K mainGlobals "_law_dice" = some (some (.ref f__law_dice))) (l0 : K.lookup f__law_dice = some ⟨oc0, od0, .func (PySem.W.fnOf "_law_dice" "_law_dice" (defArgs s__law_dice) (defBody s__law_dice) (defScope s__law_dice) .none kV0 dc0 pm0 an0 cd0 ct0), sl0⟩) (c0 : PySem.W.codeIn K cd0 "_law_dice" = true) (k0 : PySem.W.keepIn K (.ref f__law_dice) = true)
    (a1 : PySem.W.nsIn K mainGlobals "_law_roll" = some (some (.ref f__law_roll))) (l1 : K.lookup f__law_roll = some ⟨oc1, od1, .func (PySem.W.fnOf "_law_roll" "_law_roll" (defArgs s__law_roll) (defBody s__law_roll) (defScope s__law_roll) .none kV1 dc1 pm1 an1 cd1 ct1), sl1⟩) (c1 : PySem.W.codeIn K cd1 "_law_roll" = true) (k1 : PySem.W.keepIn K (.ref f__law_roll) = true)
    (a2 : PySem.W.nsIn K mainGlobals "_law_pick" = some (some (.ref f__law_pick))) (l2 : K.lookup f__law_pick = some ⟨oc2, od2, .func (PySem.W.fnOf "_law_pick" "_law_pick" (defArgs s__law_pick) (defBody s__law_pick) (defScope s__law_pick) .none kV2 dc2 pm2 an2 cd2 ct2), sl2⟩) (c2 : PySem.W.codeIn K cd2 "_law_pick" = true) (k2 : PySem.W.keepIn K (.ref f__law_pick) = true)
    (a3 : PySem.W.nsIn K mainGlobals "is_integer" = some (some (.ref f_is_integer))) (l3 : K.lookup f_is_integer = some ⟨oc3, od3, .func (PySem.W.fnOf "is_integer" "is_integer" (defArgs s_is_integer) (defBody s_is_integer) (defScope s_is_integer) .none kV3 dc3 pm3 an3 cd3 ct3), sl3⟩) (c3 : PySem.W.codeIn K cd3 "is_integer" = true) (k3 : PySem.W.keepIn K (.ref f_is_integer) = true)
    (a4 : PySem.W.nsIn K mainGlobals "_law_row" = some (some (.ref f__law_row))) (l4 : K.lookup f__law_row = some ⟨oc4, od4, .func (PySem.W.fnOf "_law_row" "_law_row" (defArgs s__law_row) (defBody s__law_row) (defScope s__law_row) .none kV4 dc4 pm4 an4 cd4 ct4), sl4⟩) (c4 : PySem.W.codeIn K cd4 "_law_row" = true) (k4 : PySem.W.keepIn K (.ref f__law_row) = true)
    (a5 : PySem.W.nsIn K mainGlobals "law" = some (some (.ref f_law))) (l5 : K.lookup f_law = some ⟨oc5, od5, .func (PySem.W.fnOf "law" "law" (defArgs s_law) (defBody s_law) (defScope s_law) .none kV5 dc5 pm5 an5 cd5 ct5), sl5⟩) (c5 : PySem.W.codeIn K cd5 "law" = true) (k5 : PySem.W.keepIn K (.ref f_law) = true)
    (z0 : PySem.W.nsIn K mainGlobals "len" = some none)
    (z1 : PySem.W.nsIn K mainGlobals "int" = some none)
    (z2 : PySem.W.nsIn K mainGlobals "abs" = some none)
    (z3 : PySem.W.nsIn K mainGlobals "max" = some none)
    (z4 : PySem.W.nsIn K mainGlobals "min" = some none)
    (z5 : PySem.W.nsIn K mainGlobals "isinstance" = some none)
    (z6 : PySem.W.nsIn K mainGlobals "bool" = some none)
    (z7 : PySem.W.nsIn K mainGlobals "repr" = some none)
    (z8 : PySem.W.nsIn K mainGlobals "range" = some none)
    : ∃ fd : FuncData, (∀ (s : Shared) (v : Value), BindsTo s fd ⟨[v], []⟩ [("_law_script", v)]) ∧ ∀ base : Heap, K.In base → base.Ns mainGlobals mg → FnOk l.prog w K mg base CX0 4 fa fd ["_law_script"] (spLaw K) := by
  have e := hfa.symm.trans (PySem.W.mg_of X G a5)
  cases e
  have T : Txt mg := ⟨PySem.W.mg_none_of X G z0, PySem.W.mg_none_of X G z1, PySem.W.mg_none_of X G z2, PySem.W.mg_none_of X G z3, PySem.W.mg_none_of X G z4, PySem.W.mg_none_of X G z5, PySem.W.mg_none_of X G z6, PySem.W.mg_none_of X G z7, PySem.W.mg_none_of X G z8⟩
  have F__law_dice := fun_mk (st := s__law_dice) l0 c0 k0
  have C__law_dice : Cal K mg "_law_dice" f__law_dice _ P__law_dice := ⟨PySem.W.mg_of X G a0, k0, F__law_dice.binds fun _ _ _ _ _ _ us hl => match us, hl with | [_, _], _ => rfl⟩
  have F__law_roll := fun_mk (st := s__law_roll) l1 c1 k1
  have C__law_roll : Cal K mg "_law_roll" f__law_roll _ P__law_roll := ⟨PySem.W.mg_of X G a1, k1, F__law_roll.binds fun _ _ _ _ _ _ us hl => match us, hl with | [_, _], _ => rfl⟩
  have F__law_pick := fun_mk (st := s__law_pick) l2 c2 k2
  have C__law_pick : Cal K mg "_law_pick" f__law_pick _ P__law_pick := ⟨PySem.W.mg_of X G a2, k2, F__law_pick.binds fun _ _ _ _ _ _ us hl => match us, hl with | [_, _], _ => rfl⟩
  have F_is_integer := fun_mk (st := s_is_integer) l3 c3 k3
  have C_is_integer : Cal K mg "is_integer" f_is_integer _ P_is_integer := ⟨PySem.W.mg_of X G a3, k3, F_is_integer.binds fun _ _ _ _ _ _ us hl => match us, hl with | [_], _ => rfl⟩
  have F__law_row := fun_mk (st := s__law_row) l4 c4 k4
  have C__law_row : Cal K mg "_law_row" f__law_row _ P__law_row := ⟨PySem.W.mg_of X G a4, k4, F__law_row.binds fun _ _ _ _ _ _ us hl => match us, hl with | [_], _ => rfl⟩
  have F_law := fun_mk (st := s_law) l5 c5 k5
  refine ⟨PySem.W.fnOf "law" "law" (defArgs s_law) (defBody s_law) (defScope s_law) .none kV5 dc5 pm5 an5 cd5 ct5, fun s v => .of_eq rfl, fun base _ _ => ?_⟩
  have GD := ok__law_dice (P := l.prog) (w := w) (base := base) F__law_dice T
  have GR := ok__law_roll (P := l.prog) (w := w) (base := base) F__law_roll T
  have GP := ok__law_pick (P := l.prog) (w := w) (base := base) F__law_pick T GR C__law_roll
  have GI := ok_is_integer (P := l.prog) (w := w) (base := base) F_is_integer T
  have GW := ok__law_row (P := l.prog) (w := w) (base := base) F__law_row T GP C__law_pick
  exact ok_law F_law T GD C__law_dice GW C__law_row GI C_is_integer
theorem walk {l : PySem.W.OpenLaw} {q : Program} {loose : List Str} {XP : (Str → Option Value) → Heap → Prop} {YP : World → Heap → Prop} {d : DefRec} {K : Params → PySem.W.Frag} (hn : l.most = some 63) (hdf : d.params.defaults = [])
    (hY : ∀ (w : World) (h : Heap), YP w h → (K w.params).In h)
    (F : ∀ (w : World) (mg : Str → Option Value) (fa : Addr) (h : Heap), (K w.params).In h → h.Ns mainGlobals mg → mg d.name = some (.ref fa) →
      ∃ fd : FuncData, (∀ (s : Shared) (u : Value), BindsTo s fd ⟨[u], []⟩ [("_law_script", u)]) ∧ ∀ base : Heap, (K w.params).In base → base.Ns mainGlobals mg → FnOk l.prog w (K w.params) mg base CX0 4 fa fd ["_law_script"] (spLaw (K w.params))) :
    PySem.W.WalkO q loose XP YP l.row.toRowW d [] (fun f vs => PySem.call f vs) :=
  L2.walk_of (n := 63) (k := 4) (x := "_law_script") (CX := fun _ => CX0) (sp := fun w => spLaw (K w.params)) hn (by decide) hdf ⟨rfl, by decide, by decide⟩ hY F (fun _ _ a ns hl hO hS => ⟨a, ns, rfl, scr_of hO hS, hl, fun _ => rfl⟩) fun _ _ _ _ _ z => z
end K02
open PySem PySem.W PyProof.Rows
set_option maxRecDepth 100000 in
set_option maxHeartbeats 0 in
theorem PySem.Challenge.cw_firstneed_k02_integers_judged_holds : PySem.Challenge.rw_firstneed_k02_integers_judged.Holds := by
  w_on; o_law; k_head; (case hw => w_witness2)
  k_fill
  refine K02.walk (l := PySem.Challenge.rw_firstneed_k02_integers_judged) rfl rfl (fun w h Y => PySem.W.kIn_of Y) ?F
  case F =>
    intro w mg fa h KX G hmg
    refine' K02.all_mk KX G hmg ?a0 ?l0 ?c0 ?k0 ?a1 ?l1 ?c1 ?k1 ?a2 ?l2 ?c2 ?k2 ?a3 ?l3 ?c3 ?k3 ?a4 ?l4 ?c4 ?k4 ?a5 ?l5 ?c5 ?k5 ?z0 ?z1 ?z2 ?z3 ?z4 ?z5 ?z6 ?z7 ?z8
    (case a0 => k_is)
    (case l0 => k_is)
    (case c0 => k_is)
    (case k0 => k_is)
    (case a1 => k_is)
    (case l1 => k_is)
    (case c1 => k_is)
    (case k1 => k_is)
    (case a2 => k_is)
    (case l2 => k_is)
    (case c2 => k_is)
    (case k2 => k_is)
    (case a3 => k_is)
    (case l3 => k_is)
    (case c3 => k_is)
    (case k3 => k_is)
    (case a4 => k_is)
    (case l4 => k_is)
    (case c4 => k_is)
    (case k4 => k_is)
    (case a5 => k_is)
    (case l5 => k_is)
    (case c5 => k_is)
    (case k5 => k_is)
    (case z0 => k_is)
    (case z1 => k_is)
    (case z2 => k_is)
    (case z3 => k_is)
    (case z4 => k_is)
    (case z5 => k_is)
    (case z6 => k_is)
    (case z7 => k_is)
    (case z8 => k_is)
