/-
  What the entries of a class have in common, step by step; an entry in a box of its own.
-/
import Derived.Test.YtjjfiilokakppaaNts
import Derived.Deep.RegionHeld3
namespace Go.Proofs.Ytjjfiilokakppaa
open Go.RowKit
attribute [local go_sem] set_drewN
/-- one entry more -/
def stepN (p n : Nt) : Nt := ⟨(cmT p.nm n.nm).1, max p.bf n.bf, min p.bt n.bt, max p.df n.df, min p.dt n.dt⟩
def nt0 : Nt := ⟨[], 0, 0, 0, 0⟩
/-- what some entries, of which there is at least one, have in common -/
def perN (l : List Nt) (cs : List Nat) : Nt := match cs with
  | [] => nt0
  | c :: r => r.foldl (fun p k => stepN p (l.getD k nt0)) (l.getD c nt0)
/-- the persona, and the error -/
def perR (l : List Nt) (cs : List Nat) : Nt × Int := if cn (perN l cs) = 0 then (perN l cs, 0) else (nt0, 13)
/-- five cells of an entry of the call's own -/
def P5 (W : World) (B : Nat) (p : Nt) : Prop := B < W.heap.size ∧
  (W.cell? ⟨B, 0, none⟩ = some (.string ⟨p.nm.toArray⟩) ∧ W.cell? ⟨B, 1, none⟩ = some (.int .i64 p.bf) ∧ W.cell? ⟨B, 2, none⟩ = some (.int .i64 p.bt) ∧ W.cell? ⟨B, 3, none⟩ = some (.int .i64 p.df) ∧ W.cell? ⟨B, 4, none⟩ = some (.int .i64 p.dt)) ∧
  W.frozen? ⟨B, 0, none⟩ = false ∧ W.frozen? ⟨B, 1, none⟩ = false ∧ W.frozen? ⟨B, 2, none⟩ = false ∧ W.frozen? ⟨B, 3, none⟩ = false ∧ W.frozen? ⟨B, 4, none⟩ = false
theorem P5.below {W W' : World} {B : Nat} {p : Nt} (h : P5 W B p) (hb : Below W.heap.size W W') : P5 W' B p := by
  obtain ⟨hl, ⟨a, b, c, d, e⟩, f, g, h, i, j⟩ := h
  exact ⟨Nat.lt_of_lt_of_le hl hb.size, ⟨(hb.cell hl).trans a, (hb.cell hl).trans b, (hb.cell hl).trans c, (hb.cell hl).trans d, (hb.cell hl).trans e⟩, (hb.frozen hl).trans f, (hb.frozen hl).trans g, (hb.frozen hl).trans h, (hb.frozen hl).trans i, (hb.frozen hl).trans j⟩
theorem P5.new (w : World) (p : Nt) (t : TypeId) : P5 (w.alloc (.cells #[.string ⟨p.nm.toArray⟩, .int .i64 p.bf, .int .i64 p.bt, .int .i64 p.df, .int .i64 p.dt] t)) w.heap.size p :=
  ⟨by simp, ⟨by simp [go_sem], by simp [go_sem], by simp [go_sem], by simp [go_sem], by simp [go_sem]⟩, by simp [go_sem], by simp [go_sem], by simp [go_sem], by simp [go_sem], by simp [go_sem]⟩
theorem P5.drewN {W : World} {B : Nat} {p : Nt} (h : P5 W B p) (n : Nat) : P5 (W.drewN n) B p := h.below (below_n (Below.refl _ _) n)
theorem P5.drew {W : World} {B : Nat} {p : Nt} (h : P5 W B p) : P5 W.drew B p := h.drewN 1
theorem P5.other {W : World} {B : Nat} {p : Nt} (h : P5 W B p) (A i : Nat) (hA : A ≠ B) (v : Value) : P5 (W.setCell ⟨A, i, none⟩ v) B p := by
  obtain ⟨hl, ⟨a, b, c, d, e⟩, f, g, h, i', j⟩ := h
  have o : ∀ (j : Nat) (x : Value), W.cell? ⟨B, j, none⟩ = some x → (W.setCell ⟨A, i, none⟩ v).cell? ⟨B, j, none⟩ = some x := fun j x hx => (World.cell?_setCell_other _ _ _ _ (fun e => hA (by injection e))).trans hx
  refine ⟨by simpa using hl, ⟨o 0 _ a, o 1 _ b, o 2 _ c, o 3 _ d, o 4 _ e⟩, ?_⟩
  simp only [World.frozen?_setCell]
  exact ⟨f, g, h, i', j⟩
theorem set_cell {W : World} {B j : Nat} {x : Value} (i : Nat) (y : Value) (h : W.cell? ⟨B, j, none⟩ = some x) (hij : i ≠ j) : (W.setCell ⟨B, i, none⟩ y).cell? ⟨B, j, none⟩ = some x :=
  (World.cell?_setCell_other _ _ _ _ (fun e => hij (by injection e))).trans h
theorem P5.setName {W : World} {B : Nat} {p : Nt} (h : P5 W B p) (nm : List UInt8) : P5 (W.setCell ⟨B, 0, none⟩ (.string ⟨nm.toArray⟩)) B ⟨nm, p.bf, p.bt, p.df, p.dt⟩ := by
  obtain ⟨hl, ⟨a, b, c, d, e⟩, f, g, h, i, j⟩ := h
  refine ⟨by simpa using hl, ⟨World.cell?_setCell_same _ _ _ a, set_cell 0 _ b (by decide), set_cell 0 _ c (by decide), set_cell 0 _ d (by decide), set_cell 0 _ e (by decide)⟩, ?_⟩
  simp only [World.frozen?_setCell]
  exact ⟨f, g, h, i, j⟩
theorem P5.set12 {W : World} {B : Nat} {p : Nt} (h : P5 W B p) (x y : Int) : P5 ((W.setCell ⟨B, 1, none⟩ (.int .i64 x)).setCell ⟨B, 2, none⟩ (.int .i64 y)) B ⟨p.nm, x, y, p.df, p.dt⟩ := by
  obtain ⟨hl, ⟨a, b, c, d, e⟩, f, g, h, i, j⟩ := h
  refine ⟨by simpa using hl, ⟨set_cell 2 _ (set_cell 1 _ a (by decide)) (by decide), set_cell 2 _ (World.cell?_setCell_same _ _ _ b) (by decide), World.cell?_setCell_same _ _ _ (set_cell 1 _ c (by decide)), set_cell 2 _ (set_cell 1 _ d (by decide)) (by decide), set_cell 2 _ (set_cell 1 _ e (by decide)) (by decide)⟩, ?_⟩
  simp only [World.frozen?_setCell]
  exact ⟨f, g, h, i, j⟩
theorem P5.set34 {W : World} {B : Nat} {p : Nt} (h : P5 W B p) (x y : Int) : P5 ((W.setCell ⟨B, 3, none⟩ (.int .i64 x)).setCell ⟨B, 4, none⟩ (.int .i64 y)) B ⟨p.nm, p.bf, p.bt, x, y⟩ := by
  obtain ⟨hl, ⟨a, b, c, d, e⟩, f, g, h, i, j⟩ := h
  refine ⟨by simpa using hl, ⟨set_cell 4 _ (set_cell 3 _ a (by decide)) (by decide), set_cell 4 _ (set_cell 3 _ b (by decide)) (by decide), set_cell 4 _ (set_cell 3 _ c (by decide)) (by decide), set_cell 4 _ (World.cell?_setCell_same _ _ _ d) (by decide), World.cell?_setCell_same _ _ _ (set_cell 3 _ e (by decide))⟩, ?_⟩
  simp only [World.frozen?_setCell]
  exact ⟨f, g, h, i, j⟩
/-- the cells of an entry that is read in a region, beside stores elsewhere; and that what lay before is as it was -/
def RdS (n₀ : Nat) (w0 : World) (B : Nat) (n : Nt) (w' : World) : Prop :=
  (w'.cell? ⟨B, 0, none⟩ = some (.string ⟨n.nm.toArray⟩) ∧ w'.cell? ⟨B, 1, none⟩ = some (.int .i64 n.bf) ∧ w'.cell? ⟨B, 2, none⟩ = some (.int .i64 n.bt) ∧ w'.cell? ⟨B, 3, none⟩ = some (.int .i64 n.df) ∧ w'.cell? ⟨B, 4, none⟩ = some (.int .i64 n.dt)) ∧ Hid (Below n₀ w0 w' ∧ n₀ ≤ w'.heap.size)
theorem RdS.below {n₀ : Nat} {w0 W W' : World} {B : Nat} {n : Nt} (h : RdS n₀ w0 B n W) (hb : Below W.heap.size W W') : RdS n₀ w0 B n W' := by
  obtain ⟨⟨a, b, c, d, e⟩, ⟨hB, hl⟩⟩ := h
  exact ⟨⟨below_keep hb a, below_keep hb b, below_keep hb c, below_keep hb d, below_keep hb e⟩, Lib.hid ⟨hB.trans (hb.mono hl), Nat.le_trans hl hb.size⟩⟩
theorem RdS.set {n₀ : Nat} {w0 W : World} {B : Nat} {n : Nt} (h : RdS n₀ w0 B n W) (A : Nat) (hA : n₀ ≤ A) (hne : A ≠ B) (i : Nat) (v : Value) : RdS n₀ w0 B n (W.setCell ⟨A, i, none⟩ v) := by
  obtain ⟨⟨a, b, c, d, e⟩, ⟨hB, hl⟩⟩ := h
  have o : ∀ (j : Nat) (x : Value), W.cell? ⟨B, j, none⟩ = some x → (W.setCell ⟨A, i, none⟩ v).cell? ⟨B, j, none⟩ = some x := fun j x hx => (World.cell?_setCell_other _ _ _ _ (fun e => hne (by injection e))).trans hx
  exact ⟨⟨o 0 _ a, o 1 _ b, o 2 _ c, o 3 _ d, o 4 _ e⟩, Lib.hid ⟨hB.setCell (p := ⟨A, i, none⟩) hA _, by simpa using hl⟩⟩
theorem cell_set5 {W : World} {b : Nat} {x0 x1 x2 x3 x4 : Value} (h0 : W.cell? ⟨b, 0, none⟩ = some x0) (h1 : W.cell? ⟨b, 1, none⟩ = some x1) (h2 : W.cell? ⟨b, 2, none⟩ = some x2) (h3 : W.cell? ⟨b, 3, none⟩ = some x3) (h4 : W.cell? ⟨b, 4, none⟩ = some x4) (y0 y1 y2 y3 y4 : Value) :
    (W.setCell ⟨b, 0, none⟩ y0).cell? ⟨b, 0, none⟩ = some y0 ∧
    ((W.setCell ⟨b, 0, none⟩ y0).setCell ⟨b, 1, none⟩ y1).cell? ⟨b, 1, none⟩ = some y1 ∧
    (((W.setCell ⟨b, 0, none⟩ y0).setCell ⟨b, 1, none⟩ y1).setCell ⟨b, 2, none⟩ y2).cell? ⟨b, 2, none⟩ = some y2 ∧
    ((((W.setCell ⟨b, 0, none⟩ y0).setCell ⟨b, 1, none⟩ y1).setCell ⟨b, 2, none⟩ y2).setCell ⟨b, 3, none⟩ y3).cell? ⟨b, 3, none⟩ = some y3 ∧
    (((((W.setCell ⟨b, 0, none⟩ y0).setCell ⟨b, 1, none⟩ y1).setCell ⟨b, 2, none⟩ y2).setCell ⟨b, 3, none⟩ y3).setCell ⟨b, 4, none⟩ y4).cell? ⟨b, 4, none⟩ = some y4 :=
  ⟨World.cell?_setCell_same _ _ _ h0, World.cell?_setCell_same _ _ _ (set_cell 0 _ h1 (by decide)), World.cell?_setCell_same _ _ _ (set_cell 1 _ (set_cell 0 _ h2 (by decide)) (by decide)),
    World.cell?_setCell_same _ _ _ (set_cell 2 _ (set_cell 1 _ (set_cell 0 _ h3 (by decide)) (by decide)) (by decide)), World.cell?_setCell_same _ _ _ (set_cell 3 _ (set_cell 2 _ (set_cell 1 _ (set_cell 0 _ h4 (by decide)) (by decide)) (by decide)) (by decide))⟩
theorem set5_below {n₀ : Nat} {w W : World} {B : Nat} (h : Below n₀ w W) (hB : n₀ ≤ B) (y0 y1 y2 y3 y4 : Value) : Below n₀ w (((((W.setCell ⟨B, 0, none⟩ y0).setCell ⟨B, 1, none⟩ y1).setCell ⟨B, 2, none⟩ y2).setCell ⟨B, 3, none⟩ y3).setCell ⟨B, 4, none⟩ y4) :=
  ((((h.setCell (p := ⟨B, 0, none⟩) hB _).setCell (p := ⟨B, 1, none⟩) hB _).setCell (p := ⟨B, 2, none⟩) hB _).setCell (p := ⟨B, 3, none⟩) hB _).setCell (p := ⟨B, 4, none⟩) hB _
end Go.Proofs.Ytjjfiilokakppaa
