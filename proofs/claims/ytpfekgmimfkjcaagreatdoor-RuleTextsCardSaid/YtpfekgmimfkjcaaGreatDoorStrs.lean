/-
  Texts in a row of one's own, and texts that lie in a row.
-/
import Derived.Test.YtpfekgmimfkjcaaGreatDoorNames
import Derived.Laws.AppendOwn
import Derived.Deep.AppendLies
namespace Go.Proofs.YtpfekgmimfkjcaaGreatDoor
open Go.RowKit
theorem infoS : (Tryz.prog.info? 9).map (fun i => (i.zero, i.size, i.bytes)) = some (some (.string ⟨#[]⟩), 1, 16) := by kernel_rfl
/-- a text as a value -/
def strV (x : List UInt8) : Value := .string ⟨x.toArray⟩
theorem add00 (b j : Nat) : Addr.add ⟨b, 0, none⟩ j = ⟨b, j, none⟩ := by
  unfold Addr.add
  split
  · rename_i e; subst e; rfl
  · simp
/-- texts lie in a row -/
def TxAt (W : World) (g : Nat) (T : List (List UInt8)) : Prop := g < W.heap.size ∧ ∀ j x, T[j]? = some x → W.cell? ⟨g, j, none⟩ = some (.string ⟨x.toArray⟩)
theorem TxAt.below {W W' : World} {g : Nat} {T : List (List UInt8)} (h : TxAt W g T) (hb : Below W.heap.size W W') : TxAt W' g T :=
  ⟨Nat.lt_of_lt_of_le h.1 hb.size, fun j x hj => (hb.cell (p := ⟨g, j, none⟩) h.1).trans (h.2 j x hj)⟩
/-- a row of texts of one's own -/
def CRow (w0 W : World) (D : List (List UInt8)) (v : Value) : Prop := W.ownsRow w0.heap.size 9 1 v D.length (D.map strV) ∧ Below w0.heap.size w0 W
theorem CRow.closed {w0 W : World} {D : List (List UInt8)} {v : Value} (h : CRow w0 W D v) (hD : D ≠ []) : ∃ g cap, v = .slice (some ⟨g, 0, none⟩) D.length cap ∧ w0.heap.size ≤ g ∧ TxAt W g D := by
  obtain ⟨ho, hb⟩ := h
  rcases ho.2 with ⟨_, h0⟩ | ⟨g, cap, cur, rfl, hbase, hr⟩
  · exact absurd (List.length_eq_zero_iff.1 h0) hD
  · refine ⟨g, cap, rfl, hbase, (ho.lt g rfl).2, fun j x hj => ?_⟩
    have := ho.cells (g := g) rfl j (strV x) (by rw [List.getElem?_map, hj]; rfl)
    rwa [add00] at this
theorem CRow.snoc {w0 w1 w2 : World} {D : List (List UInt8)} {x : List UInt8} {v v' : Value} (h : w2.ownsRow w0.heap.size 9 1 v' (D.length + 1) (D.map strV ++ [strV x])) (hb : Below w0.heap.size w0 w1) (hg : w1.grownBy w2 v.ownBlock) (ho : w1.ownsRow w0.heap.size 9 1 v D.length (D.map strV)) :
    CRow w0 w2 (D ++ [x]) v' :=
  ⟨by simpa using h, hb.grown hg hb.size (fun k' e' => (ho.lt k' e').1)⟩
/-- five cells of a new struct -/
def Z5 (W : World) (B : Nat) : Prop := B < W.heap.size ∧
  (W.cell? ⟨B, 0, none⟩ = some (.string ⟨#[]⟩) ∧ W.cell? ⟨B, 1, none⟩ = some (.int .i64 0) ∧ W.cell? ⟨B, 2, none⟩ = some (.int .i64 0) ∧ W.cell? ⟨B, 3, none⟩ = some (.int .i64 0) ∧ W.cell? ⟨B, 4, none⟩ = some (.bool false)) ∧
  W.frozen? ⟨B, 0, none⟩ = false ∧ W.frozen? ⟨B, 1, none⟩ = false ∧ W.frozen? ⟨B, 2, none⟩ = false ∧ W.frozen? ⟨B, 3, none⟩ = false ∧ W.frozen? ⟨B, 4, none⟩ = false
theorem Z5.below {W W' : World} {B : Nat} (h : Z5 W B) (hb : Below W.heap.size W W') : Z5 W' B := by
  obtain ⟨hl, ⟨a, b, c, d, e⟩, f, g, h, i, j⟩ := h
  exact ⟨Nat.lt_of_lt_of_le hl hb.size, ⟨(hb.cell hl).trans a, (hb.cell hl).trans b, (hb.cell hl).trans c, (hb.cell hl).trans d, (hb.cell hl).trans e⟩, (hb.frozen hl).trans f, (hb.frozen hl).trans g, (hb.frozen hl).trans h, (hb.frozen hl).trans i, (hb.frozen hl).trans j⟩
theorem Z5.new (w : World) (t : TypeId) : Z5 (w.alloc (.cells #[.string ⟨#[]⟩, .int .i64 0, .int .i64 0, .int .i64 0, .bool false] t)) w.heap.size :=
  ⟨by simp, ⟨by simp [go_sem], by simp [go_sem], by simp [go_sem], by simp [go_sem], by simp [go_sem]⟩, by simp [go_sem], by simp [go_sem], by simp [go_sem], by simp [go_sem], by simp [go_sem]⟩
theorem cell_set5 {W : World} {b : Nat} {x0 x1 x2 x3 x4 : Value} (h0 : W.cell? ⟨b, 0, none⟩ = some x0) (h1 : W.cell? ⟨b, 1, none⟩ = some x1) (h2 : W.cell? ⟨b, 2, none⟩ = some x2) (h3 : W.cell? ⟨b, 3, none⟩ = some x3) (h4 : W.cell? ⟨b, 4, none⟩ = some x4) (y0 y1 y2 y3 y4 : Value) :
    (W.setCell ⟨b, 0, none⟩ y0).cell? ⟨b, 0, none⟩ = some y0 ∧
    ((W.setCell ⟨b, 0, none⟩ y0).setCell ⟨b, 1, none⟩ y1).cell? ⟨b, 1, none⟩ = some y1 ∧
    (((W.setCell ⟨b, 0, none⟩ y0).setCell ⟨b, 1, none⟩ y1).setCell ⟨b, 2, none⟩ y2).cell? ⟨b, 2, none⟩ = some y2 ∧
    ((((W.setCell ⟨b, 0, none⟩ y0).setCell ⟨b, 1, none⟩ y1).setCell ⟨b, 2, none⟩ y2).setCell ⟨b, 3, none⟩ y3).cell? ⟨b, 3, none⟩ = some y3 ∧
    (((((W.setCell ⟨b, 0, none⟩ y0).setCell ⟨b, 1, none⟩ y1).setCell ⟨b, 2, none⟩ y2).setCell ⟨b, 3, none⟩ y3).setCell ⟨b, 4, none⟩ y4).cell? ⟨b, 4, none⟩ = some y4 := by
  have o : ∀ (V : World) (i j : Nat) (x y : Value), i ≠ j → V.cell? ⟨b, j, none⟩ = some x → (V.setCell ⟨b, i, none⟩ y).cell? ⟨b, j, none⟩ = some x := fun V i j x y hij h => (World.cell?_setCell_other _ _ _ _ (fun e => hij (by injection e))).trans h
  exact ⟨World.cell?_setCell_same _ _ _ h0, World.cell?_setCell_same _ _ _ (o _ 0 1 _ _ (by decide) h1), World.cell?_setCell_same _ _ _ (o _ 1 2 _ _ (by decide) (o _ 0 2 _ _ (by decide) h2)),
    World.cell?_setCell_same _ _ _ (o _ 2 3 _ _ (by decide) (o _ 1 3 _ _ (by decide) (o _ 0 3 _ _ (by decide) h3))), World.cell?_setCell_same _ _ _ (o _ 3 4 _ _ (by decide) (o _ 2 4 _ _ (by decide) (o _ 1 4 _ _ (by decide) (o _ 0 4 _ _ (by decide) h4))))⟩
end Go.Proofs.YtpfekgmimfkjcaaGreatDoor
