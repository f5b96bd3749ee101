/-
  A list of provisions as its cells, one behind the other.
-/
import Derived.Test.YtpfekgmimfkjcaaGreatDoorProvs
import Derived.Laws.AppendOwn
import Derived.Deep.AppendLies
namespace Go.Proofs.YtpfekgmimfkjcaaGreatDoor
open Go.RowKit
/-- the cells of a provision -/
def pvC (p : Pv) : List Value := [.string p.name, .int .i64 p.value, .int .i64 p.from', .int .i64 p.entered, .bool p.repeal]
/-- the cells of a list -/
def pcs : List Pv → List Value
  | [] => []
  | p :: l => pvC p ++ pcs l
theorem pcs_len : ∀ l : List Pv, (pcs l).length = l.length * 5
  | [] => rfl
  | p :: l => by rw [pcs, List.length_append, pcs_len l]; simp [pvC]; omega
theorem pcs_app : ∀ a b : List Pv, pcs (a ++ b) = pcs a ++ pcs b
  | [], _ => rfl
  | p :: a, b => by rw [List.cons_append, pcs, pcs, pcs_app a b, List.append_assoc]
theorem pcs_one (p : Pv) : pcs [p] = pvC p := by simp [pcs]
theorem pcs_get : ∀ (l : List Pv) (i : Nat) (h : i < l.length) (r : Nat), r < 5 → (pcs l)[i * 5 + r]? = (pvC l[i])[r]?
  | p :: l, 0, _, r, hr => by
    rw [pcs, List.getElem?_append_left (by simp [pvC]; omega)]; simp
  | p :: l, i + 1, h, r, hr => by
    rw [pcs, List.getElem?_append_right (by simp [pvC]; omega)]
    have := pcs_get l i (by simpa using h) r hr
    rw [show (i + 1) * 5 + r - (pvC p).length = i * 5 + r from by simp [pvC]; omega, this]; simp
theorem pcs_one_cell {l : List Pv} : ∀ u ∈ pcs l, u.oneCell' = true := by
  induction l with
  | nil => intro u hu; cases hu
  | cons p l ih =>
    intro u hu
    rw [pcs, List.mem_append] at hu
    rcases hu with hu | hu
    · simp [pvC] at hu
      rcases hu with rfl | rfl | rfl | rfl | rfl <;> rfl
    · exact ih u hu
theorem PvsAt.cells {w : World} {b o : Nat} {l : List Pv} (h : PvsAt w b o l) : ∀ j u, (pcs l)[j]? = some u → w.cell? ⟨b, o + j, none⟩ = some u := by
  intro j u hj
  have hl : j < (pcs l).length := (List.getElem?_eq_some_iff.1 hj).1
  rw [pcs_len] at hl
  have hi : j / 5 < l.length := by omega
  obtain ⟨⟨c0, c1, c2, c3, c4⟩, _⟩ := h.2 (j / 5) hi
  have e := pcs_get l (j / 5) hi (j % 5) (by omega)
  rw [show j / 5 * 5 + j % 5 = j from by omega, hj] at e
  have h5 : j % 5 = 0 ∨ j % 5 = 1 ∨ j % 5 = 2 ∨ j % 5 = 3 ∨ j % 5 = 4 := by omega
  rcases h5 with q | q | q | q | q <;> rw [q] at e <;> simp [pvC] at e <;> subst e
  · rw [show o + j = o + j / 5 * 5 from by omega]; exact c0
  · rw [show o + j = o + j / 5 * 5 + 1 from by omega]; exact c1
  · rw [show o + j = o + j / 5 * 5 + 2 from by omega]; exact c2
  · rw [show o + j = o + j / 5 * 5 + 3 from by omega]; exact c3
  · rw [show o + j = o + j / 5 * 5 + 4 from by omega]; exact c4
theorem PvsAt.of_cells {w : World} {b o : Nat} {l : List Pv} (hb : b < w.heap.size) (hc : ∀ j u, (pcs l)[j]? = some u → w.cell? ⟨b, o + j, none⟩ = some u) (hn : ∀ p ∈ l, p.name.size ≤ maxLen) : PvsAt w b o l := by
  refine ⟨hb, fun i hi => ⟨?_, hn _ (List.getElem_mem hi)⟩⟩
  have g := fun r (hr : r < 5) => pcs_get l i hi r hr
  have g0 := g 0 (by omega); have g1 := g 1 (by omega); have g2 := g 2 (by omega); have g3 := g 3 (by omega); have g4 := g 4 (by omega)
  simp only [pvC, List.getElem?_cons_zero, List.getElem?_cons_succ, Nat.add_zero] at g0 g1 g2 g3 g4
  exact ⟨hc _ _ g0, hc _ _ g1, hc _ _ g2, hc _ _ g3, hc _ _ g4⟩
theorem add0 (b j : Nat) : Addr.add ⟨b, 0, none⟩ j = ⟨b, 0 + j, none⟩ := by
  unfold Addr.add
  split
  · rename_i e; subst e; rfl
  · rfl
theorem addo (b o j : Nat) : Addr.add ⟨b, o, none⟩ j = ⟨b, o + j, none⟩ := by
  unfold Addr.add
  split
  · rename_i e; subst e; rfl
  · rfl
/-- a row of the call's own that holds a list's cells -/
theorem PvsAt.of_own {w : World} {base g cap n : Nat} {e : TypeId} {l : List Pv} (h : w.ownsRow base e 5 (.slice (some ⟨g, 0, none⟩) n cap) n (pcs l)) (hn : ∀ p ∈ l, p.name.size ≤ maxLen) : PvsAt w g 0 l := by
  refine PvsAt.of_cells (h.lt g rfl).2 (fun j u hj => ?_) hn
  have := h.cells (g := g) rfl j u hj
  rwa [add0] at this
theorem PvsAt.names {w : World} {b o : Nat} {l : List Pv} (h : PvsAt w b o l) : ∀ p ∈ l, p.name.size ≤ maxLen := by
  intro p hp
  obtain ⟨i, hi, rfl⟩ := List.mem_iff_getElem.1 hp
  exact (h.2 i hi).2
end Go.Proofs.YtpfekgmimfkjcaaGreatDoor
