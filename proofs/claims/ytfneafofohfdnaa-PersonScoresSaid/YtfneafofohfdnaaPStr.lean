/-
  Texts in a row of one's own, and texts that lie in a row.
-/
import Derived.Test.YtfneafofohfdnaaPBase
import Derived.Laws.AppendOwn
import Derived.Deep.AppendLies
namespace Go.Proofs.Ytfneafofohfdnaa
open Go.RowKit
theorem infoS : (Try.prog.info? 9).map (fun i => (i.zero, i.size, i.bytes)) = some (some (.string ⟨#[]⟩), 1, 16) := by kernel_rfl
/-- a text as a value -/
def strV (x : List UInt8) : Value := .string ⟨x.toArray⟩
theorem add00 (b j : Nat) : Addr.add ⟨b, 0, none⟩ j = ⟨b, j, none⟩ := by
  unfold Addr.add
  split
  · rename_i e; subst e; rfl
  · simp
/-- texts lie in a row -/
def TxAt (W : World) (g : Nat) (T : List (List UInt8)) : Prop := g < W.heap.size ∧ ∀ j x, T[j]? = some x → W.cell? ⟨g, j, none⟩ = some (.string ⟨x.toArray⟩)
theorem TxAt.below {W W' : World} {g : Nat} {T : List (List UInt8)} (h : TxAt W g T) (hb : Below W.heap.size W W') : TxAt W' g T :=
  ⟨Nat.lt_of_lt_of_le h.1 hb.size, fun j x hj => (hb.cell (p := ⟨g, j, none⟩) h.1).trans (h.2 j x hj)⟩
/-- a row of texts of one's own -/
def CRow (w0 W : World) (D : List (List UInt8)) (v : Value) : Prop := W.ownsRow w0.heap.size 9 1 v D.length (D.map strV) ∧ Below w0.heap.size w0 W
theorem CRow.closed {w0 W : World} {D : List (List UInt8)} {v : Value} (h : CRow w0 W D v) (hD : D ≠ []) : ∃ g cap, v = .slice (some ⟨g, 0, none⟩) D.length cap ∧ w0.heap.size ≤ g ∧ TxAt W g D := by
  obtain ⟨ho, hb⟩ := h
  rcases ho.2 with ⟨_, h0⟩ | ⟨g, cap, cur, rfl, hbase, hr⟩
  · exact absurd (List.length_eq_zero_iff.1 h0) hD
  · refine ⟨g, cap, rfl, hbase, (ho.lt g rfl).2, fun j x hj => ?_⟩
    have := ho.cells (g := g) rfl j (strV x) (by rw [List.getElem?_map, hj]; rfl)
    rwa [add00] at this
theorem CRow.snoc {w0 w1 w2 : World} {D : List (List UInt8)} {x : List UInt8} {v v' : Value} (h : w2.ownsRow w0.heap.size 9 1 v' (D.length + 1) (D.map strV ++ [strV x])) (hb : Below w0.heap.size w0 w1) (hg : w1.grownBy w2 v.ownBlock) (ho : w1.ownsRow w0.heap.size 9 1 v D.length (D.map strV)) :
    CRow w0 w2 (D ++ [x]) v' :=
  ⟨by simpa using h, hb.grown hg hb.size (fun k' e' => (ho.lt k' e').1)⟩
end Go.Proofs.Ytfneafofohfdnaa
