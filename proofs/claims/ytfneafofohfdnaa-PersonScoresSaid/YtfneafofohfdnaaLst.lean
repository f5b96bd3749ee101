/-
  Lists of numbers and lists of such lists as they lie; base.Ints and base.Lists at equal ones.
-/
import Derived.Test.YtfneafofohfdnaaPBase
import Derived.Shelf.SlIter.Collect
import Derived.StillTailTactics
namespace Go.Proofs.Ytfneafofohfdnaa
open Go.RowKit
/-- a slice of these numbers lies -/
def LI (W : World) (v : Value) (L : List Int) : Prop := ∃ a c, v = .slice a L.length c ∧ (L ≠ [] → ∃ b, a = some ⟨b, 0, none⟩ ∧ b < W.heap.size ∧ ∀ (i : Nat) (h : i < L.length), W.cell? ⟨b, i, none⟩ = some (.int .i64 L[i]))
theorem LI.below {W W' : World} {v : Value} {L : List Int} (h : LI W v L) (hb : Below W.heap.size W W') : LI W' v L := by
  obtain ⟨a, c, e, h⟩ := h
  refine ⟨a, c, e, fun hn => ?_⟩
  obtain ⟨b, e2, hl, hc⟩ := h hn
  exact ⟨b, e2, Nat.lt_of_lt_of_le hl hb.size, fun i hi => (hb.cell (p := ⟨b, i, none⟩) hl).trans (hc i hi)⟩
theorem LI.of_own {W : World} {base : Nat} {e : TypeId} {v : Value} {L : List Int} (h : W.ownsRow base e 1 v L.length (L.map (Value.int .i64))) : LI W v L := by
  rcases h.2 with ⟨rfl, h0⟩ | ⟨g, cap, cur, rfl, hg, hgb, _⟩
  · have : L = [] := List.length_eq_zero_iff.1 h0
    subst this
    exact ⟨none, 0, rfl, fun h => absurd rfl h⟩
  · refine ⟨_, cap, rfl, fun _ => ⟨g, rfl, (Array.getElem?_eq_some_iff.1 hgb).1, fun i hi => ?_⟩⟩
    have := h.cells (g := g) rfl i (.int .i64 L[i]) (by simp [hi])
    rw [show ((⟨g, 0, none⟩ : Addr).add i) = ⟨g, i, none⟩ by cases i <;> simp [Addr.add]] at this
    exact this
theorem ints_eq {W : World} {v1 v2 : Value} {L : List Int} (h1 : LI W v1 L) (h2 : LI W v2 L) (hl : L.length ≤ 1000) : Calls Try.prog 56 #[v1, v2] W (RetB (.bool true) W) := by
  obtain ⟨a1, c1, rfl, p1⟩ := h1
  obtain ⟨a2, c2, rfl, p2⟩ := h2
  have P1 := Lib.hid p1
  have P2 := Lib.hid p2
  clear p1 p2
  go_enter Try.func56, Try.ntmps56
  go_wp2
  go_loopw [5] (fun i wr => ∃ k : Nat, k ≤ L.length ∧ i = .int .i64 k ∧ Below W.heap.size W wr) (fun i _ => L.length - (intOf i).toNat)
  case atStart => exact ⟨0, Nat.zero_le _, rfl, Below.refl _ _⟩
  case round =>
    obtain ⟨k, hk, rfl, hB⟩ := hrel
    by_cases hlt : k < L.length
    · have hne : L ≠ [] := by rintro rfl; simp at hlt
      obtain ⟨b1, rfl, l1, q1⟩ := P1.out hne
      obtain ⟨b2, rfl, l2, q2⟩ := P2.out hne
      have a1 := (hB.cell (p := ⟨b1, k, none⟩) l1).trans (q1 k hlt)
      have a2 := (hB.cell (p := ⟨b2, k, none⟩) l2).trans (q2 k hlt)
      generalize L[k] = X at *
      clear q1 q2
      go_wp2
      go_quiet (fail)
      go_wp2
      go_roundw
      case rel => exact ⟨k + 1, by omega, by go_num, below_n hB _⟩
      case measure => simp [intOf]; omega
    · go_wp2
      go_ret
      exact ⟨rfl, hB⟩
/-- a slice of lists lies -/
def LLI (W : World) (v : Value) (L : List (List Int)) : Prop := ∃ a c, v = .slice a L.length c ∧ (L ≠ [] → ∃ b, a = some ⟨b, 0, none⟩ ∧ b < W.heap.size ∧ ∀ (i : Nat) (h : i < L.length), ∃ u, W.cell? ⟨b, i, none⟩ = some u ∧ LI W u L[i])
set_option maxRecDepth 100000 in
theorem lists_eq {W : World} {v1 v2 : Value} {L : List (List Int)} (h1 : LLI W v1 L) (h2 : LLI W v2 L) (hl : L.length ≤ 1000) (hl2 : ∀ x ∈ L, x.length ≤ 1000) : Calls Try.prog 33 #[v1, v2] W (RetB (.bool true) W) := by
  obtain ⟨a1, c1, rfl, p1⟩ := h1
  obtain ⟨a2, c2, rfl, p2⟩ := h2
  have P1 := Lib.hid p1
  have P2 := Lib.hid p2
  have H2 := Lib.hid hl2
  clear p1 p2 hl2
  go_enter Try.func33, Try.ntmps33
  go_wp2
  go_loopw [5] (fun i wr => ∃ k : Nat, k ≤ L.length ∧ i = .int .i64 k ∧ Below W.heap.size W wr) (fun i _ => L.length - (intOf i).toNat)
  case atStart => exact ⟨0, Nat.zero_le _, rfl, Below.refl _ _⟩
  case round =>
    obtain ⟨k, hk, rfl, hB⟩ := hrel
    by_cases hlt : k < L.length
    · have hne : L ≠ [] := by rintro rfl; simp at hlt
      obtain ⟨b1, rfl, l1, q1⟩ := P1.out hne
      obtain ⟨b2, rfl, l2, q2⟩ := P2.out hne
      obtain ⟨u1, z1, y1⟩ := q1 k hlt
      obtain ⟨u2, z2, y2⟩ := q2 k hlt
      have a1 := (hB.cell (p := ⟨b1, k, none⟩) l1).trans z1
      have a2 := (hB.cell (p := ⟨b2, k, none⟩) l2).trans z2
      have hlk := H2.out L[k] (List.getElem_mem hlt)
      have HI := Lib.hid (fun (X : World) (hX : Below W.heap.size W X) => ints_eq (y1.below hX) (y2.below hX) hlk)
      clear q1 q2 z1 z2 y1 y2
      go_wp2
      go_still_tail 8, (by kernel_rfl)
      have hBd : Below W.heap.size W wr.drew := ⟨hB.os, hB.tape, hB.output, hB.size, hB.block⟩
      change wpList _ _ _ _ _ wr.drew
      generalize wr.drew = wd at hBd ⊢
      go_wp2_with (go_at_call 56; refine (HI.out _ hBd).mono ?_; rintro e w3 ⟨rfl, hb3⟩)
      have hB3 := hBd.trans (hb3.mono hBd.size)
      go_roundw
      case rel => exact ⟨k + 1, by omega, by go_num, hB3⟩
      case measure => simp [intOf]; omega
    · go_wp2
      go_ret
      exact ⟨rfl, hB⟩
end Go.Proofs.Ytfneafofohfdnaa
