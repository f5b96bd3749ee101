/-
  What SameChanges of the specification of package rule returns, where both lists hold the same changes.
-/
import Derived.Test.YtfphedcgmaakjabGreatDoorChgM2
namespace Go.Proofs.YtfphedcgmaakjabGreatDoor
open Go.RowKit
attribute [local go_sem] set_drewN
theorem sameC_0 (a1 a2 : Option Addr) (c1 c2 : Nat) (w : World) : Calls Tryz.prog 24 #[.slice a1 0 c1, .slice a2 0 c2] w (RetB (.bool true) w) := by
  go_enter Tryz.func24, Tryz.ntmps24
  go_wp2
  go_loop [5] (fun i => i = .int .i64 0) (fun _ => 0)
  case atStart => exact rfl
  case round =>
    obtain rfl := hrel
    go_wp2
    go_ret
    exact ⟨rfl, Below.refl _ _⟩
set_option maxRecDepth 100000 in
set_option maxHeartbeats 1000000 in
theorem sameC_some (C : List (Int × Int × Bool)) (b1 c1 b2 c2 : Nat) (w : World) (hl : C.length ≤ 1000) (l1 : b1 < w.heap.size) (l2 : b2 < w.heap.size)
    (h1 : ∀ i (h : i < C.length), w.cell? ⟨b1, i * 3, none⟩ = some (.int .i64 C[i].1) ∧ w.cell? ⟨b1, i * 3 + 1, none⟩ = some (.int .i64 C[i].2.1) ∧ w.cell? ⟨b1, i * 3 + 2, none⟩ = some (.bool C[i].2.2))
    (h2 : ∀ i (h : i < C.length), w.cell? ⟨b2, i * 3, none⟩ = some (.int .i64 C[i].1) ∧ w.cell? ⟨b2, i * 3 + 1, none⟩ = some (.int .i64 C[i].2.1) ∧ w.cell? ⟨b2, i * 3 + 2, none⟩ = some (.bool C[i].2.2)) :
    Calls Tryz.prog 24 #[.slice (some ⟨b1, 0, none⟩) C.length c1, .slice (some ⟨b2, 0, none⟩) C.length c2] w (RetB (.bool true) w) := by
  have H1 := Lib.hid h1
  have H2 := Lib.hid h2
  clear h1 h2
  go_enter Tryz.func24, Tryz.ntmps24
  go_wp2
  go_loopw [5] (fun i wr => ∃ k : Nat, k ≤ C.length ∧ i = .int .i64 k ∧ Below w.heap.size w wr) (fun i _ => C.length - (intOf i).toNat)
  case atStart => exact ⟨0, Nat.zero_le _, rfl, Below.refl _ _⟩
  case round =>
    obtain ⟨k, hk, rfl, hB⟩ := hrel
    by_cases hlt : k < C.length
    · obtain ⟨a0, a1, a2⟩ := H1.out k hlt
      obtain ⟨d0, d1, d2⟩ := H2.out k hlt
      have a0 := (hB.cell (p := ⟨b1, k * 3, none⟩) l1).trans a0
      have a1 := (hB.cell (p := ⟨b1, k * 3 + 1, none⟩) l1).trans a1
      have a2 := (hB.cell (p := ⟨b1, k * 3 + 2, none⟩) l1).trans a2
      have d0 := (hB.cell (p := ⟨b2, k * 3, none⟩) l2).trans d0
      have d1 := (hB.cell (p := ⟨b2, k * 3 + 1, none⟩) l2).trans d1
      have d2 := (hB.cell (p := ⟨b2, k * 3 + 2, none⟩) l2).trans d2
      generalize C[k].1 = X at *
      generalize C[k].2.1 = Y at *
      generalize C[k].2.2 = Z at *
      go_wp2
      go_quiet (fail)
      go_wp2
      go_roundw
      case rel => exact ⟨k + 1, by omega, by go_num, below_n hB _⟩
      case measure => simp [intOf]; omega
    · go_wp2
      go_ret
      exact ⟨rfl, hB⟩
theorem sameC {W : World} {n1 n2 : Nat} {v1 v2 : Value} {C : List (Int × Int × Bool)} (h1 : ChgAt W n1 v1 C) (h2 : ChgAt W n2 v2 C) (hl : C.length ≤ 1000) :
    Calls Tryz.prog 24 #[v1, v2] W (RetB (.bool true) W) := by
  rcases h1 with ⟨e, rfl⟩ | ⟨g1, c1, rfl, _, p1, q1⟩
  · subst e
    rcases h2 with ⟨_, rfl⟩ | ⟨g2, c2, rfl, _, p2, q2⟩
    · exact sameC_0 _ _ _ _ W
    · exact sameC_0 _ _ _ _ W
  · rcases h2 with ⟨e, rfl⟩ | ⟨g2, c2, rfl, _, p2, q2⟩
    · subst e; exact sameC_0 _ _ _ _ W
    · exact sameC_some C g1 c1 g2 c2 W hl p1 p2 q1 q2
end Go.Proofs.YtfphedcgmaakjabGreatDoor
