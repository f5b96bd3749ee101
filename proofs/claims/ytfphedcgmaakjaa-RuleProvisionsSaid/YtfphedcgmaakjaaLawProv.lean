/-
  RuleProvisions returns true for every list of provisions and every provision, in every world in which the list lies.
-/
import Derived.Test.YtfphedcgmaakjaaRefNext2
import Derived.Test.YtfphedcgmaakjaaLawSrc2
namespace Go.Proofs.Ytfphedcgmaakjaa
open Go.RowKit
attribute [local go_sem] set_drewN
theorem same_nil (w : World) : Calls Try.prog 55 #[.slice none 0 0, .slice none 0 0] w (RetB (.bool true) w) := by
  go_enter Try.func55, Try.ntmps55
  go_wp2
  go_loop [5] (fun i => i = .int .i64 0) (fun _ => 0)
  case atStart => exact rfl
  case round =>
    obtain rfl := hrel
    go_wp2
    go_ret
    exact ⟨rfl, Below.refl _ _⟩
set_option maxRecDepth 100000 in
set_option maxHeartbeats 2000000 in
theorem same_any (l : List Pv) (n : Nat) (hnl : n = l.length) (b1 o1 c1 b2 o2 c2 : Nat) (w : World) (hl : l.length ≤ 1000000) (h1 : PvsAt w b1 o1 l) (h2 : PvsAt w b2 o2 l) :
    Calls Try.prog 55 #[.slice (some ⟨b1, o1, none⟩) n c1, .slice (some ⟨b2, o2, none⟩) n c2] w (RetB (.bool true) w) := by
  subst hnl
  have H1 := Lib.hid h1
  have H2 := Lib.hid h2
  clear h1 h2
  go_enter Try.func55, Try.ntmps55
  go_wp2
  go_loopw [5] (fun i wr => ∃ k : Nat, k ≤ l.length ∧ i = .int .i64 k ∧ Below w.heap.size w wr) (fun i _ => l.length - (intOf i).toNat)
  case atStart => exact ⟨0, Nat.zero_le _, rfl, Below.refl _ _⟩
  case round =>
    obtain ⟨k, hk, rfl, hB⟩ := hrel
    by_cases hlt : k < l.length
    · obtain ⟨⟨a0, a1, a2, a3, a4⟩, hsz⟩ := (H1.out.below hB).2 k hlt
      obtain ⟨⟨d0, d1, d2, d3, d4⟩, _⟩ := (H2.out.below hB).2 k hlt
      obtain ⟨⟨pn, pv, pf, pe, pr⟩, hp⟩ : ∃ p, l[k] = p := ⟨_, rfl⟩
      rw [hp] at a0 a1 a2 a3 a4 d0 d1 d2 d3 d4 hsz
      clear hp
      simp only at a0 a1 a2 a3 a4 d0 d1 d2 d3 d4 hsz
      go_wp2
      go_quiet (fail)
      go_wp2
      go_roundw
      case rel => exact ⟨k + 1, by omega, by go_num, below_n hB _⟩
      case measure => simp [intOf]; omega
    · go_wp2
      go_ret
      exact ⟨rfl, hB⟩
end Go.Proofs.Ytfphedcgmaakjaa
