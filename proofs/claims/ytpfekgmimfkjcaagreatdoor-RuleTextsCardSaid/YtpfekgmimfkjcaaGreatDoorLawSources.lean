/-
  RuleSources returns true for every list of provisions, name and pair of days, in every world in which the list lies.
-/
import Derived.Test.YtpfekgmimfkjcaaGreatDoorEmpty
import Derived.Test.YtpfekgmimfkjcaaGreatDoorBelow
namespace Go.Proofs.YtpfekgmimfkjcaaGreatDoor
open Go.RowKit
attribute [local go_sem] set_drewN
/-- at most 12 provisions with short names, or from 201 to 210 -/
def lawB (l : List Pv) : Bool := !((decide (12 < l.length) && decide (l.length ≤ 200)) || decide (210 < l.length)) && l.all fun p => decide (p.name.size ≤ 30)
theorem lawB_le {l : List Pv} (h : lawB l = true) : l.length ≤ 210 := by
  simp only [lawB, Bool.and_eq_true, Bool.not_eq_true', Bool.or_eq_false_iff, decide_eq_false_iff_not] at h
  omega
theorem lawB_big {l : List Pv} (h : (12 < l.length ∧ l.length ≤ 200) ∨ 210 < l.length) : lawB l = false := by
  unfold lawB
  rcases h with ⟨a, b⟩ | h
  · simp [a, b]
  · have : decide (210 < l.length) = true := by simpa using h
    simp [this]
theorem lawB_no {l : List Pv} {k : Nat} (hk : k < l.length) (h : 30 < l[k].name.size) : lawB l = false := by
  have : (l.all fun p => decide (p.name.size ≤ 30)) = false := by
    rw [List.all_eq_false]; exact ⟨l[k], List.getElem_mem hk, by simpa using h⟩
  unfold lawB; rw [this]; simp
theorem lawB_yes {l : List Pv} (h1 : ¬ (12 < l.length ∧ l.length ≤ 200)) (h2 : ¬ 210 < l.length) (h : ∀ k (hk : k < l.length), l[k].name.size ≤ 30) : lawB l = true := by
  have : (l.all fun p => decide (p.name.size ≤ 30)) = true := by
    rw [List.all_eq_true]; intro p hp
    obtain ⟨k, hk, rfl⟩ := List.mem_iff_getElem.1 hp
    simpa using h k hk
  have e1 : (decide (12 < l.length) && decide (l.length ≤ 200)) = false := by
    cases hd : (decide (12 < l.length) && decide (l.length ≤ 200))
    · rfl
    · simp only [Bool.and_eq_true, decide_eq_true_eq] at hd; exact absurd hd h1
  have e2 : decide (210 < l.length) = false := by simpa using h2
  unfold lawB; rw [this, e1, e2]; rfl
set_option maxRecDepth 100000 in
set_option maxHeartbeats 1000000 in
theorem Laws_any (l : List Pv) (b o cap : Nat) (w : World) (hl : l.length ≤ maxLen) (hc : PvsAt w b o l) : Calls Tryz.prog 11 #[.slice (some ⟨b, o, none⟩) l.length cap] w (Ret (.bool (lawB l)) w) := by
  unfold maxLen at hl
  have HC := Lib.hid hc
  clear hc
  by_cases h1 : 12 < l.length
  · by_cases h2 : l.length ≤ 200
    · rw [lawB_big (Or.inl ⟨h1, h2⟩)]
      go_enter Tryz.func11, Tryz.ntmps11
      go_wp2
      go_ret
      exact ⟨rfl, rfl⟩
    · by_cases h3 : 210 < l.length
      · rw [lawB_big (Or.inr h3)]
        have d2 : decide (l.length ≤ 200) = false := by simpa using h2
        go_enter Tryz.func11, Tryz.ntmps11
        go_wp2
        go_ret
        exact ⟨rfl, rfl⟩
      · have d2 : decide (l.length ≤ 200) = false := by simpa using h2
        have d3 : decide (210 < l.length) = false := by simpa using h3
        go_enter Tryz.func11, Tryz.ntmps11
        go_wp2
        go_loop [3] (fun i => ∃ k : Nat, k ≤ l.length ∧ i = .int .i64 k ∧ ∀ j (hj : j < l.length), j < k → l[j].name.size ≤ 30) (fun i => l.length - (intOf i).toNat)
        case atStart => exact ⟨0, Nat.zero_le _, rfl, fun j _ h => absurd h (by omega)⟩
        case round =>
          obtain ⟨k, hk, rfl, hall⟩ := hrel
          have HA := Lib.hid hall
          clear hall
          by_cases hlt : k < l.length
          · obtain ⟨⟨c0, c1, c2, c3, c4⟩, hsz⟩ := HC.out.2 k hlt
            unfold maxLen at hsz
            by_cases hs : 30 < l[k].name.size
            · have N := Lib.hid (lawB_no hlt hs)
              go_wp2
              go_ret
              exact ⟨by rw [N.out]; rfl, rfl⟩
            · have ext : ∀ j (hj : j < l.length), j < k + 1 → l[j].name.size ≤ 30 := by
                intro j hj hjk
                by_cases e : j = k
                · subst e; omega
                · exact HA.out j hj (by omega)
              have EX := Lib.hid ext
              clear ext
              go_wp2
              go_round
              case rel => exact ⟨k + 1, by omega, by go_num, EX.out⟩
              case measure => simp [intOf]; omega
          · have Y := Lib.hid (lawB_yes (by omega) h3 (fun j hj => HA.out j hj (by omega)))
            go_wp2
            go_ret
            exact ⟨by rw [Y.out]; rfl, rfl⟩
  · have d1 : decide (12 < l.length) = false := by simpa using h1
    have h3 : ¬ 210 < l.length := by omega
    have d3 : decide (210 < l.length) = false := by simpa using h3
    go_enter Tryz.func11, Tryz.ntmps11
    go_wp2
    go_loop [3] (fun i => ∃ k : Nat, k ≤ l.length ∧ i = .int .i64 k ∧ ∀ j (hj : j < l.length), j < k → l[j].name.size ≤ 30) (fun i => l.length - (intOf i).toNat)
    case atStart => exact ⟨0, Nat.zero_le _, rfl, fun j _ h => absurd h (by omega)⟩
    case round =>
      obtain ⟨k, hk, rfl, hall⟩ := hrel
      have HA := Lib.hid hall
      clear hall
      by_cases hlt : k < l.length
      · obtain ⟨⟨c0, c1, c2, c3, c4⟩, hsz⟩ := HC.out.2 k hlt
        unfold maxLen at hsz
        by_cases hs : 30 < l[k].name.size
        · have N := Lib.hid (lawB_no hlt hs)
          go_wp2
          go_ret
          exact ⟨by rw [N.out]; rfl, rfl⟩
        · have ext : ∀ j (hj : j < l.length), j < k + 1 → l[j].name.size ≤ 30 := by
            intro j hj hjk
            by_cases e : j = k
            · subst e; omega
            · exact HA.out j hj (by omega)
          have EX := Lib.hid ext
          clear ext
          go_wp2
          go_round
          case rel => exact ⟨k + 1, by omega, by go_num, EX.out⟩
          case measure => simp [intOf]; omega
      · have Y := Lib.hid (lawB_yes (by omega) h3 (fun j hj => HA.out j hj (by omega)))
        go_wp2
        go_ret
        exact ⟨by rw [Y.out]; rfl, rfl⟩
theorem Laws_0 (a : Option Addr) (cap : Nat) (w : World) : Calls Tryz.prog 11 #[.slice a 0 cap] w (Ret (.bool true) w) := by
  go_enter Tryz.func11, Tryz.ntmps11
  go_wp2
  go_loop [3] (fun i => i = .int .i64 0) (fun _ => 0)
  case atStart => exact rfl
  case round =>
    obtain rfl := hrel
    go_wp2
    go_ret
    exact ⟨rfl, rfl⟩
end Go.Proofs.YtpfekgmimfkjcaaGreatDoor
