/-
  RuleSources returns true for every list of provisions, name and pair of days, in every world in which the list lies: the walks.
-/
import Derived.Test.YtfphedcgmaakjabGreatDoorEmpty
import Derived.Test.YtfphedcgmaakjabGreatDoorLawEaster
namespace Go.Proofs.YtfphedcgmaakjabGreatDoor
open Go.RowKit
attribute [local go_sem] set_drewN
/-- at most 12 provisions with short names, or from 201 to 210 -/
def lawB (l : List Pv) : Bool := !((decide (12 < l.length) && decide (l.length ≤ 200)) || decide (210 < l.length)) && l.all fun p => decide (p.name.size ≤ 30)
theorem lawB_le {l : List Pv} (h : lawB l = true) : l.length ≤ 210 := by
  simp only [lawB, Bool.and_eq_true, Bool.not_eq_true', Bool.or_eq_false_iff, decide_eq_false_iff_not] at h
  omega
theorem lawB_big {l : List Pv} (h : (12 < l.length ∧ l.length ≤ 200) ∨ 210 < l.length) : lawB l = false := by
  unfold lawB
  rcases h with ⟨a, b⟩ | h
  · simp [a, b]
  · have : decide (210 < l.length) = true := by simpa using h
    simp [this]
theorem lawB_no {l : List Pv} {k : Nat} (hk : k < l.length) (h : 30 < l[k].name.size) : lawB l = false := by
  have : (l.all fun p => decide (p.name.size ≤ 30)) = false := by
    rw [List.all_eq_false]; exact ⟨l[k], List.getElem_mem hk, by simpa using h⟩
  unfold lawB; rw [this]; simp
theorem lawB_yes {l : List Pv} (h1 : ¬ (12 < l.length ∧ l.length ≤ 200)) (h2 : ¬ 210 < l.length) (h : ∀ k (hk : k < l.length), l[k].name.size ≤ 30) : lawB l = true := by
  have : (l.all fun p => decide (p.name.size ≤ 30)) = true := by
    rw [List.all_eq_true]; intro p hp
    obtain ⟨k, hk, rfl⟩ := List.mem_iff_getElem.1 hp
    simpa using h k hk
  have e1 : (decide (12 < l.length) && decide (l.length ≤ 200)) = false := by
    cases hd : (decide (12 < l.length) && decide (l.length ≤ 200))
    · rfl
    · simp only [Bool.and_eq_true, decide_eq_true_eq] at hd; exact absurd hd h1
  have e2 : decide (210 < l.length) = false := by simpa using h2
  unfold lawB; rw [this, e1, e2]; rfl
set_option maxRecDepth 100000 in
set_option maxHeartbeats 1000000 in
theorem Laws_any (l : List Pv) (b o cap : Nat) (w : World) (hl : l.length ≤ maxLen) (hc : PvsAt w b o l) : Calls Tryz.prog 12 #[.slice (some ⟨b, o, none⟩) l.length cap] w (Ret (.bool (lawB l)) w) := by
  unfold maxLen at hl
  have HC := Lib.hid hc
  clear hc
  by_cases h1 : 12 < l.length
  · by_cases h2 : l.length ≤ 200
    · rw [lawB_big (Or.inl ⟨h1, h2⟩)]
      go_enter Tryz.func12, Tryz.ntmps12
      go_wp2
      go_ret
      exact ⟨rfl, rfl⟩
    · by_cases h3 : 210 < l.length
      · rw [lawB_big (Or.inr h3)]
        have d2 : decide (l.length ≤ 200) = false := by simpa using h2
        go_enter Tryz.func12, Tryz.ntmps12
        go_wp2
        go_ret
        exact ⟨rfl, rfl⟩
      · have d2 : decide (l.length ≤ 200) = false := by simpa using h2
        have d3 : decide (210 < l.length) = false := by simpa using h3
        go_enter Tryz.func12, Tryz.ntmps12
        go_wp2
        go_loop [3] (fun i => ∃ k : Nat, k ≤ l.length ∧ i = .int .i64 k ∧ ∀ j (hj : j < l.length), j < k → l[j].name.size ≤ 30) (fun i => l.length - (intOf i).toNat)
        case atStart => exact ⟨0, Nat.zero_le _, rfl, fun j _ h => absurd h (by omega)⟩
        case round =>
          obtain ⟨k, hk, rfl, hall⟩ := hrel
          have HA := Lib.hid hall
          clear hall
          by_cases hlt : k < l.length
          · obtain ⟨⟨c0, c1, c2, c3, c4⟩, hsz⟩ := HC.out.2 k hlt
            unfold maxLen at hsz
            by_cases hs : 30 < l[k].name.size
            · have N := Lib.hid (lawB_no hlt hs)
              go_wp2
              go_ret
              exact ⟨by rw [N.out]; rfl, rfl⟩
            · have ext : ∀ j (hj : j < l.length), j < k + 1 → l[j].name.size ≤ 30 := by
                intro j hj hjk
                by_cases e : j = k
                · subst e; omega
                · exact HA.out j hj (by omega)
              have EX := Lib.hid ext
              clear ext
              go_wp2
              go_round
              case rel => exact ⟨k + 1, by omega, by go_num, EX.out⟩
              case measure => simp [intOf]; omega
          · have Y := Lib.hid (lawB_yes (by omega) h3 (fun j hj => HA.out j hj (by omega)))
            go_wp2
            go_ret
            exact ⟨by rw [Y.out]; rfl, rfl⟩
  · have d1 : decide (12 < l.length) = false := by simpa using h1
    have h3 : ¬ 210 < l.length := by omega
    have d3 : decide (210 < l.length) = false := by simpa using h3
    go_enter Tryz.func12, Tryz.ntmps12
    go_wp2
    go_loop [3] (fun i => ∃ k : Nat, k ≤ l.length ∧ i = .int .i64 k ∧ ∀ j (hj : j < l.length), j < k → l[j].name.size ≤ 30) (fun i => l.length - (intOf i).toNat)
    case atStart => exact ⟨0, Nat.zero_le _, rfl, fun j _ h => absurd h (by omega)⟩
    case round =>
      obtain ⟨k, hk, rfl, hall⟩ := hrel
      have HA := Lib.hid hall
      clear hall
      by_cases hlt : k < l.length
      · obtain ⟨⟨c0, c1, c2, c3, c4⟩, hsz⟩ := HC.out.2 k hlt
        unfold maxLen at hsz
        by_cases hs : 30 < l[k].name.size
        · have N := Lib.hid (lawB_no hlt hs)
          go_wp2
          go_ret
          exact ⟨by rw [N.out]; rfl, rfl⟩
        · have ext : ∀ j (hj : j < l.length), j < k + 1 → l[j].name.size ≤ 30 := by
            intro j hj hjk
            by_cases e : j = k
            · subst e; omega
            · exact HA.out j hj (by omega)
          have EX := Lib.hid ext
          clear ext
          go_wp2
          go_round
          case rel => exact ⟨k + 1, by omega, by go_num, EX.out⟩
          case measure => simp [intOf]; omega
      · have Y := Lib.hid (lawB_yes (by omega) h3 (fun j hj => HA.out j hj (by omega)))
        go_wp2
        go_ret
        exact ⟨by rw [Y.out]; rfl, rfl⟩
theorem Laws_0 (a : Option Addr) (cap : Nat) (w : World) : Calls Tryz.prog 12 #[.slice a 0 cap] w (Ret (.bool true) w) := by
  go_enter Tryz.func12, Tryz.ntmps12
  go_wp2
  go_loop [3] (fun i => i = .int .i64 0) (fun _ => 0)
  case atStart => exact rfl
  case round =>
    obtain rfl := hrel
    go_wp2
    go_ret
    exact ⟨rfl, rfl⟩
end Go.Proofs.YtfphedcgmaakjabGreatDoor
namespace Go.Proofs.YtfphedcgmaakjabGreatDoor
open Go.RowKit
attribute [local go_sem] set_drewN
/-- a pair of days lies in block B -/
def At2 (W : World) (B : Nat) (a0 a1 : Int) : Prop := B < W.heap.size ∧ W.cell? ⟨B, 0, none⟩ = some (.int .i64 a0) ∧ W.cell? ⟨B, 1, none⟩ = some (.int .i64 a1)
theorem At2.below {W W' : World} {B : Nat} {a0 a1 : Int} (h : At2 W B a0 a1) (hb : Below W.heap.size W W') : At2 W' B a0 a1 := by
  obtain ⟨hl, a, b⟩ := h
  exact ⟨Nat.lt_of_lt_of_le hl hb.size, (hb.cell hl).trans a, (hb.cell hl).trans b⟩
theorem At2.new (W : World) (a0 a1 : Int) : At2 (W.alloc (.cells #[.int .i64 a0, .int .i64 a1] 45)) W.heap.size a0 a1 := ⟨by simp, by simp [go_sem], by simp [go_sem]⟩
theorem cpE_pv {l : List Pv} (h : cpE l = 0) {i : Nat} (hi : i < l.length) : pvE l[i] = 0 := by
  by_cases h2 : 200 < l.length
  · unfold cpE at h; rw [if_pos h2] at h; cases h
  · by_cases hz : pvE l[i] = 0
    · exact hz
    · exfalso
      have hb := bE_bad hi rfl hz
      -- the first place with an error
      have key : ∀ n, n ≤ l.length → (∀ j, j < n → bE l j = 0) ∨ cpE l ≠ 0 := by
        intro n
        induction n with
        | zero => intro _; exact Or.inl (fun j hj => absurd hj (by omega))
        | succ n ih =>
          intro hn
          rcases ih (by omega) with ih | ih
          · by_cases hb0 : bE l n = 0
            · refine Or.inl (fun j hj => ?_)
              by_cases e : j = n
              · subst e; exact hb0
              · exact ih j (by omega)
            · exact Or.inr (by rw [cpE_no h2 (by omega) ih hb0]; exact hb0)
          · exact Or.inr ih
      rcases key l.length (Nat.le_refl _) with k | k
      · have := k i hi; rw [hb] at this; exact hz this
      · exact k h
theorem srcE_cp {l : List Pv} {a0 a1 : Int} (h : srcE l a0 a1 = 0) : cpE l = 0 := by
  by_cases e : cpE l = 0
  · exact e
  · rw [srcE_1 e] at h; exact h
theorem pv_value {p : Pv} (h : pvE p = 0) (hr : p.repeal = true) : p.value = 0 := by
  by_cases hv : p.value = 0
  · exact hv
  · exfalso
    cases h1 : nameB p.name
    · rw [pvE_1 h1] at h; cases h
    · cases h2 : inB p.value (-1000000000) 1000000000
      · rw [pvE_2 h1 (Or.inl h2)] at h; cases h
      · cases h3 : inB p.from' 0 200000
        · rw [pvE_2 h1 (Or.inr (Or.inl h3))] at h; cases h
        · cases h4 : inB p.entered 0 200000
          · rw [pvE_2 h1 (Or.inr (Or.inr h4))] at h; cases h
          · rw [pvE_3 h1 h2 h3 h4, hr] at h
            have : (true && p.value != 0) = true := by simpa using hv
            rw [this, eI_t] at h; cases h
end Go.Proofs.YtfphedcgmaakjabGreatDoor
