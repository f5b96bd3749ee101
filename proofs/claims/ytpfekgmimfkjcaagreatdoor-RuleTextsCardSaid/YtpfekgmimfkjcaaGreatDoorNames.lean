/-
  What isLetter, isDigit and isName of package rule return: contracts, each for all worlds.
-/
import Derived.Test.YtpfekgmimfkjcaaGreatDoorChecks
namespace Go.Proofs.YtpfekgmimfkjcaaGreatDoor
open Go.RowKit
def letB (n : Int) : Bool := (decide (97 ≤ n) && decide (n ≤ 122)) || (decide (65 ≤ n) && decide (n ≤ 90))
def digB (n : Int) : Bool := decide (48 ≤ n) && decide (n ≤ 57)
theorem isLetter_any (n : Int) (w : World) : Calls Tryz.prog 68 #[.int .u8 n] w (Ret (.bool (letB n)) w) := by
  by_cases h1 : 97 ≤ n
  · by_cases h2 : n ≤ 122
    · have e : letB n = true := by simp [letB, h1, h2]
      rw [e]
      clear e
      go_enter Tryz.func68, Tryz.ntmps68
      go_wp2
      go_ret
      exact ⟨rfl, rfl⟩
    · have e : letB n = false := by simp [letB]; omega
      have h3 : 65 ≤ n := by omega
      have h4 : ¬ n ≤ 90 := by omega
      rw [e]
      clear e
      go_enter Tryz.func68, Tryz.ntmps68
      go_wp2
      go_ret
      exact ⟨rfl, rfl⟩
  · have d1 : decide (97 ≤ n) = false := by simpa using h1
    by_cases h3 : 65 ≤ n
    · by_cases h4 : n ≤ 90
      · have e : letB n = true := by simp [letB, h3, h4]
        rw [e]
        clear e
        go_enter Tryz.func68, Tryz.ntmps68
        go_wp2
        go_ret
        exact ⟨rfl, rfl⟩
      · have e : letB n = false := by simp [letB]; omega
        rw [e]
        clear e
        go_enter Tryz.func68, Tryz.ntmps68
        go_wp2
        go_ret
        exact ⟨rfl, rfl⟩
    · have e : letB n = false := by simp [letB]; omega
      have d3 : decide (65 ≤ n) = false := by simpa using h3
      rw [e]
      clear e
      go_enter Tryz.func68, Tryz.ntmps68
      go_wp2
      go_ret
      exact ⟨rfl, rfl⟩
theorem isDigit_any (n : Int) (w : World) : Calls Tryz.prog 66 #[.int .u8 n] w (Ret (.bool (digB n)) w) := by
  by_cases h1 : 48 ≤ n
  · by_cases h2 : n ≤ 57
    · have e : digB n = true := by simp [digB, h1, h2]
      rw [e]
      clear e
      go_enter Tryz.func66, Tryz.ntmps66
      go_wp2
      go_ret
      exact ⟨rfl, rfl⟩
    · have e : digB n = false := by simp [digB]; omega
      rw [e]
      clear e
      go_enter Tryz.func66, Tryz.ntmps66
      go_wp2
      go_ret
      exact ⟨rfl, rfl⟩
  · have e : digB n = false := by simp [digB]; omega
    have d1 : decide (48 ≤ n) = false := by simpa using h1
    rw [e]
    clear e
    go_enter Tryz.func66, Tryz.ntmps66
    go_wp2
    go_ret
    exact ⟨rfl, rfl⟩
/-- a byte of a name behind its first one -/
def tailB (n : Int) : Bool := letB n || digB n || n == 45
/-- a name -/
def nameB (s : ByteArray) : Bool := decide (1 ≤ s.size) && decide (s.size ≤ 12) && letB (s.data.toList.headD 0).toNat && s.data.toList.all fun c => tailB c.toNat
theorem nameB_1 {s : ByteArray} (h : s.size < 1 ∨ 12 < s.size) : nameB s = false := by simp [nameB]; omega
theorem head_of (s : ByteArray) (h : 0 < s.size) : s.data.toList.headD 0 = s[0] := by
  have : s.data.toList ≠ [] := by intro c; have := congrArg List.length c; simp at this; simp [← ByteArray.size_data, this] at h
  cases hl : s.data.toList with
  | nil => exact absurd hl this
  | cons a t => have e : s.data.toList[0]? = some a := by rw [hl]; rfl
                have : s.data.toList[0]? = some s[0] := by simp [ByteArray.getElem_eq_getElem_data]
                rw [this] at e; simpa using e.symm
theorem nameB_2 {s : ByteArray} (h0 : 0 < s.size) (h : letB (s[0].toNat : Int) = false) : nameB s = false := by unfold nameB; rw [head_of s h0, h]; simp
theorem nameB_3 {s : ByteArray} {k : Nat} (hk : k < s.size) (h : tailB (s[k].toNat : Int) = false) : nameB s = false := by
  have : (s.data.toList.all fun c => tailB c.toNat) = false := by
    rw [List.all_eq_false]
    exact ⟨s[k], by rw [ByteArray.getElem_eq_getElem_data]; simp, by rw [h]; simp⟩
  unfold nameB; rw [this]; simp
theorem nameB_4 {s : ByteArray} (h1 : 1 ≤ s.size) (h2 : s.size ≤ 12) (h : letB (s[0].toNat : Int) = true) (h4 : ∀ k (hk : k < s.size), tailB (s[k].toNat : Int) = true) : nameB s = true := by
  have : (s.data.toList.all fun c => tailB c.toNat) = true := by
    rw [List.all_eq_true]
    intro c hc
    obtain ⟨k, hk, rfl⟩ := List.mem_iff_getElem.1 hc
    have := h4 k (by simpa using hk)
    rwa [ByteArray.getElem_eq_getElem_data] at this
  unfold nameB; rw [this, head_of s h1, h]; simp [h1, h2]
set_option maxHeartbeats 1000000 in
theorem isName_any (s : ByteArray) (w : World) (hs : s.size ≤ maxLen) : Calls Tryz.prog 50 #[.string s] w (Ret (.bool (nameB s)) w) := by
  unfold maxLen at hs
  by_cases h1 : s.size < 1
  · rw [nameB_1 (Or.inl h1)]
    go_enter Tryz.func50, Tryz.ntmps50
    go_wp2
    go_ret
    exact ⟨rfl, rfl⟩
  · have d1 : decide (s.size < 1) = false := by simpa using h1
    by_cases h2 : 12 < s.size
    · rw [nameB_1 (Or.inr h2)]
      go_enter Tryz.func50, Tryz.ntmps50
      go_wp2
      go_ret
      exact ⟨rfl, rfl⟩
    · have d2 : decide (12 < s.size) = false := by simpa using h2
      have h0 : 0 < s.size := by omega
      cases h3 : letB (s[0].toNat : Int)
      · rw [nameB_2 h0 h3]
        go_enter Tryz.func50, Tryz.ntmps50
        go_wp2_with (go_at_call 68; refine (isLetter_any _ _).mono ?_; rintro e w' ⟨rfl, rfl⟩)
        go_ret
        exact ⟨rfl, rfl⟩
      · have H3 := Lib.hid h3
        go_enter Tryz.func50, Tryz.ntmps50
        go_wp2_with (go_at_call 68; refine (isLetter_any _ _).mono ?_; rintro e w' ⟨rfl, rfl⟩)
        go_loop [21] (fun i => ∃ k : Nat, k ≤ s.size ∧ i = .int .i64 k ∧ ∀ j (hj : j < s.size), j < k → tailB (s[j].toNat : Int) = true) (fun i => s.size - (intOf i).toNat)
        case atStart => exact ⟨0, Nat.zero_le _, rfl, fun j _ h => absurd h (by omega)⟩
        case round =>
          obtain ⟨k, hk, rfl, hall⟩ := hrel
          have HA := Lib.hid hall
          clear hall
          by_cases hlt : k < s.size
          · cases hb : tailB (s[k].toNat : Int)
            · have N3 := Lib.hid (nameB_3 hlt hb)
              have hb' := hb
              simp only [tailB, Bool.or_eq_false_iff] at hb'
              obtain ⟨⟨b1, b2⟩, b3⟩ := hb'
              have b3' : ((s[k].toNat : Int) != 45) = true := by simpa using b3
              clear hb
              go_wp2_with (first
                | (go_at_call 68; refine (isLetter_any _ _).mono ?_; rintro e w' ⟨rfl, rfl⟩)
                | (go_at_call 66; refine (isDigit_any _ _).mono ?_; rintro e w' ⟨rfl, rfl⟩))
              go_ret
              exact ⟨by rw [N3.out]; rfl, rfl⟩
            · have HB := Lib.hid hb
              clear hb
              have ext : ∀ j (hj : j < s.size), j < k + 1 → tailB (s[j].toNat : Int) = true := by
                intro j hj hjk
                by_cases e : j = k
                · subst e; exact HB.out
                · exact HA.out j hj (by omega)
              have EX := Lib.hid ext
              clear ext
              cases b1 : letB (s[k].toNat : Int)
              · cases b2 : digB (s[k].toNat : Int)
                · have b3 : ((s[k].toNat : Int) != 45) = false := by
                    have := HB.out; simp only [tailB, b1, b2, Bool.false_or] at this; simpa using this
                  go_wp2_with (first
                    | (go_at_call 68; refine (isLetter_any _ _).mono ?_; rintro e w' ⟨rfl, rfl⟩)
                    | (go_at_call 66; refine (isDigit_any _ _).mono ?_; rintro e w' ⟨rfl, rfl⟩))
                  go_round
                  case rel => exact ⟨k + 1, by omega, by go_num, EX.out⟩
                  case measure => simp [intOf]; omega
                · go_wp2_with (first
                    | (go_at_call 68; refine (isLetter_any _ _).mono ?_; rintro e w' ⟨rfl, rfl⟩)
                    | (go_at_call 66; refine (isDigit_any _ _).mono ?_; rintro e w' ⟨rfl, rfl⟩))
                  go_round
                  case rel => exact ⟨k + 1, by omega, by go_num, EX.out⟩
                  case measure => simp [intOf]; omega
              · go_wp2_with (first
                  | (go_at_call 68; refine (isLetter_any _ _).mono ?_; rintro e w' ⟨rfl, rfl⟩)
                  | (go_at_call 66; refine (isDigit_any _ _).mono ?_; rintro e w' ⟨rfl, rfl⟩))
                go_round
                case rel => exact ⟨k + 1, by omega, by go_num, EX.out⟩
                case measure => simp [intOf]; omega
          · go_wp2
            go_ret
            exact ⟨by rw [nameB_4 (by omega) (by omega) H3.out (fun j hj => HA.out j hj (by omega))]; rfl, rfl⟩
end Go.Proofs.YtpfekgmimfkjcaaGreatDoor
