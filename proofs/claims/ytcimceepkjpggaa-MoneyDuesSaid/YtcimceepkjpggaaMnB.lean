/-
  The small functions of package money: checks of numbers, of errors and of names. Contracts, for all worlds.
-/
import Derived.Test.YtcimceepkjpggaaMnA
namespace Go.Proofs.Ytcimceepkjpggaa
open Go.RowKit
theorem nIsFromTo_any (n a b : Int) (w : World) : Calls Try.prog 60 #[.int .i64 n, .int .i64 a, .int .i64 b] w (Ret (.bool (inB n a b)) w) := by
  by_cases h1 : a ≤ n
  · by_cases h2 : n ≤ b
    · rw [inB_yes h1 h2]
      go_enter Try.func60, Try.ntmps60
      go_wp2
      go_ret
      exact ⟨rfl, rfl⟩
    · rw [inB_no (Or.inr (by omega))]
      go_enter Try.func60, Try.ntmps60
      go_wp2
      go_ret
      exact ⟨rfl, rfl⟩
  · rw [inB_no (Or.inl (by omega))]
    have h1' : decide (a ≤ n) = false := by simpa using h1
    go_enter Try.func60, Try.ntmps60
    go_wp2
    go_ret
    exact ⟨rfl, rfl⟩
theorem nIsDay_any (n : Int) (w : World) : Calls Try.prog 54 #[.int .i64 n] w (Ret (.bool (inB n 0 200000)) w) := by
  go_enter Try.func54, Try.ntmps54
  go_wp2_with (go_at_call 60; refine (nIsFromTo_any _ _ _ _).mono ?_; rintro e w' ⟨rfl, rfl⟩)
  go_ret
  exact ⟨rfl, rfl⟩
theorem nErrorIf_any (c : Bool) (x : Int) (w : World) : Calls Try.prog 59 #[.bool c, .int .i64 x] w (Ret (.int .i64 (eI c x)) w) := by
  cases c
  all_goals
    first | rw [eI_t] | rw [eI_f]
    go_enter Try.func59, Try.ntmps59
    go_wp2
    go_ret
    exact ⟨rfl, rfl⟩
theorem nFirstError_any (xs : List Int) (b o cap : Nat) (w : World) (hl : xs.length ≤ 1000) (hc : IntsAt w b o xs) :
    Calls Try.prog 49 #[.slice (some ⟨b, o, none⟩) xs.length cap] w (Ret (.int .i64 (feE xs)) w) := by
  have HC := Lib.hid hc
  clear hc
  go_enter Try.func49, Try.ntmps49
  go_wp2
  go_loop [7] (fun i => ∃ k : Nat, k ≤ xs.length ∧ i = .int .i64 k ∧ ∀ x ∈ xs.take k, x = 0) (fun i => xs.length - (intOf i).toNat)
  case atStart => exact ⟨0, Nat.zero_le _, rfl, by simp⟩
  case round =>
    obtain ⟨k, hk, rfl, hall⟩ := hrel
    have HA := Lib.hid hall
    clear hall
    by_cases hlt : k < xs.length
    · have hcell := HC.out k hlt
      by_cases hx : xs[k] = 0
      · have HX := Lib.hid hx
        rw [hx] at hcell
        clear hx
        go_wp2
        go_round
        case rel => exact ⟨k + 1, by omega, by go_num, mem_take_succ hlt HA.out HX.out⟩
        case measure => simp [intOf]; omega
      · have HX := Lib.hid hx
        have hb : (xs[k] != 0) = true := by simpa using hx
        clear hx
        go_wp2
        go_ret
        exact ⟨ret_i (feE_no hlt HA.out HX.out).symm, rfl⟩
    · go_wp2
      go_ret
      exact ⟨ret_i (feE_ok (by have := HA.out; rwa [List.take_of_length_le (by omega)] at this)).symm, rfl⟩
theorem cdE_eq (d : Int) : cdE [d] = eI (!inB d 0 200000) 2 := by
  unfold cdE eI
  cases h : inB d 0 200000 <;> simp [h]
theorem nCheckDay_any (d : Int) (w : World) : Calls Try.prog 51 #[.int .i64 d] w (Ret (.int .i64 (cdE [d])) w) := by
  rw [cdE_eq]
  cases h : inB d 0 200000
  all_goals
    have H := Lib.hid h
    go_enter Try.func51, Try.ntmps51
    go_wp2_with (first
      | (go_at_call 54; refine (nIsDay_any _ _).mono ?_; rintro e w' ⟨rfl, rfl⟩; rw [H.out])
      | (go_at_call 59; refine (nErrorIf_any _ _ _).mono ?_; rintro e w' ⟨rfl, rfl⟩))
    go_ret
    exact ⟨rfl, rfl⟩
theorem nIsLetter_any (n : Int) (w : World) : Calls Try.prog 90 #[.int .u8 n] w (Ret (.bool (letB n)) w) := by
  by_cases h1 : 97 ≤ n
  · by_cases h2 : n ≤ 122
    · have e : letB n = true := by simp [letB, h1, h2]
      rw [e]
      clear e
      go_enter Try.func90, Try.ntmps90
      go_wp2
      go_ret
      exact ⟨rfl, rfl⟩
    · have e : letB n = false := by simp [letB]; omega
      have h3 : 65 ≤ n := by omega
      have h4 : ¬ n ≤ 90 := by omega
      rw [e]
      clear e
      go_enter Try.func90, Try.ntmps90
      go_wp2
      go_ret
      exact ⟨rfl, rfl⟩
  · have d1 : decide (97 ≤ n) = false := by simpa using h1
    by_cases h3 : 65 ≤ n
    · by_cases h4 : n ≤ 90
      · have e : letB n = true := by simp [letB, h3, h4]
        rw [e]
        clear e
        go_enter Try.func90, Try.ntmps90
        go_wp2
        go_ret
        exact ⟨rfl, rfl⟩
      · have e : letB n = false := by simp [letB]; omega
        rw [e]
        clear e
        go_enter Try.func90, Try.ntmps90
        go_wp2
        go_ret
        exact ⟨rfl, rfl⟩
    · have e : letB n = false := by simp [letB]; omega
      have d3 : decide (65 ≤ n) = false := by simpa using h3
      rw [e]
      clear e
      go_enter Try.func90, Try.ntmps90
      go_wp2
      go_ret
      exact ⟨rfl, rfl⟩
theorem nIsSign_any (n : Int) (w : World) : Calls Try.prog 91 #[.int .u8 n] w (Ret (.bool (tailB n)) w) := by
  unfold tailB digB
  cases h1 : letB n
  · by_cases h2 : 48 ≤ n
    · by_cases h3 : n ≤ 57
      · have e : (false || (decide (48 ≤ n) && decide (n ≤ 57)) || n == 45) = true := by simp [h2, h3]
        rw [e]
        have H1 := Lib.hid h1
        clear e h1
        go_enter Try.func91, Try.ntmps91
        go_wp2_with (go_at_call 90; refine (nIsLetter_any _ _).mono ?_; rintro e w' ⟨rfl, rfl⟩; rw [H1.out])
        go_ret
        exact ⟨rfl, rfl⟩
      · have h4 : (n == 45) = false := by simp; omega
        have e : (false || (decide (48 ≤ n) && decide (n ≤ 57)) || n == 45) = false := by rw [h4]; simp; omega
        have d3 : decide (n ≤ 57) = false := by simpa using h3
        rw [e]
        have H1 := Lib.hid h1
        clear e h1
        go_enter Try.func91, Try.ntmps91
        go_wp2_with (go_at_call 90; refine (nIsLetter_any _ _).mono ?_; rintro e w' ⟨rfl, rfl⟩; rw [H1.out])
        go_ret
        exact ⟨rfl, rfl⟩
    · have d2 : decide (48 ≤ n) = false := by simpa using h2
      cases h4 : (n == 45)
      · have e : (false || (decide (48 ≤ n) && decide (n ≤ 57)) || false) = false := by rw [d2]; rfl
        rw [e]
        have H1 := Lib.hid h1
        clear e h1
        go_enter Try.func91, Try.ntmps91
        go_wp2_with (go_at_call 90; refine (nIsLetter_any _ _).mono ?_; rintro e w' ⟨rfl, rfl⟩; rw [H1.out])
        go_ret
        exact ⟨rfl, rfl⟩
      · have e : (false || (decide (48 ≤ n) && decide (n ≤ 57)) || true) = true := by simp
        rw [e]
        have H1 := Lib.hid h1
        clear e h1
        go_enter Try.func91, Try.ntmps91
        go_wp2_with (go_at_call 90; refine (nIsLetter_any _ _).mono ?_; rintro e w' ⟨rfl, rfl⟩; rw [H1.out])
        go_ret
        exact ⟨rfl, rfl⟩
  · have e : (true || (decide (48 ≤ n) && decide (n ≤ 57)) || n == 45) = true := by simp
    rw [e]
    have H1 := Lib.hid h1
    clear e h1
    go_enter Try.func91, Try.ntmps91
    go_wp2_with (go_at_call 90; refine (nIsLetter_any _ _).mono ?_; rintro e w' ⟨rfl, rfl⟩; rw [H1.out])
    go_ret
    exact ⟨rfl, rfl⟩
set_option maxHeartbeats 1000000 in
theorem nIsName_any (s : ByteArray) (w : World) (hs : s.size ≤ maxLen) : Calls Try.prog 81 #[.string s] w (Ret (.bool (nameB s)) w) := by
  unfold maxLen at hs
  by_cases h1 : s.size < 1
  · rw [nameB_1 (Or.inl h1)]
    go_enter Try.func81, Try.ntmps81
    go_wp2
    go_ret
    exact ⟨rfl, rfl⟩
  · have d1 : decide (s.size < 1) = false := by simpa using h1
    by_cases h2 : 12 < s.size
    · rw [nameB_1 (Or.inr h2)]
      go_enter Try.func81, Try.ntmps81
      go_wp2
      go_ret
      exact ⟨rfl, rfl⟩
    · have d2 : decide (12 < s.size) = false := by simpa using h2
      have h0 : 0 < s.size := by omega
      cases h3 : letB (s[0].toNat : Int)
      · rw [nameB_2 h0 h3]
        go_enter Try.func81, Try.ntmps81
        go_wp2_with (go_at_call 90; refine (nIsLetter_any _ _).mono ?_; rintro e w' ⟨rfl, rfl⟩)
        go_ret
        exact ⟨rfl, rfl⟩
      · have H3 := Lib.hid h3
        go_enter Try.func81, Try.ntmps81
        go_wp2_with (go_at_call 90; refine (nIsLetter_any _ _).mono ?_; rintro e w' ⟨rfl, rfl⟩)
        go_loop [20] (fun i => ∃ k : Nat, k ≤ s.size ∧ i = .int .i64 k ∧ ∀ j (hj : j < s.size), j < k → tailB (s[j].toNat : Int) = true) (fun i => s.size - (intOf i).toNat)
        case atStart => exact ⟨0, Nat.zero_le _, rfl, fun j _ h => absurd h (by omega)⟩
        case round =>
          obtain ⟨k, hk, rfl, hall⟩ := hrel
          have HA := Lib.hid hall
          clear hall
          by_cases hlt : k < s.size
          · cases hb : tailB (s[k].toNat : Int)
            · have N3 := Lib.hid (nameB_3 hlt hb)
              go_wp2_with (go_at_call 91; refine (nIsSign_any _ _).mono ?_; rintro e w' ⟨rfl, rfl⟩)
              go_ret
              exact ⟨by rw [N3.out]; rfl, rfl⟩
            · have ext : ∀ j (hj : j < s.size), j < k + 1 → tailB (s[j].toNat : Int) = true := by
                intro j hj hjk
                by_cases e : j = k
                · subst e; exact hb
                · exact HA.out j hj (by omega)
              have EX := Lib.hid ext
              clear ext
              go_wp2_with (go_at_call 91; refine (nIsSign_any _ _).mono ?_; rintro e w' ⟨rfl, rfl⟩)
              go_round
              case rel => exact ⟨k + 1, by omega, by go_num, EX.out⟩
              case measure => simp [intOf]; omega
          · have HN := Lib.hid (nameB_4 (by omega) (by omega) H3.out (fun j hj => HA.out j hj (by omega)))
            go_wp2
            go_ret
            exact ⟨by rw [HN.out]; rfl, rfl⟩
theorem bLetter_any (n : Int) (w : World) : Calls Try.prog 82 #[.int .u8 n] w (Ret (.bool (letB n)) w) := by
  by_cases h1 : 97 ≤ n
  · by_cases h2 : n ≤ 122
    · have e : letB n = true := by simp [letB, h1, h2]
      rw [e]
      clear e
      go_enter Try.func82, Try.ntmps82
      go_wp2
      go_ret
      exact ⟨rfl, rfl⟩
    · have e : letB n = false := by simp [letB]; omega
      have h3 : 65 ≤ n := by omega
      have h4 : ¬ n ≤ 90 := by omega
      rw [e]
      clear e
      go_enter Try.func82, Try.ntmps82
      go_wp2
      go_ret
      exact ⟨rfl, rfl⟩
  · have d1 : decide (97 ≤ n) = false := by simpa using h1
    by_cases h3 : 65 ≤ n
    · by_cases h4 : n ≤ 90
      · have e : letB n = true := by simp [letB, h3, h4]
        rw [e]
        clear e
        go_enter Try.func82, Try.ntmps82
        go_wp2
        go_ret
        exact ⟨rfl, rfl⟩
      · have e : letB n = false := by simp [letB]; omega
        rw [e]
        clear e
        go_enter Try.func82, Try.ntmps82
        go_wp2
        go_ret
        exact ⟨rfl, rfl⟩
    · have e : letB n = false := by simp [letB]; omega
      have d3 : decide (65 ≤ n) = false := by simpa using h3
      rw [e]
      clear e
      go_enter Try.func82, Try.ntmps82
      go_wp2
      go_ret
      exact ⟨rfl, rfl⟩
theorem bDigit_any (n : Int) (w : World) : Calls Try.prog 83 #[.int .u8 n] w (Ret (.bool (digB n)) w) := by
  by_cases h1 : 48 ≤ n
  · by_cases h2 : n ≤ 57
    · have e : digB n = true := by simp [digB, h1, h2]
      rw [e]
      clear e
      go_enter Try.func83, Try.ntmps83
      go_wp2
      go_ret
      exact ⟨rfl, rfl⟩
    · have e : digB n = false := by simp [digB]; omega
      rw [e]
      clear e
      go_enter Try.func83, Try.ntmps83
      go_wp2
      go_ret
      exact ⟨rfl, rfl⟩
  · have e : digB n = false := by simp [digB]; omega
    have d1 : decide (48 ≤ n) = false := by simpa using h1
    rw [e]
    clear e
    go_enter Try.func83, Try.ntmps83
    go_wp2
    go_ret
    exact ⟨rfl, rfl⟩
theorem tail_head {s : ByteArray} (h0 : 0 < s.size) (h : letB (s[0].toNat : Int) = true) : ∀ j (hj : j < s.size), j < 1 → tailB (s[j].toNat : Int) = true := by
  intro j hj hj1
  have e0 : j = 0 := by omega
  subst e0
  simp [tailB, h]
set_option maxHeartbeats 1000000 in
theorem bIsName_any (s : ByteArray) (w : World) (hs : s.size ≤ maxLen) : Calls Try.prog 55 #[.string s] w (Ret (.bool (nameB s)) w) := by
  unfold maxLen at hs
  by_cases h1 : s.size < 1
  · rw [nameB_1 (Or.inl h1)]
    go_enter Try.func55, Try.ntmps55
    go_wp2
    go_ret
    exact ⟨rfl, rfl⟩
  · have d1 : decide (s.size < 1) = false := by simpa using h1
    by_cases h2 : 12 < s.size
    · rw [nameB_1 (Or.inr h2)]
      go_enter Try.func55, Try.ntmps55
      go_wp2
      go_ret
      exact ⟨rfl, rfl⟩
    · have d2 : decide (12 < s.size) = false := by simpa using h2
      have h0 : 0 < s.size := by omega
      cases h3 : letB (s[0].toNat : Int)
      · rw [nameB_2 h0 h3]
        go_enter Try.func55, Try.ntmps55
        go_wp2_with (go_at_call 82; refine (bLetter_any _ _).mono ?_; rintro e w' ⟨rfl, rfl⟩)
        go_ret
        exact ⟨rfl, rfl⟩
      · have H3 := Lib.hid h3
        go_enter Try.func55, Try.ntmps55
        go_wp2_with (go_at_call 82; refine (bLetter_any _ _).mono ?_; rintro e w' ⟨rfl, rfl⟩)
        go_loop [3] (fun i => ∃ k : Nat, k ≤ s.size ∧ i = .int .i64 k ∧ (∀ j (hj : j < s.size), j < k → tailB (s[j].toNat : Int) = true) ∧ 1 ≤ k) (fun i => s.size - (intOf i).toNat)
        case atStart => exact ⟨1, by omega, rfl, tail_head h0 H3.out, Nat.le_refl _⟩
        case round =>
          obtain ⟨k, hk, rfl, hall, hk1⟩ := hrel
          have HA := Lib.hid hall
          clear hall
          by_cases hlt : k < s.size
          · cases hb : tailB (s[k].toNat : Int)
            · have N3 := Lib.hid (nameB_3 hlt hb)
              have hb' := hb
              simp only [tailB, Bool.or_eq_false_iff] at hb'
              obtain ⟨⟨b1, b2⟩, b3⟩ := hb'
              have b3' : ((s[k].toNat : Int) != 45) = true := by simpa using b3
              clear hb
              go_wp2_with (first
                | (go_at_call 82; refine (bLetter_any _ _).mono ?_; rintro e w' ⟨rfl, rfl⟩)
                | (go_at_call 83; refine (bDigit_any _ _).mono ?_; rintro e w' ⟨rfl, rfl⟩))
              go_ret
              exact ⟨by rw [N3.out]; rfl, rfl⟩
            · have HB := Lib.hid hb
              clear hb
              have ext : ∀ j (hj : j < s.size), j < k + 1 → tailB (s[j].toNat : Int) = true := by
                intro j hj hjk
                by_cases e : j = k
                · subst e; exact HB.out
                · exact HA.out j hj (by omega)
              have EX := Lib.hid ext
              clear ext
              cases b1 : letB (s[k].toNat : Int)
              · cases b2 : digB (s[k].toNat : Int)
                · have b3 : ((s[k].toNat : Int) != 45) = false := by
                    have := HB.out; simp only [tailB, b1, b2, Bool.false_or] at this; simpa using this
                  go_wp2_with (first
                    | (go_at_call 82; refine (bLetter_any _ _).mono ?_; rintro e w' ⟨rfl, rfl⟩)
                    | (go_at_call 83; refine (bDigit_any _ _).mono ?_; rintro e w' ⟨rfl, rfl⟩))
                  go_round
                  case rel => exact ⟨k + 1, by omega, by go_num, EX.out, by omega⟩
                  case measure => simp [intOf]; omega
                · go_wp2_with (first
                    | (go_at_call 82; refine (bLetter_any _ _).mono ?_; rintro e w' ⟨rfl, rfl⟩)
                    | (go_at_call 83; refine (bDigit_any _ _).mono ?_; rintro e w' ⟨rfl, rfl⟩))
                  go_round
                  case rel => exact ⟨k + 1, by omega, by go_num, EX.out, by omega⟩
                  case measure => simp [intOf]; omega
              · go_wp2_with (first
                  | (go_at_call 82; refine (bLetter_any _ _).mono ?_; rintro e w' ⟨rfl, rfl⟩)
                  | (go_at_call 83; refine (bDigit_any _ _).mono ?_; rintro e w' ⟨rfl, rfl⟩))
                go_round
                case rel => exact ⟨k + 1, by omega, by go_num, EX.out, by omega⟩
                case measure => simp [intOf]; omega
          · go_wp2
            go_ret
            exact ⟨by rw [nameB_4 (by omega) (by omega) H3.out (fun j hj => HA.out j hj (by omega))]; rfl, rfl⟩
theorem nCheckName_any (s : ByteArray) (w : World) (hs : s.size ≤ maxLen) : Calls Try.prog 50 #[.string s] w (Ret (.int .i64 (eI (!nameB s) 4)) w) := by
  cases h : nameB s
  all_goals
    have H := Lib.hid h
    go_enter Try.func50, Try.ntmps50
    go_wp2_with (first
      | (go_at_call 81; refine (nIsName_any _ _ hs).mono ?_; rintro e w' ⟨rfl, rfl⟩; rw [H.out])
      | (go_at_call 59; refine (nErrorIf_any _ _ _).mono ?_; rintro e w' ⟨rfl, rfl⟩))
    go_ret
    exact ⟨rfl, rfl⟩
theorem xIsDay_any (n : Int) (w : World) : Calls Try.prog 41 #[.int .i64 n] w (Ret (.bool (inB n 0 200000)) w) := by
  go_enter Try.func41, Try.ntmps41
  go_wp2_with (go_at_call 56; refine (bWithin_any _ _ _ _).mono ?_; rintro e w' ⟨rfl, rfl⟩)
  go_ret
  exact ⟨rfl, rfl⟩
theorem xIsCents_any (n a : Int) (w : World) : Calls Try.prog 67 #[.int .i64 n, .int .i64 a] w (Ret (.bool (inB n a 1000000000000)) w) := by
  go_enter Try.func67, Try.ntmps67
  go_wp2_with (go_at_call 56; refine (bWithin_any _ _ _ _).mono ?_; rintro e w' ⟨rfl, rfl⟩)
  go_ret
  exact ⟨rfl, rfl⟩
end Go.Proofs.Ytcimceepkjpggaa
