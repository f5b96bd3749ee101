/-
  What letter, digit and IsName of the base, and ProvisionErr and CheckProvisions of the specification of package rule, return: contracts.
-/
import Derived.Test.YtpfekgmimfkjcaaGreatDoorValue
namespace Go.Proofs.YtpfekgmimfkjcaaGreatDoor
open Go.RowKit
attribute [local go_sem] set_drewN
theorem bLetter_any (n : Int) (w : World) : Calls Tryz.prog 55 #[.int .u8 n] w (Ret (.bool (letB n)) w) := by
  by_cases h1 : 97 ≤ n
  · by_cases h2 : n ≤ 122
    · have e : letB n = true := by simp [letB, h1, h2]
      rw [e]
      clear e
      go_enter Tryz.func55, Tryz.ntmps55
      go_wp2
      go_ret
      exact ⟨rfl, rfl⟩
    · have e : letB n = false := by simp [letB]; omega
      have h3 : 65 ≤ n := by omega
      have h4 : ¬ n ≤ 90 := by omega
      rw [e]
      clear e
      go_enter Tryz.func55, Tryz.ntmps55
      go_wp2
      go_ret
      exact ⟨rfl, rfl⟩
  · have d1 : decide (97 ≤ n) = false := by simpa using h1
    by_cases h3 : 65 ≤ n
    · by_cases h4 : n ≤ 90
      · have e : letB n = true := by simp [letB, h3, h4]
        rw [e]
        clear e
        go_enter Tryz.func55, Tryz.ntmps55
        go_wp2
        go_ret
        exact ⟨rfl, rfl⟩
      · have e : letB n = false := by simp [letB]; omega
        rw [e]
        clear e
        go_enter Tryz.func55, Tryz.ntmps55
        go_wp2
        go_ret
        exact ⟨rfl, rfl⟩
    · have e : letB n = false := by simp [letB]; omega
      have d3 : decide (65 ≤ n) = false := by simpa using h3
      rw [e]
      clear e
      go_enter Tryz.func55, Tryz.ntmps55
      go_wp2
      go_ret
      exact ⟨rfl, rfl⟩
theorem bDigit_any (n : Int) (w : World) : Calls Tryz.prog 56 #[.int .u8 n] w (Ret (.bool (digB n)) w) := by
  by_cases h1 : 48 ≤ n
  · by_cases h2 : n ≤ 57
    · have e : digB n = true := by simp [digB, h1, h2]
      rw [e]
      clear e
      go_enter Tryz.func56, Tryz.ntmps56
      go_wp2
      go_ret
      exact ⟨rfl, rfl⟩
    · have e : digB n = false := by simp [digB]; omega
      rw [e]
      clear e
      go_enter Tryz.func56, Tryz.ntmps56
      go_wp2
      go_ret
      exact ⟨rfl, rfl⟩
  · have e : digB n = false := by simp [digB]; omega
    have d1 : decide (48 ≤ n) = false := by simpa using h1
    rw [e]
    clear e
    go_enter Tryz.func56, Tryz.ntmps56
    go_wp2
    go_ret
    exact ⟨rfl, rfl⟩
theorem tail_head {s : ByteArray} (h0 : 0 < s.size) (h : letB (s[0].toNat : Int) = true) : ∀ j (hj : j < s.size), j < 1 → tailB (s[j].toNat : Int) = true := by
  intro j hj hj1
  have e0 : j = 0 := by omega
  subst e0
  simp [tailB, h]
set_option maxHeartbeats 1000000 in
theorem bIsName_any (s : ByteArray) (w : World) (hs : s.size ≤ maxLen) : Calls Tryz.prog 30 #[.string s] w (Ret (.bool (nameB s)) w) := by
  unfold maxLen at hs
  by_cases h1 : s.size < 1
  · rw [nameB_1 (Or.inl h1)]
    go_enter Tryz.func30, Tryz.ntmps30
    go_wp2
    go_ret
    exact ⟨rfl, rfl⟩
  · have d1 : decide (s.size < 1) = false := by simpa using h1
    by_cases h2 : 12 < s.size
    · rw [nameB_1 (Or.inr h2)]
      go_enter Tryz.func30, Tryz.ntmps30
      go_wp2
      go_ret
      exact ⟨rfl, rfl⟩
    · have d2 : decide (12 < s.size) = false := by simpa using h2
      have h0 : 0 < s.size := by omega
      cases h3 : letB (s[0].toNat : Int)
      · rw [nameB_2 h0 h3]
        go_enter Tryz.func30, Tryz.ntmps30
        go_wp2_with (go_at_call 55; refine (bLetter_any _ _).mono ?_; rintro e w' ⟨rfl, rfl⟩)
        go_ret
        exact ⟨rfl, rfl⟩
      · have H3 := Lib.hid h3
        go_enter Tryz.func30, Tryz.ntmps30
        go_wp2_with (go_at_call 55; refine (bLetter_any _ _).mono ?_; rintro e w' ⟨rfl, rfl⟩)
        go_loop [3] (fun i => ∃ k : Nat, k ≤ s.size ∧ i = .int .i64 k ∧ (∀ j (hj : j < s.size), j < k → tailB (s[j].toNat : Int) = true) ∧ 1 ≤ k) (fun i => s.size - (intOf i).toNat)
        case atStart => exact ⟨1, by omega, rfl, tail_head h0 H3.out, Nat.le_refl _⟩
        case round =>
          obtain ⟨k, hk, rfl, hall, hk1⟩ := hrel
          have HA := Lib.hid hall
          clear hall
          by_cases hlt : k < s.size
          · cases hb : tailB (s[k].toNat : Int)
            · have N3 := Lib.hid (nameB_3 hlt hb)
              have hb' := hb
              simp only [tailB, Bool.or_eq_false_iff] at hb'
              obtain ⟨⟨b1, b2⟩, b3⟩ := hb'
              have b3' : ((s[k].toNat : Int) != 45) = true := by simpa using b3
              clear hb
              go_wp2_with (first
                | (go_at_call 55; refine (bLetter_any _ _).mono ?_; rintro e w' ⟨rfl, rfl⟩)
                | (go_at_call 56; refine (bDigit_any _ _).mono ?_; rintro e w' ⟨rfl, rfl⟩))
              go_ret
              exact ⟨by rw [N3.out]; rfl, rfl⟩
            · have HB := Lib.hid hb
              clear hb
              have ext : ∀ j (hj : j < s.size), j < k + 1 → tailB (s[j].toNat : Int) = true := by
                intro j hj hjk
                by_cases e : j = k
                · subst e; exact HB.out
                · exact HA.out j hj (by omega)
              have EX := Lib.hid ext
              clear ext
              cases b1 : letB (s[k].toNat : Int)
              · cases b2 : digB (s[k].toNat : Int)
                · have b3 : ((s[k].toNat : Int) != 45) = false := by
                    have := HB.out; simp only [tailB, b1, b2, Bool.false_or] at this; simpa using this
                  go_wp2_with (first
                    | (go_at_call 55; refine (bLetter_any _ _).mono ?_; rintro e w' ⟨rfl, rfl⟩)
                    | (go_at_call 56; refine (bDigit_any _ _).mono ?_; rintro e w' ⟨rfl, rfl⟩))
                  go_round
                  case rel => exact ⟨k + 1, by omega, by go_num, EX.out, by omega⟩
                  case measure => simp [intOf]; omega
                · go_wp2_with (first
                    | (go_at_call 55; refine (bLetter_any _ _).mono ?_; rintro e w' ⟨rfl, rfl⟩)
                    | (go_at_call 56; refine (bDigit_any _ _).mono ?_; rintro e w' ⟨rfl, rfl⟩))
                  go_round
                  case rel => exact ⟨k + 1, by omega, by go_num, EX.out, by omega⟩
                  case measure => simp [intOf]; omega
              · go_wp2_with (first
                  | (go_at_call 55; refine (bLetter_any _ _).mono ?_; rintro e w' ⟨rfl, rfl⟩)
                  | (go_at_call 56; refine (bDigit_any _ _).mono ?_; rintro e w' ⟨rfl, rfl⟩))
                go_round
                case rel => exact ⟨k + 1, by omega, by go_num, EX.out, by omega⟩
                case measure => simp [intOf]; omega
          · go_wp2
            go_ret
            exact ⟨by rw [nameB_4 (by omega) (by omega) H3.out (fun j hj => HA.out j hj (by omega))]; rfl, rfl⟩
theorem pvE_1 {p : Pv} (h : nameB p.name = false) : pvE p = 4 := by simp [pvE, feE, eI, h]
theorem pvE_2 {p : Pv} (h : nameB p.name = true) (h2 : inB p.value (-1000000000) 1000000000 = false ∨ inB p.from' 0 200000 = false ∨ inB p.entered 0 200000 = false) : pvE p = 2 := by
  rcases h2 with h2 | h2 | h2
  · simp [pvE, feE, eI, h, h2]
  · cases h3 : inB p.value (-1000000000) 1000000000 <;> simp [pvE, feE, eI, h, h2, h3, cdE]
  · cases h3 : inB p.value (-1000000000) 1000000000 <;> simp [pvE, feE, eI, h, h2, h3, cdE]
theorem pvE_3 {p : Pv} (h : nameB p.name = true) (h1 : inB p.value (-1000000000) 1000000000 = true) (h2 : inB p.from' 0 200000 = true) (h3 : inB p.entered 0 200000 = true) : pvE p = eI (p.repeal && p.value != 0) 3 := by
  unfold pvE
  rw [h, h1, cdE_2 h2 h3]
  cases (p.repeal && p.value != 0) <;> rfl
set_option maxRecDepth 100000 in
set_option maxHeartbeats 1000000 in
theorem xProvisionErr_any (p : Pv) (w : World) (hs : p.name.size ≤ maxLen) : Calls Tryz.prog 10 #[p.val] w (RetB (.int .i64 (pvE p)) w) := by
  obtain ⟨nm, v, fr, en, rp⟩ := p
  simp only [Pv.val]
  simp only at hs
  cases h : nameB nm
  · rw [pvE_1 h]
    go_enter Tryz.func10, Tryz.ntmps10
    go_wp2_with (go_at_call 30; refine (bIsName_any _ _ hs).mono ?_; rintro e w' ⟨rfl, rfl⟩)
    go_ret
    exact ⟨rfl, (Below.refl _ _).alloc (Nat.le_refl _) _⟩
  · cases h1 : inB v (-1000000000) 1000000000
    · rw [pvE_2 h (Or.inl h1)]
      go_enter Tryz.func10, Tryz.ntmps10
      go_wp2_with (first
        | (go_at_call 30; refine (bIsName_any _ _ hs).mono ?_; rintro e w' ⟨rfl, rfl⟩)
        | (go_at_call 31; refine (bWithin_any _ _ _ _).mono ?_; rintro e w' ⟨rfl, rfl⟩)
        | (go_at_call 32; refine (xIsDay_any _ _).mono ?_; rintro e w' ⟨rfl, rfl⟩))
      go_ret
      exact ⟨rfl, (Below.refl _ _).alloc (Nat.le_refl _) _⟩
    · cases h2 : inB fr 0 200000
      · rw [pvE_2 h (Or.inr (Or.inl h2))]
        go_enter Tryz.func10, Tryz.ntmps10
        go_wp2_with (first
          | (go_at_call 30; refine (bIsName_any _ _ hs).mono ?_; rintro e w' ⟨rfl, rfl⟩)
          | (go_at_call 31; refine (bWithin_any _ _ _ _).mono ?_; rintro e w' ⟨rfl, rfl⟩)
          | (go_at_call 32; refine (xIsDay_any _ _).mono ?_; rintro e w' ⟨rfl, rfl⟩))
        go_ret
        exact ⟨rfl, (Below.refl _ _).alloc (Nat.le_refl _) _⟩
      · cases h3 : inB en 0 200000
        · rw [pvE_2 h (Or.inr (Or.inr h3))]
          go_enter Tryz.func10, Tryz.ntmps10
          go_wp2_with (first
            | (go_at_call 30; refine (bIsName_any _ _ hs).mono ?_; rintro e w' ⟨rfl, rfl⟩)
            | (go_at_call 31; refine (bWithin_any _ _ _ _).mono ?_; rintro e w' ⟨rfl, rfl⟩)
            | (go_at_call 32; refine (xIsDay_any _ _).mono ?_; rintro e w' ⟨rfl, rfl⟩))
          go_ret
          exact ⟨rfl, (Below.refl _ _).alloc (Nat.le_refl _) _⟩
        · rw [pvE_3 h h1 h2 h3]
          simp only
          cases rp
          · rw [Bool.false_and, eI_f]
            go_enter Tryz.func10, Tryz.ntmps10
            go_wp2_with (first
              | (go_at_call 30; refine (bIsName_any _ _ hs).mono ?_; rintro e w' ⟨rfl, rfl⟩)
              | (go_at_call 31; refine (bWithin_any _ _ _ _).mono ?_; rintro e w' ⟨rfl, rfl⟩)
              | (go_at_call 32; refine (xIsDay_any _ _).mono ?_; rintro e w' ⟨rfl, rfl⟩))
            go_ret
            exact ⟨rfl, (Below.refl _ _).alloc (Nat.le_refl _) _⟩
          · rw [Bool.true_and]
            cases hv : (v != 0)
            · rw [eI_f]
              go_enter Tryz.func10, Tryz.ntmps10
              go_wp2_with (first
                | (go_at_call 30; refine (bIsName_any _ _ hs).mono ?_; rintro e w' ⟨rfl, rfl⟩)
                | (go_at_call 31; refine (bWithin_any _ _ _ _).mono ?_; rintro e w' ⟨rfl, rfl⟩)
                | (go_at_call 32; refine (xIsDay_any _ _).mono ?_; rintro e w' ⟨rfl, rfl⟩))
              go_ret
              exact ⟨rfl, (Below.refl _ _).alloc (Nat.le_refl _) _⟩
            · rw [eI_t]
              go_enter Tryz.func10, Tryz.ntmps10
              go_wp2_with (first
                | (go_at_call 30; refine (bIsName_any _ _ hs).mono ?_; rintro e w' ⟨rfl, rfl⟩)
                | (go_at_call 31; refine (bWithin_any _ _ _ _).mono ?_; rintro e w' ⟨rfl, rfl⟩)
                | (go_at_call 32; refine (xIsDay_any _ _).mono ?_; rintro e w' ⟨rfl, rfl⟩))
              go_ret
              exact ⟨rfl, (Below.refl _ _).alloc (Nat.le_refl _) _⟩
end Go.Proofs.YtpfekgmimfkjcaaGreatDoor
