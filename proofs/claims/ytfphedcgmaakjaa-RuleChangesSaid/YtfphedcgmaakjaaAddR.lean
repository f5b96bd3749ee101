/-
  What AddMonths of package rule returns: contracts, each for all worlds.
-/
import Derived.Test.YtfphedcgmaakjaaAddM
namespace Go.Proofs.Ytfphedcgmaakjaa
open Go.RowKit
attribute [local go_sem] set_drewN
theorem cdE_1 {n : Int} (h : inB n 0 200000 = true) : cdE [n] = 0 := by simp [cdE, h]
theorem cdE_1n {n : Int} (h : inB n 0 200000 = false) : cdE [n] = 2 := by simp [cdE, h]
theorem cdE_2 {n m : Int} (h : inB n 0 200000 = true) (h2 : inB m 0 200000 = true) : cdE [n, m] = 0 := by simp [cdE, h, h2]
theorem cdE_2n {n m : Int} (h : inB n 0 200000 = false ∨ inB m 0 200000 = false) : cdE [n, m] = 2 := by
  rcases h with h | h <;> simp [cdE, h]
/-- checkDays of one day, or of two, in a block of their own -/
theorem check1 (n : Int) (b cap : Nat) (w : World) (h : w.cell? ⟨b, 0, none⟩ = some (.int .i64 n)) :
    Calls Try.prog 69 #[.slice (some ⟨b, 0, none⟩) 1 cap] w (Ret (.int .i64 (cdE [n])) w) :=
  checkDays_any [n] b 0 cap w (by simp) (IntsAt.one h)
theorem check2 (n m : Int) (b cap : Nat) (w : World) (h : w.cell? ⟨b, 0, none⟩ = some (.int .i64 n)) (h2 : w.cell? ⟨b, 1, none⟩ = some (.int .i64 m)) :
    Calls Try.prog 69 #[.slice (some ⟨b, 0, none⟩) 2 cap] w (Ret (.int .i64 (cdE [n, m])) w) :=
  checkDays_any [n, m] b 0 cap w (by simp) (IntsAt.cons h (IntsAt.one h2))
set_option maxHeartbeats 400000 in
theorem addMonths_yes (n k : Int) (w : World) (h0 : 0 ≤ n) (h9 : n ≤ 200000) (hk1 : -12000 ≤ k) (hk2 : k ≤ 12000) (hl : inB (mlt n k) 0 200000 = true) :
    Calls Try.prog 26 #[.int .i64 n, .int .i64 k] w (RetB (two (.int .i64 (mlt n k)) (.int .i64 0)) w) := by
  have e1 := cdE_1 (inB_yes h0 h9)
  have e2 : inB k (-12000) 12000 = true := inB_yes hk1 hk2
  have ml := fun w => monthsLater_any n k w h0 (by omega) (by omega) (by omega)
  generalize mlt n k = r at *
  have ML := Lib.hid ml
  clear ml
  go_enter Try.func26, Try.ntmps26
  go_wp2_with (first
    | (go_at_call 69; refine (check1 n _ _ _ (by simp [go_sem])).mono ?_; rintro e w' ⟨rfl, rfl⟩)
    | (go_at_call 64; refine (isFromTo_any _ _ _ _).mono ?_; rintro e w' ⟨rfl, rfl⟩)
    | (go_at_call 68; refine (isDay_any _ _).mono ?_; rintro e w' ⟨rfl, rfl⟩)
    | (go_at_call 74; refine (ML.out _).mono ?_; rintro e w1 ⟨rfl, hb1⟩))
  go_ret2
  exact ⟨rfl, ((Below.refl _ _).alloc (Nat.le_refl _) _).trans (hb1.mono (by simp))⟩
theorem addMonths_no (n k : Int) (w : World) (h : inB n 0 200000 = false ∨ inB k (-12000) 12000 = false ∨ inB (mlt n k) 0 200000 = false) :
    Calls Try.prog 26 #[.int .i64 n, .int .i64 k] w (RetB (two (.int .i64 0) (.int .i64 2)) w) := by
  cases hn : inB n 0 200000
  · have e1 := cdE_1n hn
    clear h
    go_enter Try.func26, Try.ntmps26
    go_wp2_with (go_at_call 69; refine (check1 n _ _ _ (by simp [go_sem])).mono ?_; rintro e w' ⟨rfl, rfl⟩)
    go_ret2
    exact ⟨rfl, (Below.refl _ _).alloc (Nat.le_refl _) _⟩
  · have e1 := cdE_1 hn
    obtain ⟨h0, h9⟩ := inB_iff.1 hn
    cases hk : inB k (-12000) 12000
    · clear h
      go_enter Try.func26, Try.ntmps26
      go_wp2_with (first
        | (go_at_call 69; refine (check1 n _ _ _ (by simp [go_sem])).mono ?_; rintro e w' ⟨rfl, rfl⟩)
        | (go_at_call 64; refine (isFromTo_any _ _ _ _).mono ?_; rintro e w' ⟨rfl, rfl⟩))
      go_ret2
      exact ⟨rfl, (Below.refl _ _).alloc (Nat.le_refl _) _⟩
    · obtain ⟨hk1, hk2⟩ := inB_iff.1 hk
      have hl : inB (mlt n k) 0 200000 = false := by simpa [hn, hk] using h
      clear h
      have ml := fun w => monthsLater_any n k w h0 (by omega) (by omega) (by omega)
      generalize mlt n k = r at *
      have ML := Lib.hid ml
      clear ml
      go_enter Try.func26, Try.ntmps26
      go_wp2_with (first
        | (go_at_call 69; refine (check1 n _ _ _ (by simp [go_sem])).mono ?_; rintro e w' ⟨rfl, rfl⟩)
        | (go_at_call 64; refine (isFromTo_any _ _ _ _).mono ?_; rintro e w' ⟨rfl, rfl⟩)
        | (go_at_call 68; refine (isDay_any _ _).mono ?_; rintro e w' ⟨rfl, rfl⟩)
        | (go_at_call 74; refine (ML.out _).mono ?_; rintro e w1 ⟨rfl, hb1⟩))
      go_ret2
      exact ⟨rfl, ((Below.refl _ _).alloc (Nat.le_refl _) _).trans (hb1.mono (by simp))⟩
end Go.Proofs.Ytfphedcgmaakjaa
