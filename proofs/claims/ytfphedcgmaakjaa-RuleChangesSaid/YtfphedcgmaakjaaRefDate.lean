/-
  What DateOf of the specification of package rule returns: the date of a day, for days from 0 to 1000000; a contract for all worlds.
-/
import Derived.Test.YtfphedcgmaakjaaDateOf
namespace Go.Proofs.Ytfphedcgmaakjaa
open Go.RowKit
attribute [local go_sem] set_drewN
theorem First_1 (y : Int) (w : World) (h0 : 1 ≤ y) (h9 : y ≤ 10000) : Calls Try.prog 72 #[.int .i64 y, .int .i64 1] w (Ret (.int .i64 (Cal.ny y)) w) := by
  have h := First_any y 1 w h0 h9 (by omega) (by omega)
  rwa [Cal.cum_1, Int.add_zero] at h
abbrev z3 : Value → Value → Value → Obj := fun a b c => Obj.cells #[a, b, c] 23
set_option maxRecDepth 100000 in
set_option maxHeartbeats 1000000 in
theorem xDateOf_any (n : Int) (w : World) (h0 : 0 ≤ n) (h9 : n ≤ 1000000) :
    Calls Try.prog 24 #[.int .i64 n] w (RetB (dateV (Cal.yr n) (Cal.mo n) (Cal.da n)) w) := by
  have g0 := Cal.ny_guess n h0
  go_enter Try.func24, Try.ntmps24
  go_wp2
  go_loopg [] (9000 - (1800 + n / 366)).toNat (fun k wr => ∃ y : Int, 1800 ≤ y ∧ y ≤ 9000 ∧ Cal.ny y ≤ n ∧ k = (9000 - y).toNat ∧ wr = (w.alloc (z3 (.int .i64 0) (.int .i64 0) (.int .i64 0))).alloc (z3 (.int .i64 y) (.int .i64 1) (.int .i64 0)))
  case atStart =>
    exact ⟨1800 + n / 366, by omega, by omega, g0, rfl, rfl⟩
  case round =>
    obtain ⟨y, hy1, hy2, hy3, rfl, rfl⟩ := hrel
    clear g0
    have lo := Cal.ny_lo y
    have b := ny_bd2 y (by omega) (by omega)
    by_cases hd : Cal.ny (y + 1) ≤ n
    · have lo2 := Cal.ny_lo (y + 1)
      have hy4 : y + 1 ≤ 9000 := by omega
      clear lo lo2
      go_wp2_with (go_at_call 72; refine (First_1 _ _ (by omega) (by omega)).mono ?_; rintro e w' ⟨rfl, rfl⟩)
      go_roundg (9000 - (y + 1)).toNat
      case measure => omega
      case rel => exact ⟨y + 1, by omega, by omega, hd, rfl, rfl⟩
    · have hd' : n < Cal.ny (y + 1) := by omega
      clear hd lo
      go_wp2_with (go_at_call 72; refine (First_1 _ _ (by omega) (by omega)).mono ?_; rintro e w' ⟨rfl, rfl⟩)
      have hd' := Lib.hid hd'
      go_loopg [] 11 (fun k wr => ∃ m : Int, 1 ≤ m ∧ m ≤ 12 ∧ Cal.cum y m ≤ n - Cal.ny y ∧ k = (12 - m).toNat ∧ wr = (w.alloc (z3 (.int .i64 0) (.int .i64 0) (.int .i64 0))).alloc (z3 (.int .i64 y) (.int .i64 m) (.int .i64 0)))
      case atStart => exact ⟨1, by omega, by omega, by rw [Cal.cum_1]; omega, by decide, rfl⟩
      case round =>
        obtain ⟨m, hm1, hm2, hm3, rfl, rfl⟩ := hrel
        have cb := Cal.cum_bd y m hm1 (by omega)
        have cb1 := Cal.cum_bd y (m + 1) (by omega) (by omega)
        have mb := Cal.md_bd y m
        have cs := Lib.hid (Cal.cum_succ y m hm1 hm2)
        have fin : n < Cal.ny y + Cal.cum y (m + 1) → Cal.ok y m (n - (Cal.ny y + Cal.cum y m) + 1) := fun h => ⟨hm1, hm2, by omega, by have := cs.out; omega⟩
        have last : m = 12 → n < Cal.ny y + Cal.cum y (m + 1) := fun e => by
          subst e; have := hd'.out; have := Cal.ny_succ y; have h13 := Cal.cum_13 y; rw [show (12 : Int) + 1 = 13 from rfl]; omega
        have fin := Lib.hid fin
        have last := Lib.hid last
        by_cases h12 : m < 12
        · have h12b : decide (m < 12) = true := by simpa using h12
          by_cases ht : Cal.ny y + Cal.cum y (m + 1) ≤ n
          · go_wp2_with (go_at_call 72; refine (First_any _ _ _ (by omega) (by omega) (by omega) (by omega)).mono ?_; rintro e w' ⟨rfl, rfl⟩)
            go_roundg (12 - (m + 1)).toNat
            case measure => omega
            case rel => exact ⟨m + 1, by omega, by omega, by omega, rfl, rfl⟩
          · go_wp2_with (go_at_call 72; refine (First_any _ _ _ (by omega) (by omega) (by omega) (by omega)).mono ?_; rintro e w' ⟨rfl, rfl⟩)
            have hk := fin.out (by omega)
            obtain ⟨e1, e2, e3⟩ := Cal.date_uniq h0 hk (by unfold Cal.num; omega)
            rw [← e1, ← e2, ← e3]
            exact bodyPost_ret (v := dateV y m (n - (Cal.ny y + Cal.cum y m) + 1)) (by simp [results, Try.results24, go_sem]) rfl ⟨rfl, ((Below.refl _ _).alloc (Nat.le_refl _) _).alloc (by simp) _⟩
        · have h12b : decide (m < 12) = false := by simpa using h12
          go_wp2_with (go_at_call 72; refine (First_any _ _ _ (by omega) (by omega) (by omega) (by omega)).mono ?_; rintro e w' ⟨rfl, rfl⟩)
          have hk := fin.out (last.out (by omega))
          obtain ⟨e1, e2, e3⟩ := Cal.date_uniq h0 hk (by unfold Cal.num; omega)
          rw [← e1, ← e2, ← e3]
          exact bodyPost_ret (v := dateV y m (n - (Cal.ny y + Cal.cum y m) + 1)) (by simp [results, Try.results24, go_sem]) rfl ⟨rfl, ((Below.refl _ _).alloc (Nat.le_refl _) _).alloc (by simp) _⟩
end Go.Proofs.Ytfphedcgmaakjaa
