/-
  What daysFrom and weekdayOf of package rule return: contracts, each for all worlds.
-/
import Derived.Test.YtfphedcgmaakjabHmath
namespace Go.Proofs.Ytfphedcgmaakjab
open Go.RowKit
attribute [local go_sem] set_drewN
theorem daysFrom_any (a b : Int) (w : World) (ha : 0 ≤ a) (ha6 : a ≤ 6) (hb : 0 ≤ b) (hb6 : b ≤ 6) :
    Calls Try.prog 59 #[.int .i64 a, .int .i64 b] w (Ret (.int .i64 ((b - a + 7) % 7)) w) := by
  go_enter Try.func59, Try.ntmps59
  go_wp2
  go_ret
  exact ⟨rfl, rfl⟩
theorem num_bd {y m : Int} (h0 : 1800 ≤ y) (h9 : y ≤ 2347) (h1 : 1 ≤ m) (h12 : m ≤ 12) : 0 ≤ Cal.num y m 1 ∧ Cal.num y m 1 + Cal.md y m ≤ 200152 ∧ 28 ≤ Cal.md y m ∧ Cal.md y m ≤ 31 := by
  have b := Cal.md_bd y m
  have a := Cal.ok_in _ _ _ (show Cal.ok y m 1 from ⟨h1, h12, by omega, by omega⟩)
  have c := Cal.ok_in _ _ _ (show Cal.ok y m (Cal.md y m) from ⟨h1, h12, by omega, by omega⟩)
  have d := ny_0 h0
  have e := Cal.ny_mono (y + 1) 2348 (by omega)
  have f : Cal.ny 2348 = 200152 := by decide +kernel
  rw [num_first] at c
  omega
set_option maxRecDepth 100000 in
set_option maxHeartbeats 1000000 in
theorem weekdayOf_last (nm : ByteArray) (mo wd y : Int) (w : World) (h0 : 1800 ≤ y) (h9 : y ≤ 2347) (h1 : 1 ≤ mo) (h12 : mo ≤ 12) (w0 : 0 ≤ wd) (w6 : wd ≤ 6) :
    Calls Try.prog 50 #[.agg #[.string nm, .int .i64 2, .int .i64 mo, .int .i64 (-1), .int .i64 wd], .int .i64 y] w (RetB (.int .i64 (wkd ⟨nm, 2, mo, -1, wd⟩ y)) w) := by
  obtain ⟨n0, n9, m0, m9⟩ := num_bd h0 h9 h1 h12
  have e : wkd ⟨nm, 2, mo, -1, wd⟩ y = Cal.num y mo 1 + Cal.md y mo - 1 - ((Cal.num y mo 1 + Cal.md y mo - 1 + 2) % 7 - wd + 7) % 7 := by
    unfold wkd; rw [if_pos rfl]; simp only; rw [num_first]
  rw [e]
  clear e
  go_enter Try.func50, Try.ntmps50
  go_wp2_with fail
  refine (dayOf_any _ _ _ _ (by omega) (by omega) (by omega) (by omega) (by omega) (by omega)).mono ?_
  rintro e w1 ⟨rfl, hb1⟩
  have k0 : w1.cell? ⟨w.heap.size, 0, none⟩ = some (.string nm) := (hb1.cell (p := ⟨w.heap.size, 0, none⟩) (by simp)).trans (by simp [go_sem])
  have k1 : w1.cell? ⟨w.heap.size, 1, none⟩ = some (.int .i64 2) := (hb1.cell (p := ⟨w.heap.size, 1, none⟩) (by simp)).trans (by simp [go_sem])
  have k2 : w1.cell? ⟨w.heap.size, 2, none⟩ = some (.int .i64 mo) := (hb1.cell (p := ⟨w.heap.size, 2, none⟩) (by simp)).trans (by simp [go_sem])
  have k3 : w1.cell? ⟨w.heap.size, 3, none⟩ = some (.int .i64 (-1)) := (hb1.cell (p := ⟨w.heap.size, 3, none⟩) (by simp)).trans (by simp [go_sem])
  have k4 : w1.cell? ⟨w.heap.size, 4, none⟩ = some (.int .i64 wd) := (hb1.cell (p := ⟨w.heap.size, 4, none⟩) (by simp)).trans (by simp [go_sem])
  generalize Cal.num y mo 1 = F at *
  go_wp2_with (go_at_call 30; refine (monthDays_any _ _ _ (by omega) (by omega)).mono ?_; rintro e w' ⟨rfl, rfl⟩)
  generalize Cal.md y mo = M at *
  go_quiet (first
    | (go_at_call 42; exact quiet_left (weekday_any _ _ (by omega) (by omega)))
    | (go_at_call 59; exact quiet_left (daysFrom_any _ _ _ (by omega) (by omega) (by omega) (by omega))))
  go_wp2
  go_ret
  exact ⟨ret_i (a := F + M - 1 - (F + M - 1 + 2 - wd) % 7) (by omega), below_n (((Below.refl _ _).alloc (Nat.le_refl _) _).trans (hb1.mono (by simp))) _⟩
set_option maxRecDepth 100000 in
set_option maxHeartbeats 1000000 in
theorem weekdayOf_nth (nm : ByteArray) (mo dy wd y : Int) (w : World) (h0 : 1800 ≤ y) (h9 : y ≤ 2347) (h1 : 1 ≤ mo) (h12 : mo ≤ 12) (d1 : 1 ≤ dy) (d4 : dy ≤ 4) (w0 : 0 ≤ wd) (w6 : wd ≤ 6) :
    Calls Try.prog 50 #[.agg #[.string nm, .int .i64 2, .int .i64 mo, .int .i64 dy, .int .i64 wd], .int .i64 y] w (RetB (.int .i64 (wkd ⟨nm, 2, mo, dy, wd⟩ y)) w) := by
  obtain ⟨n0, n9, m0, m9⟩ := num_bd h0 h9 h1 h12
  have e : wkd ⟨nm, 2, mo, dy, wd⟩ y = Cal.num y mo 1 + (wd - (Cal.num y mo 1 + 2) % 7 + 7) % 7 + (dy - 1) * 7 := by
    unfold wkd; rw [if_neg (by simp only; omega)]
  rw [e]
  clear e
  have hne : (dy == -1) = false := by rw [beq_eq_false_iff_ne]; omega
  go_enter Try.func50, Try.ntmps50
  go_wp2_with fail
  refine (dayOf_any _ _ _ _ (by omega) (by omega) (by omega) (by omega) (by omega) (by omega)).mono ?_
  rintro e w1 ⟨rfl, hb1⟩
  have k0 : w1.cell? ⟨w.heap.size, 0, none⟩ = some (.string nm) := (hb1.cell (p := ⟨w.heap.size, 0, none⟩) (by simp)).trans (by simp [go_sem])
  have k1 : w1.cell? ⟨w.heap.size, 1, none⟩ = some (.int .i64 2) := (hb1.cell (p := ⟨w.heap.size, 1, none⟩) (by simp)).trans (by simp [go_sem])
  have k2 : w1.cell? ⟨w.heap.size, 2, none⟩ = some (.int .i64 mo) := (hb1.cell (p := ⟨w.heap.size, 2, none⟩) (by simp)).trans (by simp [go_sem])
  have k3 : w1.cell? ⟨w.heap.size, 3, none⟩ = some (.int .i64 dy) := (hb1.cell (p := ⟨w.heap.size, 3, none⟩) (by simp)).trans (by simp [go_sem])
  have k4 : w1.cell? ⟨w.heap.size, 4, none⟩ = some (.int .i64 wd) := (hb1.cell (p := ⟨w.heap.size, 4, none⟩) (by simp)).trans (by simp [go_sem])
  generalize Cal.num y mo 1 = F at *
  go_wp2
  go_quiet (first
    | (go_at_call 42; exact quiet_left (weekday_any _ _ (by omega) (by omega)))
    | (go_at_call 59; exact quiet_left (daysFrom_any _ _ _ (by omega) (by omega) (by omega) (by omega))))
  go_wp2
  go_ret
  exact ⟨ret_i (a := F + (wd - (F + 2)) % 7 + (dy - 1) * 7) (by omega), below_n (((Below.refl _ _).alloc (Nat.le_refl _) _).trans (hb1.mono (by simp))) _⟩
theorem weekdayOf_any (h : Hd) (y : Int) (w : World) (h0 : 1800 ≤ y) (h9 : y ≤ 2347) (hv : hkE h = 0) (hk : h.kind = 2) : Calls Try.prog 50 #[h.val, .int .i64 y] w (RetB (.int .i64 (wkd h y)) w) := by
  rcases hk_facts hv with ⟨k, _⟩ | ⟨k, _⟩ | ⟨_, m1, m2, dd, w1, w2⟩
  · omega
  · omega
  · obtain ⟨nm, kd, mo, dy, wd⟩ := h
    simp only at hk m1 m2 dd w1 w2
    subst hk
    rcases dd with ⟨d1, d2⟩ | dd
    · exact weekdayOf_nth nm mo dy wd y w h0 h9 m1 m2 d1 d2 w1 w2
    · subst dd; exact weekdayOf_last nm mo wd y w h0 h9 m1 m2 w1 w2
end Go.Proofs.Ytfphedcgmaakjab
