/-
  What Is, anyOf and HolidaysOf of the specification of package rule return: contracts, each for all worlds in which the list lies.
-/
import Derived.Test.YtfphedcgmaakjaaHdOf
import Derived.Test.YtfphedcgmaakjaaRefHols
namespace Go.Proofs.Ytfphedcgmaakjaa
open Go.RowKit
attribute [local go_sem] set_drewN
theorem ibeq (a b : Int) : (a == b) = decide (a = b) := by by_cases h : a = b <;> simp [h]
/-- a day with its date is a holiday -/
def isC (h : Hd) (n Y M D : Int) : Bool :=
  if h.kind = 0 then decide (M = h.month) && decide (D = h.day)
  else if h.kind = 1 then decide (n = est Y + h.day)
  else (decide (M = h.month) && decide ((n + 2) % 7 = h.weekday)) && (if h.day < 0 then decide (Cal.md Y M < D + 7) else decide ((D - 1) / 7 = h.day - 1))
theorem isB_C (h : Hd) (n : Int) : isB h n = isC h n (Cal.yr n) (Cal.mo n) (Cal.da n) := rfl
set_option maxRecDepth 100000 in
set_option maxHeartbeats 1000000 in
theorem xIs_0 (nm : ByteArray) (mo dy wd n Y M D : Int) (w : World) (hD : Hid (∀ W, Calls Try.prog 24 #[.int .i64 n] W (RetB (dateV Y M D) W))) :
    Calls Try.prog 105 #[.agg #[.string nm, .int .i64 0, .int .i64 mo, .int .i64 dy, .int .i64 wd], .int .i64 n] w (RetB (.bool ((M == mo) && (D == dy))) w) := by
  cases h1 : (M == mo)
  · rw [Bool.false_and]
    go_enter Try.func105, Try.ntmps105
    go_wp2_with fail
    refine (hD.out _).mono ?_
    rintro e w1 ⟨rfl, hb1⟩
    have k1 := Lib.cell?_alloc_some (.cells #[.int .i64 Y, .int .i64 M, .int .i64 D] 23) ((hb1.cell (p := ⟨w.heap.size, 1, none⟩) (by simp)).trans (show _ = some (.int .i64 0) by simp [go_sem]))
    have k2 := Lib.cell?_alloc_some (.cells #[.int .i64 Y, .int .i64 M, .int .i64 D] 23) ((hb1.cell (p := ⟨w.heap.size, 2, none⟩) (by simp)).trans (show _ = some (.int .i64 mo) by simp [go_sem]))
    have s1 := hb1.size
    simp only [World.size_alloc] at s1
    go_wp2
    go_ret
    exact ⟨rfl, (((Below.refl _ _).alloc (Nat.le_refl _) _).trans (hb1.mono (by simp))).alloc (by omega) _⟩
  · rw [Bool.true_and]
    cases h2 : (D == dy)
    all_goals
      go_enter Try.func105, Try.ntmps105
      go_wp2_with fail
      refine (hD.out _).mono ?_
      rintro e w1 ⟨rfl, hb1⟩
      have k1 := Lib.cell?_alloc_some (.cells #[.int .i64 Y, .int .i64 M, .int .i64 D] 23) ((hb1.cell (p := ⟨w.heap.size, 1, none⟩) (by simp)).trans (show _ = some (.int .i64 0) by simp [go_sem]))
      have k2 := Lib.cell?_alloc_some (.cells #[.int .i64 Y, .int .i64 M, .int .i64 D] 23) ((hb1.cell (p := ⟨w.heap.size, 2, none⟩) (by simp)).trans (show _ = some (.int .i64 mo) by simp [go_sem]))
      have k3 := Lib.cell?_alloc_some (.cells #[.int .i64 Y, .int .i64 M, .int .i64 D] 23) ((hb1.cell (p := ⟨w.heap.size, 3, none⟩) (by simp)).trans (show _ = some (.int .i64 dy) by simp [go_sem]))
      have s1 := hb1.size
      simp only [World.size_alloc] at s1
      go_wp2
      go_ret
      exact ⟨rfl, (((Below.refl _ _).alloc (Nat.le_refl _) _).trans (hb1.mono (by simp))).alloc (by omega) _⟩
set_option maxRecDepth 100000 in
set_option maxHeartbeats 1000000 in
theorem xIs_1 (nm : ByteArray) (mo dy wd n Y M D : Int) (w : World) (hD : Hid (∀ W, Calls Try.prog 24 #[.int .i64 n] W (RetB (dateV Y M D) W))) (h0 : 1800 ≤ Y) (h9 : Y ≤ 2347) (d1 : -80 ≤ dy) (d2 : dy ≤ 240) :
    Calls Try.prog 105 #[.agg #[.string nm, .int .i64 1, .int .i64 mo, .int .i64 dy, .int .i64 wd], .int .i64 n] w (RetB (.bool (n == est Y + dy)) w) := by
  obtain ⟨e0, e9⟩ := est_wide h0 h9
  go_enter Try.func105, Try.ntmps105
  go_wp2_with fail
  refine (hD.out _).mono ?_
  rintro e w1 ⟨rfl, hb1⟩
  have k1 := Lib.cell?_alloc_some (.cells #[.int .i64 Y, .int .i64 M, .int .i64 D] 23) ((hb1.cell (p := ⟨w.heap.size, 1, none⟩) (by simp)).trans (show _ = some (.int .i64 1) by simp [go_sem]))
  have k3 := Lib.cell?_alloc_some (.cells #[.int .i64 Y, .int .i64 M, .int .i64 D] 23) ((hb1.cell (p := ⟨w.heap.size, 3, none⟩) (by simp)).trans (show _ = some (.int .i64 dy) by simp [go_sem]))
  have s1 := hb1.size
  simp only [World.size_alloc] at s1
  go_wp2
  go_quiet (first
    | (go_at_call 32; exact quiet_left (xEaster_any _ _ (by omega) (by omega))))
  go_wp2
  go_ret
  exact ⟨rfl, below_n ((((Below.refl _ _).alloc (Nat.le_refl _) _).trans (hb1.mono (by simp))).alloc (by omega) _) _⟩
set_option maxRecDepth 100000 in
set_option maxHeartbeats 1000000 in
theorem xIs_2a (nm : ByteArray) (mo dy wd n Y M D : Int) (w : World) (hD : Hid (∀ W, Calls Try.prog 24 #[.int .i64 n] W (RetB (dateV Y M D) W))) (h1 : (M != mo) = true) :
    Calls Try.prog 105 #[.agg #[.string nm, .int .i64 2, .int .i64 mo, .int .i64 dy, .int .i64 wd], .int .i64 n] w (RetB (.bool false) w) := by
  go_enter Try.func105, Try.ntmps105
  go_wp2_with fail
  refine (hD.out _).mono ?_
  rintro e w1 ⟨rfl, hb1⟩
  have k1 := Lib.cell?_alloc_some (.cells #[.int .i64 Y, .int .i64 M, .int .i64 D] 23) ((hb1.cell (p := ⟨w.heap.size, 1, none⟩) (by simp)).trans (show _ = some (.int .i64 2) by simp [go_sem]))
  have k2 := Lib.cell?_alloc_some (.cells #[.int .i64 Y, .int .i64 M, .int .i64 D] 23) ((hb1.cell (p := ⟨w.heap.size, 2, none⟩) (by simp)).trans (show _ = some (.int .i64 mo) by simp [go_sem]))
  have s1 := hb1.size
  simp only [World.size_alloc] at s1
  go_wp2
  go_quiet (fail)
  go_wp2
  go_ret
  exact ⟨rfl, below_n ((((Below.refl _ _).alloc (Nat.le_refl _) _).trans (hb1.mono (by simp))).alloc (by omega) _) _⟩
set_option maxRecDepth 100000 in
set_option maxHeartbeats 1000000 in
theorem xIs_2b (nm : ByteArray) (mo dy wd n Y M D : Int) (w : World) (hD : Hid (∀ W, Calls Try.prog 24 #[.int .i64 n] W (RetB (dateV Y M D) W))) (h0 : 0 ≤ n) (h9 : n ≤ 1000000) (h1 : (M != mo) = false) (h2 : ((n + 2) % 7 != wd) = true) :
    Calls Try.prog 105 #[.agg #[.string nm, .int .i64 2, .int .i64 mo, .int .i64 dy, .int .i64 wd], .int .i64 n] w (RetB (.bool false) w) := by
  go_enter Try.func105, Try.ntmps105
  go_wp2_with fail
  refine (hD.out _).mono ?_
  rintro e w1 ⟨rfl, hb1⟩
  have k1 := Lib.cell?_alloc_some (.cells #[.int .i64 Y, .int .i64 M, .int .i64 D] 23) ((hb1.cell (p := ⟨w.heap.size, 1, none⟩) (by simp)).trans (show _ = some (.int .i64 2) by simp [go_sem]))
  have k2 := Lib.cell?_alloc_some (.cells #[.int .i64 Y, .int .i64 M, .int .i64 D] 23) ((hb1.cell (p := ⟨w.heap.size, 2, none⟩) (by simp)).trans (show _ = some (.int .i64 mo) by simp [go_sem]))
  have k4 := Lib.cell?_alloc_some (.cells #[.int .i64 Y, .int .i64 M, .int .i64 D] 23) ((hb1.cell (p := ⟨w.heap.size, 4, none⟩) (by simp)).trans (show _ = some (.int .i64 wd) by simp [go_sem]))
  have s1 := hb1.size
  simp only [World.size_alloc] at s1
  go_wp2
  go_quiet (first
    | (go_at_call 25; exact quiet_left (xWeekday_any _ _ (by omega) (by omega))))
  go_wp2
  go_ret
  exact ⟨rfl, below_n ((((Below.refl _ _).alloc (Nat.le_refl _) _).trans (hb1.mono (by simp))).alloc (by omega) _) _⟩
set_option maxRecDepth 100000 in
set_option maxHeartbeats 1000000 in
theorem xIs_2c (nm : ByteArray) (mo dy wd n Y M D : Int) (w : World) (hD : Hid (∀ W, Calls Try.prog 24 #[.int .i64 n] W (RetB (dateV Y M D) W))) (h0 : 0 ≤ n) (h9 : n ≤ 1000000) (y0 : 1800 ≤ Y) (y9 : Y ≤ 2347) (m1 : 1 ≤ M) (m12 : M ≤ 12) (dd1 : 1 ≤ D) (dd9 : D ≤ 31) (h1 : (M != mo) = false) (h2 : ((n + 2) % 7 != wd) = false) (hd : dy < 0) :
    Calls Try.prog 105 #[.agg #[.string nm, .int .i64 2, .int .i64 mo, .int .i64 dy, .int .i64 wd], .int .i64 n] w (RetB (.bool (decide (Cal.md Y M < D + 7))) w) := by
  go_enter Try.func105, Try.ntmps105
  go_wp2_with fail
  refine (hD.out _).mono ?_
  rintro e w1 ⟨rfl, hb1⟩
  have k1 := Lib.cell?_alloc_some (.cells #[.int .i64 Y, .int .i64 M, .int .i64 D] 23) ((hb1.cell (p := ⟨w.heap.size, 1, none⟩) (by simp)).trans (show _ = some (.int .i64 2) by simp [go_sem]))
  have k2 := Lib.cell?_alloc_some (.cells #[.int .i64 Y, .int .i64 M, .int .i64 D] 23) ((hb1.cell (p := ⟨w.heap.size, 2, none⟩) (by simp)).trans (show _ = some (.int .i64 mo) by simp [go_sem]))
  have k3 := Lib.cell?_alloc_some (.cells #[.int .i64 Y, .int .i64 M, .int .i64 D] 23) ((hb1.cell (p := ⟨w.heap.size, 3, none⟩) (by simp)).trans (show _ = some (.int .i64 dy) by simp [go_sem]))
  have k4 := Lib.cell?_alloc_some (.cells #[.int .i64 Y, .int .i64 M, .int .i64 D] 23) ((hb1.cell (p := ⟨w.heap.size, 4, none⟩) (by simp)).trans (show _ = some (.int .i64 wd) by simp [go_sem]))
  have s1 := hb1.size
  simp only [World.size_alloc] at s1
  go_wp2
  go_quiet (first
    | (go_at_call 25; exact quiet_left (xWeekday_any _ _ (by omega) (by omega))))
  go_wp2
  go_quiet (first
    | (go_at_call 22; exact quiet_add_left (xMonthDays_any _ _ _ (by omega) (by omega) (by omega) (by omega))))
  go_wp2
  go_ret
  exact ⟨rfl, below_n (below_n ((((Below.refl _ _).alloc (Nat.le_refl _) _).trans (hb1.mono (by simp))).alloc (by omega) _) _) _⟩
set_option maxRecDepth 100000 in
set_option maxHeartbeats 1000000 in
theorem xIs_2d (nm : ByteArray) (mo dy wd n Y M D : Int) (w : World) (hD : Hid (∀ W, Calls Try.prog 24 #[.int .i64 n] W (RetB (dateV Y M D) W))) (h0 : 0 ≤ n) (h9 : n ≤ 1000000) (dd1 : 1 ≤ D) (dd9 : D ≤ 31) (h1 : (M != mo) = false) (h2 : ((n + 2) % 7 != wd) = false) (hd : 1 ≤ dy) (hd4 : dy ≤ 4) :
    Calls Try.prog 105 #[.agg #[.string nm, .int .i64 2, .int .i64 mo, .int .i64 dy, .int .i64 wd], .int .i64 n] w (RetB (.bool ((D - 1) / 7 == dy - 1)) w) := by
  have hd0 : decide (dy < 0) = false := by simp; omega
  go_enter Try.func105, Try.ntmps105
  go_wp2_with fail
  refine (hD.out _).mono ?_
  rintro e w1 ⟨rfl, hb1⟩
  have k1 := Lib.cell?_alloc_some (.cells #[.int .i64 Y, .int .i64 M, .int .i64 D] 23) ((hb1.cell (p := ⟨w.heap.size, 1, none⟩) (by simp)).trans (show _ = some (.int .i64 2) by simp [go_sem]))
  have k2 := Lib.cell?_alloc_some (.cells #[.int .i64 Y, .int .i64 M, .int .i64 D] 23) ((hb1.cell (p := ⟨w.heap.size, 2, none⟩) (by simp)).trans (show _ = some (.int .i64 mo) by simp [go_sem]))
  have k3 := Lib.cell?_alloc_some (.cells #[.int .i64 Y, .int .i64 M, .int .i64 D] 23) ((hb1.cell (p := ⟨w.heap.size, 3, none⟩) (by simp)).trans (show _ = some (.int .i64 dy) by simp [go_sem]))
  have k4 := Lib.cell?_alloc_some (.cells #[.int .i64 Y, .int .i64 M, .int .i64 D] 23) ((hb1.cell (p := ⟨w.heap.size, 4, none⟩) (by simp)).trans (show _ = some (.int .i64 wd) by simp [go_sem]))
  have s1 := hb1.size
  simp only [World.size_alloc] at s1
  go_wp2
  go_quiet (first
    | (go_at_call 25; exact quiet_left (xWeekday_any _ _ (by omega) (by omega))))
  go_wp2
  go_ret
  exact ⟨rfl, below_n ((((Below.refl _ _).alloc (Nat.le_refl _) _).trans (hb1.mono (by simp))).alloc (by omega) _) _⟩
theorem xIs_any (h : Hd) (n : Int) (w : World) (hv : hkE h = 0) (h0 : 0 ≤ n) (h9 : n ≤ 200000) : Calls Try.prog 105 #[h.val, .int .i64 n] w (RetB (.bool (isB h n)) w) := by
  obtain ⟨y0, y9⟩ := yr_bd h0 h9
  obtain ⟨_, hok, _⟩ := Cal.date_spec n h0
  obtain ⟨m1, m12, dd1, dd9⟩ := hok
  have hmd := Cal.md_bd (Cal.yr n) (Cal.mo n)
  have hD := Lib.hid (fun W => xDateOf_any n W h0 (by omega))
  rw [isB_C]
  generalize Cal.yr n = Y at *
  generalize Cal.mo n = M at *
  generalize Cal.da n = D at *
  have hk := hk_facts hv
  obtain ⟨nm, kd, mo, dy, wd⟩ := h
  simp only at hk
  rcases hk with ⟨k, _⟩ | ⟨k, d1, d2⟩ | ⟨k, _, _, dd, _, _⟩
  · subst k
    have := xIs_0 nm mo dy wd n Y M D w hD
    simpa [isC, ibeq] using this
  · subst k
    have := xIs_1 nm mo dy wd n Y M D w hD y0 y9 d1 d2
    simpa [isC, ibeq] using this
  · subst k
    have e : isC ⟨nm, 2, mo, dy, wd⟩ n Y M D = (decide (M = mo) && decide ((n + 2) % 7 = wd) && (if dy < 0 then decide (Cal.md Y M < D + 7) else decide ((D - 1) / 7 = dy - 1))) := by simp [isC]
    rw [e]
    cases g1 : (M != mo)
    · have g1' : M = mo := by simpa using g1
      cases g2 : ((n + 2) % 7 != wd)
      · have g2' : (n + 2) % 7 = wd := by simpa using g2
        rw [decide_eq_true g1', decide_eq_true g2', Bool.true_and, Bool.true_and]
        by_cases gd : dy < 0
        · rw [if_pos gd]
          exact xIs_2c nm mo dy wd n Y M D w hD h0 (by omega) y0 y9 m1 m12 dd1 (by omega) g1 g2 gd
        · rw [if_neg gd]
          have := xIs_2d nm mo dy wd n Y M D w hD h0 (by omega) dd1 (by omega) g1 g2 (by omega) (by omega)
          simpa [ibeq] using this
      · have g2' : ¬ (n + 2) % 7 = wd := by simpa using g2
        rw [decide_eq_false g2', Bool.and_false, Bool.false_and]
        exact xIs_2b nm mo dy wd n Y M D w hD h0 (by omega) g1 g2
    · have g1' : ¬ M = mo := by simpa using g1
      rw [decide_eq_false g1', Bool.false_and, Bool.false_and]
      exact xIs_2a nm mo dy wd n Y M D w hD g1
end Go.Proofs.Ytfphedcgmaakjaa
