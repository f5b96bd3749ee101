/-
  What HolidayErr of the specification of package rule returns: a contract for all worlds.
-/
import Derived.Test.YtfphedcgmaakjabHols
namespace Go.Proofs.Ytfphedcgmaakjab
open Go.RowKit
attribute [local go_sem] set_drewN
set_option maxRecDepth 100000 in
set_option maxHeartbeats 1000000 in
theorem xHol_0a (nm : ByteArray) (mo dy wd : Int) (w : World) (h1 : inB mo 1 12 = false) :
    Calls Try.prog 18 #[.agg #[.string nm, .int .i64 0, .int .i64 mo, .int .i64 dy, .int .i64 wd]] w (RetB (.int .i64 24) w) := by
  go_enter Try.func18, Try.ntmps18
  go_wp2
  go_quiet (first
    | (go_at_call 7; exact quiet_left (bWithin_any _ _ _ _))
    )
  go_wp2
  go_ret
  exact ⟨rfl, below_n ((Below.refl _ _).alloc (Nat.le_refl _) _) _⟩
set_option maxRecDepth 100000 in
set_option maxHeartbeats 1000000 in
theorem xHol_0b (nm : ByteArray) (mo dy wd : Int) (w : World) (h1 : inB mo 1 12 = true) (h2 : inB dy 1 (Cal.md 1804 mo) = false) :
    Calls Try.prog 18 #[.agg #[.string nm, .int .i64 0, .int .i64 mo, .int .i64 dy, .int .i64 wd]] w (RetB (.int .i64 24) w) := by
  obtain ⟨ma, mb⟩ := inB_iff.1 h1
  go_enter Try.func18, Try.ntmps18
  go_wp2
  go_quiet (first
    | (go_at_call 7; exact quiet_left (bWithin_any _ _ _ _))
    | (go_at_call 36; exact quiet_left (xMonthDays_any _ _ _ (by omega) (by omega) (by omega) (by omega))))
  go_wp2
  go_ret
  exact ⟨rfl, below_n ((Below.refl _ _).alloc (Nat.le_refl _) _) _⟩
set_option maxRecDepth 100000 in
set_option maxHeartbeats 1000000 in
theorem xHol_0c (nm : ByteArray) (mo dy wd : Int) (w : World) (h1 : inB mo 1 12 = true) (h2 : inB dy 1 (Cal.md 1804 mo) = true) (h3 : (wd != 0) = true) :
    Calls Try.prog 18 #[.agg #[.string nm, .int .i64 0, .int .i64 mo, .int .i64 dy, .int .i64 wd]] w (RetB (.int .i64 3) w) := by
  obtain ⟨ma, mb⟩ := inB_iff.1 h1
  go_enter Try.func18, Try.ntmps18
  go_wp2
  go_quiet (first
    | (go_at_call 7; exact quiet_left (bWithin_any _ _ _ _))
    | (go_at_call 36; exact quiet_left (xMonthDays_any _ _ _ (by omega) (by omega) (by omega) (by omega))))
  go_wp2
  go_ret
  exact ⟨rfl, below_n ((Below.refl _ _).alloc (Nat.le_refl _) _) _⟩
set_option maxRecDepth 100000 in
set_option maxHeartbeats 1000000 in
theorem xHol_0d (nm : ByteArray) (mo dy wd : Int) (w : World) (h1 : inB mo 1 12 = true) (h2 : inB dy 1 (Cal.md 1804 mo) = true) (h3 : (wd != 0) = false) :
    Calls Try.prog 18 #[.agg #[.string nm, .int .i64 0, .int .i64 mo, .int .i64 dy, .int .i64 wd]] w (RetB (.int .i64 0) w) := by
  obtain ⟨ma, mb⟩ := inB_iff.1 h1
  go_enter Try.func18, Try.ntmps18
  go_wp2
  go_quiet (first
    | (go_at_call 7; exact quiet_left (bWithin_any _ _ _ _))
    | (go_at_call 36; exact quiet_left (xMonthDays_any _ _ _ (by omega) (by omega) (by omega) (by omega))))
  go_wp2
  go_ret
  exact ⟨rfl, below_n ((Below.refl _ _).alloc (Nat.le_refl _) _) _⟩
set_option maxRecDepth 100000 in
set_option maxHeartbeats 1000000 in
theorem xHol_1a (nm : ByteArray) (mo dy wd : Int) (w : World) (h1 : inB dy (-80) 240 = false) :
    Calls Try.prog 18 #[.agg #[.string nm, .int .i64 1, .int .i64 mo, .int .i64 dy, .int .i64 wd]] w (RetB (.int .i64 2) w) := by
  go_enter Try.func18, Try.ntmps18
  go_wp2_with (go_at_call 7; refine (bWithin_any _ _ _ _).mono ?_; rintro e w' ⟨rfl, rfl⟩)
  go_ret
  exact ⟨rfl, (Below.refl _ _).alloc (Nat.le_refl _) _⟩
set_option maxRecDepth 100000 in
set_option maxHeartbeats 1000000 in
theorem xHol_1b (nm : ByteArray) (mo dy wd : Int) (w : World) (h1 : inB dy (-80) 240 = true) (h2 : (mo != 0) = true) :
    Calls Try.prog 18 #[.agg #[.string nm, .int .i64 1, .int .i64 mo, .int .i64 dy, .int .i64 wd]] w (RetB (.int .i64 3) w) := by
  go_enter Try.func18, Try.ntmps18
  go_wp2_with (go_at_call 7; refine (bWithin_any _ _ _ _).mono ?_; rintro e w' ⟨rfl, rfl⟩)
  go_ret
  exact ⟨rfl, (Below.refl _ _).alloc (Nat.le_refl _) _⟩
set_option maxRecDepth 100000 in
set_option maxHeartbeats 1000000 in
theorem xHol_1c (nm : ByteArray) (mo dy wd : Int) (w : World) (h1 : inB dy (-80) 240 = true) (h2 : (mo != 0) = false) (h3 : (wd != 0) = true) :
    Calls Try.prog 18 #[.agg #[.string nm, .int .i64 1, .int .i64 mo, .int .i64 dy, .int .i64 wd]] w (RetB (.int .i64 3) w) := by
  go_enter Try.func18, Try.ntmps18
  go_wp2_with (go_at_call 7; refine (bWithin_any _ _ _ _).mono ?_; rintro e w' ⟨rfl, rfl⟩)
  go_ret
  exact ⟨rfl, (Below.refl _ _).alloc (Nat.le_refl _) _⟩
set_option maxRecDepth 100000 in
set_option maxHeartbeats 1000000 in
theorem xHol_1d (nm : ByteArray) (mo dy wd : Int) (w : World) (h1 : inB dy (-80) 240 = true) (h2 : (mo != 0) = false) (h3 : (wd != 0) = false) :
    Calls Try.prog 18 #[.agg #[.string nm, .int .i64 1, .int .i64 mo, .int .i64 dy, .int .i64 wd]] w (RetB (.int .i64 0) w) := by
  go_enter Try.func18, Try.ntmps18
  go_wp2_with (go_at_call 7; refine (bWithin_any _ _ _ _).mono ?_; rintro e w' ⟨rfl, rfl⟩)
  go_ret
  exact ⟨rfl, (Below.refl _ _).alloc (Nat.le_refl _) _⟩
set_option maxRecDepth 100000 in
set_option maxHeartbeats 1000000 in
theorem xHol_2a (nm : ByteArray) (mo dy wd : Int) (w : World) (h1 : inB mo 1 12 = false) :
    Calls Try.prog 18 #[.agg #[.string nm, .int .i64 2, .int .i64 mo, .int .i64 dy, .int .i64 wd]] w (RetB (.int .i64 24) w) := by
  go_enter Try.func18, Try.ntmps18
  go_wp2_with (go_at_call 7; refine (bWithin_any _ _ _ _).mono ?_; rintro e w' ⟨rfl, rfl⟩)
  go_ret
  exact ⟨rfl, (Below.refl _ _).alloc (Nat.le_refl _) _⟩
set_option maxRecDepth 100000 in
set_option maxHeartbeats 1000000 in
theorem xHol_2b (nm : ByteArray) (mo dy wd : Int) (w : World) (h1 : inB mo 1 12 = true) (h2 : inB dy 1 4 = false) (h3 : (dy != -1) = true) :
    Calls Try.prog 18 #[.agg #[.string nm, .int .i64 2, .int .i64 mo, .int .i64 dy, .int .i64 wd]] w (RetB (.int .i64 2) w) := by
  go_enter Try.func18, Try.ntmps18
  go_wp2_with (go_at_call 7; refine (bWithin_any _ _ _ _).mono ?_; rintro e w' ⟨rfl, rfl⟩)
  go_ret
  exact ⟨rfl, (Below.refl _ _).alloc (Nat.le_refl _) _⟩
set_option maxRecDepth 100000 in
set_option maxHeartbeats 1000000 in
theorem xHol_2c (nm : ByteArray) (mo dy wd : Int) (w : World) (h1 : inB mo 1 12 = true) (h2 : inB dy 1 4 = false) (h3 : (dy != -1) = false) (h4 : inB wd 0 6 = false) :
    Calls Try.prog 18 #[.agg #[.string nm, .int .i64 2, .int .i64 mo, .int .i64 dy, .int .i64 wd]] w (RetB (.int .i64 2) w) := by
  go_enter Try.func18, Try.ntmps18
  go_wp2_with (go_at_call 7; refine (bWithin_any _ _ _ _).mono ?_; rintro e w' ⟨rfl, rfl⟩)
  go_ret
  exact ⟨rfl, (Below.refl _ _).alloc (Nat.le_refl _) _⟩
set_option maxRecDepth 100000 in
set_option maxHeartbeats 1000000 in
theorem xHol_2d (nm : ByteArray) (mo dy wd : Int) (w : World) (h1 : inB mo 1 12 = true) (h2 : inB dy 1 4 = false) (h3 : (dy != -1) = false) (h4 : inB wd 0 6 = true) :
    Calls Try.prog 18 #[.agg #[.string nm, .int .i64 2, .int .i64 mo, .int .i64 dy, .int .i64 wd]] w (RetB (.int .i64 0) w) := by
  go_enter Try.func18, Try.ntmps18
  go_wp2_with (go_at_call 7; refine (bWithin_any _ _ _ _).mono ?_; rintro e w' ⟨rfl, rfl⟩)
  go_ret
  exact ⟨rfl, (Below.refl _ _).alloc (Nat.le_refl _) _⟩
set_option maxRecDepth 100000 in
set_option maxHeartbeats 1000000 in
theorem xHol_2e (nm : ByteArray) (mo dy wd : Int) (w : World) (h1 : inB mo 1 12 = true) (h2 : inB dy 1 4 = true) (h4 : inB wd 0 6 = false) :
    Calls Try.prog 18 #[.agg #[.string nm, .int .i64 2, .int .i64 mo, .int .i64 dy, .int .i64 wd]] w (RetB (.int .i64 2) w) := by
  go_enter Try.func18, Try.ntmps18
  go_wp2_with (go_at_call 7; refine (bWithin_any _ _ _ _).mono ?_; rintro e w' ⟨rfl, rfl⟩)
  go_ret
  exact ⟨rfl, (Below.refl _ _).alloc (Nat.le_refl _) _⟩
set_option maxRecDepth 100000 in
set_option maxHeartbeats 1000000 in
theorem xHol_2f (nm : ByteArray) (mo dy wd : Int) (w : World) (h1 : inB mo 1 12 = true) (h2 : inB dy 1 4 = true) (h4 : inB wd 0 6 = true) :
    Calls Try.prog 18 #[.agg #[.string nm, .int .i64 2, .int .i64 mo, .int .i64 dy, .int .i64 wd]] w (RetB (.int .i64 0) w) := by
  go_enter Try.func18, Try.ntmps18
  go_wp2_with (go_at_call 7; refine (bWithin_any _ _ _ _).mono ?_; rintro e w' ⟨rfl, rfl⟩)
  go_ret
  exact ⟨rfl, (Below.refl _ _).alloc (Nat.le_refl _) _⟩
theorem xHol_3 (nm : ByteArray) (kd mo dy wd : Int) (w : World) (k0 : (kd == 0) = false) (k1 : (kd == 1) = false) (k2 : (kd == 2) = false) :
    Calls Try.prog 18 #[.agg #[.string nm, .int .i64 kd, .int .i64 mo, .int .i64 dy, .int .i64 wd]] w (RetB (.int .i64 2) w) := by
  go_enter Try.func18, Try.ntmps18
  go_wp2
  go_ret
  exact ⟨rfl, (Below.refl _ _).alloc (Nat.le_refl _) _⟩
theorem md_leap (m : Int) : Cal.md 2000 m = Cal.md 1804 m := by
  have a : Cal.lp 2000 = 1 := by decide
  have b : Cal.lp 1804 = 1 := by decide
  unfold Cal.md; rw [a, b]
theorem xHolidayErr_any (h : Hd) (w : World) : Calls Try.prog 18 #[h.val] w (RetB (.int .i64 (hkE h)) w) := by
  obtain ⟨nm, kd, mo, dy, wd⟩ := h
  by_cases k0 : kd = 0
  · subst k0
    have e : hkE ⟨nm, 0, mo, dy, wd⟩ = feE [eI (!(inB mo 1 12 && inB dy 1 (Cal.md 2000 mo))) 24, eI (wd != 0) 3] := rfl
    rw [e, md_leap]
    cases h1 : inB mo 1 12
    · exact xHol_0a nm mo dy wd w h1
    · cases h2 : inB dy 1 (Cal.md 1804 mo)
      · exact xHol_0b nm mo dy wd w h1 h2
      · cases h3 : (wd != 0)
        · exact xHol_0d nm mo dy wd w h1 h2 h3
        · exact xHol_0c nm mo dy wd w h1 h2 h3
  · by_cases k1 : kd = 1
    · subst k1
      have e : hkE ⟨nm, 1, mo, dy, wd⟩ = feE [eI (!inB dy (-80) 240) 2, eI (mo != 0 || wd != 0) 3] := rfl
      rw [e]
      cases h1 : inB dy (-80) 240
      · exact xHol_1a nm mo dy wd w h1
      · cases h2 : (mo != 0)
        · cases h3 : (wd != 0)
          · exact xHol_1d nm mo dy wd w h1 h2 h3
          · exact xHol_1c nm mo dy wd w h1 h2 h3
        · exact xHol_1b nm mo dy wd w h1 h2
    · by_cases k2 : kd = 2
      · subst k2
        have e : hkE ⟨nm, 2, mo, dy, wd⟩ = feE [eI (!inB mo 1 12) 24, eI (!((inB dy 1 4 || dy == -1) && inB wd 0 6)) 2] := rfl
        rw [e]
        cases h1 : inB mo 1 12
        · exact xHol_2a nm mo dy wd w h1
        · cases h2 : inB dy 1 4
          · cases h3 : (dy == -1)
            · exact xHol_2b nm mo dy wd w h1 h2 (by simpa using h3)
            · cases h4 : inB wd 0 6
              · exact xHol_2c nm mo dy wd w h1 h2 (by simpa using h3) h4
              · exact xHol_2d nm mo dy wd w h1 h2 (by simpa using h3) h4
          · cases h4 : inB wd 0 6
            · exact xHol_2e nm mo dy wd w h1 h2 h4
            · exact xHol_2f nm mo dy wd w h1 h2 h4
      · have e : hkE ⟨nm, kd, mo, dy, wd⟩ = 2 := by unfold hkE; rw [if_neg k0, if_neg k1, if_neg k2]
        rw [e]
        exact xHol_3 nm kd mo dy wd w (by simpa using k0) (by simpa using k1) (by simpa using k2)
end Go.Proofs.Ytfphedcgmaakjab
