/-
  The examples of the document are so: awake returns true, in every world.
-/
import Derived.Test.YtpfekgmimfkjcaaGreatDoorAddW
import Derived.Test.YtpfekgmimfkjcaaGreatDoorValue
namespace Go.Proofs.YtpfekgmimfkjcaaGreatDoor
open Go.RowKit
attribute [local go_sem] set_drewN
theorem est_1800 : est 1800 = 102 := by decide
theorem wl_2 : (wl 1 200001 (0 + 1))[3 - 1]? = some 5 := by
  have e1 := wl_yes (s := 1) (d := 1) 200000 (by decide) (by decide)
  have e2 := wl_yes (s := 1) (d := 2) 199999 (by decide) (by decide)
  have e3 := wl_no (s := 1) (d := 3) 199998 (by decide) (by decide)
  have e4 := wl_no (s := 1) (d := 4) 199997 (by decide) (by decide)
  have e5 := wl_yes (s := 1) (d := 5) 199996 (by decide) (by decide)
  simp only [Int.reduceAdd, Nat.reduceAdd] at e1 e2 e3 e4 e5
  simp only [Int.reduceAdd]
  rw [e1, e2, e3, e4, e5]; rfl
set_option maxHeartbeats 400000 in
theorem AddWorkingAwake (w : World) : Calls Tryz.prog 20 #[nilS, .int .i64 0, .int .i64 3] w (RetB (two (.int .i64 5) (.int .i64 0)) w) := by
  have e1 : cdE [0] = 0 := by decide
  have e2 : inB 3 (-2000) 2000 = true := by decide
  have hw := fun w => addWorkingNil 0 5 3 w (by omega) (by omega) (by omega) (by omega) wl_2
  have HW := Lib.hid hw
  clear hw
  go_enter Tryz.func20, Tryz.ntmps20
  go_wp2_with (first
    | (go_at_call 42; refine (checkHolidaysNil _).mono ?_; rintro e w1 ⟨rfl, hb1⟩)
    | (go_at_call 43; refine (check1 0 _ _ _ (by simp [go_sem])).mono ?_; rintro e w' ⟨rfl, rfl⟩)
    | (go_at_call 24; refine (firstError_any [0, 0] _ 0 2 _ (by simp) (IntsAt.cons (by simp [go_sem]) (IntsAt.one (by simp [go_sem])))).mono ?_; rintro e w' ⟨rfl, rfl⟩)
    | (go_at_call 36; refine (isFromTo_any _ _ _ _).mono ?_; rintro e w' ⟨rfl, rfl⟩)
    | (go_at_call 44; refine (HW.out _).mono ?_; rintro e w2 ⟨rfl, hb2⟩))
  go_ret2
  exact ⟨rfl, ((hb1.alloc hb1.size _).alloc (by have := hb1.size; simp; omega) _).trans (hb2.mono (by have := hb1.size; simp; omega))⟩
set_option maxHeartbeats 400000 in
theorem awake_any (w : World) : Calls Tryz.prog 5 #[] w (RetB (.bool true) w) := by
  have hd := fun w => DayOf_any 1804 2 29 w
  have he : dayV 1804 2 29 = two (.int .i64 1519) (.int .i64 0) := by rw [dayV_5 (by decide) (by decide) (by decide) (by decide)]; rfl
  rw [he] at hd
  have hs := fun w => Easter_yes 1800 w (by omega) (by omega)
  rw [est_1800] at hs
  have HD := Lib.hid hd
  have HS := Lib.hid hs
  clear hd hs he
  go_enter Tryz.func5, Tryz.ntmps5
  go_wp2_with (first
    | (go_at_call 18; refine (HD.out _).mono ?_; rintro e w1 ⟨rfl, hb1⟩)
    | (go_at_call 19; refine (HS.out _).mono ?_; rintro e w2 ⟨rfl, hb2⟩)
    | (go_at_call 20; refine (AddWorkingAwake _).mono ?_; rintro e w3 ⟨rfl, hb3⟩)
    | (go_at_call 22; refine (Fee_any _).mono ?_; rintro e w4 ⟨rfl, hc4, hb4⟩; have HC4 := Lib.hid hc4; clear hc4)
    | (go_at_call 21; refine (ValueFee _ _ HC4.out).mono ?_; rintro e w5 ⟨rfl, hb5⟩))
  go_ret
  have s1 := hb1.size; have s2 := hb2.size; have s3 := hb3.size; have s4 := hb4.size
  exact ⟨rfl, (((hb1.trans (hb2.mono s1)).trans (hb3.mono (by omega))).trans (hb4.mono (by omega))).trans (hb5.mono (by omega))⟩
end Go.Proofs.YtpfekgmimfkjcaaGreatDoor
