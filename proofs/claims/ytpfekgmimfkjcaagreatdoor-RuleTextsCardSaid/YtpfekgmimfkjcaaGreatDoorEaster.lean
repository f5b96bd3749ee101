/-
  What easter and Easter of package rule, and Easter of its specification, return: contracts, each for all worlds.
-/
import Derived.Test.YtpfekgmimfkjcaaGreatDoorAddR
import Derived.Deep.Cut
namespace Go.Proofs.YtpfekgmimfkjcaaGreatDoor
open Go.RowKit
attribute [local go_sem] set_drewN
/-- the letters of Easter's rule -/
def eh (y : Int) : Int := (19 * (y % 19) + y / 100 - y / 100 / 4 - (y / 100 - (y / 100 + 8) / 25 + 1) / 3 + 15) % 30
def el (y : Int) : Int := (32 + 2 * (y / 100 % 4) + 2 * (y % 100 / 4) - eh y - y % 100 % 4) % 7
def em (y : Int) : Int := (y % 19 + 11 * eh y + 22 * el y) / 451
def en (y : Int) : Int := eh y + el y - 7 * em y + 114
theorem eh_bd (y : Int) : 0 ≤ eh y ∧ eh y ≤ 29 := by unfold eh; omega
theorem el_bd (y : Int) : 0 ≤ el y ∧ el y ≤ 6 := by unfold el; omega
theorem em_bd (y : Int) : 0 ≤ em y ∧ em y ≤ 1 := by have := eh_bd y; have := el_bd y; unfold em; omega
theorem en_bd (y : Int) : 107 ≤ en y ∧ en y ≤ 149 := by have := eh_bd y; have := el_bd y; have := em_bd y; unfold en; omega
/-- Easter Sunday -/
def est (y : Int) : Int := Cal.num y (en y / 31) (en y % 31 + 1)
set_option maxRecDepth 100000 in
set_option maxHeartbeats 1000000 in
theorem easter_any (y : Int) (w : World) (h0 : 1800 ≤ y) (h9 : y ≤ 2347) : Calls Tryz.prog 41 #[.int .i64 y] w (RetB (.int .i64 (est y)) w) := by
  have bh := eh_bd y
  have bl := el_bd y
  have bm := em_bd y
  have bn := en_bd y
  obtain ⟨h, hh⟩ : ∃ h, eh y = h := ⟨_, rfl⟩
  obtain ⟨l, hl⟩ : ∃ l, el y = l := ⟨_, rfl⟩
  obtain ⟨m, hm⟩ : ∃ m, em y = m := ⟨_, rfl⟩
  obtain ⟨n, hn⟩ : ∃ n, en y = n := ⟨_, rfl⟩
  have hr : est y = Cal.num y (n / 31) (n % 31 + 1) := by unfold est; rw [hn]
  rw [hr]
  have fl : (32 + 2 * (y / 100 % 4) + 2 * (y % 100 / 4) - h - y % 4) % 7 = l := by rw [← hl, ← hh]; unfold el; rw [show y % 100 % 4 = y % 4 from by omega]
  have fm : (y % 19 + 11 * h + 22 * l) / 451 = m := by rw [← hm, ← hl, ← hh]; rfl
  have fn : h + l - 7 * m + 114 = n := by rw [← hn, ← hm, ← hl, ← hh]; rfl
  rw [hh] at bh; rw [hl] at bl; rw [hm] at bm; rw [hn] at bn
  unfold eh at hh
  clear hl hm hn hr
  have HH := Lib.hid hh
  have FL := Lib.hid fl
  have FM := Lib.hid fm
  have FN := Lib.hid fn
  clear hh fl fm fn
  go_enter Tryz.func41, Tryz.ntmps41
  go_upto_region 4 with (fail)
  rw [HH.out]
  go_upto_region 5 with (fail)
  rw [FL.out]
  go_upto_region 6 with (fail)
  rw [FM.out]
  go_upto_region 7 with (fail)
  rw [FN.out]
  go_wp2_with (go_at_call 39; refine (dayOf_any _ _ _ _ (by omega) (by omega) (by omega) (by omega) (by omega) (by omega)).mono ?_; rintro e w1 ⟨rfl, hb1⟩)
  go_ret
  exact ⟨rfl, hb1⟩
theorem Easter_yes (y : Int) (w : World) (h0 : 1800 ≤ y) (h9 : y ≤ 2346) : Calls Tryz.prog 19 #[.int .i64 y] w (RetB (two (.int .i64 (est y)) (.int .i64 0)) w) := by
  have h := inB_yes h0 h9
  generalize hE : est y = r
  have E := fun w => easter_any y w h0 (by omega)
  rw [hE] at E
  have HE := Lib.hid E
  clear E hE
  go_enter Tryz.func19, Tryz.ntmps19
  go_wp2_with (first
    | (go_at_call 36; refine (isFromTo_any _ _ _ _).mono ?_; rintro e w' ⟨rfl, rfl⟩)
    | (go_at_call 41; refine (HE.out _).mono ?_; rintro e w1 ⟨rfl, hb1⟩))
  go_ret2
  exact ⟨rfl, hb1⟩
theorem Easter_no (y : Int) (w : World) (h : inB y 1800 2346 = false) : Calls Tryz.prog 19 #[.int .i64 y] w (RetB (two (.int .i64 0) (.int .i64 2)) w) := by
  go_enter Tryz.func19, Tryz.ntmps19
  go_wp2_with (go_at_call 36; refine (isFromTo_any _ _ _ _).mono ?_; rintro e w' ⟨rfl, rfl⟩)
  go_ret2
  exact ⟨rfl, Below.refl _ _⟩
end Go.Proofs.YtpfekgmimfkjcaaGreatDoor
