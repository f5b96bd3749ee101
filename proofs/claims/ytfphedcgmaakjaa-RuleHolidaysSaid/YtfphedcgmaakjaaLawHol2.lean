/-
  RuleHolidays returns true for every list of holidays and every year, in every world in which the list lies: the walks.
-/
import Derived.Test.YtfphedcgmaakjaaLawHol
namespace Go.Proofs.Ytfphedcgmaakjaa
open Go.RowKit
attribute [local go_sem] set_drewN
set_option maxRecDepth 100000 in
set_option maxHeartbeats 2000000 in
theorem RuleHolidays_1 (G : World → Prop) (hG : ∀ W W', G W → Below W.heap.size W W' → G W') (sv : Value) (y : Int) (w : World) (g0 : G w)
    (cL : Hid (∀ W, G W → Calls Try.prog 33 #[sv] W (Ret (.bool false) W))) :
    Calls Try.prog 7 #[sv, .int .i64 y] w (RetB (.bool true) w) := by
  go_enter Try.func7, Try.ntmps7
  go_wp2_with fail
  refine (awake_any _).mono ?_
  rintro e w1 ⟨rfl, hb1⟩
  have G1 := hG _ _ g0 hb1
  have s1 := hb1.size
  go_wp2_with fail
  refine (cL.out _ G1).mono ?_
  rintro e w' ⟨rfl, rfl⟩
  go_wp2
  go_ret
  exact ⟨rfl, hb1⟩
set_option maxRecDepth 100000 in
set_option maxHeartbeats 2000000 in
theorem RuleHolidays_2 (G : World → Prop) (hG : ∀ W W', G W → Below W.heap.size W W' → G W') (sv : Value) (y : Int) (w : World) (g0 : G w) (E : Int) (hE : (E != 0) = true)
    (cL : Hid (∀ W, G W → Calls Try.prog 33 #[sv] W (Ret (.bool true) W)))
    (cC : Hid (∀ W, G W → Calls Try.prog 36 #[sv] W (RetB (.int .i64 E) W)))
    (cX : Hid (∀ W, G W → Calls Try.prog 34 #[sv] W (RetB (.int .i64 E) W))) :
    Calls Try.prog 7 #[sv, .int .i64 y] w (RetB (.bool true) w) := by
  have hE0 : (E == 0) = false := by simpa using hE
  go_enter Try.func7, Try.ntmps7
  go_wp2_with fail
  refine (awake_any _).mono ?_
  rintro e w1 ⟨rfl, hb1⟩
  have G1 := hG _ _ g0 hb1
  have s1 := hb1.size
  go_wp2_with fail
  refine (cL.out _ G1).mono ?_
  rintro e w' ⟨rfl, rfl⟩
  go_wp2_with fail
  refine (cX.out _ G1).mono ?_
  rintro e w2 ⟨rfl, hb2⟩
  have G2 := hG _ _ G1 hb2
  have s2 := hb2.size
  go_wp2_with fail
  refine (HolidaysOf_err sv y E w2 hE (Lib.hid fun W hW => cC.out W (hW ▸ G2))).mono ?_
  rintro e w3 ⟨rfl, hb3⟩
  have G3 := hG _ _ G2 hb3
  have s3 := hb3.size
  go_wp2_with fail
  refine (cC.out _ G3).mono ?_
  rintro e w4 ⟨rfl, hb4⟩
  go_wp2
  go_ret
  exact ⟨rfl, ((hb1.trans (hb2.mono (by omega))).trans (hb3.mono (by omega))).trans (hb4.mono (by omega))⟩
set_option maxRecDepth 100000 in
set_option maxHeartbeats 2000000 in
theorem RuleHolidays_3 (G : World → Prop) (hG : ∀ W W', G W → Below W.heap.size W W' → G W') (sv : Value) (y : Int) (w : World) (g0 : G w) (hy : inB y 1800 2346 = false)
    (cL : Hid (∀ W, G W → Calls Try.prog 33 #[sv] W (Ret (.bool true) W)))
    (cC : Hid (∀ W, G W → Calls Try.prog 36 #[sv] W (RetB (.int .i64 0) W)))
    (cX : Hid (∀ W, G W → Calls Try.prog 34 #[sv] W (RetB (.int .i64 0) W))) :
    Calls Try.prog 7 #[sv, .int .i64 y] w (RetB (.bool true) w) := by
  go_enter Try.func7, Try.ntmps7
  go_wp2_with fail
  refine (awake_any _).mono ?_
  rintro e w1 ⟨rfl, hb1⟩
  have G1 := hG _ _ g0 hb1
  have s1 := hb1.size
  go_wp2_with fail
  refine (cL.out _ G1).mono ?_
  rintro e w' ⟨rfl, rfl⟩
  go_wp2_with fail
  refine (cX.out _ G1).mono ?_
  rintro e w2 ⟨rfl, hb2⟩
  have G2 := hG _ _ G1 hb2
  have s2 := hb2.size
  go_wp2_with fail
  refine (HolidaysOf_no sv y w2 hy (Lib.hid fun W hW => cC.out W (hW ▸ G2))).mono ?_
  rintro e w3 ⟨rfl, hb3⟩
  have G3 := hG _ _ G2 hb3
  have s3 := hb3.size
  go_wp2_with fail
  refine (cC.out _ G3).mono ?_
  rintro e w4 ⟨rfl, hb4⟩
  go_wp2_with (go_at_call 31; refine (xIsFull_any _ _).mono ?_; rintro e w' ⟨rfl, rfl⟩; rw [hy])
  go_ret
  exact ⟨rfl, ((hb1.trans (hb2.mono (by omega))).trans (hb3.mono (by omega))).trans (hb4.mono (by omega))⟩
set_option maxRecDepth 100000 in
set_option maxHeartbeats 2000000 in
theorem RuleHolidays_4 (G : World → Prop) (hG : ∀ W W', G W → Below W.heap.size W W' → G W') (sv : Value) (y : Int) (w : World) (g0 : G w) (L : List Int) (hL : L.length ≤ 1000) (hy : inB y 1800 2346 = true)
    (cL : Hid (∀ W, G W → Calls Try.prog 33 #[sv] W (Ret (.bool true) W)))
    (cC : Hid (∀ W, G W → Calls Try.prog 36 #[sv] W (RetB (.int .i64 0) W)))
    (cX : Hid (∀ W, G W → Calls Try.prog 34 #[sv] W (RetB (.int .i64 0) W)))
    (cH : Hid (∀ W, G W → Calls Try.prog 81 #[sv, .int .i64 y] W (DaysPost L W)))
    (cR : Hid (∀ W, G W → Calls Try.prog 38 #[sv, .int .i64 y] W (DaysPost L W))) :
    Calls Try.prog 7 #[sv, .int .i64 y] w (RetB (.bool true) w) := by
  go_enter Try.func7, Try.ntmps7
  go_wp2_with fail
  refine (awake_any _).mono ?_
  rintro e w1 ⟨rfl, hb1⟩
  have G1 := hG _ _ g0 hb1
  have s1 := hb1.size
  go_wp2_with fail
  refine (cL.out _ G1).mono ?_
  rintro e w' ⟨rfl, rfl⟩
  go_wp2_with fail
  refine (cX.out _ G1).mono ?_
  rintro e w2 ⟨rfl, hb2⟩
  have G2 := hG _ _ G1 hb2
  have s2 := hb2.size
  go_wp2_with fail
  refine (HolidaysOf_yes sv y L w2 hy (Lib.hid fun W hW => cC.out W (hW ▸ G2)) (Lib.hid fun W hW => cH.out W (hG _ _ G2 hW))).mono ?_
  rintro e w3 ⟨v3, rfl, hc3, hb3⟩
  have C3 := Lib.hid hc3
  have G3 := hG _ _ G2 hb3
  have s3 := hb3.size
  clear hc3
  go_wp2_with fail
  refine (cC.out _ G3).mono ?_
  rintro e w4 ⟨rfl, hb4⟩
  have C4 := Lib.hid (C3.out.below hb4)
  have G4 := hG _ _ G3 hb4
  have s4 := hb4.size
  go_wp2_with (go_at_call 31; refine (xIsFull_any _ _).mono ?_; rintro e w' ⟨rfl, rfl⟩; rw [hy])
  refine (cR.out _ G4).mono ?_
  rintro e w5 ⟨v5, rfl, hc5, hb5⟩
  have C5 := Lib.hid hc5
  have D5 := Lib.hid (C4.out.below hb5)
  have s5 := hb5.size
  clear hc5
  go_wp2_with fail
  refine (ints_closed D5.out C5.out hL).mono ?_
  rintro e w6 ⟨rfl, hb6⟩
  go_wp2
  go_ret
  exact ⟨rfl, (((((hb1.trans (hb2.mono (by omega))).trans (hb3.mono (by omega))).trans (hb4.mono (by omega))).trans (hb5.mono (by omega))).trans (hb6.mono (by omega)))⟩
theorem once_len (l : List Int) : (once l).length ≤ l.length := by
  unfold once
  exact Nat.le_trans (compact_le _) (by rw [List.length_mergeSort]; exact Nat.le_refl _)
theorem dfr_nil (a : Int) : ∀ k, dfr [] a k = []
  | 0 => rfl
  | k + 1 => by rw [dfr, dfr_nil a k]; simp [anyB]
theorem xanyOf_0 (a : Option Addr) (cap : Nat) (n : Int) (w : World) : Calls Try.prog 83 #[.slice a 0 cap, .int .i64 n] w (RetB (.bool false) w) := by
  go_enter Try.func83, Try.ntmps83
  go_wp2
  go_loop [5] (fun i => i = .int .i64 0) (fun _ => 0)
  case atStart => exact rfl
  case round =>
    obtain rfl := hrel
    go_wp2
    go_ret
    exact ⟨rfl, Below.refl _ _⟩
set_option maxRecDepth 100000 in
theorem holidaysOf_0 (a : Option Addr) (cap : Nat) (y : Int) (w : World) : Calls Try.prog 81 #[.slice a 0 cap, .int .i64 y] w (DaysPost [] w) := by
  go_enter Try.func81, Try.ntmps81
  go_wp2
  go_loop [5, 10] (fun d i => d = nilS ∧ i = .int .i64 0) (fun _ _ => 0)
  case atStart => exact ⟨rfl, rfl⟩
  case round =>
    obtain ⟨rfl, rfl⟩ := hrel
    go_wp2_with (first
      | (go_at_call 102; refine (Try.slices_Sort_int_none none 0 _).mono ?_; rintro e w' ⟨rfl, rfl⟩)
      | (go_at_call 103; refine (Try.slices_Compact_int_empty none 0 _).mono ?_; rintro e w' ⟨rfl, rfl⟩))
    go_ret
    exact ⟨_, rfl, .inl ⟨rfl, rfl⟩, Below.refl _ _⟩
theorem RuleHolidays_list (l : List Hd) (b o cap : Nat) (y : Int) (w : World) (hl : l.length ≤ maxLen) (hc : HdsAt w b o l) :
    Calls Try.prog 7 #[.slice (some ⟨b, o, none⟩) l.length cap, .int .i64 y] w (RetB (.bool true) w) := by
  cases hB : calB l
  · exact RuleHolidays_1 (fun W => HdsAt W b o l) (fun _ _ h k => h.below k) _ y w hc (Lib.hid fun W hW => by have := Calendar_any l b o cap W hl hW; rwa [hB] at this)
  · have hl2 : l.length ≤ 60 := calB_le hB
    have cL : Hid (∀ W, HdsAt W b o l → Calls Try.prog 33 #[.slice (some ⟨b, o, none⟩) l.length cap] W (Ret (.bool true) W)) := Lib.hid fun W hW => by have := Calendar_any l b o cap W hl hW; rwa [hB] at this
    have cC := fun W (hW : HdsAt W b o l) => CheckHolidays_any l b o cap W hl hW
    have cX := fun W (hW : HdsAt W b o l) => xCheckHolidays_any l b o cap W hl hW
    by_cases he : chE l = 0
    · rw [he] at cC cX
      obtain ⟨l40, hv⟩ := chE_each he
      cases hy : inB y 1800 2346
      · exact RuleHolidays_3 (fun W => HdsAt W b o l) (fun _ _ h k => h.below k) _ y w hc hy cL (Lib.hid cC) (Lib.hid cX)
      · obtain ⟨y0, y9⟩ := inB_iff.1 hy
        refine RuleHolidays_4 (fun W => HdsAt W b o l) (fun _ _ h k => h.below k) _ y w hc (once (hdays l y)) ?_ hy cL (Lib.hid cC) (Lib.hid cX) (Lib.hid fun W hW => holidaysOf_any l y b o cap W (by omega) hv y0 (by omega) hW) (Lib.hid fun W hW => ?_)
        · have := once_len (hdays l y); have := hdays_le l y l.length; rw [List.take_length] at this; omega
        · have := xHolidaysOf_any l y (.slice (some ⟨b, o, none⟩) l.length cap) (fun W => HdsAt W b o l) (fun _ _ h k => h.below k) W hW y0 y9 (Lib.hid fun W n hW n0 n9 => xanyOf_any l n b o cap W (by omega) hv n0 n9 hW)
          rwa [← year_days hv y0 y9] at this
    · exact RuleHolidays_2 (fun W => HdsAt W b o l) (fun _ _ h k => h.below k) _ y w hc (chE l) (by simpa using he) cL (Lib.hid cC) (Lib.hid cX)
theorem RuleHolidays_nil (a : Option Addr) (cap : Nat) (y : Int) (w : World) :
    Calls Try.prog 7 #[.slice a 0 cap, .int .i64 y] w (RetB (.bool true) w) := by
  have cL : Hid (∀ W, True → Calls Try.prog 33 #[.slice a 0 cap] W (Ret (.bool true) W)) := Lib.hid fun W _ => Calendar_0 a cap W
  have cC : Hid (∀ W, True → Calls Try.prog 36 #[.slice a 0 cap] W (RetB (.int .i64 0) W)) := Lib.hid fun W _ => CheckHolidays_0 a cap W
  have cX : Hid (∀ W, True → Calls Try.prog 34 #[.slice a 0 cap] W (RetB (.int .i64 0) W)) := Lib.hid fun W _ => xCheckHolidays_0 a cap W
  cases hy : inB y 1800 2346
  · exact RuleHolidays_3 (fun _ => True) (fun _ _ _ _ => trivial) _ y w trivial hy cL cC cX
  · obtain ⟨y0, y9⟩ := inB_iff.1 hy
    refine RuleHolidays_4 (fun _ => True) (fun _ _ _ _ => trivial) _ y w trivial [] (by simp) hy cL cC cX (Lib.hid fun W _ => holidaysOf_0 a cap y W) (Lib.hid fun W _ => ?_)
    have := xHolidaysOf_any [] y (.slice a 0 cap) (fun _ => True) (fun _ _ _ _ => trivial) W trivial y0 y9 (Lib.hid fun W n _ _ _ => xanyOf_0 a cap n W)
    rwa [dfr_nil] at this
end Go.Proofs.Ytfphedcgmaakjaa
