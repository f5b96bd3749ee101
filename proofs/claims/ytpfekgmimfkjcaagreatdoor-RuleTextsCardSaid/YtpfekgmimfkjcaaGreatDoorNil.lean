/-
  What holidaysOf and CheckHolidays of package rule return where there is no holiday: contracts, each for all worlds.
-/
import Derived.Test.YtpfekgmimfkjcaaGreatDoorDayOf
import Derived.Test.YtpfekgmimfkjcaaGreatDoorShelf
namespace Go.Proofs.YtpfekgmimfkjcaaGreatDoor
open Go.RowKit
attribute [local go_sem] set_drewN
abbrev nilS : Value := .slice none 0 0
set_option maxRecDepth 100000 in
set_option maxHeartbeats 1000000 in
theorem holidaysNil (y : Int) (w : World) : Calls Tryz.prog 77 #[nilS, .int .i64 y] w (Ret nilS w) := by
  go_enter Tryz.func77, Tryz.ntmps77
  go_wp2
  go_loop [5, 10] (fun d i => d = nilS ∧ i = .int .i64 0) (fun _ _ => 0)
  case atStart => exact ⟨rfl, rfl⟩
  case round =>
    obtain ⟨rfl, rfl⟩ := hrel
    go_wp2_with (first
      | (go_at_call 96; refine (Tryz.slices_Sort_int_none none 0 _).mono ?_; rintro e w' ⟨rfl, rfl⟩)
      | (go_at_call 97; refine (Tryz.slices_Compact_int_empty none 0 _).mono ?_; rintro e w' ⟨rfl, rfl⟩))
    go_ret
    exact ⟨rfl, rfl⟩
set_option maxRecDepth 100000 in
set_option maxHeartbeats 1000000 in
theorem checkHolidaysNil (w : World) : Calls Tryz.prog 42 #[nilS] w (RetB (.int .i64 0) w) := by
  have hmm := @run_makeMap Tryz.prog
  go_enter Tryz.func42, Tryz.ntmps42
  go_wp2
  go_loop [13] (fun i => i = .int .i64 0) (fun _ => 0)
  case atStart => exact rfl
  case round =>
    obtain rfl := hrel
    go_wp2
    go_ret
    exact ⟨rfl, (Below.refl _ _).alloc (Nat.le_refl _) _⟩
theorem bsNil (x : Int) (w : World) : Calls Tryz.prog 78 #[nilS, .int .i64 x] w (Ret (two (.int .i64 0) (.bool false)) w) :=
  (Tryz.slices_BinarySearch_int_empty none 0 x w).mono fun _ _ ⟨a, b⟩ => ⟨a, b.symm⟩
theorem workingDaysNil (f s : Int) (w : World) : Calls Tryz.prog 61 #[nilS, .int .i64 f, .int .i64 s] w
    fun e w' => e = .returned (.func (.func 75) #[] #[.pointer (some ⟨w.heap.size + 1, 0, none⟩), .pointer (some ⟨w.heap.size + 1 + 1, 0, none⟩), .pointer (some ⟨w.heap.size, 0, none⟩)]) ∧ w' = ((w.alloc (.cells #[nilS] 71)).alloc (.cells #[.int .i64 f] 3)).alloc (.cells #[.int .i64 s] 3) := by
  go_enter Tryz.func61, Tryz.ntmps61
  go_wp2
  go_ret
  exact ⟨rfl, rfl⟩
end Go.Proofs.YtpfekgmimfkjcaaGreatDoor
