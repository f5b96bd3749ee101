/-
  What heldBy and Has return where the list is empty: contracts for all worlds.
-/
import Derived.Test.YtfphedcgmaakjaaGreatDoorRefHas
import Derived.Test.YtfphedcgmaakjaaGreatDoorEmpty
namespace Go.Proofs.YtfphedcgmaakjaaGreatDoor
open Go.RowKit Go.WideMaps Go.Maps
attribute [local go_sem] set_drewN
set_option maxRecDepth 100000 in
set_option maxHeartbeats 1000000 in
theorem xHas_none_0 (nm : ByteArray) (a0 a1 : Int) (a : Option Addr) (cap : Nat) (w : World) :
    Calls Tryz.prog 26 #[.slice a 0 cap, .string nm, .agg #[.int .i64 a0, .int .i64 a1]] w (RetB (two (.int .i64 0) (.bool false)) w) := by
  have hx := xSource_0 a nm a0 a1 cap (w.alloc (.cells #[.int .i64 a0, .int .i64 a1] 23))
  have HX : Hid (Calls Tryz.prog 46 #[.slice a 0 cap, .string nm, .agg #[.int .i64 a0, .int .i64 a1]] (w.alloc (.cells #[.int .i64 a0, .int .i64 a1] 23)) (RetB (.int .i64 (-1)) (w.alloc (.cells #[.int .i64 a0, .int .i64 a1] 23)))) := Lib.hid hx
  clear hx
  go_enter Tryz.func26, Tryz.ntmps26
  go_wp2_with (go_at_call 46; refine (HX.out).mono ?_; rintro e w1 ⟨rfl, hb1⟩)
  go_ret2
  exact ⟨rfl, ((Below.refl _ _).alloc (Nat.le_refl _) _).trans (hb1.mono (by simp))⟩
end Go.Proofs.YtfphedcgmaakjaaGreatDoor
