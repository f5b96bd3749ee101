/-
  What Has of the specification of package rule returns: contracts, each for all worlds in which the list lies in one block.
-/
import Derived.Test.YtfphedcgmaakjaaGreatDoorRefSrc2
import Derived.Test.YtfphedcgmaakjaaGreatDoorHeld
namespace Go.Proofs.YtfphedcgmaakjaaGreatDoor
open Go.RowKit
attribute [local go_sem] set_drewN
set_option maxRecDepth 100000 in
set_option maxHeartbeats 1000000 in
theorem xHas_none (l : List Pv) (nm : ByteArray) (a0 a1 : Int) (b o cap : Nat) (w : World) (hl : l.length ≤ 1000000) (hc : PvsAt w b o l) (hd : dec l a0 a1 nm l.length = none) :
    Calls Tryz.prog 26 #[.slice (some ⟨b, o, none⟩) l.length cap, .string nm, .agg #[.int .i64 a0, .int .i64 a1]] w (RetB (two (.int .i64 0) (.bool false)) w) := by
  have hx := xSource_any l nm a0 a1 b o cap (w.alloc (.cells #[.int .i64 a0, .int .i64 a1] 23)) hl (hc.below ((Below.refl _ _).alloc (Nat.le_refl _) _))
  rw [hd] at hx
  have HX : Hid (Calls Tryz.prog 46 #[.slice (some ⟨b, o, none⟩) l.length cap, .string nm, .agg #[.int .i64 a0, .int .i64 a1]] (w.alloc (.cells #[.int .i64 a0, .int .i64 a1] 23)) (RetB (.int .i64 (-1)) (w.alloc (.cells #[.int .i64 a0, .int .i64 a1] 23)))) := Lib.hid hx
  clear hc hd hx
  go_enter Tryz.func26, Tryz.ntmps26
  go_wp2_with (go_at_call 46; refine (HX.out).mono ?_; rintro e w1 ⟨rfl, hb1⟩)
  go_ret2
  exact ⟨rfl, ((Below.refl _ _).alloc (Nat.le_refl _) _).trans (hb1.mono (by simp))⟩
set_option maxRecDepth 100000 in
set_option maxHeartbeats 1000000 in
theorem xHas_some (l : List Pv) (nm : ByteArray) (a0 a1 : Int) (b o cap : Nat) (w : World) (hl : l.length ≤ 1000000) (hc : PvsAt w b o l) (i : Nat) (p : Pv) (hil : i < l.length) (hp : l[i] = p) (hd : dec l a0 a1 nm l.length = some i) :
    Calls Tryz.prog 26 #[.slice (some ⟨b, o, none⟩) l.length cap, .string nm, .agg #[.int .i64 a0, .int .i64 a1]] w (RetB (two (.int .i64 (if p.repeal then 0 else p.value)) (.bool (!p.repeal))) w) := by
  have hx := xSource_any l nm a0 a1 b o cap (w.alloc (.cells #[.int .i64 a0, .int .i64 a1] 23)) hl (hc.below ((Below.refl _ _).alloc (Nat.le_refl _) _))
  rw [hd] at hx
  have HX : Hid (Calls Tryz.prog 46 #[.slice (some ⟨b, o, none⟩) l.length cap, .string nm, .agg #[.int .i64 a0, .int .i64 a1]] (w.alloc (.cells #[.int .i64 a0, .int .i64 a1] 23)) (RetB (.int .i64 i) (w.alloc (.cells #[.int .i64 a0, .int .i64 a1] 23)))) := Lib.hid hx
  obtain ⟨⟨_, q1, _, _, q4⟩, _⟩ := hc.2 i hil
  have hbl := hc.1
  rw [hp] at q1 q4
  have hi0 : decide ((i : Int) < 0) = false := by simp
  have HP := Lib.hid hp
  clear hc hd hx hp
  obtain ⟨pn, pv, pf, pe, pr⟩ := p
  simp only at q1 q4
  cases pr
  all_goals
    simp only [Bool.not_true, Bool.not_false, if_true, Bool.false_eq_true, if_false]
    go_enter Tryz.func26, Tryz.ntmps26
    go_wp2_with fail
    refine (HX.out).mono ?_
    rintro e w1 ⟨rfl, hb1⟩
    have BB : Below w.heap.size w w1 := ((Below.refl _ _).alloc (Nat.le_refl _) _).trans (hb1.mono (by simp))
    have k1 := (BB.cell (p := ⟨b, o + i * 5 + 1, none⟩) hbl).trans q1
    have k4 := (BB.cell (p := ⟨b, o + i * 5 + 4, none⟩) hbl).trans q4
    go_wp2
    go_ret2
    exact ⟨rfl, BB⟩
end Go.Proofs.YtfphedcgmaakjaaGreatDoor
