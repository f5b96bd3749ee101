/-
  What the functions on ranges of days and on one entry return: contracts, each for all worlds.
-/
import Derived.Test.YtfneafofohfdnaaCom
import Derived.Test.YtfneafofohfdnaaSigns
import Derived.Deep.RegionWith
import Derived.Deep.RegionHeld3
namespace Go.Proofs.Ytfneafofohfdnaa
open Go.RowKit
attribute [local go_sem] set_drewN
abbrev spV (a b : Int) : Value := .agg #[.int .i64 a, .int .i64 b]
theorem hasDays_any (a b : Int) (w : World) : Calls Try.prog 61 #[spV a b] w (RetB (.bool (inB a 0 200000 && inB b 0 200000)) w) := by
  cases h : inB a 0 200000
  · have H := Lib.hid (fun w => h ▸ isFromTo_any a 0 200000 w)
    clear h
    go_enter Try.func61, Try.ntmps61
    go_wp2_with (go_at_call 65; refine (H.out _).mono ?_; rintro e w' ⟨rfl, rfl⟩)
    go_ret
    exact ⟨rfl, (Below.refl _ _).alloc (Nat.le_refl _) _⟩
  · have H := Lib.hid (fun w => h ▸ isFromTo_any a 0 200000 w)
    clear h
    go_enter Try.func61, Try.ntmps61
    go_wp2_with fail
    refine (H.out _).mono ?_
    rintro e w' ⟨rfl, rfl⟩
    go_wp2_with (go_at_call 65; refine (isFromTo_any _ _ _ _).mono ?_; rintro e w' ⟨rfl, rfl⟩)
    go_ret
    exact ⟨rfl, (Below.refl _ _).alloc (Nat.le_refl _) _⟩
theorem ascends_any (a b : Int) (w : World) : Calls Try.prog 62 #[spV a b] w (RetB (.bool (decide (a ≤ b))) w) := by
  go_enter Try.func62, Try.ntmps62
  go_wp2
  go_ret
  exact ⟨rfl, (Below.refl _ _).alloc (Nat.le_refl _) _⟩
theorem overlap_any (a b c d : Int) (w : World) : Calls Try.prog 74 #[spV a b, spV c d] w (RetB (spV (max a c) (min b d)) w) := by
  go_enter Try.func74, Try.ntmps74
  go_wp2
  refine bodyPost_ret (v := spV (max a c) (min b d)) (by simp [results, Try.results74, go_sem]) rfl ⟨rfl, ?_⟩
  exact (((Below.refl _ _).alloc (Nat.le_refl _) _).alloc (by simp) _).alloc (by simp; omega) _
theorem isNumberOf_any (n l : Int) (w : World) (h1 : -1000000000000 ≤ l) (h2 : l ≤ 1000000000000) : Calls Try.prog 86 #[.int .i64 n, .int .i64 l] w (Ret (.bool (inB n 0 (l - 1))) w) := by
  go_enter Try.func86, Try.ntmps86
  go_wp2_with (go_at_call 65; refine (isFromTo_any _ _ _ _).mono ?_; rintro e w' ⟨rfl, rfl⟩)
  go_ret
  exact ⟨rfl, rfl⟩
theorem checkSpan_any (a b : Int) (w : World) : Calls Try.prog 64 #[spV a b] w (RetB (.int .i64 (eI (!(inB a 0 200000 && inB b 0 200000)) 2)) w) := by
  cases h : inB a 0 200000
  · have H := Lib.hid (fun w => h ▸ bWithin_any a 0 200000 w)
    clear h
    go_enter Try.func64, Try.ntmps64
    go_wp2_with (go_at_call 76; refine (H.out _).mono ?_; rintro e w' ⟨rfl, rfl⟩)
    go_ret
    exact ⟨rfl, (Below.refl _ _).alloc (Nat.le_refl _) _⟩
  · have H := Lib.hid (fun w => h ▸ bWithin_any a 0 200000 w)
    clear h
    cases h2 : inB b 0 200000
    all_goals
      have H2 := Lib.hid (fun w => h2 ▸ bWithin_any b 0 200000 w)
      clear h2
      go_enter Try.func64, Try.ntmps64
      go_wp2_with fail
      refine (H.out _).mono ?_
      rintro e w' ⟨rfl, rfl⟩
      go_wp2_with (go_at_call 76; refine (H2.out _).mono ?_; rintro e w' ⟨rfl, rfl⟩)
      go_ret
      exact ⟨rfl, (Below.refl _ _).alloc (Nat.le_refl _) _⟩
end Go.Proofs.Ytfneafofohfdnaa
