/-
  The names of the document's example have the common text that is told; and Mod of the base: contracts, each for all worlds.
-/
import Derived.Test.YtjjfiilokakppaaCom
namespace Go.Proofs.Ytjjfiilokakppaa
open Go.RowKit
attribute [local go_sem] set_drewN
def exA : List Nat := [8192, 2281701376, 34359738368, 2147483648, 17592186044416]
def exB : List Nat := [8192, 2147483648, 2251834173423616, 2147483648, 17592186044416]
theorem exA_t : nmT exA = [77, 91, 97, 101, 93, 105, 101, 114] := by decide +kernel
theorem exB_t : nmT exB = [77, 101, 91, 105, 121, 93, 101, 114] := by decide +kernel
theorem exA_gd : gdM exA := ⟨by decide, by decide, by unfold okM exA; decide⟩
theorem exB_gd : gdM exB := ⟨by decide, by decide, by unfold okM exB; decide⟩
theorem exAB : (match cmM exA exB with
      | some R => (nmT R, (0 : Int))
      | none => ([], 12)) = ([77, 101, 105, 101, 114], 0) := by decide +kernel
theorem cmT_ex : cmT [77, 91, 97, 101, 93, 105, 101, 114] [77, 101, 91, 105, 121, 93, 101, 114] = ([77, 101, 105, 101, 114], 0) := by
  rw [← exA_t, ← exB_t, cmT_good (nmE_gd exA_gd) (nmE_gd exB_gd) (rdN_nmT exA_gd.2.2) (rdN_nmT exB_gd.2.2)]
  exact exAB
theorem named_any (w : World) : Calls Try.prog 4 #[] w (RetB (.bool true) w) := by
  have HC := Lib.hid (fun w => Common_any [77, 91, 97, 101, 93, 105, 101, 114] [77, 101, 91, 105, 121, 93, 101, 114] w (by decide) (by decide))
  rw [cmT_ex] at HC
  go_enter Try.func4, Try.ntmps4
  go_wp2_with (go_at_call 8; refine (HC.out _).mono ?_; rintro e w' ⟨rfl, hb⟩)
  go_ret
  exact ⟨rfl, hb⟩
theorem Mod_any (n m : Int) (w : World) (hm : 1 ≤ m) (hm2 : m ≤ 2000000) : Calls Try.prog 6 #[.int .i64 n, .int .i64 m] w (Ret (.int .i64 (n % m)) w) := by
  have hm0 : ¬ m = 0 := by omega
  have ha : (Int.tmod n m).natAbs < m.natAbs := by rw [Int.natAbs_tmod]; exact Nat.mod_lt _ (by omega)
  have ht1 : -m < Int.tmod n m := by omega
  have ht2 : Int.tmod n m < m := by omega
  have e : Int.tmod (Int.tmod n m + m) m = n % m := by
    rw [Int.tmod_eq_emod_of_nonneg (by omega), Int.add_emod_right]
    have h := Int.tmod_add_mul_tdiv n m
    conv => rhs; rw [← h]
    rw [Int.add_mul_emod_self_left]
  go_enter Try.func6, Try.ntmps6
  go_wp2
  go_ret
  exact ⟨rfl, rfl⟩
end Go.Proofs.Ytjjfiilokakppaa
