/-
  What dayOf of package rule and First of its specification return, for years from 1 to 10000 and right months: contracts, each for all worlds.
-/
import Derived.Test.YtpfekgmimfkjcaaGreatDoorYears
import Derived.Deep.QuietTactic
import Derived.BigQuiet
import Derived.Handy
import Derived.LoopTactic
import Derived.Outline
namespace Go.Proofs.YtpfekgmimfkjcaaGreatDoor
open Go.RowKit
theorem ny_bd2 (y : Int) (h0 : 1 ≤ y) (h9 : y ≤ 10000) : -1000000 ≤ Cal.ny y ∧ Cal.ny y ≤ 4000000 := Cal.ny_bd y h0 h9
theorem set_drewN (w : World) (n : Nat) (a : Addr) (v : Value) : (w.drewN n).setCell a v = (w.setCell a v).drewN n := by
  unfold World.setCell World.drewN
  dsimp only
theorem quiet_add_left {P : Program} {f : FuncId} {args : Array Value} {w : World} {a n : Nat} {v : Value}
    (h : Calls P f args (w.drewN (a + n)) (Ret v (w.drewN (a + n)))) :
    Calls P f args (w.drewN (a + n)) fun e w'' => e = .returned v ∧ ∃ m, w'' = w.drewN (a + m) :=
  h.mono fun _ _ ⟨he, hm⟩ => ⟨he, n, hm.symm⟩
theorem quiet_left {P : Program} {f : FuncId} {args : Array Value} {w : World} {n : Nat} {v : Value}
    (h : Calls P f args (w.drewN n) (Ret v (w.drewN n))) : Calls P f args (w.drewN n) fun e w'' => e = .returned v ∧ ∃ m, w'' = w.drewN m :=
  h.mono fun _ _ ⟨he, hm⟩ => ⟨he, n, hm.symm⟩
set_option maxHeartbeats 400000 in
theorem dayOf_any (y m d : Int) (w : World) (h0 : 1 ≤ y) (h9 : y ≤ 10000) (h1 : 1 ≤ m) (h12 : m ≤ 12) (hd1 : -1000 ≤ d) (hd2 : d ≤ 1000) :
    Calls Tryz.prog 39 #[.agg #[.int .i64 y, .int .i64 m, .int .i64 d]] w (RetB (.int .i64 (Cal.num y m d)) w) := by
  have b := ny_bd2 y h0 h9
  go_enter Tryz.func39, Tryz.ntmps39
  go_wp2
  go_quiet ((go_at_call 59; exact Calls.quiet_of_same (same_n (newYear_any _ _ (by omega) (by omega)))))
  go_wp2
  go_loop [3, 4] (fun n i => ∃ k : Int, 1 ≤ k ∧ k ≤ m ∧ i = .int .i64 k ∧ n = .int .i64 (Cal.ny y + d - 1 + Cal.cum y k)) (fun _ i => (m - intOf i).toNat)
  case atStart => exact ⟨1, by omega, by omega, rfl, by rw [Cal.cum_1]; simp⟩
  case round =>
    obtain ⟨k, hk1, hk2, rfl, rfl⟩ := hrel
    have cb := Cal.cum_bd y k hk1 (by omega)
    have mb := Cal.md_bd y k
    by_cases hlt : k < m
    · have cs := Lib.hid (Cal.cum_succ y k hk1 (by omega))
      go_wp2_with (go_at_call 38; refine (monthDays_any _ _ _ (by omega) (by omega)).mono ?_; rintro e w' ⟨rfl, rfl⟩)
      go_round
      case rel => exact ⟨k + 1, by omega, by omega, rfl, by rw [cs.out]; go_num⟩
      case measure => simp [intOf]; omega
    · obtain rfl : k = m := by omega
      go_wp2
      go_ret
      exact ⟨ret_i (by unfold Cal.num; omega), below_n ((Below.refl _ _).alloc (Nat.le_refl _) _) _⟩
end Go.Proofs.YtpfekgmimfkjcaaGreatDoor
