/-
  What dateOf of package rule and DateOf of its specification return: the date of a day, for days from 0 to 1000000; contracts, each for all worlds.
-/
import Derived.Test.YtpfekgmimfkjcaaGreatDoorDays
import Derived.Test.YtpfekgmimfkjcaaGreatDoorDate0
import Derived.StillTailTactics
import Derived.Deep.LoopGhost
namespace Go.Proofs.YtpfekgmimfkjcaaGreatDoor
open Go.RowKit
attribute [local go_sem] set_drewN
abbrev dateV (y m d : Int) : Value := .agg #[.int .i64 y, .int .i64 m, .int .i64 d]
set_option maxRecDepth 100000 in
set_option maxHeartbeats 1000000 in
theorem dateOf_any (n : Int) (w : World) (h0 : 0 ≤ n) (h9 : n ≤ 1000000) :
    Calls Tryz.prog 76 #[.int .i64 n] w (RetB (dateV (Cal.yr n) (Cal.mo n) (Cal.da n)) w) := by
  have g0 := Cal.ny_guess n h0
  go_enter Tryz.func76, Tryz.ntmps76
  go_wp2
  go_loop [3] (fun t => ∃ y : Int, 1800 ≤ y ∧ y ≤ 9000 ∧ Cal.ny y ≤ n ∧ t = .int .i64 y) (fun t => (9000 - intOf t).toNat)
  case atStart => exact ⟨_, by omega, by omega, g0, rfl⟩
  case round =>
    obtain ⟨y, hy1, hy2, hy3, rfl⟩ := hrel
    clear g0
    have lo := Cal.ny_lo y
    have b := ny_bd2 y (by omega) (by omega)
    by_cases hd : Cal.ny (y + 1) ≤ n
    · have lo2 := Cal.ny_lo (y + 1)
      have hy4 : y + 1 ≤ 9000 := by omega
      clear lo lo2
      go_wp2_with (go_at_call 59; refine (newYear_any _ _ (by omega) (by omega)).mono ?_; rintro e w' ⟨rfl, rfl⟩)
      go_round
      case rel => exact ⟨y + 1, by omega, by omega, hd, rfl⟩
      case measure => simp [intOf]; omega
    · have hd' : n < Cal.ny (y + 1) := by omega
      clear hd lo
      go_wp2_with (go_at_call 59; refine (newYear_any _ _ (by omega) (by omega)).mono ?_; rintro e w' ⟨rfl, rfl⟩)
      have hd' := Lib.hid hd'
      go_loopg [] 11 (fun k wr => ∃ (m : Int) (q : Nat), 1 ≤ m ∧ m ≤ 12 ∧ Cal.cum y m ≤ n - Cal.ny y ∧ k = (12 - m).toNat ∧ wr = World.drewN ((w.alloc (Obj.cells #[Value.int IntKind.i64 0, Value.int IntKind.i64 0, Value.int IntKind.i64 0] 48)).alloc (Obj.cells #[Value.int IntKind.i64 y, Value.int IntKind.i64 m, Value.int IntKind.i64 (n - Cal.ny y - Cal.cum y m + 1)] 48)) q)
      case atStart => exact ⟨1, 0, by omega, by omega, by rw [Cal.cum_1]; omega, rfl, by rw [Cal.cum_1, Int.sub_zero]; rfl⟩
      case round =>
        obtain ⟨m, q, hm1, hm2, hm3, rfl, rfl⟩ := hrel
        have cb := Cal.cum_bd y m hm1 (by omega)
        have mb := Cal.md_bd y m
        have cs := Lib.hid (Cal.cum_succ y m hm1 hm2)
        by_cases ht : Cal.md y m < n - Cal.ny y - Cal.cum y m + 1
        · go_wp2
          go_quiet ((go_at_call 38; exact quiet_add_left (monthDays_any _ _ _ (by omega) (by omega))))
          go_wp2
          refine wp_region_still_tail 8 (by kernel_rfl) (by kernel_rfl) ?_
          simp only [List.take_succ_cons, List.take_zero, List.drop_succ_cons, List.drop_zero]
          change wpStill _ _ (World.drewN _ 1) (fun a' => wpList _ _ _ _ a' (World.drewN _ 1)) _ _
          simp only [World.drewN_drewN]
          still_step
          still_step
          still_step
          still_step
          still_step
          still_call (same_n (monthDays_any _ _ _ (by omega) (by omega)))
          still_step
          still_step
          refine wpStill_nil ?_
          go_wp2
          have hm4 : m < 12 := by
            by_cases e : m = 12
            · subst e; have := hd'.out; have := Cal.ny_succ y; have h13 := Cal.cum_13 y; have := cs.out; rw [show (12 : Int) + 1 = 13 from rfl] at this; omega
            · omega
          go_roundg (12 - (m + 1)).toNat
          case measure => omega
          case rel => exact ⟨m + 1, q + nq + 1, by omega, by omega, by have := cs.out; omega, rfl, by rw [show n - Cal.ny y - Cal.cum y (m + 1) + 1 = n - Cal.ny y - Cal.cum y m + 1 - Cal.md y m from by have := cs.out; omega]⟩
        · go_wp2
          go_quiet ((go_at_call 38; exact quiet_add_left (monthDays_any _ _ _ (by omega) (by omega))))
          go_wp2
          have hk : Cal.ok y m (n - Cal.ny y - Cal.cum y m + 1) := ⟨hm1, hm2, by omega, by omega⟩
          obtain ⟨e1, e2, e3⟩ := Cal.date_uniq h0 hk (by unfold Cal.num; omega)
          rw [← e1, ← e2, ← e3]
          exact bodyPost_ret (v := dateV y m (n - Cal.ny y - Cal.cum y m + 1)) (by simp [results, Tryz.results76, go_sem]) rfl ⟨rfl, below_n (((Below.refl _ _).alloc (Nat.le_refl _) _).alloc (by simp) _) _⟩
end Go.Proofs.YtpfekgmimfkjcaaGreatDoor
