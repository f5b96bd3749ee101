/-
  What AddMonths of package rule returns: contracts, each for all worlds.
-/
import Derived.Test.YtfphedcgmaakjabGreatDoorCal
import Derived.Test.YtfphedcgmaakjabGreatDoorDays
import Derived.StillTailTactics
import Derived.Deep.LoopGhost
import Derived.Test.YtfphedcgmaakjabGreatDoorChecks
namespace Go.Proofs.YtfphedcgmaakjabGreatDoor.Cal
/-- every number from 0 on is that of a right date -/
theorem ex : ∀ n : Nat, ∃ p : Int × Int × Int, 1800 ≤ p.1 ∧ ok p.1 p.2.1 p.2.2 ∧ num p.1 p.2.1 p.2.2 = n
  | 0 => ⟨(1800, 1, 1), by decide, by unfold ok; decide, by decide⟩
  | n + 1 => by
    obtain ⟨⟨y, m, d⟩, hy, hk, hn⟩ := ex n
    simp only at hy hk hn
    obtain ⟨a, b, c, e⟩ := hk
    by_cases h : d < md y m
    · exact ⟨(y, m, d + 1), hy, ⟨a, b, by simp only; omega, by simp only; omega⟩, by unfold num at hn ⊢; simp only; omega⟩
    · have hd : d = md y m := by omega
      by_cases hm : m < 12
      · have := md_bd y (m + 1); have cs := cum_succ y m a b
        exact ⟨(y, m + 1, 1), hy, ⟨by simp only; omega, by simp only; omega, by simp only; omega, by simp only; omega⟩, by unfold num at hn ⊢; simp only; omega⟩
      · have h12 : m = 12 := by omega
        subst h12
        have := md_bd (y + 1) 1; have cs := cum_succ y 12 (by omega) (by omega); have c1 := cum_1 (y + 1); have ns := ny_succ y
        rw [show (12 : Int) + 1 = 13 from rfl, cum_13] at cs
        exact ⟨(y + 1, 1, 1), by simp only; omega, ⟨by simp only; omega, by simp only; omega, by simp only; omega, by simp only; omega⟩, by unfold num at hn ⊢; simp only; omega⟩
/-- the date of a day -/
noncomputable def date (n : Int) : Int × Int × Int := Classical.choose (ex n.toNat)
noncomputable def yr (n : Int) : Int := (date n).1
noncomputable def mo (n : Int) : Int := (date n).2.1
noncomputable def da (n : Int) : Int := (date n).2.2
theorem date_spec (n : Int) (h : 0 ≤ n) : 1800 ≤ yr n ∧ ok (yr n) (mo n) (da n) ∧ num (yr n) (mo n) (da n) = n := by
  have t : 1800 ≤ yr n ∧ ok (yr n) (mo n) (da n) ∧ num (yr n) (mo n) (da n) = (n.toNat : Int) := Classical.choose_spec (ex n.toNat)
  exact ⟨t.1, t.2.1, t.2.2.trans (Int.toNat_of_nonneg h)⟩
theorem date_uniq {n y m d : Int} (h : 0 ≤ n) (hk : ok y m d) (hn : num y m d = n) : y = yr n ∧ m = mo n ∧ d = da n :=
  uniq hk (date_spec n h).2.1 (hn.trans (date_spec n h).2.2.symm)
theorem ok_num_lo {y m d : Int} (hk : ok y m d) : ny y ≤ num y m d ∧ num y m d < ny (y + 1) := ok_in y m d hk
theorem date_bd (n : Int) (h : 0 ≤ n) (h2 : n ≤ 1000000) : 1800 ≤ yr n ∧ yr n ≤ 4600 ∧ 1 ≤ mo n ∧ mo n ≤ 12 ∧ 1 ≤ da n ∧ da n ≤ 31 := by
  obtain ⟨a, b, c⟩ := date_spec n h
  have l := ok_num_lo b
  rw [c] at l
  obtain ⟨b1, b2, b3, b4⟩ := b
  have m := md_bd (yr n) (mo n)
  have := ny_lo (yr n)
  exact ⟨a, by omega, b1, b2, b3, by omega⟩
end Go.Proofs.YtfphedcgmaakjabGreatDoor.Cal
namespace Go.Proofs.YtfphedcgmaakjabGreatDoor
open Go.RowKit
attribute [local go_sem] set_drewN
abbrev dateV (y m d : Int) : Value := .agg #[.int .i64 y, .int .i64 m, .int .i64 d]
set_option maxRecDepth 100000 in
set_option maxHeartbeats 1000000 in
theorem dateOf_any (n : Int) (w : World) (h0 : 0 ≤ n) (h9 : n ≤ 1000000) :
    Calls Tryz.prog 92 #[.int .i64 n] w (RetB (dateV (Cal.yr n) (Cal.mo n) (Cal.da n)) w) := by
  have g0 := Cal.ny_guess n h0
  go_enter Tryz.func92, Tryz.ntmps92
  go_wp2
  go_loop [3] (fun t => ∃ y : Int, 1800 ≤ y ∧ y ≤ 9000 ∧ Cal.ny y ≤ n ∧ t = .int .i64 y) (fun t => (9000 - intOf t).toNat)
  case atStart => exact ⟨_, by omega, by omega, g0, rfl⟩
  case round =>
    obtain ⟨y, hy1, hy2, hy3, rfl⟩ := hrel
    clear g0
    have lo := Cal.ny_lo y
    have b := ny_bd2 y (by omega) (by omega)
    by_cases hd : Cal.ny (y + 1) ≤ n
    · have lo2 := Cal.ny_lo (y + 1)
      have hy4 : y + 1 ≤ 9000 := by omega
      clear lo lo2
      go_wp2_with (go_at_call 73; refine (newYear_any _ _ (by omega) (by omega)).mono ?_; rintro e w' ⟨rfl, rfl⟩)
      go_round
      case rel => exact ⟨y + 1, by omega, by omega, hd, rfl⟩
      case measure => simp [intOf]; omega
    · have hd' : n < Cal.ny (y + 1) := by omega
      clear hd lo
      go_wp2_with (go_at_call 73; refine (newYear_any _ _ (by omega) (by omega)).mono ?_; rintro e w' ⟨rfl, rfl⟩)
      have hd' := Lib.hid hd'
      go_loopg [] 11 (fun k wr => ∃ (m : Int) (q : Nat), 1 ≤ m ∧ m ≤ 12 ∧ Cal.cum y m ≤ n - Cal.ny y ∧ k = (12 - m).toNat ∧ wr = World.drewN ((w.alloc (Obj.cells #[Value.int IntKind.i64 0, Value.int IntKind.i64 0, Value.int IntKind.i64 0] 59)).alloc (Obj.cells #[Value.int IntKind.i64 y, Value.int IntKind.i64 m, Value.int IntKind.i64 (n - Cal.ny y - Cal.cum y m + 1)] 59)) q)
      case atStart => exact ⟨1, 0, by omega, by omega, by rw [Cal.cum_1]; omega, rfl, by rw [Cal.cum_1, Int.sub_zero]; rfl⟩
      case round =>
        obtain ⟨m, q, hm1, hm2, hm3, rfl, rfl⟩ := hrel
        have cb := Cal.cum_bd y m hm1 (by omega)
        have mb := Cal.md_bd y m
        have cs := Lib.hid (Cal.cum_succ y m hm1 hm2)
        by_cases ht : Cal.md y m < n - Cal.ny y - Cal.cum y m + 1
        · go_wp2
          go_quiet ((go_at_call 52; exact quiet_add_left (monthDays_any _ _ _ (by omega) (by omega))))
          go_wp2
          refine wp_region_still_tail 8 (by kernel_rfl) (by kernel_rfl) ?_
          simp only [List.take_succ_cons, List.take_zero, List.drop_succ_cons, List.drop_zero]
          change wpStill _ _ (World.drewN _ 1) (fun a' => wpList _ _ _ _ a' (World.drewN _ 1)) _ _
          simp only [World.drewN_drewN]
          still_step
          still_step
          still_step
          still_step
          still_step
          still_call (same_n (monthDays_any _ _ _ (by omega) (by omega)))
          still_step
          still_step
          refine wpStill_nil ?_
          go_wp2
          have hm4 : m < 12 := by
            by_cases e : m = 12
            · subst e; have := hd'.out; have := Cal.ny_succ y; have h13 := Cal.cum_13 y; have := cs.out; rw [show (12 : Int) + 1 = 13 from rfl] at this; omega
            · omega
          go_roundg (12 - (m + 1)).toNat
          case measure => omega
          case rel => exact ⟨m + 1, q + nq + 1, by omega, by omega, by have := cs.out; omega, rfl, by rw [show n - Cal.ny y - Cal.cum y (m + 1) + 1 = n - Cal.ny y - Cal.cum y m + 1 - Cal.md y m from by have := cs.out; omega]⟩
        · go_wp2
          go_quiet ((go_at_call 52; exact quiet_add_left (monthDays_any _ _ _ (by omega) (by omega))))
          go_wp2
          have hk : Cal.ok y m (n - Cal.ny y - Cal.cum y m + 1) := ⟨hm1, hm2, by omega, by omega⟩
          obtain ⟨e1, e2, e3⟩ := Cal.date_uniq h0 hk (by unfold Cal.num; omega)
          rw [← e1, ← e2, ← e3]
          exact bodyPost_ret (v := dateV y m (n - Cal.ny y - Cal.cum y m + 1)) (by simp [results, Tryz.results92, go_sem]) rfl ⟨rfl, below_n (((Below.refl _ _).alloc (Nat.le_refl _) _).alloc (by simp) _) _⟩
end Go.Proofs.YtfphedcgmaakjabGreatDoor
namespace Go.Proofs.YtfphedcgmaakjabGreatDoor
open Go.RowKit
attribute [local go_sem] set_drewN
abbrev z3 : Value → Value → Value → Obj := fun a b c => Obj.cells #[a, b, c] 59
end Go.Proofs.YtfphedcgmaakjabGreatDoor
namespace Go.Proofs.YtfphedcgmaakjabGreatDoor
open Go.RowKit
attribute [local go_sem] set_drewN
/-- a month counted over the years -/
noncomputable def mnum (n : Int) : Int := Cal.yr n * 12 + Cal.mo n - 1
theorem mnum_bd (n : Int) (h : 0 ≤ n) (h2 : n ≤ 1000000) : 21600 ≤ mnum n ∧ mnum n ≤ 60000 := by have := Cal.date_bd n h h2; unfold mnum; omega
/-- the day so many months later -/
noncomputable def mlt (n k : Int) : Int := Cal.lt (mnum n + k) (Cal.da n)
end Go.Proofs.YtfphedcgmaakjabGreatDoor
namespace Go.Proofs.YtfphedcgmaakjabGreatDoor
open Go.RowKit
attribute [local go_sem] set_drewN
abbrev two (a : Value) (b : Value) : Value := .tuple #[a, b]
end Go.Proofs.YtfphedcgmaakjabGreatDoor
namespace Go.Proofs.YtfphedcgmaakjabGreatDoor
open Go.RowKit
attribute [local go_sem] set_drewN
theorem cdE_1 {n : Int} (h : inB n 0 200000 = true) : cdE [n] = 0 := by simp [cdE, h]
theorem cdE_1n {n : Int} (h : inB n 0 200000 = false) : cdE [n] = 2 := by simp [cdE, h]
theorem cdE_2 {n m : Int} (h : inB n 0 200000 = true) (h2 : inB m 0 200000 = true) : cdE [n, m] = 0 := by simp [cdE, h, h2]
theorem cdE_2n {n m : Int} (h : inB n 0 200000 = false ∨ inB m 0 200000 = false) : cdE [n, m] = 2 := by
  rcases h with h | h <;> simp [cdE, h]
/-- checkDays of one day, or of two, in a block of their own -/
theorem check1 (n : Int) (b cap : Nat) (w : World) (h : w.cell? ⟨b, 0, none⟩ = some (.int .i64 n)) :
    Calls Tryz.prog 46 #[.slice (some ⟨b, 0, none⟩) 1 cap] w (Ret (.int .i64 (cdE [n])) w) :=
  checkDays_any [n] b 0 cap w (by simp) (IntsAt.one h)
theorem check2 (n m : Int) (b cap : Nat) (w : World) (h : w.cell? ⟨b, 0, none⟩ = some (.int .i64 n)) (h2 : w.cell? ⟨b, 1, none⟩ = some (.int .i64 m)) :
    Calls Tryz.prog 46 #[.slice (some ⟨b, 0, none⟩) 2 cap] w (Ret (.int .i64 (cdE [n, m])) w) :=
  checkDays_any [n, m] b 0 cap w (by simp) (IntsAt.cons h (IntsAt.one h2))
end Go.Proofs.YtfphedcgmaakjabGreatDoor
