/-
  RuleHolidays returns true for every list of holidays and every year, in every world in which the list lies.
-/
import Derived.Test.YtfphedcgmaakjaaRefOf
import Derived.Test.YtfphedcgmaakjaaCalLaw
namespace Go.Proofs.Ytfphedcgmaakjaa
open Go.RowKit
attribute [local go_sem] set_drewN
theorem HolidaysOf_err (sv : Value) (y E : Int) (w : World) (hE : (E != 0) = true) (cC : Hid (∀ W, W = w → Calls Try.prog 36 #[sv] W (RetB (.int .i64 E) W))) :
    Calls Try.prog 35 #[sv, .int .i64 y] w (RetB (two (.slice none 0 0) (.int .i64 E)) w) := by
  go_enter Try.func35, Try.ntmps35
  go_wp2_with fail
  refine (cC.out _ rfl).mono ?_
  rintro e w1 ⟨rfl, hb1⟩
  go_wp2
  go_ret2
  exact ⟨rfl, hb1⟩
theorem HolidaysOf_no (sv : Value) (y : Int) (w : World) (hy : inB y 1800 2346 = false) (cC : Hid (∀ W, W = w → Calls Try.prog 36 #[sv] W (RetB (.int .i64 0) W))) :
    Calls Try.prog 35 #[sv, .int .i64 y] w (RetB (two (.slice none 0 0) (.int .i64 2)) w) := by
  go_enter Try.func35, Try.ntmps35
  go_wp2_with fail
  refine (cC.out _ rfl).mono ?_
  rintro e w1 ⟨rfl, hb1⟩
  go_wp2_with (go_at_call 64; refine (isFromTo_any _ _ _ _).mono ?_; rintro e w' ⟨rfl, rfl⟩; rw [hy])
  go_ret2
  exact ⟨rfl, hb1⟩
theorem HolidaysOf_yes (sv : Value) (y : Int) (L : List Int) (w : World) (hy : inB y 1800 2346 = true) (cC : Hid (∀ W, W = w → Calls Try.prog 36 #[sv] W (RetB (.int .i64 0) W)))
    (cH : Hid (∀ W, Below w.heap.size w W → Calls Try.prog 81 #[sv, .int .i64 y] W (DaysPost L W))) :
    Calls Try.prog 35 #[sv, .int .i64 y] w (fun e w' => ∃ v, e = .returned (two v (.int .i64 0)) ∧ Closed w' w.heap.size v L ∧ Below w.heap.size w w') := by
  go_enter Try.func35, Try.ntmps35
  go_wp2_with fail
  refine (cC.out _ rfl).mono ?_
  rintro e w1 ⟨rfl, hb1⟩
  have BB := Lib.hid hb1
  go_wp2_with (go_at_call 64; refine (isFromTo_any _ _ _ _).mono ?_; rintro e w' ⟨rfl, rfl⟩; rw [hy])
  refine (cH.out _ BB.out).mono ?_
  rintro e w2 ⟨v2, rfl, hc2, hb2⟩
  have C2 := Lib.hid (hc2.mono BB.out.size)
  have B2 := Lib.hid (BB.out.trans (hb2.mono BB.out.size))
  clear hc2 hb2
  go_wp2
  go_ret2
  exact ⟨v2, rfl, C2.out, B2.out⟩
theorem ints_0 (a1 a2 : Option Addr) (c1 c2 : Nat) (w : World) : Calls Try.prog 37 #[.slice a1 0 c1, .slice a2 0 c2] w (RetB (.bool true) w) := by
  go_enter Try.func37, Try.ntmps37
  go_wp2
  go_loop [5] (fun i => i = .int .i64 0) (fun _ => 0)
  case atStart => exact rfl
  case round =>
    obtain rfl := hrel
    go_wp2
    go_ret
    exact ⟨rfl, Below.refl _ _⟩
set_option maxRecDepth 100000 in
theorem ints_some (L : List Int) (b1 c1 b2 c2 : Nat) (w : World) (hl : L.length ≤ 1000) (l1 : b1 < w.heap.size) (l2 : b2 < w.heap.size) (h1 : IntsAt w b1 0 L) (h2 : IntsAt w b2 0 L) :
    Calls Try.prog 37 #[.slice (some ⟨b1, 0, none⟩) L.length c1, .slice (some ⟨b2, 0, none⟩) L.length c2] w (RetB (.bool true) w) := by
  have H1 := Lib.hid h1
  have H2 := Lib.hid h2
  clear h1 h2
  go_enter Try.func37, Try.ntmps37
  go_wp2
  go_loopw [5] (fun i wr => ∃ k : Nat, k ≤ L.length ∧ i = .int .i64 k ∧ Below w.heap.size w wr) (fun i _ => L.length - (intOf i).toNat)
  case atStart => exact ⟨0, Nat.zero_le _, rfl, Below.refl _ _⟩
  case round =>
    obtain ⟨k, hk, rfl, hB⟩ := hrel
    by_cases hlt : k < L.length
    · have a1 := (hB.cell (p := ⟨b1, 0 + k, none⟩) l1).trans (H1.out k hlt)
      have a2 := (hB.cell (p := ⟨b2, 0 + k, none⟩) l2).trans (H2.out k hlt)
      rw [Nat.zero_add] at a1 a2
      generalize L[k] = X at *
      go_wp2
      go_quiet (fail)
      go_wp2
      go_roundw
      case rel => exact ⟨k + 1, by omega, by go_num, below_n hB _⟩
      case measure => simp [intOf]; omega
    · go_wp2
      go_ret
      exact ⟨rfl, hB⟩
theorem ints_closed {W : World} {n1 n2 : Nat} {v1 v2 : Value} {L : List Int} (h1 : Closed W n1 v1 L) (h2 : Closed W n2 v2 L) (hl : L.length ≤ 1000) :
    Calls Try.prog 37 #[v1, v2] W (RetB (.bool true) W) := by
  rcases h1 with ⟨e, rfl⟩ | ⟨g1, c1, rfl, _, p1, q1⟩
  · subst e
    rcases h2 with ⟨_, rfl⟩ | ⟨g2, c2, rfl, _, p2, q2⟩
    · exact ints_0 _ _ _ _ W
    · exact ints_0 _ _ _ _ W
  · rcases h2 with ⟨e, rfl⟩ | ⟨g2, c2, rfl, _, p2, q2⟩
    · subst e; exact ints_0 _ _ _ _ W
    · exact ints_some L g1 c1 g2 c2 W hl p1 p2 q1 q2
end Go.Proofs.Ytfphedcgmaakjaa
