/-
  What Persona of package person returns at right entries and a right class: a contract for all worlds in which they lie.
-/
import Derived.Test.YtjjfiilokakppaaPer
namespace Go.Proofs.Ytjjfiilokakppaa
open Go.RowKit
attribute [local go_sem] set_drewN
set_option maxRecDepth 100000 in
set_option maxHeartbeats 8000000 in
theorem Persona_any (l : List Nt) (c : Nat) (r : List Nat) (b o cap cb ccap : Nat) (w : World) (hE : cnsE l = 0) (hl : l.length ≤ 60) (hn : ∀ p ∈ l, p.nm.length ≤ 2000000) (hc : NtsAt w b o l)
    (hI : IntsAt w cb 0 ((c :: r).map (fun k : Nat => (k : Int)))) (hcb : cb < w.heap.size) (hcs : ∀ k ∈ c :: r, k < l.length) (hasc : (c :: r).Pairwise (· < ·)) (hr9 : r.length ≤ 2000000) (hcap : r.length + 1 ≤ ccap) (hcap9 : ccap ≤ 9223372036854775807) :
    Calls Try.prog 7 #[.slice (some ⟨b, o, none⟩) l.length cap, .slice (some ⟨cb, 0, none⟩) (r.length + 1) ccap] w (RetB (two (perR l (c :: r)).1.val (.int .i64 (perR l (c :: r)).2)) w) := by
  have HC := Lib.hid hc
  have HI := Lib.hid hI
  have HCS := Lib.hid hcs
  have HA := Lib.hid hasc
  have HK := Lib.hid (fun (W : World) (hb : Below w.heap.size w W) (q : w.heap.size ≤ W.heap.size) => CheckNotes_any l b o cap W (by omega) hn (hc.below hb))
  have HPer := Lib.hid (fun (W : World) (hb : Below w.heap.size w W) (q : w.heap.size ≤ W.heap.size) => persona_any l c r b o cap cb ccap W hn (hc.below hb) (fun i hi => (hb.cell (p := ⟨cb, 0 + i, none⟩) hcb).trans (hI i hi)) (Nat.lt_of_lt_of_le hcb q) hcs hr9 hcap hcap9)
  rw [hE] at HK
  have hclen : (c :: r).length = r.length + 1 := rfl
  obtain ⟨⟨P, E⟩, hR⟩ : ∃ R, perR l (c :: r) = R := ⟨_, rfl⟩
  rw [hR] at HPer ⊢
  obtain ⟨nm, bf, bt, df, dt⟩ := P
  have HZ0 := Lib.hid (P5.new w nt0 30)
  have HB0 := Lib.hid ((Below.refl w.heap.size w).alloc (Nat.le_refl _) (.cells #[.string ⟨#[]⟩, .int .i64 0, .int .i64 0, .int .i64 0, .int .i64 0] 30))
  clear hc hI hcs hasc hn hE hR
  go_enter Try.func7, Try.ntmps7
  go_wp2_with fail
  refine (HK.out _ HB0.out (by simp)).mono ?_
  rintro e w1 ⟨rfl, hb1⟩
  have HZ1 := Lib.hid (HZ0.out.below hb1)
  have HB1 := Lib.hid (HB0.out.trans (hb1.mono (by simp)))
  have q1 := HB1.out.size
  have hne0 : (((r.length : Int) + 1) == 0) = false := by rw [beq_eq_false_iff_ne]; omega
  go_wp2_with (first
    | (go_at_call 12; refine (errorIf_any false _ _).mono ?_; rintro e w' ⟨rfl, rfl⟩)
    | (go_at_call 10; refine (firstError_2 0 0 0 rfl _ 2 _ (IntsAt.cons (by simp [go_sem]) (IntsAt.one (by simp [go_sem, eI])))).mono ?_; rintro e w' ⟨rfl, rfl⟩))
  have HBW := Lib.hid (HB1.out.alloc q1 (.cells #[.int .i64 0, .int .i64 (eI false 10)] 31))
  have HZW := Lib.hid (HZ1.out.below ((Below.refl _ w1).alloc (Nat.le_refl _) (.cells #[.int .i64 0, .int .i64 (eI false 10)] 31)))
  have HIW := Lib.hid (fun (i : Nat) (hi : i < ((c :: r).map (fun k : Nat => (k : Int))).length) => (HBW.out.cell (p := ⟨cb, 0 + i, none⟩) hcb).trans (HI.out i hi))
  generalize hW0 : w1.alloc (.cells #[.int .i64 0, .int .i64 (eI false 10)] 31) = W0 at *
  have qW := HBW.out.size
  clear hW0
  go_loop [23] (fun iv => ∃ k : Nat, k ≤ r.length + 1 ∧ iv = .int .i64 k) (fun iv => r.length + 1 - (intOf iv).toNat)
  case atStart => exact ⟨0, Nat.zero_le _, rfl⟩
  case round =>
    obtain ⟨k, hk, rfl⟩ := hrel
    by_cases hlt : k < r.length + 1
    · have hkl : k < (c :: r).length := by rw [hclen]; exact hlt
      have iK := HIW.out k (by simpa using hlt)
      simp only [List.getElem_map, Nat.zero_add] at iK
      have hin := HCS.out _ (List.getElem_mem hkl)
      have hi1 : (k : Int) < (r.length : Int) + 1 := by omega
      have hi3 : 0 ≤ (k : Int) ∧ (k : Int) < (r.length : Int) + 1 := by omega
      cases k with
      | zero =>
        obtain ⟨x, hx⟩ : ∃ x, (c :: r)[0] = x := ⟨_, rfl⟩
        rw [hx] at iK hin
        have hN := Lib.hid (fun w => isNumberOf_any (x : Int) (l.length : Int) w (by omega) (by omega))
        rw [inB_yes (by omega) (by omega)] at hN
        clear hx
        go_wp2_with (go_at_call 13; refine (hN.out _).mono ?_; rintro e w' ⟨rfl, rfl⟩)
        go_round
        case rel => exact ⟨1, by omega, rfl⟩
        case measure => simp [intOf]
      | succ j =>
        have hj : j < (c :: r).length := by omega
        have iJ := HIW.out j (by simpa using (by omega : j < r.length + 1))
        simp only [List.getElem_map, Nat.zero_add] at iJ
        have hlt2 := List.pairwise_iff_getElem.1 HA.out j (j + 1) hj hkl (by omega)
        obtain ⟨x, hx⟩ : ∃ x, (c :: r)[j + 1] = x := ⟨_, rfl⟩
        obtain ⟨y, hy⟩ : ∃ y, (c :: r)[j] = y := ⟨_, rfl⟩
        rw [hx] at iK hin hlt2
        rw [hy] at iJ hlt2
        have hN := Lib.hid (fun w => isNumberOf_any (x : Int) (l.length : Int) w (by omega) (by omega))
        rw [inB_yes (by omega) (by omega)] at hN
        have hle : ¬ (x : Int) ≤ (y : Int) := by omega
        have hled : decide ((x : Int) ≤ (y : Int)) = false := decide_eq_false hle
        have hj1 : (j : Int) < (r.length : Int) + 1 := by omega
        clear hx hy hlt2
        go_wp2_with (go_at_call 13; refine (hN.out _).mono ?_; rintro e w' ⟨rfl, rfl⟩)
        go_round
        case rel => exact ⟨j + 1 + 1, by omega, by go_num⟩
        case measure => simp [intOf]; omega
    · obtain rfl : k = r.length + 1 := by omega
      have hlf : ¬ (r.length : Int) + 1 < (r.length : Int) + 1 := by omega
      go_wp2_with (go_at_call 14; refine (HPer.out _ HBW.out qW).mono ?_; rintro e w5 ⟨rfl, hb5⟩; obtain ⟨zl, ⟨z0, z1, z2, z3, z4⟩, y0, y1, y2, y3, y4⟩ := HZW.out.below hb5)
      obtain ⟨g0, g1, g2, g3, g4⟩ := cell_set5 z0 z1 z2 z3 z4 (.string ⟨nm.toArray⟩) (.int .i64 bf) (.int .i64 bt) (.int .i64 df) (.int .i64 dt)
      refine bodyPost_ret (v := two (Nt.val ⟨nm, bf, bt, df, dt⟩) (.int .i64 E)) (by simp [results, Try.results7, go_sem, g0, g1, g2, g3, g4]) rfl ⟨rfl, ?_⟩
      exact set5_below (HBW.out.trans (hb5.mono qW)) (Nat.le_refl _) _ _ _ _ _
end Go.Proofs.Ytjjfiilokakppaa
