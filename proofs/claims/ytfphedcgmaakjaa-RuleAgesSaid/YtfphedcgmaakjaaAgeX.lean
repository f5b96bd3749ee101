/-
  What Age of the specification of package rule returns: a contract for all worlds.
-/
import Derived.Test.YtfphedcgmaakjaaAge
namespace Go.Proofs.Ytfphedcgmaakjaa
open Go.RowKit
attribute [local go_sem] set_drewN
set_option maxRecDepth 100000 in
set_option maxHeartbeats 2000000 in
theorem xAge_yes (a b : Int) (w : World) (h1 : inB a 0 200000 = true) (h2 : inB b 0 200000 = true) (h : a ≤ b) :
    Calls Try.prog 29 #[.int .i64 a, .int .i64 b] w (RetB (dateV (ageM a b / 12) (ageM a b % 12) (b - mlt a (ageM a b))) w) := by
  obtain ⟨a0, a9⟩ := inB_iff.1 h1
  obtain ⟨b0, b9⟩ := inB_iff.1 h2
  obtain ⟨s1, s2, s3, s4⟩ := age_spec a0 h b9
  generalize ageM a b = M at *
  have hlo : ∀ k, 0 ≤ k → 0 ≤ mlt a k := fun k hk => by
    have z := mlt_0 a0
    by_cases e : k = 0
    · rw [e, z]; omega
    · have := mlt_mono (n := a) (j := 0) (k := k) a0 (by omega); omega
  have hup : ∀ k, k < M → mlt a (k + 1) ≤ mlt a M := fun k hk => by
    by_cases e : k + 1 = M
    · rw [e]; omega
    · have := mlt_mono (n := a) (j := k + 1) (k := M) a0 (by omega); omega
  have LO := Lib.hid hlo
  have UP := Lib.hid hup
  have m0 := Lib.hid (mlt_0 a0)
  clear hlo hup
  go_enter Try.func29, Try.ntmps29
  go_wp2
  go_loopw [5, 6] (fun mv av wr => ∃ m : Int, 0 ≤ m ∧ m ≤ M ∧ mv = .int .i64 m ∧ av = .int .i64 (mlt a m) ∧ Z3 wr w.heap.size ∧ Below w.heap.size w wr) (fun mv _ _ => (M - intOf mv).toNat)
  case atStart => exact ⟨0, by omega, s1, rfl, by rw [m0.out], ⟨by simp, ⟨by simp [go_sem], by simp [go_sem], by simp [go_sem]⟩, by simp [go_sem], by simp [go_sem], by simp [go_sem]⟩, (Below.refl _ _).alloc (Nat.le_refl _) _⟩
  case round =>
    obtain ⟨m, hm0, hmM, rfl, rfl, hz, hB⟩ := hrel
    have HZ := Lib.hid hz
    clear hz
    have l1 := LO.out m hm0
    have l2 := LO.out (m + 1) (by omega)
    have XA := Lib.hid (fun W => xAddMonths_any a (m + 1) W a0 (by omega) (by omega) (by omega))
    by_cases hlt : m < M
    · have u1 := UP.out m hlt
      have hin := inB_yes (n := mlt a (m + 1)) (a := 0) (b := 200000) l2 (by omega)
      have e1 := xa_eq (k := m + 1) a0
      have e2 := xa_yes a0 hin
      rw [hin] at e1
      clear hin
      go_wp2_with (go_at_call 27; refine (XA.out _).mono ?_; rintro e w1 ⟨rfl, hb1⟩)
      go_roundw
      case rel => exact ⟨m + 1, by omega, by omega, rfl, rfl, HZ.out.below hb1, hB.trans (hb1.mono hB.size)⟩
      case measure => simp [intOf]; omega
    · obtain rfl : m = M := by omega
      have e1 := xa_eq (k := m + 1) a0
      cases hin : inB (mlt a (m + 1)) 0 200000
      · rw [hin] at e1
        clear hin
        go_wp2_with (go_at_call 27; refine (XA.out _).mono ?_; rintro e w1 ⟨rfl, hb1⟩; obtain ⟨zl, ⟨z0, z1, z2⟩, y0, y1, y2⟩ := HZ.out.below hb1)
        obtain ⟨g0, g1, g2⟩ := cell_set3 z0 z1 z2 (.int .i64 (m / 12)) (.int .i64 (m % 12)) (.int .i64 (b - mlt a m))
        refine bodyPost_ret (v := dateV (m / 12) (m % 12) (b - mlt a m)) (by simp [results, Try.results29, go_sem, g0, g1, g2]) rfl ⟨rfl, ?_⟩
        exact ((hB.trans (hb1.mono hB.size)).setCell (p := ⟨w.heap.size, 0, none⟩) (Nat.le_refl _) _).setCell (p := ⟨w.heap.size, 1, none⟩) (Nat.le_refl _) _ |>.setCell (p := ⟨w.heap.size, 2, none⟩) (Nat.le_refl _) _
      · have e2 := xa_yes a0 hin
        rw [hin] at e1
        clear hin
        go_wp2_with (go_at_call 27; refine (XA.out _).mono ?_; rintro e w1 ⟨rfl, hb1⟩; obtain ⟨zl, ⟨z0, z1, z2⟩, y0, y1, y2⟩ := HZ.out.below hb1)
        obtain ⟨g0, g1, g2⟩ := cell_set3 z0 z1 z2 (.int .i64 (m / 12)) (.int .i64 (m % 12)) (.int .i64 (b - mlt a m))
        refine bodyPost_ret (v := dateV (m / 12) (m % 12) (b - mlt a m)) (by simp [results, Try.results29, go_sem, g0, g1, g2]) rfl ⟨rfl, ?_⟩
        exact ((hB.trans (hb1.mono hB.size)).setCell (p := ⟨w.heap.size, 0, none⟩) (Nat.le_refl _) _).setCell (p := ⟨w.heap.size, 1, none⟩) (Nat.le_refl _) _ |>.setCell (p := ⟨w.heap.size, 2, none⟩) (Nat.le_refl _) _
end Go.Proofs.Ytfphedcgmaakjaa
