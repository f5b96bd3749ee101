/-
  What Age of package rule returns: contracts, each for all worlds.
-/
import Derived.Test.YtfphedcgmaakjaaLawMonths
namespace Go.Proofs.Ytfphedcgmaakjaa
open Go.RowKit
attribute [local go_sem] set_drewN
theorem mnum_day (n : Int) (h0 : 0 ≤ n) (h9 : n ≤ 200000) : 21600 ≤ mnum n ∧ mnum n ≤ 28175 := by
  obtain ⟨a, b, c⟩ := Cal.date_spec n h0
  have l := Cal.ok_num_lo b
  rw [c] at l
  have := Cal.ny_lo (Cal.yr n)
  obtain ⟨b1, b2, _, _⟩ := b
  unfold mnum; omega
/-- whole months from one day to another one -/
noncomputable def ageM (a b : Int) : Int := if b < mlt a (mnum b - mnum a) then mnum b - mnum a - 1 else mnum b - mnum a
theorem mlt_0 {n : Int} (h0 : 0 ≤ n) : mlt n 0 = n := by
  obtain ⟨_, hk, hn⟩ := Cal.date_spec n h0
  have := Cal.lt_0 _ _ _ hk
  rw [hn] at this
  unfold mlt mnum; rw [Int.add_zero]; exact this
theorem mlt_mono {n j k : Int} (h0 : 0 ≤ n) (h : j < k) : mlt n j < mlt n k :=
  Cal.lt_mono _ _ _ (Cal.date_spec n h0).2.1.2.2.1 (by omega)
theorem age_spec {a b : Int} (h0 : 0 ≤ a) (h : a ≤ b) (h9 : b ≤ 200000) : 0 ≤ ageM a b ∧ ageM a b ≤ 6600 ∧ mlt a (ageM a b) ≤ b ∧ b < mlt a (ageM a b + 1) := by
  have hb := mnum_day b (by omega) h9
  have ha := mnum_day a h0 (by omega)
  obtain ⟨_, ka, na⟩ := Cal.date_spec a h0
  obtain ⟨_, kb, nb⟩ := Cal.date_spec b (by omega)
  have hle : mnum a ≤ mnum b := Cal.months_le ka kb (by omega)
  have st := Cal.age_step (Cal.da a) ka.2.2.1 kb
  rw [nb] at st
  have e1 : mlt a (mnum b - mnum a - 1) = Cal.lt (Cal.yr b * 12 + Cal.mo b - 1 - 1) (Cal.da a) := by unfold mlt; congr 1; unfold mnum; omega
  have e2 : mlt a (mnum b - mnum a + 1) = Cal.lt (Cal.yr b * 12 + Cal.mo b - 1 + 1) (Cal.da a) := by unfold mlt; congr 1; unfold mnum; omega
  rw [← e1, ← e2] at st
  unfold ageM
  split
  · rename_i hg
    have hne : mnum b - mnum a ≠ 0 := fun e => by rw [e, mlt_0 h0] at hg; omega
    exact ⟨by omega, by omega, by omega, by rw [show mnum b - mnum a - 1 + 1 = mnum b - mnum a from by omega]; omega⟩
  · exact ⟨by omega, by omega, by omega, st.2⟩
theorem monthNumber_of (n : Int) (w : World) (h0 : 0 ≤ n) (h9 : n ≤ 1000000) : Calls Try.prog 77 #[dateV (Cal.yr n) (Cal.mo n) (Cal.da n)] w (RetB (.int .i64 (mnum n)) w) := by
  have bd := Cal.date_bd n h0 h9
  exact monthNumber_any _ _ _ w (by omega) (by omega) (by omega) (by omega)
/-- three cells of a new struct -/
def Z3 (W : World) (B : Nat) : Prop := B < W.heap.size ∧
  (W.cell? ⟨B, 0, none⟩ = some (.int .i64 0) ∧ W.cell? ⟨B, 1, none⟩ = some (.int .i64 0) ∧ W.cell? ⟨B, 2, none⟩ = some (.int .i64 0)) ∧
  W.frozen? ⟨B, 0, none⟩ = false ∧ W.frozen? ⟨B, 1, none⟩ = false ∧ W.frozen? ⟨B, 2, none⟩ = false
theorem Z3.below {W W' : World} {B : Nat} (h : Z3 W B) (hb : Below W.heap.size W W') : Z3 W' B := by
  obtain ⟨hl, ⟨a, b, c⟩, d, e, f⟩ := h
  exact ⟨Nat.lt_of_lt_of_le hl hb.size, ⟨(hb.cell hl).trans a, (hb.cell hl).trans b, (hb.cell hl).trans c⟩, (hb.frozen hl).trans d, (hb.frozen hl).trans e, (hb.frozen hl).trans f⟩
theorem Age_range (a b : Int) (w : World) (h : inB a 0 200000 = false ∨ inB b 0 200000 = false) : Calls Try.prog 28 #[.int .i64 a, .int .i64 b] w (RetB (two (dateV 0 0 0) (.int .i64 2)) w) := by
  have e1 := cdE_2n h
  clear h
  go_enter Try.func28, Try.ntmps28
  go_wp2_with (go_at_call 69; refine (check2 a b _ _ _ (by simp [go_sem]) (by simp [go_sem])).mono ?_; rintro e w' ⟨rfl, rfl⟩)
  refine bodyPost_ret (v := two (dateV 0 0 0) (.int .i64 2)) (by simp [results, Try.results28, go_sem]) rfl ⟨rfl, ?_⟩
  exact ((Below.refl _ _).alloc (Nat.le_refl _) _).alloc (by simp) _
theorem Age_order (a b : Int) (w : World) (h1 : inB a 0 200000 = true) (h2 : inB b 0 200000 = true) (h : b < a) : Calls Try.prog 28 #[.int .i64 a, .int .i64 b] w (RetB (two (dateV 0 0 0) (.int .i64 9)) w) := by
  have e1 := cdE_2 h1 h2
  go_enter Try.func28, Try.ntmps28
  go_wp2_with (go_at_call 69; refine (check2 a b _ _ _ (by simp [go_sem]) (by simp [go_sem])).mono ?_; rintro e w' ⟨rfl, rfl⟩)
  refine bodyPost_ret (v := two (dateV 0 0 0) (.int .i64 9)) (by simp [results, Try.results28, go_sem]) rfl ⟨rfl, ?_⟩
  exact ((Below.refl _ _).alloc (Nat.le_refl _) _).alloc (by simp) _
set_option maxRecDepth 100000 in
set_option maxHeartbeats 2000000 in
theorem Age_yes (a b : Int) (w : World) (h1 : inB a 0 200000 = true) (h2 : inB b 0 200000 = true) (h : a ≤ b) :
    Calls Try.prog 28 #[.int .i64 a, .int .i64 b] w (RetB (two (dateV (ageM a b / 12) (ageM a b % 12) (b - mlt a (ageM a b))) (.int .i64 0)) w) := by
  obtain ⟨a0, a9⟩ := inB_iff.1 h1
  obtain ⟨b0, b9⟩ := inB_iff.1 h2
  have e1 := cdE_2 h1 h2
  obtain ⟨s1, s2, s3, _⟩ := age_spec a0 h b9
  have hna := mnum_day a a0 a9
  have hnb := mnum_day b b0 b9
  have lo : 0 ≤ mlt a (ageM a b) := by
    have := mlt_0 a0
    by_cases e : ageM a b = 0
    · rw [e, this]; omega
    · have := mlt_mono (n := a) (j := 0) (k := ageM a b) a0 (by omega); omega
  have lo2 : -1000000 ≤ mlt a (mnum b - mnum a) ∧ mlt a (mnum b - mnum a) ≤ 1000000 := by
    have i1 := Cal.lt_in (mnum a + (mnum b - mnum a)) (Cal.da a) (Cal.date_spec a a0).2.1.2.2.1
    have m1 := Cal.ms_mono 21600 (mnum a + (mnum b - mnum a)) (by omega)
    have m2 := Cal.ms_mono (mnum a + (mnum b - mnum a) + 1) (28176) (by omega)
    have v1 : Cal.ms 21600 = 0 := by decide
    have v2 : Cal.ms 28176 ≤ 1000000 := by decide
    have hu : mlt a (mnum b - mnum a) = Cal.lt (mnum a + (mnum b - mnum a)) (Cal.da a) := rfl
    omega
  have hm : (b < mlt a (mnum b - mnum a) ∧ ageM a b = mnum b - mnum a - 1) ∨ (¬ b < mlt a (mnum b - mnum a) ∧ ageM a b = mnum b - mnum a) := by
    unfold ageM
    split
    · exact Or.inl ⟨‹_›, rfl⟩
    · exact Or.inr ⟨‹_›, rfl⟩
  generalize hM : ageM a b = M at *
  have D1 := Lib.hid (fun w => dateOf_any b w b0 (by omega))
  have D2 := Lib.hid (fun w => dateOf_any a w a0 (by omega))
  have N1 := Lib.hid (fun w => monthNumber_of b w b0 (by omega))
  have N2 := Lib.hid (fun w => monthNumber_of a w a0 (by omega))
  have L1 := Lib.hid (fun w => monthsLater_any a (mnum b - mnum a) w a0 (by omega) (by omega) (by omega))
  have L2 := Lib.hid (fun w => monthsLater_any a M w a0 (by omega) (by omega) (by omega))
  clear hM
  rcases hm with ⟨hg, rfl⟩ | ⟨hg, rfl⟩
  · go_enter Try.func28, Try.ntmps28
    go_wp2_with (go_at_call 69; refine (check2 a b _ _ _ (by simp [go_sem]) (by simp [go_sem])).mono ?_; rintro e w' ⟨rfl, rfl⟩)
    have Z0 : Hid (Z3 ((w.alloc (.cells #[.int .i64 0, .int .i64 0, .int .i64 0] 23)).alloc (.cells #[.int .i64 a, .int .i64 b] 3)) w.heap.size) := Lib.hid ⟨by simp; omega, ⟨by simp [go_sem], by simp [go_sem], by simp [go_sem]⟩, by simp [go_sem], by simp [go_sem], by simp [go_sem]⟩
    refine (D1.out _).mono ?_
    rintro e w1 ⟨rfl, hb1⟩
    have Z1 := Lib.hid (Z0.out.below hb1)
    go_wp2_with fail
    refine (N1.out _).mono ?_
    rintro e w2 ⟨rfl, hb2⟩
    have Z2 := Lib.hid (Z1.out.below hb2)
    go_wp2_with fail
    refine (D2.out _).mono ?_
    rintro e w3 ⟨rfl, hb3⟩
    have Z3' := Lib.hid (Z2.out.below hb3)
    go_wp2_with fail
    refine (N2.out _).mono ?_
    rintro e w4 ⟨rfl, hb4⟩
    have Z4 := Lib.hid (Z3'.out.below hb4)
    go_wp2_with fail
    refine (L1.out _).mono ?_
    rintro e w5 ⟨rfl, hb5⟩
    have Z5 := Lib.hid (Z4.out.below hb5)
    go_wp2_with fail
    refine (L2.out _).mono ?_
    rintro e w6 ⟨rfl, hb6⟩
    have Z6 := Lib.hid (Z5.out.below hb6)
    obtain ⟨zl, ⟨z0, z1, z2⟩, y0, y1, y2⟩ := Z6.out
    obtain ⟨g0, g1, g2⟩ := cell_set3 z0 z1 z2 (.int .i64 ((mnum b - mnum a - 1) / 12)) (.int .i64 ((mnum b - mnum a - 1) % 12)) (.int .i64 (b - mlt a (mnum b - mnum a - 1)))
    go_wp2_with fail
    have q1 := hb1.size; have q2 := hb2.size; have q3 := hb3.size; have q4 := hb4.size; have q5 := hb5.size
    simp only [World.size_alloc] at q1
    refine bodyPost_ret (v := two (dateV ((mnum b - mnum a - 1) / 12) ((mnum b - mnum a - 1) % 12) (b - mlt a (mnum b - mnum a - 1))) (.int .i64 0)) (by simp [results, Try.results28, go_sem, g0, g1, g2]) rfl ⟨rfl, ?_⟩
    exact ((((((((((Below.refl _ _).alloc (Nat.le_refl _) _).alloc (by simp) _).trans (hb1.mono (by simp; omega))).trans (hb2.mono (by omega))).trans (hb3.mono (by omega))).trans (hb4.mono (by omega))).trans (hb5.mono (by omega))).trans (hb6.mono (by omega))).setCell (p := ⟨w.heap.size, 0, none⟩) (Nat.le_refl _) _).setCell (p := ⟨w.heap.size, 1, none⟩) (Nat.le_refl _) _ |>.setCell (p := ⟨w.heap.size, 2, none⟩) (Nat.le_refl _) _
  · go_enter Try.func28, Try.ntmps28
    go_wp2_with (go_at_call 69; refine (check2 a b _ _ _ (by simp [go_sem]) (by simp [go_sem])).mono ?_; rintro e w' ⟨rfl, rfl⟩)
    have Z0 : Hid (Z3 ((w.alloc (.cells #[.int .i64 0, .int .i64 0, .int .i64 0] 23)).alloc (.cells #[.int .i64 a, .int .i64 b] 3)) w.heap.size) := Lib.hid ⟨by simp; omega, ⟨by simp [go_sem], by simp [go_sem], by simp [go_sem]⟩, by simp [go_sem], by simp [go_sem], by simp [go_sem]⟩
    refine (D1.out _).mono ?_
    rintro e w1 ⟨rfl, hb1⟩
    have Z1 := Lib.hid (Z0.out.below hb1)
    go_wp2_with fail
    refine (N1.out _).mono ?_
    rintro e w2 ⟨rfl, hb2⟩
    have Z2 := Lib.hid (Z1.out.below hb2)
    go_wp2_with fail
    refine (D2.out _).mono ?_
    rintro e w3 ⟨rfl, hb3⟩
    have Z3' := Lib.hid (Z2.out.below hb3)
    go_wp2_with fail
    refine (N2.out _).mono ?_
    rintro e w4 ⟨rfl, hb4⟩
    have Z4 := Lib.hid (Z3'.out.below hb4)
    go_wp2_with fail
    refine (L1.out _).mono ?_
    rintro e w5 ⟨rfl, hb5⟩
    have Z5 := Lib.hid (Z4.out.below hb5)
    go_wp2_with fail
    refine (L2.out _).mono ?_
    rintro e w6 ⟨rfl, hb6⟩
    have Z6 := Lib.hid (Z5.out.below hb6)
    obtain ⟨zl, ⟨z0, z1, z2⟩, y0, y1, y2⟩ := Z6.out
    obtain ⟨g0, g1, g2⟩ := cell_set3 z0 z1 z2 (.int .i64 ((mnum b - mnum a) / 12)) (.int .i64 ((mnum b - mnum a) % 12)) (.int .i64 (b - mlt a (mnum b - mnum a)))
    go_wp2_with fail
    have q1 := hb1.size; have q2 := hb2.size; have q3 := hb3.size; have q4 := hb4.size; have q5 := hb5.size
    simp only [World.size_alloc] at q1
    refine bodyPost_ret (v := two (dateV ((mnum b - mnum a) / 12) ((mnum b - mnum a) % 12) (b - mlt a (mnum b - mnum a))) (.int .i64 0)) (by simp [results, Try.results28, go_sem, g0, g1, g2]) rfl ⟨rfl, ?_⟩
    exact ((((((((((Below.refl _ _).alloc (Nat.le_refl _) _).alloc (by simp) _).trans (hb1.mono (by simp; omega))).trans (hb2.mono (by omega))).trans (hb3.mono (by omega))).trans (hb4.mono (by omega))).trans (hb5.mono (by omega))).trans (hb6.mono (by omega))).setCell (p := ⟨w.heap.size, 0, none⟩) (Nat.le_refl _) _).setCell (p := ⟨w.heap.size, 1, none⟩) (Nat.le_refl _) _ |>.setCell (p := ⟨w.heap.size, 2, none⟩) (Nat.le_refl _) _
end Go.Proofs.Ytfphedcgmaakjaa
