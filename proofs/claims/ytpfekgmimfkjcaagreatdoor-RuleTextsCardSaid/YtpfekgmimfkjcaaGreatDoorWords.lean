/-
  What words of the specification of package rule returns: a contract for all worlds.
-/
import Derived.Test.YtpfekgmimfkjcaaGreatDoorWfour
namespace Go.Proofs.YtpfekgmimfkjcaaGreatDoor
open Go.RowKit
attribute [local go_sem] set_drewN
set_option maxRecDepth 100000 in
set_option maxHeartbeats 8000000 in
theorem words_any (s : ByteArray) (w : World) (hs : s.size ≤ 1000000) :
    Calls Tryz.prog 26 #[.string s] w (RetB (two (rpP s).val (.bool (wdB s))) w) := by
  by_cases h200 : 200 < s.size
  · obtain ⟨z1, z2⟩ := wd_no (.inl h200)
    rw [z1, z2]
    clear z1 z2
    go_enter Tryz.func26, Tryz.ntmps26
    go_wp2
    refine bodyPost_ret (v := two pv0.val (.bool false)) (by simp [results, Tryz.results26, go_sem, pv0]) rfl ⟨rfl, ?_⟩
    exact (Below.refl _ _).alloc (Nat.le_refl _) _
  · have HS := Lib.hid (fun W => cut_32 s W hs)
    have HL := Lib.hid (fun W => cut_10 s W hs)
    have d200 : decide (200 < s.size) = false := by simpa using h200
    have hN := Lib.hid (fun h => @wd_no s (.inr h))
    have hY := Lib.hid (fun p => @wd_yes s p h200)
    have hL := fun x hx => spl_mem (c := 32) s.data.toList x hx
    by_cases h4 : (spl 32 s.data.toList).length = 4
    · obtain ⟨a, b, c, d, hT⟩ := four_of h4
      have hR := Lib.hid (rdP_four hT)
      rw [hT] at HS hL
      have la := (hL a (by simp)).1; have lb := (hL b (by simp)).1; have lc := (hL c (by simp)).1; have ld := (hL d (by simp)).1
      rw [dlen] at la lb lc ld
      have hTT := hT
      clear hL h4 hT
      have sb : (⟨b.toArray⟩ : ByteArray).size ≤ 1000000 := by show b.toArray.size ≤ 1000000; simp; omega
      have sc : (⟨c.toArray⟩ : ByteArray).size ≤ 1000000 := by show c.toArray.size ≤ 1000000; simp; omega
      have sd : (⟨d.toArray⟩ : ByteArray).size ≤ 1000000 := by show d.toArray.size ≤ 1000000; simp; omega
      have h2 := spl_two (c := 10) s.data.toList
      by_cases h10 : (10 : UInt8) ∈ s.data.toList
      · obtain ⟨z1, z2⟩ := hN.out (rdP_lf h10)
        rw [z1, z2]
        have hlt : 1 < (spl 10 s.data.toList).length := by rw [decide_eq_true h10] at h2; simpa using h2
        have hlt' : (1 : Int) < ((spl 10 s.data.toList).length : Int) := by omega
        clear z1 z2 hN hY hR h2
        generalize spl 10 s.data.toList = L at *
        go_enter Tryz.func26, Tryz.ntmps26
        go_wp2_with fail
        refine (HS.out _).mono ?_
        rintro e w1 ⟨g1, cap1, rfl, hg1, hX1, hb1⟩
        have Z1 := Lib.hid ((Z5.new w 23).below hb1)
        have q1 := hb1.size
        simp only [World.size_alloc] at q1
        have B1 := Lib.hid (((Below.refl _ w).alloc (Nat.le_refl _) (.cells #[.string ⟨#[]⟩, .int .i64 0, .int .i64 0, .int .i64 0, .bool false] 23)).trans (hb1.mono (by simp)))
        clear hX1 hb1
        go_wp2_with fail
        refine (HL.out _).mono ?_
        rintro e w2 ⟨g2, cap2, rfl, hg2, hX2, hb2⟩
        have q2 := hb2.size
        have Z2 := Lib.hid (Z1.out.below hb2)
        have B2 := Lib.hid (B1.out.trans (hb2.mono (by omega)))
        clear hX2 hb2
        obtain ⟨zl, ⟨z0, z1, z2, z3, z4⟩, y0, y1, y2, y3, y4⟩ := Z2.out
        go_wp2
        obtain ⟨g0, g1, g2, g3, g4⟩ := cell_set5 z0 z1 z2 z3 z4 (.string ⟨#[]⟩) (.int .i64 0) (.int .i64 0) (.int .i64 0) (.bool false)
        refine bodyPost_ret (v := two pv0.val (.bool false)) (by simp [results, Tryz.results26, go_sem, pv0, g0, g1, g2, g3, g4]) rfl ⟨rfl, ?_⟩
        exact (((((B2.out).setCell (p := ⟨w.heap.size, 0, none⟩) (Nat.le_refl _) _).setCell (p := ⟨w.heap.size, 1, none⟩) (Nat.le_refl _) _).setCell (p := ⟨w.heap.size, 2, none⟩) (Nat.le_refl _) _).setCell (p := ⟨w.heap.size, 3, none⟩) (Nat.le_refl _) _).setCell (p := ⟨w.heap.size, 4, none⟩) (Nat.le_refl _) _
      · exact words_four s w h200 hTT h10 HS HL sb sc sd
    · have hne : ((spl 32 s.data.toList).length : Int) ≠ 4 := by omega
      have hnb : (((spl 32 s.data.toList).length : Int) != 4) = true := by simpa using hne
      obtain ⟨z1, z2⟩ := hN.out (rdP_not h4)
      rw [z1, z2]
      clear z1 z2 hN hY hL HL
      generalize spl 32 s.data.toList = T at *
      go_enter Tryz.func26, Tryz.ntmps26
      go_wp2_with (go_at_call 35; refine (HS.out _).mono ?_; rintro e w1 ⟨g1, cap1, rfl, hg1, hX1, hb1⟩; simp only [World.size_alloc] at hg1; have Z1 := Lib.hid ((Z5.new w _).below hb1); have q1 := hb1.size; simp only [World.size_alloc] at q1; have B1 := Lib.hid (((Below.refl _ w).alloc (Nat.le_refl _) _).trans (hb1.mono (by simp))); have l1 := hX1.1; obtain ⟨zl, ⟨z0, z1, z2, z3, z4⟩, y0, y1, y2, y3, y4⟩ := Z1.out)
      obtain ⟨g0, g1, g2, g3, g4⟩ := cell_set5 z0 z1 z2 z3 z4 (.string ⟨#[]⟩) (.int .i64 0) (.int .i64 0) (.int .i64 0) (.bool false)
      refine bodyPost_ret (v := two pv0.val (.bool false)) (by simp [results, Tryz.results26, go_sem, pv0, g0, g1, g2, g3, g4]) rfl ⟨rfl, ?_⟩
      exact (((((B1.out).setCell (p := ⟨w.heap.size, 0, none⟩) (Nat.le_refl _) _).setCell (p := ⟨w.heap.size, 1, none⟩) (Nat.le_refl _) _).setCell (p := ⟨w.heap.size, 2, none⟩) (Nat.le_refl _) _).setCell (p := ⟨w.heap.size, 3, none⟩) (Nat.le_refl _) _).setCell (p := ⟨w.heap.size, 4, none⟩) (Nat.le_refl _) _
end Go.Proofs.YtpfekgmimfkjcaaGreatDoor
