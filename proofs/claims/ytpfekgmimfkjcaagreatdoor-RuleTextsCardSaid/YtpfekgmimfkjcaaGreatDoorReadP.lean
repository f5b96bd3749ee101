/-
  What readProvision of package rule returns: a contract for all worlds in which the library's MaxLen is an int.
-/
import Derived.Test.YtpfekgmimfkjcaaGreatDoorReadM
import Derived.Test.YtpfekgmimfkjcaaGreatDoorReadN
import Derived.Test.YtpfekgmimfkjcaaGreatDoorStrs
namespace Go.Proofs.YtpfekgmimfkjcaaGreatDoor
open Go.RowKit
attribute [local go_sem] set_drewN
/-- the library's MaxLen is some int -/
def MaxL (w : World) : Prop := ∃ m, w.cell? ⟨0, 0, none⟩ = some (.int .i64 m)
theorem MaxL.below {w w' : World} (h : MaxL w) (hb : Below w.heap.size w w') : MaxL w' := by
  obtain ⟨m, hm⟩ := h
  exact ⟨m, (hb.cell (p := ⟨0, 0, none⟩) (World.block_lt_of_cell? _ _ hm)).trans hm⟩
theorem splitB_spl (c : UInt8) (s : ByteArray) : Lib.splitB ⟨#[c]⟩ 0 (Lib.countB s ⟨#[c]⟩) s = (spl c s.data.toList).map (fun x => (⟨x.toArray⟩ : ByteArray)) := by
  have h := Lib.splitB_data ⟨#[c]⟩ 0 (Lib.countB s ⟨#[c]⟩) s
  have h2 : Lib.splitK (⟨#[c]⟩ : ByteArray).data.toList 0 (Lib.countB s ⟨#[c]⟩) s.data.toList = spl c s.data.toList := split_spl c _ s.data.toList (Nat.le_refl _)
  rw [h2] at h
  rw [← h, List.map_map]
  refine (List.map_id _).symm.trans (List.map_congr_left fun x _ => ?_)
  simp
/-- what Split returns -/
theorem split_any (s : ByteArray) (w : World) (hs : s.size ≤ 1000000) (hm : MaxL w) :
    Calls Tryz.prog 47 #[.string s, .string ⟨#[32]⟩] w (fun e w' => e = .returned (.slice (some ⟨w.heap.size, 0, none⟩) (spl 32 s.data.toList).length (spl 32 s.data.toList).length) ∧ TxAt w' w.heap.size (spl 32 s.data.toList) ∧ Below w.heap.size w w') := by
  obtain ⟨m, hm⟩ := hm
  have hlen : (spl 32 s.data.toList).length = Lib.countB s ⟨#[32]⟩ + 1 := by
    have := Lib.splitB_all ⟨#[32]⟩ (by decide) 0 (Lib.countB s ⟨#[32]⟩) s rfl
    rw [splitB_spl] at this
    simpa using this
  refine (Tryz.strings_Split s ⟨#[32]⟩ m w (by omega) hm (by decide)).mono ?_
  rintro e w' ⟨rfl, rfl⟩
  refine ⟨by rw [hlen], ⟨by simp, fun j x hj => ?_⟩, (Below.refl _ _).alloc (Nat.le_refl _) _⟩
  rw [splitB_spl, List.map_map, World.cell?_alloc_new]
  simp [hj]
theorem contains_any (s : ByteArray) (w : World) (hs : s.size ≤ 1000000) (hm : MaxL w) : Calls Tryz.prog 48 #[.string s, .string ⟨#[10]⟩] w (Ret (.bool (decide ((10 : UInt8) ∈ s.data.toList))) w) := by
  obtain ⟨m, hm⟩ := hm
  refine (Tryz.strings_Contains s ⟨#[10]⟩ m w (by omega) hm).mono ?_
  rintro e w' ⟨rfl, rfl⟩
  exact ⟨by rw [← contains_mem], rfl⟩
set_option maxRecDepth 100000 in
set_option maxHeartbeats 8000000 in
theorem readProvision_any (s : ByteArray) (w : World) (hs : s.size ≤ 1000000) (hm : MaxL w) :
    Calls Tryz.prog 23 #[.string s] w (RetB (two (rpP s).val (.int .i64 (rpE s))) w) := by
  by_cases h200 : 200 < s.size
  · obtain ⟨z1, z2⟩ := rp_long h200
    rw [z1, z2]
    clear z1 z2 hm
    go_enter Tryz.func23, Tryz.ntmps23
    go_wp2
    refine bodyPost_ret (v := two pv0.val (.int .i64 8)) (by simp [results, Tryz.results23, go_sem, pv0]) rfl ⟨rfl, ?_⟩
    exact (Below.refl _ _).alloc (Nat.le_refl _) _
  · have HS := Lib.hid (fun W hW => split_any s W hs hW)
    have HM := Lib.hid hm
    have d200 : decide (200 < s.size) = false := by simpa using h200
    clear hm
    have hN := Lib.hid (@rp_none s h200)
    have hY := Lib.hid (fun p => @rp_some s p h200)
    have hL := fun x hx => spl_mem (c := 32) s.data.toList x hx
    by_cases h4 : (spl 32 s.data.toList).length = 4
    · obtain ⟨a, b, c, d, hT⟩ := four_of h4
      have hR := Lib.hid (rdP_four hT)
      rw [hT] at HS hL
      have la := (hL a (by simp)).1; have lb := (hL b (by simp)).1; have lc := (hL c (by simp)).1; have ld := (hL d (by simp)).1
      rw [dlen] at la lb lc ld
      clear hL h4 hT
      generalize hrp : rpP s = rp at *
      generalize hre : rpE s = re at *
      have sa : (⟨a.toArray⟩ : ByteArray).size ≤ 1000000 := by show a.toArray.size ≤ 1000000; simp; omega
      have sb : (⟨b.toArray⟩ : ByteArray).size ≤ 1000000 := by show b.toArray.size ≤ 1000000; simp; omega
      have sc : (⟨c.toArray⟩ : ByteArray).size ≤ 1000000 := by show c.toArray.size ≤ 1000000; simp; omega
      have sd : (⟨d.toArray⟩ : ByteArray).size ≤ 1000000 := by show d.toArray.size ≤ 1000000; simp; omega
      by_cases h10 : (10 : UInt8) ∈ a
      · obtain ⟨z1, z2⟩ := hN.out (by rw [hR.out, wrdP_lf h10])
        subst z1 z2
        have HC := Lib.hid (fun W (hW : MaxL W) => by have := contains_any ⟨a.toArray⟩ W sa hW; rw [show decide ((10 : UInt8) ∈ (⟨a.toArray⟩ : ByteArray).data.toList) = true from by simpa using h10] at this; exact this)
        clear hN hY hR h10
        go_enter Tryz.func23, Tryz.ntmps23
        go_wp2_with (first
          | (go_at_call 47; refine (HS.out _ (HM.out.below ((Below.refl _ _).alloc (Nat.le_refl _) _))).mono ?_; rintro e w1 ⟨rfl, hX, hb1⟩; simp only [World.size_alloc] at hX; have Z1 := Lib.hid ((Z5.new w _).below hb1); have q1 := hb1.size; simp only [World.size_alloc] at q1; have B1 := Lib.hid (((Below.refl _ w).alloc (Nat.le_refl _) _).trans (hb1.mono (by simp))); have l1 := hX.1; have c0 := hX.2 0 a rfl; obtain ⟨zl, ⟨z0, z1, z2, z3, z4⟩, y0, y1, y2, y3, y4⟩ := Z1.out)
          | (go_at_call 48; refine (HC.out _ (HM.out.below B1.out)).mono ?_; rintro e w' ⟨rfl, rfl⟩))
        obtain ⟨g0, g1, g2, g3, g4⟩ := cell_set5 z0 z1 z2 z3 z4 (.string ⟨#[]⟩) (.int .i64 0) (.int .i64 0) (.int .i64 0) (.bool false)
        refine bodyPost_ret (v := two pv0.val (.int .i64 7)) (by simp [results, Tryz.results23, go_sem, pv0, g0, g1, g2, g3, g4]) rfl ⟨rfl, ?_⟩
        exact (((((B1.out).setCell (p := ⟨w.heap.size, 0, none⟩) (Nat.le_refl _) _).setCell (p := ⟨w.heap.size, 1, none⟩) (Nat.le_refl _) _).setCell (p := ⟨w.heap.size, 2, none⟩) (Nat.le_refl _) _).setCell (p := ⟨w.heap.size, 3, none⟩) (Nat.le_refl _) _).setCell (p := ⟨w.heap.size, 4, none⟩) (Nat.le_refl _) _
      · have HC := Lib.hid (fun W (hW : MaxL W) => by have := contains_any ⟨a.toArray⟩ W sa hW; rw [show decide ((10 : UInt8) ∈ (⟨a.toArray⟩ : ByteArray).data.toList) = false from by simpa using h10] at this; exact this)
        have HK : Hid (if ((numB b || b == repL) && numB c && numB d) = true then re = 0 ∧ rp = ⟨⟨a.toArray⟩, numC b, numC c, numC d, b == repL⟩ else re = 7 ∧ rp = pv0) := Lib.hid (by
          split
          · rename_i h
            have h2 := hY.out _ (by rw [hR.out, wrdP_yes h10 h])
            simp only [Bool.and_eq_true] at h
            refine ⟨h2.1, h2.2.trans ?_⟩
            unfold numC
            rw [if_pos h.1.2, if_pos h.2]
          · rename_i h
            exact hN.out (by rw [hR.out, wrdP_no (by simpa using h)]))
        have HNum := Lib.hid (fun (x : List UInt8) (W : World) (hx : (⟨x.toArray⟩ : ByteArray).size ≤ 1000000) => readNumber_any ⟨x.toArray⟩ W hx)
        simp only at HNum
        have hrr : (b == [114, 101, 112, 101, 97, 108]) = (b == repL) := rfl
        clear hN hY hR h10
        cases hr : (b == repL) <;> cases hb : numB b <;> cases hc : numB c <;> cases hd : numB d
        all_goals
          have hk := HK.out
          rw [hb, hr, hc, hd] at hk
          simp only [Bool.or_true, Bool.or_false, Bool.and_true, Bool.and_false, if_true, Bool.false_eq_true, if_false] at hk
          obtain ⟨k1, k2⟩ := hk
          subst k1 k2
          rw [hr] at hrr
          clear HK
          go_enter Tryz.func23, Tryz.ntmps23
          go_wp2_with (first
            | (go_at_call 47; refine (HS.out _ (HM.out.below ((Below.refl _ _).alloc (Nat.le_refl _) _))).mono ?_; rintro e w1 ⟨rfl, hX, hb1⟩; simp only [World.size_alloc] at hX; have Z1 := Lib.hid ((Z5.new w _).below hb1); have q1 := hb1.size; simp only [World.size_alloc] at q1; have B1 := Lib.hid (((Below.refl _ w).alloc (Nat.le_refl _) _).trans (hb1.mono (by simp))); have l1 := hX.1; have c0 := hX.2 0 a rfl; have c1 := hX.2 1 b rfl; have c2 := hX.2 2 c rfl; have c3 := hX.2 3 d rfl)
            | (go_at_call 48; refine (HC.out _ (HM.out.below B1.out)).mono ?_; rintro e w' ⟨rfl, rfl⟩)
            | (go_at_call 49; refine (HNum.out _ _ (by assumption)).mono ?_; first
                | (have hq := e0; rintro e w4 ⟨rfl, hb4⟩; have f0 := (hb4.cell (p := ⟨w.heap.size + 1, 0, none⟩) l3).trans e0; have f1 := (hb4.cell (p := ⟨w.heap.size + 1, 1, none⟩) l3).trans e1; have f2 := (hb4.cell (p := ⟨w.heap.size + 1, 2, none⟩) l3).trans e2; have f3 := (hb4.cell (p := ⟨w.heap.size + 1, 3, none⟩) l3).trans e3; have l4 := Nat.lt_of_lt_of_le l3 hb4.size; have B4 := Lib.hid (B3.out.trans (hb4.mono (by have := hb3.size; omega))); have Z4 := Lib.hid (Z3'.out.below hb4); obtain ⟨zl, ⟨z0, z1, z2, z3, z4⟩, y0, y1, y2, y3, y4⟩ := Z4.out)
                | (have hq := d0; rintro e w3 ⟨rfl, hb3⟩; have e0 := (hb3.cell (p := ⟨w.heap.size + 1, 0, none⟩) l2).trans d0; have e1 := (hb3.cell (p := ⟨w.heap.size + 1, 1, none⟩) l2).trans d1; have e2 := (hb3.cell (p := ⟨w.heap.size + 1, 2, none⟩) l2).trans d2; have e3 := (hb3.cell (p := ⟨w.heap.size + 1, 3, none⟩) l2).trans d3; have l3 := Nat.lt_of_lt_of_le l2 hb3.size; have B3 := Lib.hid (B2.out.trans (hb3.mono (by have := hb2.size; omega))); have Z3' := Lib.hid (Z2.out.below hb3))
                | (rintro e w2 ⟨rfl, hb2⟩; have d0 := (hb2.cell (p := ⟨w.heap.size + 1, 0, none⟩) l1).trans c0; have d1 := (hb2.cell (p := ⟨w.heap.size + 1, 1, none⟩) l1).trans c1; have d2 := (hb2.cell (p := ⟨w.heap.size + 1, 2, none⟩) l1).trans c2; have d3 := (hb2.cell (p := ⟨w.heap.size + 1, 3, none⟩) l1).trans c3; have l2 := Nat.lt_of_lt_of_le l1 hb2.size; have B2 := Lib.hid (B1.out.trans (hb2.mono (by omega))); have Z2 := Lib.hid (Z1.out.below hb2))))
          first
            | (
              obtain ⟨g0, g1, g2, g3, g4⟩ := cell_set5 z0 z1 z2 z3 z4 (.string ⟨#[]⟩) (.int .i64 0) (.int .i64 0) (.int .i64 0) (.bool false)
              refine bodyPost_ret (v := two pv0.val (.int .i64 7)) (by simp [results, Tryz.results23, go_sem, pv0, g0, g1, g2, g3, g4]) rfl ⟨rfl, ?_⟩
              exact (((((B4.out).setCell (p := ⟨w.heap.size, 0, none⟩) (Nat.le_refl _) _).setCell (p := ⟨w.heap.size, 1, none⟩) (Nat.le_refl _) _).setCell (p := ⟨w.heap.size, 2, none⟩) (Nat.le_refl _) _).setCell (p := ⟨w.heap.size, 3, none⟩) (Nat.le_refl _) _).setCell (p := ⟨w.heap.size, 4, none⟩) (Nat.le_refl _) _
              done)
            | (
              obtain ⟨g0, g1, g2, g3, g4⟩ := cell_set5 z0 z1 z2 z3 z4 (.string ⟨a.toArray⟩) (.int .i64 (numC b)) (.int .i64 (numC c)) (.int .i64 (numC d)) (.bool true)
              refine bodyPost_ret (v := two (Pv.val ⟨⟨a.toArray⟩, numC b, numC c, numC d, true⟩) (.int .i64 0)) (by simp [results, Tryz.results23, go_sem, g0, g1, g2, g3, g4]) rfl ⟨rfl, ?_⟩
              exact (((((B4.out).setCell (p := ⟨w.heap.size, 0, none⟩) (Nat.le_refl _) _).setCell (p := ⟨w.heap.size, 1, none⟩) (Nat.le_refl _) _).setCell (p := ⟨w.heap.size, 2, none⟩) (Nat.le_refl _) _).setCell (p := ⟨w.heap.size, 3, none⟩) (Nat.le_refl _) _).setCell (p := ⟨w.heap.size, 4, none⟩) (Nat.le_refl _) _
              done)
            | (
              obtain ⟨g0, g1, g2, g3, g4⟩ := cell_set5 z0 z1 z2 z3 z4 (.string ⟨a.toArray⟩) (.int .i64 (numC b)) (.int .i64 (numC c)) (.int .i64 (numC d)) (.bool false)
              refine bodyPost_ret (v := two (Pv.val ⟨⟨a.toArray⟩, numC b, numC c, numC d, false⟩) (.int .i64 0)) (by simp [results, Tryz.results23, go_sem, g0, g1, g2, g3, g4]) rfl ⟨rfl, ?_⟩
              exact (((((B4.out).setCell (p := ⟨w.heap.size, 0, none⟩) (Nat.le_refl _) _).setCell (p := ⟨w.heap.size, 1, none⟩) (Nat.le_refl _) _).setCell (p := ⟨w.heap.size, 2, none⟩) (Nat.le_refl _) _).setCell (p := ⟨w.heap.size, 3, none⟩) (Nat.le_refl _) _).setCell (p := ⟨w.heap.size, 4, none⟩) (Nat.le_refl _) _
              done)
    · have hne : ((spl 32 s.data.toList).length : Int) ≠ 4 := by omega
      have hnb : (((spl 32 s.data.toList).length : Int) != 4) = true := by simpa using hne
      obtain ⟨z1, z2⟩ := hN.out (rdP_not h4)
      rw [z1, z2]
      clear z1 z2 hN hY hL
      generalize spl 32 s.data.toList = T at *
      go_enter Tryz.func23, Tryz.ntmps23
      go_wp2_with (go_at_call 47; refine (HS.out _ (HM.out.below ((Below.refl _ _).alloc (Nat.le_refl _) _))).mono ?_; rintro e w1 ⟨rfl, hX, hb1⟩; simp only [World.size_alloc] at hX; have Z1 := Lib.hid ((Z5.new w _).below hb1); have q1 := hb1.size; simp only [World.size_alloc] at q1; have B1 := Lib.hid (((Below.refl _ w).alloc (Nat.le_refl _) _).trans (hb1.mono (by simp))); have l1 := hX.1; obtain ⟨zl, ⟨z0, z1, z2, z3, z4⟩, y0, y1, y2, y3, y4⟩ := Z1.out)
      obtain ⟨g0, g1, g2, g3, g4⟩ := cell_set5 z0 z1 z2 z3 z4 (.string ⟨#[]⟩) (.int .i64 0) (.int .i64 0) (.int .i64 0) (.bool false)
      refine bodyPost_ret (v := two pv0.val (.int .i64 7)) (by simp [results, Tryz.results23, go_sem, pv0, g0, g1, g2, g3, g4]) rfl ⟨rfl, ?_⟩
      exact (((((B1.out).setCell (p := ⟨w.heap.size, 0, none⟩) (Nat.le_refl _) _).setCell (p := ⟨w.heap.size, 1, none⟩) (Nat.le_refl _) _).setCell (p := ⟨w.heap.size, 2, none⟩) (Nat.le_refl _) _).setCell (p := ⟨w.heap.size, 3, none⟩) (Nat.le_refl _) _).setCell (p := ⟨w.heap.size, 4, none⟩) (Nat.le_refl _) _
end Go.Proofs.YtpfekgmimfkjcaaGreatDoor
