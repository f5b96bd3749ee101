/-
  What words of the specification of package rule returns: a contract for all worlds.
-/
import Derived.Test.YtpfekgmimfkjcaaGreatDoorWdM
import Derived.Test.YtpfekgmimfkjcaaGreatDoorCut
import Derived.RegionTactic
namespace Go.Proofs.YtpfekgmimfkjcaaGreatDoor
open Go.RowKit
attribute [local go_sem] set_drewN
theorem cut_32 (s : ByteArray) (w : World) (hs : s.size ≤ 1000000) : Calls Tryz.prog 35 #[.string s, .int .u8 32] w (CutPost (spl 32 s.data.toList) w) := cut_any s 32 w hs
theorem cut_10 (s : ByteArray) (w : World) (hs : s.size ≤ 1000000) : Calls Tryz.prog 35 #[.string s, .int .u8 10] w (CutPost (spl 10 s.data.toList) w) := cut_any s 10 w hs
theorem numR_yes {l : List UInt8} (h : numB l = true) : numR l = numV l := by unfold numR; rw [if_pos (numB_dg h)]
theorem cell_set_far {W : World} {b b' i j : Nat} {x y : Value} (h : b ≠ b') (hc : W.cell? ⟨b', j, none⟩ = some x) : (W.setCell ⟨b, i, none⟩ y).cell? ⟨b', j, none⟩ = some x :=
  (World.cell?_setCell_other _ _ _ _ (fun e => h (by injection e))).trans hc
/-- five cells that may be written -/
def F5 (W : World) (B : Nat) : Prop := B < W.heap.size ∧ W.frozen? ⟨B, 0, none⟩ = false ∧ W.frozen? ⟨B, 1, none⟩ = false ∧ W.frozen? ⟨B, 2, none⟩ = false ∧ W.frozen? ⟨B, 3, none⟩ = false ∧ W.frozen? ⟨B, 4, none⟩ = false
theorem F5.below {W W' : World} {B : Nat} (h : F5 W B) (hb : Below W.heap.size W W') : F5 W' B := by
  obtain ⟨hl, a, b, c, d, e⟩ := h
  exact ⟨Nat.lt_of_lt_of_le hl hb.size, (hb.frozen hl).trans a, (hb.frozen hl).trans b, (hb.frozen hl).trans c, (hb.frozen hl).trans d, (hb.frozen hl).trans e⟩
theorem F5.new (w : World) (t : TypeId) (x0 x1 x2 x3 x4 : Value) : F5 (w.alloc (.cells #[x0, x1, x2, x3, x4] t)) w.heap.size :=
  ⟨by simp, by simp [go_sem], by simp [go_sem], by simp [go_sem], by simp [go_sem], by simp [go_sem]⟩
/-- five cells of a provision -/
def C5 (W : World) (B : Nat) (p : Pv) : Prop := B < W.heap.size ∧
  W.cell? ⟨B, 0, none⟩ = some (.string p.name) ∧ W.cell? ⟨B, 1, none⟩ = some (.int .i64 p.value) ∧ W.cell? ⟨B, 2, none⟩ = some (.int .i64 p.from') ∧ W.cell? ⟨B, 3, none⟩ = some (.int .i64 p.entered) ∧ W.cell? ⟨B, 4, none⟩ = some (.bool p.repeal)
theorem C5.below {W W' : World} {B : Nat} {p : Pv} (h : C5 W B p) (hb : Below W.heap.size W W') : C5 W' B p := by
  obtain ⟨hl, a, b, c, d, e⟩ := h
  exact ⟨Nat.lt_of_lt_of_le hl hb.size, (hb.cell hl).trans a, (hb.cell hl).trans b, (hb.cell hl).trans c, (hb.cell hl).trans d, (hb.cell hl).trans e⟩
theorem C5.new (w : World) (t : TypeId) (p : Pv) : C5 (w.alloc (.cells #[.string p.name, .int .i64 p.value, .int .i64 p.from', .int .i64 p.entered, .bool p.repeal] t)) w.heap.size p :=
  ⟨by simp, by simp [go_sem], by simp [go_sem], by simp [go_sem], by simp [go_sem], by simp [go_sem]⟩
set_option maxRecDepth 100000 in
set_option maxHeartbeats 8000000 in
theorem words_four (s : ByteArray) (w : World) (h200 : ¬ 200 < s.size) {a b c d : List UInt8} (hTT : spl 32 s.data.toList = [a, b, c, d]) (h10 : ¬ (10 : UInt8) ∈ s.data.toList)
    (HS : Hid (∀ W, Calls Tryz.prog 35 #[.string s, .int .u8 32] W (CutPost [a, b, c, d] W))) (HL : Hid (∀ W, Calls Tryz.prog 35 #[.string s, .int .u8 10] W (CutPost (spl 10 s.data.toList) W)))
    (sb : (⟨b.toArray⟩ : ByteArray).size ≤ 1000000) (sc : (⟨c.toArray⟩ : ByteArray).size ≤ 1000000) (sd : (⟨d.toArray⟩ : ByteArray).size ≤ 1000000) :
    Calls Tryz.prog 26 #[.string s] w (RetB (two (rpP s).val (.bool (wdB s))) w) := by
  have d200 : decide (200 < s.size) = false := by simpa using h200
  have hN := Lib.hid (fun h => @wd_no s (.inr h))
  have hY := Lib.hid (fun p => @wd_yes s p h200)
  have hR := Lib.hid (rdP_four hTT)
  have h2 := spl_two (c := 10) s.data.toList
  have hgt : ¬ 1 < (spl 10 s.data.toList).length := by rw [decide_eq_false h10] at h2; simpa using h2
  have hgt' : ¬ (1 : Int) < ((spl 10 s.data.toList).length : Int) := by omega
  generalize hrp : rpP s = rp at *
  generalize hwd : wdB s = wd at *
  have h10a : ¬ (10 : UInt8) ∈ a := fun h => h10 (spl_sub s.data.toList a (by rw [hTT]; simp) h)
  have HK : Hid (if ((numB b || b == repL) && numB c && numB d) = true then wd = true ∧ rp = ⟨⟨a.toArray⟩, if numB b then numV b else 0, numV c, numV d, b == repL⟩ else wd = false ∧ rp = pv0) := Lib.hid (by
    split
    · rename_i h
      exact hY.out _ (by rw [hR.out, wrdP_yes h10a h])
    · rename_i h
      exact hN.out (by rw [hR.out, wrdP_no (by simpa using h)]))
  have HNum := Lib.hid (fun (x : List UInt8) (W : World) (hx : (⟨x.toArray⟩ : ByteArray).size ≤ 1000000) => number_any ⟨x.toArray⟩ W hx)
  simp only at HNum
  have hrr : (b == [114, 101, 112, 101, 97, 108]) = (b == repL) := rfl
  clear hN hY hR h2 h10 hrp hwd
  generalize spl 10 s.data.toList = L at *
  generalize hqr : (b == repL) = qr at *
  go_enter Tryz.func26, Tryz.ntmps26
  go_wp2_with fail
  refine (HS.out _).mono ?_
  rintro e w1 ⟨g1, cap1, rfl, hg1, hX1, hb1⟩
  simp only [World.size_alloc] at hg1
  have Z1 := Lib.hid ((Z5.new w 23).below hb1)
  have q1 := hb1.size
  simp only [World.size_alloc] at q1
  have B1 := Lib.hid (((Below.refl _ w).alloc (Nat.le_refl _) (.cells #[.string ⟨#[]⟩, .int .i64 0, .int .i64 0, .int .i64 0, .bool false] 23)).trans (hb1.mono (by simp)))
  have T1 := Lib.hid hX1
  clear hX1 hb1
  go_wp2_with fail
  refine (HL.out _).mono ?_
  rintro e w2 ⟨g2, cap2, rfl, hg2, hX2, hb2⟩
  have q2 := hb2.size
  have Z2 := Lib.hid (Z1.out.below hb2)
  have B2 := Lib.hid (B1.out.trans (hb2.mono (by omega)))
  have T2 := Lib.hid (T1.out.below hb2)
  have l2 := T2.out.1
  have d0 := T2.out.2 0 a rfl; have d1 := T2.out.2 1 b rfl
  clear hX2 hb2
  go_wp2
  go_region
  have BA : Below w2.heap.size w2 ((w2.alloc (.cells #[.string ⟨a.toArray⟩, .int .i64 0, .int .i64 0, .int .i64 0, .bool qr] 23)).drew) := below_dr ((Below.refl _ _).alloc (Nat.le_refl _) _)
  have P3 := Lib.hid ((C5.new w2 23 ⟨⟨a.toArray⟩, 0, 0, 0, qr⟩).below (below_dr (Below.refl _ _)))
  simp only at P3
  have F3 := Lib.hid ((F5.new w2 23 (.string ⟨a.toArray⟩) (.int .i64 0) (.int .i64 0) (.int .i64 0) (.bool qr)).below (below_dr (Below.refl _ _)))
  have q3 := BA.size
  have T3 := Lib.hid (T2.out.below BA)
  have Z3 := Lib.hid (Z2.out.below BA)
  have B3 := Lib.hid (B2.out.trans (BA.mono (by omega)))
  have hlt : w2.heap.size < ((w2.alloc (.cells #[.string ⟨a.toArray⟩, .int .i64 0, .int .i64 0, .int .i64 0, .bool qr] 23)).drew).heap.size := by simp
  clear d0 d1 BA
  generalize (w2.alloc (.cells #[.string ⟨a.toArray⟩, .int .i64 0, .int .i64 0, .int .i64 0, .bool qr] 23)).drew = w3 at *
  have l3 := T3.out.1
  have e1 := T3.out.2 1 b rfl
  go_wp2_with fail
  refine (HNum.out b _ sb).mono ?_
  rintro e w4 ⟨rfl, hb4⟩
  have q4 := hb4.size
  have T4 := Lib.hid (T3.out.below hb4)
  have Z4 := Lib.hid (Z3.out.below hb4)
  have P4 := Lib.hid (P3.out.below hb4)
  have F4 := Lib.hid (F3.out.below hb4)
  have B4 := Lib.hid (B3.out.trans (hb4.mono (by omega)))
  clear hb4 e1
  have l4 := T4.out.1
  have e2 := T4.out.2 2 c rfl
  go_wp2_with fail
  refine (HNum.out c _ sc).mono ?_
  rintro e w5 ⟨rfl, hb5⟩
  have q5 := hb5.size
  have T5 := Lib.hid (T4.out.below hb5)
  have Z5' := Lib.hid (Z4.out.below hb5)
  have P5 := Lib.hid (P4.out.below hb5)
  have F5 := Lib.hid (F4.out.below hb5)
  have B5 := Lib.hid (B4.out.trans (hb5.mono (by omega)))
  clear hb5 e2
  have l5 := T5.out.1
  have e3 := T5.out.2 3 d rfl
  go_wp2_with fail
  refine (HNum.out d _ sd).mono ?_
  rintro e w6 ⟨rfl, hb6⟩
  have q6 := hb6.size
  have Z6 := Lib.hid (Z5'.out.below hb6)
  have P6 := Lib.hid (P5.out.below hb6)
  have F6 := Lib.hid (F5.out.below hb6)
  have B6 := Lib.hid (B5.out.trans (hb6.mono (by omega)))
  clear hb6 e3 T2 T3 T4 T5 Z2 Z3 Z4 Z5' P3 P4 P5 B2 B3 B4 B5
  obtain ⟨zl, ⟨z0, z1, z2, z3, z4⟩, y0, y1, y2, y3, y4⟩ := Z6.out
  obtain ⟨pl, p0, p1, p2, p3, p4⟩ := P6.out
  simp only at p0 p1 p2 p3 p4
  obtain ⟨_, f0, f1, f2, f3, f4⟩ := F6.out
  have hne : w2.heap.size ≠ w.heap.size := by omega
  cases qr with
  | true =>
    have hb0 : numB b = false := by rw [eq_of_beq hqr]; exact repL_num
    rw [hb0] at HK
    rw [hb0]
    simp only [Bool.false_or, Bool.true_and, Bool.false_eq_true, if_false] at HK
    cases hc : numB c with
    | false =>
      rw [hc] at HK
      obtain ⟨k1, k2⟩ := HK.out
      subst k1 k2
      go_wp2
      obtain ⟨g0, g1', g2', g3, g4⟩ := cell_set5 z0 z1 z2 z3 z4 (.string ⟨#[]⟩) (.int .i64 0) (.int .i64 0) (.int .i64 0) (.bool false)
      refine bodyPost_ret (v := two pv0.val (.bool false)) (by simp [results, Tryz.results26, go_sem, pv0, g0, g1', g2', g3, g4]) rfl ⟨rfl, ?_⟩
      exact (((((B6.out).setCell (p := ⟨w.heap.size, 0, none⟩) (Nat.le_refl _) _).setCell (p := ⟨w.heap.size, 1, none⟩) (Nat.le_refl _) _).setCell (p := ⟨w.heap.size, 2, none⟩) (Nat.le_refl _) _).setCell (p := ⟨w.heap.size, 3, none⟩) (Nat.le_refl _) _).setCell (p := ⟨w.heap.size, 4, none⟩) (Nat.le_refl _) _
    | true =>
      rw [numR_yes hc]
      cases hd : numB d with
      | false =>
        rw [hc, hd] at HK
        obtain ⟨k1, k2⟩ := HK.out
        subst k1 k2
        go_wp2
        obtain ⟨g0, g1', g2', g3, g4⟩ := cell_set5 z0 z1 z2 z3 z4 (.string ⟨#[]⟩) (.int .i64 0) (.int .i64 0) (.int .i64 0) (.bool false)
        refine bodyPost_ret (v := two pv0.val (.bool false)) (by simp [results, Tryz.results26, go_sem, pv0, g0, g1', g2', g3, g4]) rfl ⟨rfl, ?_⟩
        exact (((((B6.out).setCell (p := ⟨w.heap.size, 0, none⟩) (Nat.le_refl _) _).setCell (p := ⟨w.heap.size, 1, none⟩) (Nat.le_refl _) _).setCell (p := ⟨w.heap.size, 2, none⟩) (Nat.le_refl _) _).setCell (p := ⟨w.heap.size, 3, none⟩) (Nat.le_refl _) _).setCell (p := ⟨w.heap.size, 4, none⟩) (Nat.le_refl _) _
      | true =>
        rw [numR_yes hd]
        rw [hc, hd] at HK
        obtain ⟨k1, k2⟩ := HK.out
        subst k1 k2
        go_wp2
        have u0 := (cell_set_far (i := 3) (y := .int .i64 (numV d)) hne (cell_set_far (i := 2) (y := .int .i64 (numV c)) hne z0))
        have u1 := (cell_set_far (i := 3) (y := .int .i64 (numV d)) hne (cell_set_far (i := 2) (y := .int .i64 (numV c)) hne z1))
        have u2 := (cell_set_far (i := 3) (y := .int .i64 (numV d)) hne (cell_set_far (i := 2) (y := .int .i64 (numV c)) hne z2))
        have u3 := (cell_set_far (i := 3) (y := .int .i64 (numV d)) hne (cell_set_far (i := 2) (y := .int .i64 (numV c)) hne z3))
        have u4 := (cell_set_far (i := 3) (y := .int .i64 (numV d)) hne (cell_set_far (i := 2) (y := .int .i64 (numV c)) hne z4))
        obtain ⟨g0, g1', g2', g3, g4⟩ := cell_set5 u0 u1 u2 u3 u4 (.string ⟨a.toArray⟩) (.int .i64 0) (.int .i64 (numV c)) (.int .i64 (numV d)) (.bool true)
        refine bodyPost_ret (v := two (Pv.val ⟨⟨a.toArray⟩, 0, numV c, numV d, true⟩) (.bool true)) (by simp [results, Tryz.results26, go_sem, g0, g1', g2', g3, g4]) rfl ⟨rfl, ?_⟩
        exact (((((((B6.out).setCell (p := ⟨w2.heap.size, 2, none⟩) (by simp only; omega) _).setCell (p := ⟨w2.heap.size, 3, none⟩) (by simp only; omega) _).setCell (p := ⟨w.heap.size, 0, none⟩) (Nat.le_refl _) _).setCell (p := ⟨w.heap.size, 1, none⟩) (Nat.le_refl _) _).setCell (p := ⟨w.heap.size, 2, none⟩) (Nat.le_refl _) _).setCell (p := ⟨w.heap.size, 3, none⟩) (Nat.le_refl _) _).setCell (p := ⟨w.heap.size, 4, none⟩) (Nat.le_refl _) _
  | false =>
    simp only [Bool.or_false] at HK
    cases hb : numB b with
    | false =>
      rw [hb] at HK
      obtain ⟨k1, k2⟩ := HK.out
      subst k1 k2
      go_wp2
      obtain ⟨g0, g1', g2', g3, g4⟩ := cell_set5 z0 z1 z2 z3 z4 (.string ⟨#[]⟩) (.int .i64 0) (.int .i64 0) (.int .i64 0) (.bool false)
      refine bodyPost_ret (v := two pv0.val (.bool false)) (by simp [results, Tryz.results26, go_sem, pv0, g0, g1', g2', g3, g4]) rfl ⟨rfl, ?_⟩
      exact (((((B6.out).setCell (p := ⟨w.heap.size, 0, none⟩) (Nat.le_refl _) _).setCell (p := ⟨w.heap.size, 1, none⟩) (Nat.le_refl _) _).setCell (p := ⟨w.heap.size, 2, none⟩) (Nat.le_refl _) _).setCell (p := ⟨w.heap.size, 3, none⟩) (Nat.le_refl _) _).setCell (p := ⟨w.heap.size, 4, none⟩) (Nat.le_refl _) _
    | true =>
      rw [numR_yes hb]
      cases hc : numB c with
      | false =>
        rw [hb, hc] at HK
        obtain ⟨k1, k2⟩ := HK.out
        subst k1 k2
        go_wp2
        obtain ⟨g0, g1', g2', g3, g4⟩ := cell_set5 z0 z1 z2 z3 z4 (.string ⟨#[]⟩) (.int .i64 0) (.int .i64 0) (.int .i64 0) (.bool false)
        refine bodyPost_ret (v := two pv0.val (.bool false)) (by simp [results, Tryz.results26, go_sem, pv0, g0, g1', g2', g3, g4]) rfl ⟨rfl, ?_⟩
        exact (((((B6.out).setCell (p := ⟨w.heap.size, 0, none⟩) (Nat.le_refl _) _).setCell (p := ⟨w.heap.size, 1, none⟩) (Nat.le_refl _) _).setCell (p := ⟨w.heap.size, 2, none⟩) (Nat.le_refl _) _).setCell (p := ⟨w.heap.size, 3, none⟩) (Nat.le_refl _) _).setCell (p := ⟨w.heap.size, 4, none⟩) (Nat.le_refl _) _
      | true =>
        rw [numR_yes hc]
        cases hd : numB d with
        | false =>
          rw [hb, hc, hd] at HK
          obtain ⟨k1, k2⟩ := HK.out
          subst k1 k2
          go_wp2
          obtain ⟨g0, g1', g2', g3, g4⟩ := cell_set5 z0 z1 z2 z3 z4 (.string ⟨#[]⟩) (.int .i64 0) (.int .i64 0) (.int .i64 0) (.bool false)
          refine bodyPost_ret (v := two pv0.val (.bool false)) (by simp [results, Tryz.results26, go_sem, pv0, g0, g1', g2', g3, g4]) rfl ⟨rfl, ?_⟩
          exact (((((B6.out).setCell (p := ⟨w.heap.size, 0, none⟩) (Nat.le_refl _) _).setCell (p := ⟨w.heap.size, 1, none⟩) (Nat.le_refl _) _).setCell (p := ⟨w.heap.size, 2, none⟩) (Nat.le_refl _) _).setCell (p := ⟨w.heap.size, 3, none⟩) (Nat.le_refl _) _).setCell (p := ⟨w.heap.size, 4, none⟩) (Nat.le_refl _) _
        | true =>
          rw [numR_yes hd]
          rw [hb, hc, hd] at HK
          obtain ⟨k1, k2⟩ := HK.out
          subst k1 k2
          go_wp2
          have u0 := (cell_set_far (i := 3) (y := .int .i64 (numV d)) hne (cell_set_far (i := 2) (y := .int .i64 (numV c)) hne (cell_set_far (i := 1) (y := .int .i64 (numV b)) hne z0)))
          have u1 := (cell_set_far (i := 3) (y := .int .i64 (numV d)) hne (cell_set_far (i := 2) (y := .int .i64 (numV c)) hne (cell_set_far (i := 1) (y := .int .i64 (numV b)) hne z1)))
          have u2 := (cell_set_far (i := 3) (y := .int .i64 (numV d)) hne (cell_set_far (i := 2) (y := .int .i64 (numV c)) hne (cell_set_far (i := 1) (y := .int .i64 (numV b)) hne z2)))
          have u3 := (cell_set_far (i := 3) (y := .int .i64 (numV d)) hne (cell_set_far (i := 2) (y := .int .i64 (numV c)) hne (cell_set_far (i := 1) (y := .int .i64 (numV b)) hne z3)))
          have u4 := (cell_set_far (i := 3) (y := .int .i64 (numV d)) hne (cell_set_far (i := 2) (y := .int .i64 (numV c)) hne (cell_set_far (i := 1) (y := .int .i64 (numV b)) hne z4)))
          obtain ⟨g0, g1', g2', g3, g4⟩ := cell_set5 u0 u1 u2 u3 u4 (.string ⟨a.toArray⟩) (.int .i64 (numV b)) (.int .i64 (numV c)) (.int .i64 (numV d)) (.bool false)
          refine bodyPost_ret (v := two (Pv.val ⟨⟨a.toArray⟩, numV b, numV c, numV d, false⟩) (.bool true)) (by simp [results, Tryz.results26, go_sem, g0, g1', g2', g3, g4]) rfl ⟨rfl, ?_⟩
          exact ((((((((B6.out).setCell (p := ⟨w2.heap.size, 1, none⟩) (by simp only; omega) _).setCell (p := ⟨w2.heap.size, 2, none⟩) (by simp only; omega) _).setCell (p := ⟨w2.heap.size, 3, none⟩) (by simp only; omega) _).setCell (p := ⟨w.heap.size, 0, none⟩) (Nat.le_refl _) _).setCell (p := ⟨w.heap.size, 1, none⟩) (Nat.le_refl _) _).setCell (p := ⟨w.heap.size, 2, none⟩) (Nat.le_refl _) _).setCell (p := ⟨w.heap.size, 3, none⟩) (Nat.le_refl _) _).setCell (p := ⟨w.heap.size, 4, none⟩) (Nat.le_refl _) _
end Go.Proofs.YtpfekgmimfkjcaaGreatDoor
