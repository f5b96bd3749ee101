/-
  What ParseProvision of package rule returns: a contract for all worlds in which the library's MaxLen is an int.
-/
import Derived.Test.YtpfekgmimfkjcaaGreatDoorReadP
namespace Go.Proofs.YtpfekgmimfkjcaaGreatDoor
open Go.RowKit
attribute [local go_sem] set_drewN
theorem feE_two (a b : Int) : feE [a, b] = if a = 0 then b else a := by
  by_cases h : a = 0
  · subst h
    by_cases h2 : b = 0
    · subst h2; rfl
    · simp [feE, h2]
  · simp [feE, h]
theorem ppE_fe (s : ByteArray) : ppE s = feE [rpE s, pvE (rpP s)] := by rw [feE_two]; rfl
theorem rpP_name (s : ByteArray) (hs : s.size ≤ 1000000) : (rpP s).name.size ≤ maxLen := by
  unfold maxLen
  unfold rpP
  split
  · decide
  · unfold rdP
    split
    · rename_i a b c d e
      unfold wrdP
      split
      · decide
      · split
        · have := (spl_mem (c := 32) s.data.toList a (by rw [e]; simp)).1
          rw [dlen] at this
          show a.toArray.size ≤ _
          simp; omega
        · decide
    · decide
set_option maxRecDepth 100000 in
set_option maxHeartbeats 8000000 in
theorem parseProvision_any (s : ByteArray) (w : World) (hs : s.size ≤ 1000000) (hm : MaxL w) :
    Calls Tryz.prog 6 #[.string s] w (RetB (two (ppP s).val (.int .i64 (ppE s))) w) := by
  have hr := fun W hW => readProvision_any s W hs hW
  have hn := rpP_name s hs
  have he := ppE_fe s
  have hp : ppE s = 0 → ppP s = rpP s := fun h => by unfold ppP; rw [if_pos h]
  have hp2 : ppE s ≠ 0 → ppP s = pv0 := fun h => by unfold ppP; rw [if_neg h]
  generalize rpP s = q at *
  generalize rpE s = re at *
  generalize ppE s = pe at *
  generalize ppP s = pp at *
  have HR := Lib.hid hr
  have HM := Lib.hid hm
  have HE := Lib.hid he
  clear hr hm he
  by_cases h0 : pe = 0
  · obtain rfl := (hp h0).symm
    clear hp hp2
    subst h0
    obtain ⟨nm, v, fr, en, rp⟩ := q
    simp only at hn
    have HC := Lib.hid (fun W => checkProvision_any ⟨nm, v, fr, en, rp⟩ W hn)
    generalize pvE ⟨nm, v, fr, en, rp⟩ = qe at *
    have hfe := HE.out.symm
    go_enter Tryz.func6, Tryz.ntmps6
    go_wp2_with (first
      | (go_at_call 23; refine (HR.out _ (HM.out.below ((Below.refl _ _).alloc (Nat.le_refl _) _))).mono ?_; rintro e w1 ⟨rfl, hb1⟩; have q1 := hb1.size; simp only [World.size_alloc] at q1; have B1 := Lib.hid (((Below.refl _ w).alloc (Nat.le_refl _) _).trans (hb1.mono (by simp))); have Z1 := Lib.hid ((Z5.new w _).below hb1))
      | (go_at_call 25; refine (HC.out _).mono ?_; rintro e w2 ⟨rfl, hb2⟩; have q2 := hb2.size; simp only [World.size_alloc] at q2; have pl : w1.heap.size < w2.heap.size := Nat.lt_of_succ_le q2; have p0 : w2.cell? ⟨w1.heap.size, 0, none⟩ = some (.string nm) := (hb2.cell (p := ⟨w1.heap.size, 0, none⟩) (by simp)).trans (by simp [go_sem]); have p1 : w2.cell? ⟨w1.heap.size, 1, none⟩ = some (.int .i64 v) := (hb2.cell (p := ⟨w1.heap.size, 1, none⟩) (by simp)).trans (by simp [go_sem]); have p2 : w2.cell? ⟨w1.heap.size, 2, none⟩ = some (.int .i64 fr) := (hb2.cell (p := ⟨w1.heap.size, 2, none⟩) (by simp)).trans (by simp [go_sem]); have p3 : w2.cell? ⟨w1.heap.size, 3, none⟩ = some (.int .i64 en) := (hb2.cell (p := ⟨w1.heap.size, 3, none⟩) (by simp)).trans (by simp [go_sem]); have p4 : w2.cell? ⟨w1.heap.size, 4, none⟩ = some (.bool rp) := (hb2.cell (p := ⟨w1.heap.size, 4, none⟩) (by simp)).trans (by simp [go_sem]); have C2 := Lib.hid (((Below.refl _ w1).alloc (Nat.le_refl _) _).trans (hb2.mono (by simp))); have B2 := Lib.hid (B1.out.trans (C2.out.mono (by omega))); obtain ⟨zl, ⟨z0, z1, z2, z3, z4⟩, y0, y1, y2, y3, y4⟩ := Z1.out.below C2.out)
      | (go_at_call 24; refine (firstError_any [re, qe] _ 0 2 _ (by simp) (IntsAt.cons (by simp [go_sem]) (IntsAt.one (by simp [go_sem])))).mono ?_; rintro e w' ⟨rfl, rfl⟩))
    obtain ⟨g0, g1, g2, g3, g4⟩ := cell_set5 z0 z1 z2 z3 z4 (.string nm) (.int .i64 v) (.int .i64 fr) (.int .i64 en) (.bool rp)
    refine bodyPost_ret (v := two (Pv.val ⟨nm, v, fr, en, rp⟩) (.int .i64 0)) (by simp [results, Tryz.results6, go_sem, zl, g0, g1, g2, g3, g4]) rfl ⟨rfl, ?_⟩
    exact ((((((B2.out).setCell (p := ⟨w.heap.size, 0, none⟩) (Nat.le_refl _) _).setCell (p := ⟨w.heap.size, 1, none⟩) (Nat.le_refl _) _).setCell (p := ⟨w.heap.size, 2, none⟩) (Nat.le_refl _) _).setCell (p := ⟨w.heap.size, 3, none⟩) (Nat.le_refl _) _).setCell (p := ⟨w.heap.size, 4, none⟩) (Nat.le_refl _) _).alloc (by simp; omega) _
  · obtain rfl := hp2 h0
    clear hp hp2
    have hnb : (pe != 0) = true := by simpa using h0
    obtain ⟨nm, v, fr, en, rp⟩ := q
    simp only at hn
    have HC := Lib.hid (fun W => checkProvision_any ⟨nm, v, fr, en, rp⟩ W hn)
    generalize pvE ⟨nm, v, fr, en, rp⟩ = qe at *
    have hfe := HE.out.symm
    go_enter Tryz.func6, Tryz.ntmps6
    go_wp2_with (first
      | (go_at_call 23; refine (HR.out _ (HM.out.below ((Below.refl _ _).alloc (Nat.le_refl _) _))).mono ?_; rintro e w1 ⟨rfl, hb1⟩; have q1 := hb1.size; simp only [World.size_alloc] at q1; have B1 := Lib.hid (((Below.refl _ w).alloc (Nat.le_refl _) _).trans (hb1.mono (by simp))); have Z1 := Lib.hid ((Z5.new w _).below hb1))
      | (go_at_call 25; refine (HC.out _).mono ?_; rintro e w2 ⟨rfl, hb2⟩; have q2 := hb2.size; simp only [World.size_alloc] at q2; have pl : w1.heap.size < w2.heap.size := Nat.lt_of_succ_le q2; have p0 : w2.cell? ⟨w1.heap.size, 0, none⟩ = some (.string nm) := (hb2.cell (p := ⟨w1.heap.size, 0, none⟩) (by simp)).trans (by simp [go_sem]); have p1 : w2.cell? ⟨w1.heap.size, 1, none⟩ = some (.int .i64 v) := (hb2.cell (p := ⟨w1.heap.size, 1, none⟩) (by simp)).trans (by simp [go_sem]); have p2 : w2.cell? ⟨w1.heap.size, 2, none⟩ = some (.int .i64 fr) := (hb2.cell (p := ⟨w1.heap.size, 2, none⟩) (by simp)).trans (by simp [go_sem]); have p3 : w2.cell? ⟨w1.heap.size, 3, none⟩ = some (.int .i64 en) := (hb2.cell (p := ⟨w1.heap.size, 3, none⟩) (by simp)).trans (by simp [go_sem]); have p4 : w2.cell? ⟨w1.heap.size, 4, none⟩ = some (.bool rp) := (hb2.cell (p := ⟨w1.heap.size, 4, none⟩) (by simp)).trans (by simp [go_sem]); have C2 := Lib.hid (((Below.refl _ w1).alloc (Nat.le_refl _) _).trans (hb2.mono (by simp))); have B2 := Lib.hid (B1.out.trans (C2.out.mono (by omega))); obtain ⟨zl, ⟨z0, z1, z2, z3, z4⟩, y0, y1, y2, y3, y4⟩ := Z1.out.below C2.out)
      | (go_at_call 24; refine (firstError_any [re, qe] _ 0 2 _ (by simp) (IntsAt.cons (by simp [go_sem]) (IntsAt.one (by simp [go_sem])))).mono ?_; rintro e w' ⟨rfl, rfl⟩))
    obtain ⟨g0, g1, g2, g3, g4⟩ := cell_set5 z0 z1 z2 z3 z4 (.string ⟨#[]⟩) (.int .i64 0) (.int .i64 0) (.int .i64 0) (.bool false)
    refine bodyPost_ret (v := two pv0.val (.int .i64 pe)) (by simp [results, Tryz.results6, go_sem, zl, pv0, g0, g1, g2, g3, g4]) rfl ⟨rfl, ?_⟩
    exact ((((((B2.out).setCell (p := ⟨w.heap.size, 0, none⟩) (Nat.le_refl _) _).setCell (p := ⟨w.heap.size, 1, none⟩) (Nat.le_refl _) _).setCell (p := ⟨w.heap.size, 2, none⟩) (Nat.le_refl _) _).setCell (p := ⟨w.heap.size, 3, none⟩) (Nat.le_refl _) _).setCell (p := ⟨w.heap.size, 4, none⟩) (Nat.le_refl _) _).alloc (by simp; omega) _
end Go.Proofs.YtpfekgmimfkjcaaGreatDoor
