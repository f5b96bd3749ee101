/-
  What ParseProvision of the specification of package rule returns: a contract for all worlds.
-/
import Derived.Test.YtpfekgmimfkjcaaGreatDoorParP
import Derived.Test.YtpfekgmimfkjcaaGreatDoorWords
namespace Go.Proofs.YtpfekgmimfkjcaaGreatDoor
open Go.RowKit
attribute [local go_sem] set_drewN
set_option maxRecDepth 100000 in
set_option maxHeartbeats 8000000 in
theorem xParseProvision_any (s : ByteArray) (w : World) (hs : s.size ≤ 1000000) :
    Calls Tryz.prog 7 #[.string s] w (RetB (two (ppP s).val (.int .i64 (ppE s))) w) := by
  by_cases h200 : 200 < s.size
  · obtain ⟨z1, z2⟩ := rp_long h200
    have e1 : ppE s = 8 := by unfold ppE; rw [z1]; rfl
    have e2 : ppP s = pv0 := by unfold ppP; rw [e1]; rfl
    rw [e1, e2]
    clear e1 e2 z1 z2
    go_enter Tryz.func7, Tryz.ntmps7
    go_wp2
    refine bodyPost_ret (v := two pv0.val (.int .i64 8)) (by simp [results, Tryz.results7, go_sem, pv0]) rfl ⟨rfl, ?_⟩
    exact (Below.refl _ _).alloc (Nat.le_refl _) _
  have d200 : decide (200 < s.size) = false := by simpa using h200
  have hw := fun W => words_any s W hs
  by_cases h0 : rpE s = 0
  · have hwd : wdB s = true := by unfold wdB; rw [h0]; rfl
    have he : ppE s = pvE (rpP s) := by unfold ppE; rw [if_pos h0]
    have hp : pvE (rpP s) = 0 → ppP s = rpP s := fun h => by unfold ppP; rw [he, if_pos h]
    have hp2 : pvE (rpP s) ≠ 0 → ppP s = pv0 := fun h => by unfold ppP; rw [he, if_neg h]
    have hn := rpP_name s hs
    rw [hwd] at hw
    rw [he]
    clear he hwd h0
    generalize rpP s = q at *
    generalize ppP s = pp at *
    have HW := Lib.hid hw
    clear hw
    by_cases hq : pvE q = 0
    · obtain rfl := (hp hq).symm
      clear hp hp2
      have hz : pvE q = 0 := hq
      have HQ := Lib.hid hz
      rw [hz]
      obtain ⟨nm, v, fr, en, rp⟩ := q
      simp only at hn
      have HC := Lib.hid (fun W => xProvisionErr_any ⟨nm, v, fr, en, rp⟩ W hn)
      rw [show pvE ⟨nm, v, fr, en, rp⟩ = 0 from HQ.out] at HC
      go_enter Tryz.func7, Tryz.ntmps7
      go_wp2_with (first
        | (go_at_call 26; refine (HW.out _).mono ?_; rintro e w1 ⟨rfl, hb1⟩; have q1 := hb1.size; simp only [World.size_alloc] at q1; have B1 := Lib.hid (((Below.refl _ w).alloc (Nat.le_refl _) _).trans (hb1.mono (by simp))); have Z1 := Lib.hid ((Z5.new w _).below hb1))
        | (go_at_call 10; refine (HC.out _).mono ?_; rintro e w2 ⟨rfl, hb2⟩; have q2 := hb2.size; simp only [World.size_alloc] at q2; have pl : w1.heap.size < w2.heap.size := Nat.lt_of_succ_le q2; have p0 : w2.cell? ⟨w1.heap.size, 0, none⟩ = some (.string nm) := (hb2.cell (p := ⟨w1.heap.size, 0, none⟩) (by simp)).trans (by simp [go_sem]); have p1 : w2.cell? ⟨w1.heap.size, 1, none⟩ = some (.int .i64 v) := (hb2.cell (p := ⟨w1.heap.size, 1, none⟩) (by simp)).trans (by simp [go_sem]); have p2 : w2.cell? ⟨w1.heap.size, 2, none⟩ = some (.int .i64 fr) := (hb2.cell (p := ⟨w1.heap.size, 2, none⟩) (by simp)).trans (by simp [go_sem]); have p3 : w2.cell? ⟨w1.heap.size, 3, none⟩ = some (.int .i64 en) := (hb2.cell (p := ⟨w1.heap.size, 3, none⟩) (by simp)).trans (by simp [go_sem]); have p4 : w2.cell? ⟨w1.heap.size, 4, none⟩ = some (.bool rp) := (hb2.cell (p := ⟨w1.heap.size, 4, none⟩) (by simp)).trans (by simp [go_sem]); have C2 := Lib.hid (((Below.refl _ w1).alloc (Nat.le_refl _) _).trans (hb2.mono (by simp))); have B2 := Lib.hid (B1.out.trans (C2.out.mono (by omega))); obtain ⟨zl, ⟨z0, z1, z2, z3, z4⟩, y0, y1, y2, y3, y4⟩ := Z1.out.below C2.out))
      obtain ⟨g0, g1, g2, g3, g4⟩ := cell_set5 z0 z1 z2 z3 z4 (.string nm) (.int .i64 v) (.int .i64 fr) (.int .i64 en) (.bool rp)
      refine bodyPost_ret (v := two (Pv.val ⟨nm, v, fr, en, rp⟩) (.int .i64 0)) (by simp [results, Tryz.results7, go_sem, g0, g1, g2, g3, g4]) rfl ⟨rfl, ?_⟩
      exact (((((B2.out).setCell (p := ⟨w.heap.size, 0, none⟩) (Nat.le_refl _) _).setCell (p := ⟨w.heap.size, 1, none⟩) (Nat.le_refl _) _).setCell (p := ⟨w.heap.size, 2, none⟩) (Nat.le_refl _) _).setCell (p := ⟨w.heap.size, 3, none⟩) (Nat.le_refl _) _).setCell (p := ⟨w.heap.size, 4, none⟩) (Nat.le_refl _) _
    · obtain rfl := hp2 hq
      clear hp hp2
      have hnb : (pvE q != 0) = true := by simpa using hq
      obtain ⟨nm, v, fr, en, rp⟩ := q
      simp only at hn
      have HC := Lib.hid (fun W => xProvisionErr_any ⟨nm, v, fr, en, rp⟩ W hn)
      generalize pvE ⟨nm, v, fr, en, rp⟩ = qe at *
      go_enter Tryz.func7, Tryz.ntmps7
      go_wp2_with (first
        | (go_at_call 26; refine (HW.out _).mono ?_; rintro e w1 ⟨rfl, hb1⟩; have q1 := hb1.size; simp only [World.size_alloc] at q1; have B1 := Lib.hid (((Below.refl _ w).alloc (Nat.le_refl _) _).trans (hb1.mono (by simp))); have Z1 := Lib.hid ((Z5.new w _).below hb1))
        | (go_at_call 10; refine (HC.out _).mono ?_; rintro e w2 ⟨rfl, hb2⟩; have q2 := hb2.size; simp only [World.size_alloc] at q2; have pl : w1.heap.size < w2.heap.size := Nat.lt_of_succ_le q2; have p0 : w2.cell? ⟨w1.heap.size, 0, none⟩ = some (.string nm) := (hb2.cell (p := ⟨w1.heap.size, 0, none⟩) (by simp)).trans (by simp [go_sem]); have p1 : w2.cell? ⟨w1.heap.size, 1, none⟩ = some (.int .i64 v) := (hb2.cell (p := ⟨w1.heap.size, 1, none⟩) (by simp)).trans (by simp [go_sem]); have p2 : w2.cell? ⟨w1.heap.size, 2, none⟩ = some (.int .i64 fr) := (hb2.cell (p := ⟨w1.heap.size, 2, none⟩) (by simp)).trans (by simp [go_sem]); have p3 : w2.cell? ⟨w1.heap.size, 3, none⟩ = some (.int .i64 en) := (hb2.cell (p := ⟨w1.heap.size, 3, none⟩) (by simp)).trans (by simp [go_sem]); have p4 : w2.cell? ⟨w1.heap.size, 4, none⟩ = some (.bool rp) := (hb2.cell (p := ⟨w1.heap.size, 4, none⟩) (by simp)).trans (by simp [go_sem]); have C2 := Lib.hid (((Below.refl _ w1).alloc (Nat.le_refl _) _).trans (hb2.mono (by simp))); have B2 := Lib.hid (B1.out.trans (C2.out.mono (by omega))); obtain ⟨zl, ⟨z0, z1, z2, z3, z4⟩, y0, y1, y2, y3, y4⟩ := Z1.out.below C2.out))
      obtain ⟨g0, g1, g2, g3, g4⟩ := cell_set5 z0 z1 z2 z3 z4 (.string ⟨#[]⟩) (.int .i64 0) (.int .i64 0) (.int .i64 0) (.bool false)
      refine bodyPost_ret (v := two pv0.val (.int .i64 qe)) (by simp [results, Tryz.results7, go_sem, pv0, g0, g1, g2, g3, g4]) rfl ⟨rfl, ?_⟩
      exact (((((B2.out).setCell (p := ⟨w.heap.size, 0, none⟩) (Nat.le_refl _) _).setCell (p := ⟨w.heap.size, 1, none⟩) (Nat.le_refl _) _).setCell (p := ⟨w.heap.size, 2, none⟩) (Nat.le_refl _) _).setCell (p := ⟨w.heap.size, 3, none⟩) (Nat.le_refl _) _).setCell (p := ⟨w.heap.size, 4, none⟩) (Nat.le_refl _) _
  · have hwd : wdB s = false := by unfold wdB; rw [decide_eq_false h0]
    have hx : rpE s = 7 := by
      by_cases hr : rdP s.data.toList = none
      · exact (rp_none h200 hr).1
      · obtain ⟨p, hp⟩ := Option.ne_none_iff_exists'.1 hr
        exact absurd (rp_some h200 hp).1 h0
    have he : ppE s = 7 := by unfold ppE; rw [if_neg h0, hx]
    have hpp : ppP s = pv0 := by unfold ppP; rw [he]; rfl
    have hr0 : rpP s = pv0 := by
      by_cases hr : rdP s.data.toList = none
      · exact (rp_none h200 hr).2
      · obtain ⟨p, hp⟩ := Option.ne_none_iff_exists'.1 hr
        exact absurd (rp_some h200 hp).1 h0
    rw [hwd, hr0] at hw
    rw [he, hpp]
    clear he hpp hr0 hx hwd h0
    have HW := Lib.hid hw
    clear hw
    go_enter Tryz.func7, Tryz.ntmps7
    go_wp2_with (go_at_call 26; refine (HW.out _).mono ?_; rintro e w1 ⟨rfl, hb1⟩; have q1 := hb1.size; simp only [World.size_alloc] at q1; have B1 := Lib.hid (((Below.refl _ w).alloc (Nat.le_refl _) _).trans (hb1.mono (by simp))); have Z1 := Lib.hid ((Z5.new w _).below hb1); obtain ⟨zl, ⟨z0, z1, z2, z3, z4⟩, y0, y1, y2, y3, y4⟩ := Z1.out)
    obtain ⟨g0, g1, g2, g3, g4⟩ := cell_set5 z0 z1 z2 z3 z4 (.string ⟨#[]⟩) (.int .i64 0) (.int .i64 0) (.int .i64 0) (.bool false)
    refine bodyPost_ret (v := two pv0.val (.int .i64 7)) (by simp [results, Tryz.results7, go_sem, zl, pv0, g0, g1, g2, g3, g4]) rfl ⟨rfl, ?_⟩
    exact ((((((B1.out).setCell (p := ⟨w.heap.size, 0, none⟩) (Nat.le_refl _) _).setCell (p := ⟨w.heap.size, 1, none⟩) (Nat.le_refl _) _).setCell (p := ⟨w.heap.size, 2, none⟩) (Nat.le_refl _) _).setCell (p := ⟨w.heap.size, 3, none⟩) (Nat.le_refl _) _).setCell (p := ⟨w.heap.size, 4, none⟩) (Nat.le_refl _) _).alloc (by simp; omega) _
end Go.Proofs.YtpfekgmimfkjcaaGreatDoor
