/-
  What WorkingBetween of package rule returns, in the worlds in which a list of holidays lies.
-/
import Derived.Test.YtfphedcgmaakjabLawMonths
import Derived.Test.YtfphedcgmaakjabBetM
import Derived.Test.YtfphedcgmaakjabAddL
namespace Go.Proofs.Ytfphedcgmaakjab
open Go.RowKit Go.Shelf
attribute [local go_sem] set_drewN Oper.semAt_some
/-- the error of a list and two days -/
def btE (l : List Hd) (x y : Int) : Int := feE [chE l, cdE [x, y], eI (decide (y < x)) 9]
theorem btE_0 {l : List Hd} {x y : Int} (h : btE l x y = 0) : chE l = 0 ∧ inB x 0 200000 = true ∧ inB y 0 200000 = true ∧ x ≤ y := by
  unfold btE at h
  by_cases g : chE l = 0
  · refine ⟨g, ?_⟩
    rw [g] at h
    simp only [feE, if_true] at h
    cases hx : inB x 0 200000
    · rw [cdE_2n (Or.inl hx)] at h; simp at h
    · cases hy : inB y 0 200000
      · rw [cdE_2n (Or.inr hy)] at h; simp at h
      · rw [cdE_2 hx hy] at h
        by_cases hxy : y < x
        · rw [show decide (y < x) = true from by simpa using hxy, eI_t] at h; simp at h
        · exact ⟨rfl, rfl, by omega⟩
  · simp [feE, g] at h
set_option maxRecDepth 100000 in
set_option maxHeartbeats 4000000 in
theorem Between_err {sa : Option Addr} {sn sc : Nat} {l : List Hd} {G : World → Prop} (hw : Cw sa sn sc l G) (w : World) (g0 : G w) (x y : Int) (he : btE l x y ≠ 0) :
    Calls Try.prog 10 #[.slice sa sn sc, .int .i64 x, .int .i64 y] w (RetB (two (.int .i64 0) (.int .i64 (btE l x y))) w) := by
  have hC := Lib.hid hw.chk
  generalize hr : btE l x y = r at *
  have hrb : (r != 0) = true := by simpa using he
  unfold btE at hr
  generalize chE l = C at *
  have HR := Lib.hid hr
  clear hr he
  go_enter Try.func10, Try.ntmps10
  go_wp2
  go_region_held3 (fun w' => w'.cell? ⟨w.heap.size, 0, none⟩ = some (.int .i64 y)) (first | exact k0 | go_keep)
    (first
      | (go_at_call 20
         refine (hC.out _ ?_).mono ?_
         · first | exact hw.below _ _ g0 (below_dr ((Below.refl _ _).alloc (Nat.le_refl _) _)) | exact hw.below _ _ g0 ((below_dr ((Below.refl _ _).alloc (Nat.le_refl _) _)).alloc (by simp) _)
         rintro e w1 ⟨rfl, hb1⟩
         have k0 : w1.cell? ⟨w.heap.size, 0, none⟩ = some (.int .i64 y) := (hb1.cell (p := ⟨w.heap.size, 0, none⟩) (by first | (simp; done) | (simp; omega))).trans (by simp [go_sem])
         have B1 : Hid (Below w.heap.size w w1) := Lib.hid (by first | exact (below_dr ((Below.refl _ _).alloc (Nat.le_refl _) _)).trans (hb1.mono (by simp)) | exact ((below_dr ((Below.refl _ _).alloc (Nat.le_refl _) _)).alloc (by simp) _).trans (hb1.mono (by simp; omega)))
         have s1 := hb1.size
         simp at s1)
      | (go_at_call 21; refine (check2 x y _ _ _ (by first | simp [go_sem] | exact (hb1.cell (by simp)).trans (by simp [go_sem])) (by first | simp [go_sem] | exact (hb1.cell (by simp)).trans (by simp [go_sem]))).mono ?_; rintro e w' ⟨rfl, rfl⟩)
      | (go_at_call 24; refine (errorIf_any _ _ _).mono ?_; rintro e w' ⟨rfl, rfl⟩)
      | (go_at_call 19; refine (firstError_any [C, cdE [x, y], eI (decide (y < x)) 9] _ 0 3 _ (by simp) (IntsAt.cons (by simp [go_sem]) (IntsAt.cons (by simp [go_sem]) (IntsAt.one (by simp [go_sem]))))).mono ?_; rintro e w' ⟨rfl, rfl⟩))
  all_goals
    rw [HR.out]
    go_wp2
    go_ret2
    first | exact ⟨rfl, (B1.out.alloc (by omega) _).alloc (by simp; omega) _⟩ | exact ⟨rfl, B1.out.alloc (by omega) _⟩
set_option maxRecDepth 100000 in
set_option maxHeartbeats 4000000 in
theorem Between_ok {sa : Option Addr} {sn sc : Nat} {l : List Hd} {G : World → Prop} (hw : Cw sa sn sc l G) (w : World) (g0 : G w) (x y : Int) (he : btE l x y = 0) :
    Calls Try.prog 10 #[.slice sa sn sc, .int .i64 x, .int .i64 y] w (RetB (two (.int .i64 ((dl (workB l) x (y - x).toNat).length : Nat)) (.int .i64 0)) w) := by
  have hC := Lib.hid hw.chk
  obtain ⟨he0, hx, hy, hxy⟩ := btE_0 he
  have e1 : cdE [x, y] = 0 := cdE_2 hx hy
  have e2 : decide (y < x) = false := by simpa using hxy
  have e3 := eI_f 9
  unfold btE at he
  rw [he0] at hC
  have HR := Lib.hid (show feE [0, 0, 0] = 0 from rfl)
  have HE0 := Lib.hid he0
  obtain ⟨x0, x9⟩ := inB_iff.1 hx
  obtain ⟨y0, y9⟩ := inB_iff.1 hy
  clear he he0
  refine (callsIn_wide (n := 5)).1 ?_
  refine callsIn_of_wp_marks Try.func10 rfl trivial ?_ rfl
  simp only [Try.ntmps10, List.size_toArray, List.length_cons, List.length_nil, Nat.reduceAdd, Nat.reduceSub, Array.replicate_succ, Array.replicate_zero, List.push_toArray, List.append_toArray, List.nil_append, List.cons_append]
  refine wpIn_wide.2 ?_
  go_wp2
  go_region_held3 (fun w' => w'.cell? ⟨w.heap.size, 0, none⟩ = some (.int .i64 y)) (first | exact k0 | go_keep)
    (first
      | (go_at_call 20
         refine (hC.out _ ?_).mono ?_
         · first | exact hw.below _ _ g0 (below_dr ((Below.refl _ _).alloc (Nat.le_refl _) _)) | exact hw.below _ _ g0 ((below_dr ((Below.refl _ _).alloc (Nat.le_refl _) _)).alloc (by simp) _)
         rintro e w1 ⟨rfl, hb1⟩
         have k0 : w1.cell? ⟨w.heap.size, 0, none⟩ = some (.int .i64 y) := (hb1.cell (p := ⟨w.heap.size, 0, none⟩) (by first | (simp; done) | (simp; omega))).trans (by simp [go_sem])
         have B1 : Hid (Below w.heap.size w w1) := Lib.hid (by first | exact (below_dr ((Below.refl _ _).alloc (Nat.le_refl _) _)).trans (hb1.mono (by simp)) | exact ((below_dr ((Below.refl _ _).alloc (Nat.le_refl _) _)).alloc (by simp) _).trans (hb1.mono (by simp; omega)))
         have s1 := hb1.size
         simp at s1)
      | (go_at_call 21; refine (check2 x y _ _ _ (by first | simp [go_sem] | exact (hb1.cell (by simp)).trans (by simp [go_sem])) (by first | simp [go_sem] | exact (hb1.cell (by simp)).trans (by simp [go_sem]))).mono ?_; rintro e w' ⟨rfl, rfl⟩)
      | (go_at_call 24; refine (errorIf_any _ _ _).mono ?_; rintro e w' ⟨rfl, rfl⟩)
      | (go_at_call 19; refine (firstError_any [0, 0, 0] _ 0 3 _ (by simp) (IntsAt.cons (by simp [go_sem]) (IntsAt.cons (by simp [go_sem]) (IntsAt.one (by simp [go_sem]))))).mono ?_; rintro e w' ⟨rfl, rfl⟩))
  all_goals
    try rw [e1]
    try rw [e2]
    try rw [e3]
    try rw [HR.out]
    go_wp2_with (go_at_call 25; refine (workingDays_any _ _ _ _ _ _).mono ?_; rintro e w' ⟨rfl, rfl⟩)
  · obtain ⟨WA, hWA⟩ : ∃ WA, (w1.alloc (.cells #[.int .i64 x, .int .i64 y] 3)).alloc (.cells #[.int .i64 0, .int .i64 0, .int .i64 0] 31) = WA := ⟨_, rfl⟩
    have sA : WA.heap.size = w1.heap.size + 1 + 1 := by rw [← hWA]; simp
    have BA := Lib.hid (show Below w.heap.size w WA by rw [← hWA]; exact (B1.out.alloc (by omega) _).alloc (by simp; omega) _)
    have kA : WA.cell? ⟨w.heap.size, 0, none⟩ = some (.int .i64 y) := by
      have hBA : Below w1.heap.size w1 WA := by rw [← hWA]; first | exact ((Below.refl _ _).alloc (Nat.le_refl _) _).alloc (by simp) _ | exact (Below.refl _ _).alloc (Nat.le_refl _) _
      exact (hBA.cell (p := ⟨w.heap.size, 0, none⟩) (by simp only; omega)).trans k0
    rw [hWA]
    have GA := Lib.hid (hw.below _ _ g0 BA.out)
    clear hWA
    obtain ⟨W0, hW0⟩ : ∃ W0, (((WA.alloc (.cells #[.int .i64 0] 3)).alloc (.cells #[.slice sa sn sc] 22)).alloc (.cells #[.int .i64 x] 3)).alloc (.cells #[.int .i64 1] 3) = W0 := ⟨_, rfl⟩
    have k1 : W0.cell? ⟨w1.heap.size + 1 + 1 + 1 + 1, 0, none⟩ = some (.int .i64 x) := by rw [← hW0, ← sA]; simp [go_sem]
    have k2 : W0.cell? ⟨w1.heap.size + 1 + 1 + 1 + 1 + 1, 0, none⟩ = some (.int .i64 1) := by rw [← hW0, ← sA]; simp [go_sem]
    have k3 : W0.cell? ⟨w1.heap.size + 1 + 1 + 1, 0, none⟩ = some (.slice sa sn sc) := by rw [← hW0, ← sA]; simp [go_sem]
    have kC : W0.cell? ⟨w1.heap.size + 1 + 1, 0, none⟩ = some (.int .i64 0) := by rw [← hW0, ← sA]; simp [go_sem]
    have fC : W0.frozen? ⟨w1.heap.size + 1 + 1, 0, none⟩ = false := by rw [← hW0, ← sA]; simp [go_sem]
    have hsz : W0.heap.size = w1.heap.size + 1 + 1 + 4 := by rw [← hW0, ← sA]; simp
    have hB1 : Below WA.heap.size WA W0 := by
      rw [← hW0]
      exact ((((Below.refl _ WA).alloc (Nat.le_refl _) _).alloc (by simp) _).alloc (by simp; omega) _).alloc (by simp; omega) _
    have hB0 : Below w.heap.size w W0 := BA.out.trans (hB1.mono BA.out.size)
    have k5 : W0.cell? ⟨w.heap.size, 0, none⟩ = some (.int .i64 y) := (hB1.cell (p := ⟨w.heap.size, 0, none⟩) (by simp only; omega)).trans kA
    rw [hW0]
    have hwc : w.heap.size + 1 ≤ w1.heap.size + 1 + 1 := by omega
    have GW0 := Lib.hid (hw.below _ _ g0 hB0)
    have hds : Hid (∀ y : Int, (once (hdays l y)).Pairwise (· < ·)) := Lib.hid (fun y => (once_spec (hdays l y)).1)
    clear hW0
    refine (wpIn_wide (n := 5)).1 ?_
    refine wpIn_rangeFunc_ownF (F := Fence.wide) (n := 5) rfl (by omega) (gf := 38) (lb := #[(.pointer (some ⟨w1.heap.size + 1 + 1 + 1 + 1, 0, none⟩)), (.pointer (some ⟨w1.heap.size + 1 + 1 + 1 + 1 + 1, 0, none⟩)), (.pointer (some ⟨w1.heap.size + 1 + 1 + 1, 0, none⟩))]) rfl trivial (enters_of Try.func38 (by kernel_rfl) rfl)
      (encs := fun x : Int => #[.int .i64 x]) (Kp := KpF (w1.heap.size + 1 + 1) (w1.heap.size + 1 + 1 + 1)) (S := fun xs => xs = wg (workB l) 1 200001 x) (Sp := fun pre => pre <+: wg (workB l) 1 200001 x) (N := 1000000) (w0 := W0)
      (fun m J Jx W hW hJ _ hY h0 => wg_in 4 (by omega) m (w1.heap.size + 1 + 1) (w1.heap.size + 1 + 1 + 1) (w1.heap.size + 1 + 1 + 1 + 1) (w1.heap.size + 1 + 1 + 1 + 1 + 1) (w1.heap.size + 1 + 1 + 1) 200001 (.slice sa sn sc) (fun y => once (hdays l y)) hds.out (once_le HE0.out) (workB l) (workB_P (chE_each HE0.out).2) G hw.below (fun W W' hg hk => hw.kept WA _ W W' GA.out hg (by rw [sA]; exact hk)) (Lib.hid (hw.of HE0.out)) x 1 (Or.inl rfl) (by omega) (by omega) (by simp [rem]; try omega) (by omega) J Jx W (hw.below _ _ GW0.out hW) (by omega) (by omega)
        ((hW.cell (p := ⟨w1.heap.size + 1 + 1 + 1 + 1, 0, none⟩) (by simp; omega)).trans k1) ((hW.cell (p := ⟨w1.heap.size + 1 + 1 + 1 + 1 + 1, 0, none⟩) (by simp; omega)).trans k2) ((hW.cell (p := ⟨w1.heap.size + 1 + 1 + 1, 0, none⟩) (by simp; omega)).trans k3) W.heap.size hJ hY h0)
      kpf_t (kpf_b (w := W0)) (Below.refl _ _) (fun _ => rfl)
      (fun pre W => ((∀ u ∈ pre, u < y) ∧ W.cell? ⟨w1.heap.size + 1 + 1, 0, none⟩ = some (.int .i64 (pre.length : Nat)) ∧ W.frozen? ⟨w1.heap.size + 1 + 1, 0, none⟩ = false ∧ W.cell? ⟨w.heap.size, 0, none⟩ = some (.int .i64 y)) ∧ Below w.heap.size w W)
      (fun e pre W => (e = .exit 0 ∧ ∃ (p : List Int) (z : Int), pre = p ++ [z] ∧ (∀ u ∈ p, u < y) ∧ y ≤ z ∧ W.cell? ⟨w1.heap.size + 1 + 1, 0, none⟩ = some (.int .i64 (p.length : Nat))) ∧ Below w.heap.size w W)
      (OwnFrom.and (Own.from (fun s A B row hs hg hr => ⟨hs.1, cell_kept hs.2.1 hg hr, (frozen_kept hs.2.1 hg hr).trans hs.2.2.1, cell_kept hs.2.2.2 hg hr⟩) _) (ownFrom_below (Nat.le_refl _) (by omega)))
      (fun e => OwnFrom.and (Own.from (fun s A B row hs hg hr => ⟨hs.1, by obtain ⟨p, z, q1, q2, q3, q4⟩ := hs.2; exact ⟨p, z, q1, q2, q3, cell_kept q4 hg hr⟩⟩) _) (ownFrom_below (Nat.le_refl _) (by omega)))
      ⟨⟨by simp, by simpa using kC, fC, k5⟩, hB0⟩
      (fun z => { tmps := #[.slice sa sn sc, .int .i64 x, .int .i64 y, undef, undef, .pointer (some ⟨w.heap.size, 0, none⟩), .int .i64 0, .int .i64 0, .int .i64 0, .pointer (some ⟨w1.heap.size + 1 + 1, 0, none⟩), .int .i64 z, .slice sa sn sc, .int .i64 0, .int .i64 x, .int .i64 y, .slice (some ⟨w1.heap.size, 0, none⟩) 2 2, .int .i64 0, .int .i64 y, .int .i64 x, .bool false, .int .i64 0, .slice (some ⟨w1.heap.size + 1, 0, none⟩) 3 3, .int .i64 0, .int .i64 0, .bool false, undef, .slice sa sn sc, .int .i64 x, .func (.func 38) #[] #[(.pointer (some ⟨w1.heap.size + 1 + 1 + 1 + 1, 0, none⟩)), (.pointer (some ⟨w1.heap.size + 1 + 1 + 1 + 1 + 1, 0, none⟩)), (.pointer (some ⟨w1.heap.size + 1 + 1 + 1, 0, none⟩))], .int .i64 z, undef, undef, undef, undef, undef, undef], defers := [] }) ?assign ?body ?done ?stop
    case assign =>
      intro m z W K hK
      gi_wp2
      exact hK
    case body =>
      rintro m pre z W ⟨⟨hall, hc, hf, h5⟩, hB⟩ hlen
      have HA := Lib.hid hall
      clear hall
      by_cases hz : y ≤ z
      · gi_wp2
        exact ⟨KeepsOthers.refl _, ⟨rfl, pre, z, rfl, HA.out, hz, hc⟩, hB⟩
      · have hz' : decide (y ≤ z) = false := by simpa using hz
        gi_wp2
        refine ⟨KeepsOthers.setCell _ _ _, kpf_set _ _ _ (by simp) (by simp), ⟨?_, ?_, ?_, ?_⟩, hB.setCell (p := ⟨w1.heap.size + 1 + 1, 0, none⟩) (by simp; omega) _⟩
        · intro u hu
          rw [List.mem_append, List.mem_singleton] at hu
          rcases hu with hu | hu
          · exact HA.out u hu
          · omega
        · rw [World.cell?_setCell_same _ _ _ hc]; simp
        · rw [World.frozen?_setCell]; exact hf
        · exact (World.cell?_setCell_other _ _ _ _ (by first | (simp; done) | (simp; omega))).trans h5
    case done =>
      rintro D ys W hD rfl ⟨⟨hall, hc, hf, h5⟩, hB⟩ hK
      have e := bet_of (P := workB l) (a := x) (t := y) (pre := wg (workB l) 1 200001 x) (r := []) (by omega) hxy (by omega) (by simp) hall (by simp)
      rw [e] at hc
      have hB' := Lib.hid hB
      clear hB hall e
      go_wp2
      refine ⟨by simp, .inl ⟨_, _, rfl, run_takeDeferred hK, ?_⟩⟩
      refine ⟨two (.int .i64 ((dl (workB l) x (y - x).toNat).length : Nat)) (.int .i64 0), ?_, rfl, hB'.out.trans (belowK_b (w := w) (Nat.le_refl _) W D _ _ (by omega) hK rfl rfl)⟩
      simp [results, Try.results10, go_sem]
    case stop =>
      rintro D c pre W hD hpre ⟨⟨rfl, p, z, rfl, hall, hz, hc⟩, hB⟩ hK
      have e : p = dl (workB l) x (y - x).toNat := by
        obtain ⟨t, ht⟩ := hpre
        exact bet_of (P := workB l) (a := x) (t := y) (pre := p) (r := z :: t) (by omega) hxy (by omega) (by rw [← ht]; simp) hall (by intro u hu; simp at hu; omega)
      subst e
      have hB' := Lib.hid hB
      clear hB hall hpre
      gi_wp2
      go_wp2
      refine ⟨by simp, .inl ⟨_, _, rfl, run_takeDeferred hK, ?_⟩⟩
      refine ⟨two (.int .i64 ((dl (workB l) x (y - x).toNat).length : Nat)) (.int .i64 0), ?_, rfl, hB'.out.trans (belowK_b (w := w) (Nat.le_refl _) W D _ _ (by omega) hK rfl rfl)⟩
      simp [results, Try.results10, go_sem]
  · obtain ⟨WA, hWA⟩ : ∃ WA, w1.alloc (.cells #[.int .i64 0, .int .i64 0, .int .i64 0] 31) = WA := ⟨_, rfl⟩
    have sA : WA.heap.size = w1.heap.size + 1 := by rw [← hWA]; simp
    have BA := Lib.hid (show Below w.heap.size w WA by rw [← hWA]; exact B1.out.alloc (by omega) _)
    have kA : WA.cell? ⟨w.heap.size, 0, none⟩ = some (.int .i64 y) := by
      have hBA : Below w1.heap.size w1 WA := by rw [← hWA]; first | exact ((Below.refl _ _).alloc (Nat.le_refl _) _).alloc (by simp) _ | exact (Below.refl _ _).alloc (Nat.le_refl _) _
      exact (hBA.cell (p := ⟨w.heap.size, 0, none⟩) (by simp only; omega)).trans k0
    rw [hWA]
    have GA := Lib.hid (hw.below _ _ g0 BA.out)
    clear hWA
    obtain ⟨W0, hW0⟩ : ∃ W0, (((WA.alloc (.cells #[.int .i64 0] 3)).alloc (.cells #[.slice sa sn sc] 22)).alloc (.cells #[.int .i64 x] 3)).alloc (.cells #[.int .i64 1] 3) = W0 := ⟨_, rfl⟩
    have k1 : W0.cell? ⟨w1.heap.size + 1 + 1 + 1, 0, none⟩ = some (.int .i64 x) := by rw [← hW0, ← sA]; simp [go_sem]
    have k2 : W0.cell? ⟨w1.heap.size + 1 + 1 + 1 + 1, 0, none⟩ = some (.int .i64 1) := by rw [← hW0, ← sA]; simp [go_sem]
    have k3 : W0.cell? ⟨w1.heap.size + 1 + 1, 0, none⟩ = some (.slice sa sn sc) := by rw [← hW0, ← sA]; simp [go_sem]
    have kC : W0.cell? ⟨w1.heap.size + 1, 0, none⟩ = some (.int .i64 0) := by rw [← hW0, ← sA]; simp [go_sem]
    have fC : W0.frozen? ⟨w1.heap.size + 1, 0, none⟩ = false := by rw [← hW0, ← sA]; simp [go_sem]
    have hsz : W0.heap.size = w1.heap.size + 1 + 4 := by rw [← hW0, ← sA]; simp
    have hB1 : Below WA.heap.size WA W0 := by
      rw [← hW0]
      exact ((((Below.refl _ WA).alloc (Nat.le_refl _) _).alloc (by simp) _).alloc (by simp; omega) _).alloc (by simp; omega) _
    have hB0 : Below w.heap.size w W0 := BA.out.trans (hB1.mono BA.out.size)
    have k5 : W0.cell? ⟨w.heap.size, 0, none⟩ = some (.int .i64 y) := (hB1.cell (p := ⟨w.heap.size, 0, none⟩) (by simp only; omega)).trans kA
    rw [hW0]
    have hwc : w.heap.size + 1 ≤ w1.heap.size + 1 := by omega
    have GW0 := Lib.hid (hw.below _ _ g0 hB0)
    have hds : Hid (∀ y : Int, (once (hdays l y)).Pairwise (· < ·)) := Lib.hid (fun y => (once_spec (hdays l y)).1)
    clear hW0
    refine (wpIn_wide (n := 5)).1 ?_
    refine wpIn_rangeFunc_ownF (F := Fence.wide) (n := 5) rfl (by omega) (gf := 38) (lb := #[(.pointer (some ⟨w1.heap.size + 1 + 1 + 1, 0, none⟩)), (.pointer (some ⟨w1.heap.size + 1 + 1 + 1 + 1, 0, none⟩)), (.pointer (some ⟨w1.heap.size + 1 + 1, 0, none⟩))]) rfl trivial (enters_of Try.func38 (by kernel_rfl) rfl)
      (encs := fun x : Int => #[.int .i64 x]) (Kp := KpF (w1.heap.size + 1) (w1.heap.size + 1 + 1)) (S := fun xs => xs = wg (workB l) 1 200001 x) (Sp := fun pre => pre <+: wg (workB l) 1 200001 x) (N := 1000000) (w0 := W0)
      (fun m J Jx W hW hJ _ hY h0 => wg_in 4 (by omega) m (w1.heap.size + 1) (w1.heap.size + 1 + 1) (w1.heap.size + 1 + 1 + 1) (w1.heap.size + 1 + 1 + 1 + 1) (w1.heap.size + 1 + 1) 200001 (.slice sa sn sc) (fun y => once (hdays l y)) hds.out (once_le HE0.out) (workB l) (workB_P (chE_each HE0.out).2) G hw.below (fun W W' hg hk => hw.kept WA _ W W' GA.out hg (by rw [sA]; exact hk)) (Lib.hid (hw.of HE0.out)) x 1 (Or.inl rfl) (by omega) (by omega) (by simp [rem]; try omega) (by omega) J Jx W (hw.below _ _ GW0.out hW) (by omega) (by omega)
        ((hW.cell (p := ⟨w1.heap.size + 1 + 1 + 1, 0, none⟩) (by simp; omega)).trans k1) ((hW.cell (p := ⟨w1.heap.size + 1 + 1 + 1 + 1, 0, none⟩) (by simp; omega)).trans k2) ((hW.cell (p := ⟨w1.heap.size + 1 + 1, 0, none⟩) (by simp; omega)).trans k3) W.heap.size hJ hY h0)
      kpf_t (kpf_b (w := W0)) (Below.refl _ _) (fun _ => rfl)
      (fun pre W => ((∀ u ∈ pre, u < y) ∧ W.cell? ⟨w1.heap.size + 1, 0, none⟩ = some (.int .i64 (pre.length : Nat)) ∧ W.frozen? ⟨w1.heap.size + 1, 0, none⟩ = false ∧ W.cell? ⟨w.heap.size, 0, none⟩ = some (.int .i64 y)) ∧ Below w.heap.size w W)
      (fun e pre W => (e = .exit 0 ∧ ∃ (p : List Int) (z : Int), pre = p ++ [z] ∧ (∀ u ∈ p, u < y) ∧ y ≤ z ∧ W.cell? ⟨w1.heap.size + 1, 0, none⟩ = some (.int .i64 (p.length : Nat))) ∧ Below w.heap.size w W)
      (OwnFrom.and (Own.from (fun s A B row hs hg hr => ⟨hs.1, cell_kept hs.2.1 hg hr, (frozen_kept hs.2.1 hg hr).trans hs.2.2.1, cell_kept hs.2.2.2 hg hr⟩) _) (ownFrom_below (Nat.le_refl _) (by omega)))
      (fun e => OwnFrom.and (Own.from (fun s A B row hs hg hr => ⟨hs.1, by obtain ⟨p, z, q1, q2, q3, q4⟩ := hs.2; exact ⟨p, z, q1, q2, q3, cell_kept q4 hg hr⟩⟩) _) (ownFrom_below (Nat.le_refl _) (by omega)))
      ⟨⟨by simp, by simpa using kC, fC, k5⟩, hB0⟩
      (fun z => { tmps := #[.slice sa sn sc, .int .i64 x, .int .i64 y, undef, undef, .pointer (some ⟨w.heap.size, 0, none⟩), .int .i64 0, .int .i64 0, .int .i64 0, .pointer (some ⟨w1.heap.size + 1, 0, none⟩), .int .i64 z, .slice sa sn sc, .int .i64 0, .int .i64 x, .int .i64 y, .slice (some ⟨w.heap.size + 1, 0, none⟩) 2 2, .int .i64 0, .int .i64 y, .int .i64 x, .bool false, .int .i64 0, .slice (some ⟨w1.heap.size, 0, none⟩) 3 3, .int .i64 0, .int .i64 0, .bool false, undef, .slice sa sn sc, .int .i64 x, .func (.func 38) #[] #[(.pointer (some ⟨w1.heap.size + 1 + 1 + 1, 0, none⟩)), (.pointer (some ⟨w1.heap.size + 1 + 1 + 1 + 1, 0, none⟩)), (.pointer (some ⟨w1.heap.size + 1 + 1, 0, none⟩))], .int .i64 z, undef, undef, undef, undef, undef, undef], defers := [] }) ?assign ?body ?done ?stop
    case assign =>
      intro m z W K hK
      gi_wp2
      exact hK
    case body =>
      rintro m pre z W ⟨⟨hall, hc, hf, h5⟩, hB⟩ hlen
      have HA := Lib.hid hall
      clear hall
      by_cases hz : y ≤ z
      · gi_wp2
        exact ⟨KeepsOthers.refl _, ⟨rfl, pre, z, rfl, HA.out, hz, hc⟩, hB⟩
      · have hz' : decide (y ≤ z) = false := by simpa using hz
        gi_wp2
        refine ⟨KeepsOthers.setCell _ _ _, kpf_set _ _ _ (by simp) (by simp), ⟨?_, ?_, ?_, ?_⟩, hB.setCell (p := ⟨w1.heap.size + 1, 0, none⟩) (by simp; omega) _⟩
        · intro u hu
          rw [List.mem_append, List.mem_singleton] at hu
          rcases hu with hu | hu
          · exact HA.out u hu
          · omega
        · rw [World.cell?_setCell_same _ _ _ hc]; simp
        · rw [World.frozen?_setCell]; exact hf
        · exact (World.cell?_setCell_other _ _ _ _ (by first | (simp; done) | (simp; omega))).trans h5
    case done =>
      rintro D ys W hD rfl ⟨⟨hall, hc, hf, h5⟩, hB⟩ hK
      have e := bet_of (P := workB l) (a := x) (t := y) (pre := wg (workB l) 1 200001 x) (r := []) (by omega) hxy (by omega) (by simp) hall (by simp)
      rw [e] at hc
      have hB' := Lib.hid hB
      clear hB hall e
      go_wp2
      refine ⟨by simp, .inl ⟨_, _, rfl, run_takeDeferred hK, ?_⟩⟩
      refine ⟨two (.int .i64 ((dl (workB l) x (y - x).toNat).length : Nat)) (.int .i64 0), ?_, rfl, hB'.out.trans (belowK_b (w := w) (Nat.le_refl _) W D _ _ (by omega) hK rfl rfl)⟩
      simp [results, Try.results10, go_sem]
    case stop =>
      rintro D c pre W hD hpre ⟨⟨rfl, p, z, rfl, hall, hz, hc⟩, hB⟩ hK
      have e : p = dl (workB l) x (y - x).toNat := by
        obtain ⟨t, ht⟩ := hpre
        exact bet_of (P := workB l) (a := x) (t := y) (pre := p) (r := z :: t) (by omega) hxy (by omega) (by rw [← ht]; simp) hall (by intro u hu; simp at hu; omega)
      subst e
      have hB' := Lib.hid hB
      clear hB hall hpre
      gi_wp2
      go_wp2
      refine ⟨by simp, .inl ⟨_, _, rfl, run_takeDeferred hK, ?_⟩⟩
      refine ⟨two (.int .i64 ((dl (workB l) x (y - x).toNat).length : Nat)) (.int .i64 0), ?_, rfl, hB'.out.trans (belowK_b (w := w) (Nat.le_refl _) W D _ _ (by omega) hK rfl rfl)⟩
      simp [results, Try.results10, go_sem]
end Go.Proofs.Ytfphedcgmaakjab
