/-
  What addWorking of package rule returns where there is no holiday and the number is positive: a contract for all worlds.
-/
import Derived.Test.YtpfekgmimfkjcaaGreatDoorIter
namespace Go.Proofs.YtpfekgmimfkjcaaGreatDoor
open Go.RowKit Go.Shelf
attribute [local go_sem] set_drewN Oper.semAt_some
set_option maxRecDepth 100000 in
set_option maxHeartbeats 2000000 in
theorem addWorkingNil (day x : Int) (n : Nat) (w : World) (hd1 : 0 ≤ day) (hd2 : day ≤ 200000) (hn1 : 0 < n) (hn2 : n ≤ 2000) (hx : (wl 1 200001 (day + 1))[n - 1]? = some x) :
    Calls Tryz.prog 44 #[nilS, .int .i64 day, .int .i64 n] w (RetB (two (.int .i64 x) (.int .i64 0)) w) := by
  have HX := Lib.hid hx
  clear hx
  refine (callsIn_wide (n := 5)).1 ?_
  refine callsIn_of_wp_marks Tryz.func44 rfl trivial ?_ rfl
  simp only [Tryz.ntmps44, List.size_toArray, List.length_cons, List.length_nil, Nat.reduceAdd, Nat.reduceSub, Array.replicate_succ, Array.replicate_zero, List.push_toArray, List.append_toArray, List.nil_append, List.cons_append]
  gi_wp2_with (refine ⟨trivial, ?_⟩; gi_at_call 61; refine (callsIn_wide.2 (workingDaysNil _ _ _)).mono ?_; rintro e w' ⟨rfl, rfl⟩)
  obtain ⟨W0, hW0⟩ : ∃ W0, ((((((w.alloc (.cells #[.int .i64 0] 3)).alloc (.cells #[.int .i64 0] 25)).alloc (.cells #[.int .i64 n] 3)).alloc (.cells #[nilS] 71)).alloc (.cells #[.int .i64 (day + 1)] 3)).alloc (.cells #[.int .i64 1] 3)) = W0 := ⟨_, rfl⟩
  have k1 : W0.cell? ⟨w.heap.size + 1 + 1 + 1 + 1, 0, none⟩ = some (.int .i64 (day + 1)) := by rw [← hW0]; simp [go_sem]
  have k2 : W0.cell? ⟨w.heap.size + 1 + 1 + 1 + 1 + 1, 0, none⟩ = some (.int .i64 1) := by rw [← hW0]; simp [go_sem]
  have k3 : W0.cell? ⟨w.heap.size + 1 + 1 + 1, 0, none⟩ = some (nilS) := by rw [← hW0]; simp [go_sem]
  have kL : W0.cell? ⟨w.heap.size + 1 + 1, 0, none⟩ = some (.int .i64 n) := by rw [← hW0]; simp [go_sem]
  have fL : W0.frozen? ⟨w.heap.size + 1 + 1, 0, none⟩ = false := by rw [← hW0]; simp [go_sem]
  have k6 : W0.cell? ⟨w.heap.size, 0, none⟩ = some (.int .i64 0) := by rw [← hW0]; simp [go_sem]
  have f6 : W0.frozen? ⟨w.heap.size, 0, none⟩ = false := by rw [← hW0]; simp [go_sem]
  have k7 : W0.cell? ⟨w.heap.size + 1, 0, none⟩ = some (.int .i64 0) := by rw [← hW0]; simp [go_sem]
  have f7 : W0.frozen? ⟨w.heap.size + 1, 0, none⟩ = false := by rw [← hW0]; simp [go_sem]
  have hsz : W0.heap.size = w.heap.size + 6 := by rw [← hW0]; simp
  have hB0 : Below w.heap.size w W0 := by
    rw [← hW0]
    exact (((((((Below.refl _ w).alloc (Nat.le_refl _) _).alloc (by simp) _).alloc (by simp; omega) _).alloc (by simp; omega) _).alloc (by simp; omega) _).alloc (by simp; omega) _)
  rw [hW0]
  have HSZ := Lib.hid hsz
  have hlt : w.heap.size + 5 < W0.heap.size := by omega
  clear hW0 hsz
  refine wpIn_rangeFunc_ownF (F := Fence.wide) (n := 5) rfl (by omega) (gf := 75) (lb := #[(.pointer (some ⟨w.heap.size + 1 + 1 + 1 + 1, 0, none⟩)), (.pointer (some ⟨w.heap.size + 1 + 1 + 1 + 1 + 1, 0, none⟩)), (.pointer (some ⟨w.heap.size + 1 + 1 + 1, 0, none⟩))]) rfl trivial (enters_of Tryz.func75 (by kernel_rfl) rfl)
    (encs := fun x : Int => #[.int .i64 x]) (Kp := Kp2 (w.heap.size + 1 + 1 + 1 + 1 + 1) (w.heap.size + 1 + 1 + 1)) (S := fun xs => xs = wl 1 200001 (day + 1)) (Sp := fun pre => pre <+: wl 1 200001 (day + 1)) (N := 1000000) (w0 := W0)
    (fun l J Jx W hW hJ _ hY h0 => wd_in 4 (by omega) l (w.heap.size + 1 + 1 + 1 + 1) (w.heap.size + 1 + 1 + 1 + 1 + 1) (w.heap.size + 1 + 1 + 1) 200001 (day + 1) 1 (Or.inl rfl) (by omega) (by omega) (by simp [rem]; omega) (by omega) J Jx W (Nat.lt_of_lt_of_le (by omega) hW.size) (Nat.lt_of_lt_of_le (by omega) hW.size)
      ((hW.cell (p := ⟨w.heap.size + 1 + 1 + 1 + 1, 0, none⟩) (by simp; omega)).trans k1) ((hW.cell (p := ⟨w.heap.size + 1 + 1 + 1 + 1 + 1, 0, none⟩) (by simp; omega)).trans k2) ((hW.cell (p := ⟨w.heap.size + 1 + 1 + 1, 0, none⟩) (by simp; omega)).trans k3) W.heap.size hJ hY h0)
    kp2_t (kp2_b (by omega) (by omega)) (Below.refl _ _) (fun _ => rfl)
    (fun pre W => (pre.length < n ∧ W.cell? ⟨w.heap.size + 1 + 1, 0, none⟩ = some (.int .i64 (n - pre.length)) ∧ W.frozen? ⟨w.heap.size + 1 + 1, 0, none⟩ = false ∧ W.cell? ⟨w.heap.size, 0, none⟩ = some (.int .i64 0) ∧ W.frozen? ⟨w.heap.size, 0, none⟩ = false ∧ W.cell? ⟨w.heap.size + 1, 0, none⟩ = some (.int .i64 0) ∧ W.frozen? ⟨w.heap.size + 1, 0, none⟩ = false) ∧ Below w.heap.size w W)
    (fun e pre W => (e = .ret ∧ pre.length = n ∧ ∃ v, pre.getLast? = some v ∧ W.cell? ⟨w.heap.size, 0, none⟩ = some (.int .i64 v) ∧ W.cell? ⟨w.heap.size + 1, 0, none⟩ = some (.int .i64 0)) ∧ Below w.heap.size w W)
    (OwnFrom.and (Own.from (fun s A B row hs hg hr => ⟨hs.1, cell_kept hs.2.1 hg hr, (frozen_kept hs.2.1 hg hr).trans hs.2.2.1, cell_kept hs.2.2.2.1 hg hr, (frozen_kept hs.2.2.2.1 hg hr).trans hs.2.2.2.2.1, cell_kept hs.2.2.2.2.2.1 hg hr, (frozen_kept hs.2.2.2.2.2.1 hg hr).trans hs.2.2.2.2.2.2⟩) _) (ownFrom_below (Nat.le_refl _) (by omega)))
    (fun e => OwnFrom.and (Own.from (fun s A B row hs hg hr => ⟨hs.1, hs.2.1, by obtain ⟨v, hv, q1, q2⟩ := hs.2.2; exact ⟨v, hv, cell_kept q1 hg hr, cell_kept q2 hg hr⟩⟩) _) (ownFrom_below (Nat.le_refl _) (by omega)))
    ⟨⟨hn1, by simpa using kL, fL, k6, f6, k7, f7⟩, hB0⟩
    (fun x => { tmps := #[nilS, .int .i64 day, .int .i64 n, undef, undef, undef, (.pointer (some ⟨w.heap.size, 0, none⟩)), (.pointer (some ⟨w.heap.size + 1, 0, none⟩)), .int .i64 (day + 1), .int .i64 1, (.pointer (some ⟨w.heap.size + 1 + 1, 0, none⟩)), .int .i64 x, .int .i64 day, .bool true, .int .i64 n, .bool true, .int .i64 day, .int .i64 (day + 1), .int .i64 n, undef, undef, undef, undef, undef, undef, undef, nilS, .int .i64 (day + 1), .int .i64 1, .func (.func 75) #[] #[(.pointer (some ⟨w.heap.size + 1 + 1 + 1 + 1, 0, none⟩)), (.pointer (some ⟨w.heap.size + 1 + 1 + 1 + 1 + 1, 0, none⟩)), (.pointer (some ⟨w.heap.size + 1 + 1 + 1, 0, none⟩))], .int .i64 x, undef, undef, undef, undef, undef], defers := [] }) ?assign ?body ?done ?stop
  case assign =>
    intro l x W K hK
    gi_wp2
    exact hK
  case body =>
    rintro l pre x1 W ⟨⟨hlen, hl, hfl, h6, hf6, h7, hf7⟩, hB⟩ _
    have b1 : (0 : Int) ≤ n - pre.length := by omega
    have b2 : (n : Int) - pre.length ≤ 2000 := by omega
    by_cases he : pre.length + 1 = n
    · have hz : ((n : Int) - pre.length - 1 == 0) = true := by simp; omega
      have HE := Lib.hid he
      clear he
      gi_wp2
      refine ⟨((KeepsOthers.setCell _ _ _).trans (KeepsOthers.setCell _ _ _)).trans (KeepsOthers.setCell _ _ _), ⟨rfl, by simp [HE.out], x1, by simp, ?_, ?_⟩, ((hB.setCell (p := ⟨w.heap.size + 1 + 1, 0, none⟩) (by simp; omega) _).setCell (p := ⟨w.heap.size, 0, none⟩) (Nat.le_refl _) _).setCell (p := ⟨w.heap.size + 1, 0, none⟩) (by simp) _⟩
      · exact (World.cell?_setCell_other _ _ _ _ (by simp)).trans (World.cell?_setCell_same _ _ _ ((World.cell?_setCell_other _ _ _ _ (by simp)).trans h6))
      · exact World.cell?_setCell_same _ _ _ ((World.cell?_setCell_other _ _ _ _ (by simp)).trans ((World.cell?_setCell_other _ _ _ _ (by simp)).trans h7))
    · have hz : ((n : Int) - pre.length - 1 == 0) = false := by simp; omega
      have HE := Lib.hid he
      clear he
      gi_wp2
      refine ⟨KeepsOthers.setCell _ _ _, ⟨by simp, World.cell?_setCell_other _ _ _ _ (by simp), World.cell?_setCell_other _ _ _ _ (by simp)⟩, ⟨by have := HE.out; simp; omega, ?_, ?_, (World.cell?_setCell_other _ _ _ _ (by simp)).trans h6, ?_, (World.cell?_setCell_other _ _ _ _ (by simp)).trans h7, ?_⟩, hB.setCell (p := ⟨w.heap.size + 1 + 1, 0, none⟩) (by simp; omega) _⟩
      · rw [World.cell?_setCell_same _ _ _ hl]; simp; omega
      · rw [World.frozen?_setCell]; exact hfl
      · rw [World.frozen?_setCell]; exact hf6
      · rw [World.frozen?_setCell]; exact hf7
  case done =>
    rintro D ys W hD rfl ⟨⟨hlen, _⟩, _⟩ _
    exfalso
    have := HX.out
    rw [List.getElem?_eq_none (by omega)] at this
    cases this
  case stop =>
    rintro D c pre W hD hpre ⟨⟨rfl, hlen, v, hv, h6, h7⟩, hB⟩ hK
    have hvx : v = x := by
      obtain ⟨t, ht⟩ := hpre
      have := HX.out
      rw [← ht, List.getElem?_append_left (by omega), ← hlen, ← List.getLast?_eq_getElem?, hv] at this
      exact Option.some.inj this
    subst hvx
    gi_wp2
    refine ⟨by simp, .inl ⟨_, _, rfl, run_takeDeferred hK, ?_⟩⟩
    have hc6 := cell_kept h6 (grownBy_putObj' _ D (.deferred none)) (fun r e => by cases e; exact ⟨_, hK, rfl⟩)
    have hc7 := cell_kept h7 (grownBy_putObj' _ D (.deferred none)) (fun r e => by cases e; exact ⟨_, hK, rfl⟩)
    refine ⟨two (.int .i64 v) (.int .i64 0), ?_, rfl, hB.trans (belowK_b (w := w) (Nat.le_refl _) W D _ _ (by omega) hK rfl rfl)⟩
    simp [results, Tryz.f44, go_sem, hc6, hc7]
end Go.Proofs.YtpfekgmimfkjcaaGreatDoor
