/-
  What addWorking of package rule returns: contracts for every list of holidays, one for each sign of the number.
-/
import Derived.Test.YtfphedcgmaakjabIterL
namespace Go.Proofs.Ytfphedcgmaakjab
open Go.RowKit Go.Shelf
attribute [local go_sem] set_drewN Oper.semAt_some
theorem workingDays_any (sa : Option Addr) (sn sc : Nat) (f s : Int) (w : World) : Calls Try.prog 25 #[.slice sa sn sc, .int .i64 f, .int .i64 s] w
    fun e w' => e = .returned (.func (.func 38) #[] #[.pointer (some ⟨w.heap.size + 1, 0, none⟩), .pointer (some ⟨w.heap.size + 1 + 1, 0, none⟩), .pointer (some ⟨w.heap.size, 0, none⟩)]) ∧ w' = ((w.alloc (.cells #[.slice sa sn sc] 22)).alloc (.cells #[.int .i64 f] 3)).alloc (.cells #[.int .i64 s] 3) := by
  go_enter Try.func25, Try.ntmps25
  go_wp2
  go_ret
  exact ⟨rfl, rfl⟩
/-- a working day, or that there is none -/
def wres : Option Int → Value
  | some x => two (.int .i64 x) (.int .i64 0)
  | none => two (.int .i64 0) (.int .i64 2)
set_option maxRecDepth 100000 in
set_option maxHeartbeats 4000000 in
theorem addWorking_pos (sa : Option Addr) (sn sc : Nat) (ds : Int → List Int) (hds : ∀ y, (ds y).Pairwise (· < ·)) (hdl : ∀ y, (ds y).length ≤ 1000) (P : Int → Bool)
    (hP : ∀ d, 0 ≤ d → d ≤ 200000 → P d = (decide ((d + 2) % 7 < 5) && !decide (d ∈ ds (Cal.yr d)))) (w : World) (G : World → Prop)
    (hG1 : ∀ W W', G W → Below W.heap.size W W' → G W') (hG2 : ∀ b W W', G W → KpF w.heap.size b W W' → G W')
    (cHo : Hid (∀ W y, G W → 1800 ≤ y → y ≤ 2347 → Calls Try.prog 40 #[.slice sa sn sc, .int .i64 y] W (DaysPost (ds y) W)))
    (g0 : G w) (day : Int) (n : Int) (hn1 : 0 < n) (m : Nat) (hm : n = m) (o : Option Int) (hd1 : 0 ≤ day) (hd2 : day ≤ 200000) (hm1 : 0 < m) (hm2 : m ≤ 2000) (hx : (wg P 1 200001 (day + 1))[m - 1]? = o) :
    Calls Try.prog 23 #[.slice sa sn sc, .int .i64 day, .int .i64 n] w (RetB (wres o) w) := by
  have q1 : decide (0 < n) = true := by simpa using hn1
  have HX := Lib.hid hx
  have HM := Lib.hid hm
  have HG0 := Lib.hid g0
  clear hx g0 hm
  refine (callsIn_wide (n := 5)).1 ?_
  refine callsIn_of_wp_marks Try.func23 rfl trivial ?_ rfl
  simp only [Try.ntmps23, List.size_toArray, List.length_cons, List.length_nil, Nat.reduceAdd, Nat.reduceSub, Array.replicate_succ, Array.replicate_zero, List.push_toArray, List.append_toArray, List.nil_append, List.cons_append]
  gi_wp2_with (refine ⟨trivial, ?_⟩; gi_at_call 25; refine (callsIn_wide.2 (workingDays_any _ _ _ _ _ _)).mono ?_; rintro e w' ⟨rfl, rfl⟩)
  obtain ⟨W0, hW0⟩ : ∃ W0, ((((((w.alloc (.cells #[.int .i64 0] 3)).alloc (.cells #[.int .i64 0] 31)).alloc (.cells #[.int .i64 n] 3)).alloc (.cells #[.slice sa sn sc] 22)).alloc (.cells #[.int .i64 (day + 1)] 3)).alloc (.cells #[.int .i64 1] 3)) = W0 := ⟨_, rfl⟩
  have k1 : W0.cell? ⟨w.heap.size + 1 + 1 + 1 + 1, 0, none⟩ = some (.int .i64 (day + 1)) := by rw [← hW0]; simp [go_sem]
  have k2 : W0.cell? ⟨w.heap.size + 1 + 1 + 1 + 1 + 1, 0, none⟩ = some (.int .i64 1) := by rw [← hW0]; simp [go_sem]
  have k3 : W0.cell? ⟨w.heap.size + 1 + 1 + 1, 0, none⟩ = some (.slice sa sn sc) := by rw [← hW0]; simp [go_sem]
  have kL : W0.cell? ⟨w.heap.size + 1 + 1, 0, none⟩ = some (.int .i64 (m : Int)) := by rw [← hW0, ← HM.out]; simp [go_sem]
  have fL : W0.frozen? ⟨w.heap.size + 1 + 1, 0, none⟩ = false := by rw [← hW0]; simp [go_sem]
  have k6 : W0.cell? ⟨w.heap.size, 0, none⟩ = some (.int .i64 0) := by rw [← hW0]; simp [go_sem]
  have f6 : W0.frozen? ⟨w.heap.size, 0, none⟩ = false := by rw [← hW0]; simp [go_sem]
  have k7 : W0.cell? ⟨w.heap.size + 1, 0, none⟩ = some (.int .i64 0) := by rw [← hW0]; simp [go_sem]
  have f7 : W0.frozen? ⟨w.heap.size + 1, 0, none⟩ = false := by rw [← hW0]; simp [go_sem]
  have hsz : W0.heap.size = w.heap.size + 6 := by rw [← hW0]; simp
  have hB0 : Below w.heap.size w W0 := by
    rw [← hW0]
    exact (((((((Below.refl _ w).alloc (Nat.le_refl _) _).alloc (by simp) _).alloc (by simp; omega) _).alloc (by simp; omega) _).alloc (by simp; omega) _).alloc (by simp; omega) _)
  rw [hW0]
  have HSZ := Lib.hid hsz
  have hlt : w.heap.size + 5 < W0.heap.size := by omega
  have GW0 := Lib.hid (hG1 _ _ HG0.out hB0)
  clear hW0 hsz
  refine wpIn_rangeFunc_ownF (F := Fence.wide) (n := 5) rfl (by omega) (gf := 38) (lb := #[(.pointer (some ⟨w.heap.size + 1 + 1 + 1 + 1, 0, none⟩)), (.pointer (some ⟨w.heap.size + 1 + 1 + 1 + 1 + 1, 0, none⟩)), (.pointer (some ⟨w.heap.size + 1 + 1 + 1, 0, none⟩))]) rfl trivial (enters_of Try.func38 (by kernel_rfl) rfl)
    (encs := fun x : Int => #[.int .i64 x]) (Kp := KpF w.heap.size (w.heap.size + 3)) (S := fun xs => xs = wg P 1 200001 (day + 1)) (Sp := fun pre => pre <+: wg P 1 200001 (day + 1)) (N := 1000000) (w0 := W0)
    (fun l J Jx W hW hJ _ hY h0 => wg_in 4 (by omega) l w.heap.size (w.heap.size + 3) (w.heap.size + 1 + 1 + 1 + 1) (w.heap.size + 1 + 1 + 1 + 1 + 1) (w.heap.size + 1 + 1 + 1) 200001 (.slice sa sn sc) ds hds hdl P hP G hG1 (hG2 _) cHo (day + 1) 1 (by first | exact Or.inl rfl | exact Or.inr rfl) (by omega) (by omega) (by simp [rem]; try omega) (by omega) J Jx W (hG1 _ _ GW0.out hW) (by omega) (by omega)
      ((hW.cell (p := ⟨w.heap.size + 1 + 1 + 1 + 1, 0, none⟩) (by simp; omega)).trans k1) ((hW.cell (p := ⟨w.heap.size + 1 + 1 + 1 + 1 + 1, 0, none⟩) (by simp; omega)).trans k2) ((hW.cell (p := ⟨w.heap.size + 1 + 1 + 1, 0, none⟩) (by simp; omega)).trans k3) W.heap.size hJ hY h0)
    kpf_t (kpf_b (w := W0)) (Below.refl _ _) (fun _ => rfl)
    (fun pre W => (pre.length < m ∧ W.cell? ⟨w.heap.size + 1 + 1, 0, none⟩ = some (.int .i64 (m - pre.length)) ∧ W.frozen? ⟨w.heap.size + 1 + 1, 0, none⟩ = false ∧ W.cell? ⟨w.heap.size, 0, none⟩ = some (.int .i64 0) ∧ W.frozen? ⟨w.heap.size, 0, none⟩ = false ∧ W.cell? ⟨w.heap.size + 1, 0, none⟩ = some (.int .i64 0) ∧ W.frozen? ⟨w.heap.size + 1, 0, none⟩ = false) ∧ Below w.heap.size w W)
    (fun e pre W => (e = .ret ∧ pre.length = m ∧ ∃ v, pre.getLast? = some v ∧ W.cell? ⟨w.heap.size, 0, none⟩ = some (.int .i64 v) ∧ W.cell? ⟨w.heap.size + 1, 0, none⟩ = some (.int .i64 0)) ∧ Below w.heap.size w W)
    (OwnFrom.and (Own.from (fun s A B row hs hg hr => ⟨hs.1, cell_kept hs.2.1 hg hr, (frozen_kept hs.2.1 hg hr).trans hs.2.2.1, cell_kept hs.2.2.2.1 hg hr, (frozen_kept hs.2.2.2.1 hg hr).trans hs.2.2.2.2.1, cell_kept hs.2.2.2.2.2.1 hg hr, (frozen_kept hs.2.2.2.2.2.1 hg hr).trans hs.2.2.2.2.2.2⟩) _) (ownFrom_below (Nat.le_refl _) (by omega)))
    (fun e => OwnFrom.and (Own.from (fun s A B row hs hg hr => ⟨hs.1, hs.2.1, by obtain ⟨v, hv, q1, q2⟩ := hs.2.2; exact ⟨v, hv, cell_kept q1 hg hr, cell_kept q2 hg hr⟩⟩) _) (ownFrom_below (Nat.le_refl _) (by omega)))
    ⟨⟨hm1, by simpa using kL, fL, k6, f6, k7, f7⟩, hB0⟩
    (fun x => { tmps := #[.slice sa sn sc, .int .i64 day, .int .i64 n, undef, undef, undef, (.pointer (some ⟨w.heap.size, 0, none⟩)), (.pointer (some ⟨w.heap.size + 1, 0, none⟩)), .int .i64 (day + 1), .int .i64 1, (.pointer (some ⟨w.heap.size + 1 + 1, 0, none⟩)), .int .i64 x, .int .i64 day, .bool true, .int .i64 n, .bool true, .int .i64 day, .int .i64 (day + 1), .int .i64 n, undef, undef, undef, undef, undef, undef, undef, .slice sa sn sc, .int .i64 (day + 1), .int .i64 1, .func (.func 38) #[] #[(.pointer (some ⟨w.heap.size + 1 + 1 + 1 + 1, 0, none⟩)), (.pointer (some ⟨w.heap.size + 1 + 1 + 1 + 1 + 1, 0, none⟩)), (.pointer (some ⟨w.heap.size + 1 + 1 + 1, 0, none⟩))], .int .i64 x, undef, undef, undef, undef, undef], defers := [] }) ?assign ?body ?done ?stop
  case assign =>
    intro l x W K hK
    gi_wp2
    exact hK
  case body =>
    rintro l pre x1 W ⟨⟨hlen, hl, hfl, h6, hf6, h7, hf7⟩, hB⟩ _
    have b1 : (0 : Int) ≤ m - pre.length := by omega
    have b2 : (m : Int) - pre.length ≤ 2000 := by omega
    by_cases he : pre.length + 1 = m
    · have hz : ((m : Int) - pre.length - 1 == 0) = true := by simp; omega
      have HE := Lib.hid he
      clear he
      gi_wp2
      refine ⟨((KeepsOthers.setCell _ _ _).trans (KeepsOthers.setCell _ _ _)).trans (KeepsOthers.setCell _ _ _), ⟨rfl, by simp [HE.out], x1, by simp, ?_, ?_⟩, ((hB.setCell (p := ⟨w.heap.size + 1 + 1, 0, none⟩) (by simp; omega) _).setCell (p := ⟨w.heap.size, 0, none⟩) (Nat.le_refl _) _).setCell (p := ⟨w.heap.size + 1, 0, none⟩) (by simp) _⟩
      · exact (World.cell?_setCell_other _ _ _ _ (by simp)).trans (World.cell?_setCell_same _ _ _ ((World.cell?_setCell_other _ _ _ _ (by simp)).trans h6))
      · exact World.cell?_setCell_same _ _ _ ((World.cell?_setCell_other _ _ _ _ (by simp)).trans ((World.cell?_setCell_other _ _ _ _ (by simp)).trans h7))
    · have hz : ((m : Int) - pre.length - 1 == 0) = false := by simp; omega
      have HE := Lib.hid he
      clear he
      gi_wp2
      refine ⟨KeepsOthers.setCell _ _ _, kpf_set _ _ _ (by simp; omega) (by simp), ⟨by have := HE.out; simp; omega, ?_, ?_, (World.cell?_setCell_other _ _ _ _ (by simp)).trans h6, ?_, (World.cell?_setCell_other _ _ _ _ (by simp)).trans h7, ?_⟩, hB.setCell (p := ⟨w.heap.size + 1 + 1, 0, none⟩) (by simp; omega) _⟩
      · rw [World.cell?_setCell_same _ _ _ hl]; simp; omega
      · rw [World.frozen?_setCell]; exact hfl
      · rw [World.frozen?_setCell]; exact hf6
      · rw [World.frozen?_setCell]; exact hf7
  case done =>
    rintro D ys W hD rfl ⟨⟨hlen, hl, hfl, h6, hf6, h7, hf7⟩, hB⟩ hK
    have ho : Hid (o = none) := Lib.hid (by have := HX.out; rw [List.getElem?_eq_none (by omega)] at this; exact this.symm)
    have hB' := Lib.hid hB
    clear hB
    gi_wp2
    have hK' := ((KeepsOthers.setCell W ⟨w.heap.size, 0, none⟩ (.int .i64 0)).trans (KeepsOthers.setCell _ ⟨w.heap.size + 1, 0, none⟩ (.int .i64 2))).same D _ hK rfl
    refine ⟨by simp, .inl ⟨_, _, rfl, run_takeDeferred hK', ?_⟩⟩
    have g6 : ((W.setCell ⟨w.heap.size, 0, none⟩ (.int .i64 0)).setCell ⟨w.heap.size + 1, 0, none⟩ (.int .i64 2)).cell? ⟨w.heap.size, 0, none⟩ = some (.int .i64 0) := (World.cell?_setCell_other _ _ _ _ (by simp)).trans (World.cell?_setCell_same _ _ _ h6)
    have g7 : ((W.setCell ⟨w.heap.size, 0, none⟩ (.int .i64 0)).setCell ⟨w.heap.size + 1, 0, none⟩ (.int .i64 2)).cell? ⟨w.heap.size + 1, 0, none⟩ = some (.int .i64 2) := World.cell?_setCell_same _ _ _ ((World.cell?_setCell_other _ _ _ _ (by simp)).trans h7)
    have hc6 := cell_kept g6 (grownBy_putObj' _ D (.deferred none)) (fun r e => by cases e; exact ⟨_, hK', rfl⟩)
    have hc7 := cell_kept g7 (grownBy_putObj' _ D (.deferred none)) (fun r e => by cases e; exact ⟨_, hK', rfl⟩)
    refine ⟨two (.int .i64 0) (.int .i64 2), ?_, by rw [ho.out]; rfl, ((hB'.out.setCell (p := ⟨w.heap.size, 0, none⟩) (Nat.le_refl _) _).setCell (p := ⟨w.heap.size + 1, 0, none⟩) (by simp) _).trans (belowK_b (w := w) (Nat.le_refl _) _ D _ _ (by omega) hK' rfl rfl)⟩
    simp [results, Try.f23, go_sem, hc6, hc7]
  case stop =>
    rintro D c pre W hD hpre ⟨⟨rfl, hlen, v, hv, h6, h7⟩, hB⟩ hK
    have hvx : o = some v := by
      obtain ⟨t, ht⟩ := hpre
      have := HX.out
      rw [← ht, List.getElem?_append_left (by omega), ← hlen, ← List.getLast?_eq_getElem?, hv] at this
      exact this.symm
    subst hvx
    gi_wp2
    refine ⟨by simp, .inl ⟨_, _, rfl, run_takeDeferred hK, ?_⟩⟩
    have hc6 := cell_kept h6 (grownBy_putObj' _ D (.deferred none)) (fun r e => by cases e; exact ⟨_, hK, rfl⟩)
    have hc7 := cell_kept h7 (grownBy_putObj' _ D (.deferred none)) (fun r e => by cases e; exact ⟨_, hK, rfl⟩)
    refine ⟨two (.int .i64 v) (.int .i64 0), ?_, rfl, hB.trans (belowK_b (w := w) (Nat.le_refl _) W D _ _ (by omega) hK rfl rfl)⟩
    simp [results, Try.f23, go_sem, hc6, hc7]
set_option maxRecDepth 100000 in
set_option maxHeartbeats 4000000 in
theorem addWorking_neg (sa : Option Addr) (sn sc : Nat) (ds : Int → List Int) (hds : ∀ y, (ds y).Pairwise (· < ·)) (hdl : ∀ y, (ds y).length ≤ 1000) (P : Int → Bool)
    (hP : ∀ d, 0 ≤ d → d ≤ 200000 → P d = (decide ((d + 2) % 7 < 5) && !decide (d ∈ ds (Cal.yr d)))) (w : World) (G : World → Prop)
    (hG1 : ∀ W W', G W → Below W.heap.size W W' → G W') (hG2 : ∀ b W W', G W → KpF w.heap.size b W W' → G W')
    (cHo : Hid (∀ W y, G W → 1800 ≤ y → y ≤ 2347 → Calls Try.prog 40 #[.slice sa sn sc, .int .i64 y] W (DaysPost (ds y) W)))
    (g0 : G w) (day : Int) (n : Int) (hn1 : n < 0) (hn2 : -2000 ≤ n) (m : Nat) (hm : -n = m) (o : Option Int) (hd1 : 0 ≤ day) (hd2 : day ≤ 200000) (hm1 : 0 < m) (hm2 : m ≤ 2000) (hx : (wg P (-1) 200001 (day - 1))[m - 1]? = o) :
    Calls Try.prog 23 #[.slice sa sn sc, .int .i64 day, .int .i64 n] w (RetB (wres o) w) := by
  have q1 : decide (0 < n) = false := by simp; omega
  have q2 : decide (n < 0) = true := by simpa using hn1
  have HX := Lib.hid hx
  have HM := Lib.hid hm
  have HG0 := Lib.hid g0
  clear hx g0 hm
  refine (callsIn_wide (n := 5)).1 ?_
  refine callsIn_of_wp_marks Try.func23 rfl trivial ?_ rfl
  simp only [Try.ntmps23, List.size_toArray, List.length_cons, List.length_nil, Nat.reduceAdd, Nat.reduceSub, Array.replicate_succ, Array.replicate_zero, List.push_toArray, List.append_toArray, List.nil_append, List.cons_append]
  gi_wp2_with (refine ⟨trivial, ?_⟩; gi_at_call 25; refine (callsIn_wide.2 (workingDays_any _ _ _ _ _ _)).mono ?_; rintro e w' ⟨rfl, rfl⟩)
  obtain ⟨W0, hW0⟩ : ∃ W0, ((((((w.alloc (.cells #[.int .i64 0] 3)).alloc (.cells #[.int .i64 0] 31)).alloc (.cells #[.int .i64 (-n)] 3)).alloc (.cells #[.slice sa sn sc] 22)).alloc (.cells #[.int .i64 (day - 1)] 3)).alloc (.cells #[.int .i64 (-1)] 3)) = W0 := ⟨_, rfl⟩
  have k1 : W0.cell? ⟨w.heap.size + 1 + 1 + 1 + 1, 0, none⟩ = some (.int .i64 (day - 1)) := by rw [← hW0]; simp [go_sem]
  have k2 : W0.cell? ⟨w.heap.size + 1 + 1 + 1 + 1 + 1, 0, none⟩ = some (.int .i64 (-1)) := by rw [← hW0]; simp [go_sem]
  have k3 : W0.cell? ⟨w.heap.size + 1 + 1 + 1, 0, none⟩ = some (.slice sa sn sc) := by rw [← hW0]; simp [go_sem]
  have kL : W0.cell? ⟨w.heap.size + 1 + 1, 0, none⟩ = some (.int .i64 (m : Int)) := by rw [← hW0, ← HM.out]; simp [go_sem]
  have fL : W0.frozen? ⟨w.heap.size + 1 + 1, 0, none⟩ = false := by rw [← hW0]; simp [go_sem]
  have k6 : W0.cell? ⟨w.heap.size, 0, none⟩ = some (.int .i64 0) := by rw [← hW0]; simp [go_sem]
  have f6 : W0.frozen? ⟨w.heap.size, 0, none⟩ = false := by rw [← hW0]; simp [go_sem]
  have k7 : W0.cell? ⟨w.heap.size + 1, 0, none⟩ = some (.int .i64 0) := by rw [← hW0]; simp [go_sem]
  have f7 : W0.frozen? ⟨w.heap.size + 1, 0, none⟩ = false := by rw [← hW0]; simp [go_sem]
  have hsz : W0.heap.size = w.heap.size + 6 := by rw [← hW0]; simp
  have hB0 : Below w.heap.size w W0 := by
    rw [← hW0]
    exact (((((((Below.refl _ w).alloc (Nat.le_refl _) _).alloc (by simp) _).alloc (by simp; omega) _).alloc (by simp; omega) _).alloc (by simp; omega) _).alloc (by simp; omega) _)
  rw [hW0]
  have HSZ := Lib.hid hsz
  have hlt : w.heap.size + 5 < W0.heap.size := by omega
  have GW0 := Lib.hid (hG1 _ _ HG0.out hB0)
  clear hW0 hsz
  refine wpIn_rangeFunc_ownF (F := Fence.wide) (n := 5) rfl (by omega) (gf := 38) (lb := #[(.pointer (some ⟨w.heap.size + 1 + 1 + 1 + 1, 0, none⟩)), (.pointer (some ⟨w.heap.size + 1 + 1 + 1 + 1 + 1, 0, none⟩)), (.pointer (some ⟨w.heap.size + 1 + 1 + 1, 0, none⟩))]) rfl trivial (enters_of Try.func38 (by kernel_rfl) rfl)
    (encs := fun x : Int => #[.int .i64 x]) (Kp := KpF w.heap.size (w.heap.size + 3)) (S := fun xs => xs = wg P (-1) 200001 (day - 1)) (Sp := fun pre => pre <+: wg P (-1) 200001 (day - 1)) (N := 1000000) (w0 := W0)
    (fun l J Jx W hW hJ _ hY h0 => wg_in 4 (by omega) l w.heap.size (w.heap.size + 3) (w.heap.size + 1 + 1 + 1 + 1) (w.heap.size + 1 + 1 + 1 + 1 + 1) (w.heap.size + 1 + 1 + 1) 200001 (.slice sa sn sc) ds hds hdl P hP G hG1 (hG2 _) cHo (day - 1) (-1) (by first | exact Or.inl rfl | exact Or.inr rfl) (by omega) (by omega) (by simp [rem]; try omega) (by omega) J Jx W (hG1 _ _ GW0.out hW) (by omega) (by omega)
      ((hW.cell (p := ⟨w.heap.size + 1 + 1 + 1 + 1, 0, none⟩) (by simp; omega)).trans k1) ((hW.cell (p := ⟨w.heap.size + 1 + 1 + 1 + 1 + 1, 0, none⟩) (by simp; omega)).trans k2) ((hW.cell (p := ⟨w.heap.size + 1 + 1 + 1, 0, none⟩) (by simp; omega)).trans k3) W.heap.size hJ hY h0)
    kpf_t (kpf_b (w := W0)) (Below.refl _ _) (fun _ => rfl)
    (fun pre W => (pre.length < m ∧ W.cell? ⟨w.heap.size + 1 + 1, 0, none⟩ = some (.int .i64 (m - pre.length)) ∧ W.frozen? ⟨w.heap.size + 1 + 1, 0, none⟩ = false ∧ W.cell? ⟨w.heap.size, 0, none⟩ = some (.int .i64 0) ∧ W.frozen? ⟨w.heap.size, 0, none⟩ = false ∧ W.cell? ⟨w.heap.size + 1, 0, none⟩ = some (.int .i64 0) ∧ W.frozen? ⟨w.heap.size + 1, 0, none⟩ = false) ∧ Below w.heap.size w W)
    (fun e pre W => (e = .ret ∧ pre.length = m ∧ ∃ v, pre.getLast? = some v ∧ W.cell? ⟨w.heap.size, 0, none⟩ = some (.int .i64 v) ∧ W.cell? ⟨w.heap.size + 1, 0, none⟩ = some (.int .i64 0)) ∧ Below w.heap.size w W)
    (OwnFrom.and (Own.from (fun s A B row hs hg hr => ⟨hs.1, cell_kept hs.2.1 hg hr, (frozen_kept hs.2.1 hg hr).trans hs.2.2.1, cell_kept hs.2.2.2.1 hg hr, (frozen_kept hs.2.2.2.1 hg hr).trans hs.2.2.2.2.1, cell_kept hs.2.2.2.2.2.1 hg hr, (frozen_kept hs.2.2.2.2.2.1 hg hr).trans hs.2.2.2.2.2.2⟩) _) (ownFrom_below (Nat.le_refl _) (by omega)))
    (fun e => OwnFrom.and (Own.from (fun s A B row hs hg hr => ⟨hs.1, hs.2.1, by obtain ⟨v, hv, q1, q2⟩ := hs.2.2; exact ⟨v, hv, cell_kept q1 hg hr, cell_kept q2 hg hr⟩⟩) _) (ownFrom_below (Nat.le_refl _) (by omega)))
    ⟨⟨hm1, by simpa using kL, fL, k6, f6, k7, f7⟩, hB0⟩
    (fun x => { tmps := #[.slice sa sn sc, .int .i64 day, .int .i64 n, undef, undef, undef, (.pointer (some ⟨w.heap.size, 0, none⟩)), (.pointer (some ⟨w.heap.size + 1, 0, none⟩)), .int .i64 (day - 1), .int .i64 (-1), (.pointer (some ⟨w.heap.size + 1 + 1, 0, none⟩)), .int .i64 x, .int .i64 day, .bool false, .int .i64 n, .bool false, undef, undef, undef, .bool true, .int .i64 n, .bool true, .int .i64 day, .int .i64 (day - 1), .int .i64 n, .int .i64 (-n), .slice sa sn sc, .int .i64 (day - 1), .int .i64 (-1), .func (.func 38) #[] #[(.pointer (some ⟨w.heap.size + 1 + 1 + 1 + 1, 0, none⟩)), (.pointer (some ⟨w.heap.size + 1 + 1 + 1 + 1 + 1, 0, none⟩)), (.pointer (some ⟨w.heap.size + 1 + 1 + 1, 0, none⟩))], .int .i64 x, undef, undef, undef, undef, undef], defers := [] }) ?assign ?body ?done ?stop
  case assign =>
    intro l x W K hK
    gi_wp2
    exact hK
  case body =>
    rintro l pre x1 W ⟨⟨hlen, hl, hfl, h6, hf6, h7, hf7⟩, hB⟩ _
    have b1 : (0 : Int) ≤ m - pre.length := by omega
    have b2 : (m : Int) - pre.length ≤ 2000 := by omega
    by_cases he : pre.length + 1 = m
    · have hz : ((m : Int) - pre.length - 1 == 0) = true := by simp; omega
      have HE := Lib.hid he
      clear he
      gi_wp2
      refine ⟨((KeepsOthers.setCell _ _ _).trans (KeepsOthers.setCell _ _ _)).trans (KeepsOthers.setCell _ _ _), ⟨rfl, by simp [HE.out], x1, by simp, ?_, ?_⟩, ((hB.setCell (p := ⟨w.heap.size + 1 + 1, 0, none⟩) (by simp; omega) _).setCell (p := ⟨w.heap.size, 0, none⟩) (Nat.le_refl _) _).setCell (p := ⟨w.heap.size + 1, 0, none⟩) (by simp) _⟩
      · exact (World.cell?_setCell_other _ _ _ _ (by simp)).trans (World.cell?_setCell_same _ _ _ ((World.cell?_setCell_other _ _ _ _ (by simp)).trans h6))
      · exact World.cell?_setCell_same _ _ _ ((World.cell?_setCell_other _ _ _ _ (by simp)).trans ((World.cell?_setCell_other _ _ _ _ (by simp)).trans h7))
    · have hz : ((m : Int) - pre.length - 1 == 0) = false := by simp; omega
      have HE := Lib.hid he
      clear he
      gi_wp2
      refine ⟨KeepsOthers.setCell _ _ _, kpf_set _ _ _ (by simp; omega) (by simp), ⟨by have := HE.out; simp; omega, ?_, ?_, (World.cell?_setCell_other _ _ _ _ (by simp)).trans h6, ?_, (World.cell?_setCell_other _ _ _ _ (by simp)).trans h7, ?_⟩, hB.setCell (p := ⟨w.heap.size + 1 + 1, 0, none⟩) (by simp; omega) _⟩
      · rw [World.cell?_setCell_same _ _ _ hl]; simp; omega
      · rw [World.frozen?_setCell]; exact hfl
      · rw [World.frozen?_setCell]; exact hf6
      · rw [World.frozen?_setCell]; exact hf7
  case done =>
    rintro D ys W hD rfl ⟨⟨hlen, hl, hfl, h6, hf6, h7, hf7⟩, hB⟩ hK
    have ho : Hid (o = none) := Lib.hid (by have := HX.out; rw [List.getElem?_eq_none (by omega)] at this; exact this.symm)
    have hB' := Lib.hid hB
    clear hB
    gi_wp2
    have hK' := ((KeepsOthers.setCell W ⟨w.heap.size, 0, none⟩ (.int .i64 0)).trans (KeepsOthers.setCell _ ⟨w.heap.size + 1, 0, none⟩ (.int .i64 2))).same D _ hK rfl
    refine ⟨by simp, .inl ⟨_, _, rfl, run_takeDeferred hK', ?_⟩⟩
    have g6 : ((W.setCell ⟨w.heap.size, 0, none⟩ (.int .i64 0)).setCell ⟨w.heap.size + 1, 0, none⟩ (.int .i64 2)).cell? ⟨w.heap.size, 0, none⟩ = some (.int .i64 0) := (World.cell?_setCell_other _ _ _ _ (by simp)).trans (World.cell?_setCell_same _ _ _ h6)
    have g7 : ((W.setCell ⟨w.heap.size, 0, none⟩ (.int .i64 0)).setCell ⟨w.heap.size + 1, 0, none⟩ (.int .i64 2)).cell? ⟨w.heap.size + 1, 0, none⟩ = some (.int .i64 2) := World.cell?_setCell_same _ _ _ ((World.cell?_setCell_other _ _ _ _ (by simp)).trans h7)
    have hc6 := cell_kept g6 (grownBy_putObj' _ D (.deferred none)) (fun r e => by cases e; exact ⟨_, hK', rfl⟩)
    have hc7 := cell_kept g7 (grownBy_putObj' _ D (.deferred none)) (fun r e => by cases e; exact ⟨_, hK', rfl⟩)
    refine ⟨two (.int .i64 0) (.int .i64 2), ?_, by rw [ho.out]; rfl, ((hB'.out.setCell (p := ⟨w.heap.size, 0, none⟩) (Nat.le_refl _) _).setCell (p := ⟨w.heap.size + 1, 0, none⟩) (by simp) _).trans (belowK_b (w := w) (Nat.le_refl _) _ D _ _ (by omega) hK' rfl rfl)⟩
    simp [results, Try.f23, go_sem, hc6, hc7]
  case stop =>
    rintro D c pre W hD hpre ⟨⟨rfl, hlen, v, hv, h6, h7⟩, hB⟩ hK
    have hvx : o = some v := by
      obtain ⟨t, ht⟩ := hpre
      have := HX.out
      rw [← ht, List.getElem?_append_left (by omega), ← hlen, ← List.getLast?_eq_getElem?, hv] at this
      exact this.symm
    subst hvx
    gi_wp2
    refine ⟨by simp, .inl ⟨_, _, rfl, run_takeDeferred hK, ?_⟩⟩
    have hc6 := cell_kept h6 (grownBy_putObj' _ D (.deferred none)) (fun r e => by cases e; exact ⟨_, hK, rfl⟩)
    have hc7 := cell_kept h7 (grownBy_putObj' _ D (.deferred none)) (fun r e => by cases e; exact ⟨_, hK, rfl⟩)
    refine ⟨two (.int .i64 v) (.int .i64 0), ?_, rfl, hB.trans (belowK_b (w := w) (Nat.le_refl _) W D _ _ (by omega) hK rfl rfl)⟩
    simp [results, Try.f23, go_sem, hc6, hc7]
set_option maxRecDepth 100000 in
set_option maxHeartbeats 4000000 in
theorem addWorking_zero (sa : Option Addr) (sn sc : Nat) (ds : Int → List Int) (hds : ∀ y, (ds y).Pairwise (· < ·)) (hdl : ∀ y, (ds y).length ≤ 1000) (P : Int → Bool)
    (hP : ∀ d, 0 ≤ d → d ≤ 200000 → P d = (decide ((d + 2) % 7 < 5) && !decide (d ∈ ds (Cal.yr d)))) (w : World) (G : World → Prop)
    (hG1 : ∀ W W', G W → Below W.heap.size W W' → G W') (hG2 : ∀ b W W', G W → KpF w.heap.size b W W' → G W')
    (cHo : Hid (∀ W y, G W → 1800 ≤ y → y ≤ 2347 → Calls Try.prog 40 #[.slice sa sn sc, .int .i64 y] W (DaysPost (ds y) W)))
    (g0 : G w) (day : Int)  (m : Nat) (hm : (1 : Int) = m) (o : Option Int) (hd1 : 0 ≤ day) (hd2 : day ≤ 200000) (hm1 : 0 < m) (hm2 : m ≤ 2000) (hx : (wg P 1 200001 (day))[m - 1]? = o) :
    Calls Try.prog 23 #[.slice sa sn sc, .int .i64 day, .int .i64 0] w (RetB (wres o) w) := by
  have HX := Lib.hid hx
  have HM := Lib.hid hm
  have HG0 := Lib.hid g0
  clear hx g0 hm
  refine (callsIn_wide (n := 5)).1 ?_
  refine callsIn_of_wp_marks Try.func23 rfl trivial ?_ rfl
  simp only [Try.ntmps23, List.size_toArray, List.length_cons, List.length_nil, Nat.reduceAdd, Nat.reduceSub, Array.replicate_succ, Array.replicate_zero, List.push_toArray, List.append_toArray, List.nil_append, List.cons_append]
  gi_wp2_with (refine ⟨trivial, ?_⟩; gi_at_call 25; refine (callsIn_wide.2 (workingDays_any _ _ _ _ _ _)).mono ?_; rintro e w' ⟨rfl, rfl⟩)
  obtain ⟨W0, hW0⟩ : ∃ W0, ((((((w.alloc (.cells #[.int .i64 0] 3)).alloc (.cells #[.int .i64 0] 31)).alloc (.cells #[.int .i64 1] 3)).alloc (.cells #[.slice sa sn sc] 22)).alloc (.cells #[.int .i64 (day)] 3)).alloc (.cells #[.int .i64 1] 3)) = W0 := ⟨_, rfl⟩
  have k1 : W0.cell? ⟨w.heap.size + 1 + 1 + 1 + 1, 0, none⟩ = some (.int .i64 (day)) := by rw [← hW0]; simp [go_sem]
  have k2 : W0.cell? ⟨w.heap.size + 1 + 1 + 1 + 1 + 1, 0, none⟩ = some (.int .i64 1) := by rw [← hW0]; simp [go_sem]
  have k3 : W0.cell? ⟨w.heap.size + 1 + 1 + 1, 0, none⟩ = some (.slice sa sn sc) := by rw [← hW0]; simp [go_sem]
  have kL : W0.cell? ⟨w.heap.size + 1 + 1, 0, none⟩ = some (.int .i64 (m : Int)) := by rw [← hW0, ← HM.out]; simp [go_sem]
  have fL : W0.frozen? ⟨w.heap.size + 1 + 1, 0, none⟩ = false := by rw [← hW0]; simp [go_sem]
  have k6 : W0.cell? ⟨w.heap.size, 0, none⟩ = some (.int .i64 0) := by rw [← hW0]; simp [go_sem]
  have f6 : W0.frozen? ⟨w.heap.size, 0, none⟩ = false := by rw [← hW0]; simp [go_sem]
  have k7 : W0.cell? ⟨w.heap.size + 1, 0, none⟩ = some (.int .i64 0) := by rw [← hW0]; simp [go_sem]
  have f7 : W0.frozen? ⟨w.heap.size + 1, 0, none⟩ = false := by rw [← hW0]; simp [go_sem]
  have hsz : W0.heap.size = w.heap.size + 6 := by rw [← hW0]; simp
  have hB0 : Below w.heap.size w W0 := by
    rw [← hW0]
    exact (((((((Below.refl _ w).alloc (Nat.le_refl _) _).alloc (by simp) _).alloc (by simp; omega) _).alloc (by simp; omega) _).alloc (by simp; omega) _).alloc (by simp; omega) _)
  rw [hW0]
  have HSZ := Lib.hid hsz
  have hlt : w.heap.size + 5 < W0.heap.size := by omega
  have GW0 := Lib.hid (hG1 _ _ HG0.out hB0)
  clear hW0 hsz
  refine wpIn_rangeFunc_ownF (F := Fence.wide) (n := 5) rfl (by omega) (gf := 38) (lb := #[(.pointer (some ⟨w.heap.size + 1 + 1 + 1 + 1, 0, none⟩)), (.pointer (some ⟨w.heap.size + 1 + 1 + 1 + 1 + 1, 0, none⟩)), (.pointer (some ⟨w.heap.size + 1 + 1 + 1, 0, none⟩))]) rfl trivial (enters_of Try.func38 (by kernel_rfl) rfl)
    (encs := fun x : Int => #[.int .i64 x]) (Kp := KpF w.heap.size (w.heap.size + 3)) (S := fun xs => xs = wg P 1 200001 (day)) (Sp := fun pre => pre <+: wg P 1 200001 (day)) (N := 1000000) (w0 := W0)
    (fun l J Jx W hW hJ _ hY h0 => wg_in 4 (by omega) l w.heap.size (w.heap.size + 3) (w.heap.size + 1 + 1 + 1 + 1) (w.heap.size + 1 + 1 + 1 + 1 + 1) (w.heap.size + 1 + 1 + 1) 200001 (.slice sa sn sc) ds hds hdl P hP G hG1 (hG2 _) cHo (day) 1 (by first | exact Or.inl rfl | exact Or.inr rfl) (by omega) (by omega) (by simp [rem]; try omega) (by omega) J Jx W (hG1 _ _ GW0.out hW) (by omega) (by omega)
      ((hW.cell (p := ⟨w.heap.size + 1 + 1 + 1 + 1, 0, none⟩) (by simp; omega)).trans k1) ((hW.cell (p := ⟨w.heap.size + 1 + 1 + 1 + 1 + 1, 0, none⟩) (by simp; omega)).trans k2) ((hW.cell (p := ⟨w.heap.size + 1 + 1 + 1, 0, none⟩) (by simp; omega)).trans k3) W.heap.size hJ hY h0)
    kpf_t (kpf_b (w := W0)) (Below.refl _ _) (fun _ => rfl)
    (fun pre W => (pre.length < m ∧ W.cell? ⟨w.heap.size + 1 + 1, 0, none⟩ = some (.int .i64 (m - pre.length)) ∧ W.frozen? ⟨w.heap.size + 1 + 1, 0, none⟩ = false ∧ W.cell? ⟨w.heap.size, 0, none⟩ = some (.int .i64 0) ∧ W.frozen? ⟨w.heap.size, 0, none⟩ = false ∧ W.cell? ⟨w.heap.size + 1, 0, none⟩ = some (.int .i64 0) ∧ W.frozen? ⟨w.heap.size + 1, 0, none⟩ = false) ∧ Below w.heap.size w W)
    (fun e pre W => (e = .ret ∧ pre.length = m ∧ ∃ v, pre.getLast? = some v ∧ W.cell? ⟨w.heap.size, 0, none⟩ = some (.int .i64 v) ∧ W.cell? ⟨w.heap.size + 1, 0, none⟩ = some (.int .i64 0)) ∧ Below w.heap.size w W)
    (OwnFrom.and (Own.from (fun s A B row hs hg hr => ⟨hs.1, cell_kept hs.2.1 hg hr, (frozen_kept hs.2.1 hg hr).trans hs.2.2.1, cell_kept hs.2.2.2.1 hg hr, (frozen_kept hs.2.2.2.1 hg hr).trans hs.2.2.2.2.1, cell_kept hs.2.2.2.2.2.1 hg hr, (frozen_kept hs.2.2.2.2.2.1 hg hr).trans hs.2.2.2.2.2.2⟩) _) (ownFrom_below (Nat.le_refl _) (by omega)))
    (fun e => OwnFrom.and (Own.from (fun s A B row hs hg hr => ⟨hs.1, hs.2.1, by obtain ⟨v, hv, q1, q2⟩ := hs.2.2; exact ⟨v, hv, cell_kept q1 hg hr, cell_kept q2 hg hr⟩⟩) _) (ownFrom_below (Nat.le_refl _) (by omega)))
    ⟨⟨hm1, by simpa using kL, fL, k6, f6, k7, f7⟩, hB0⟩
    (fun x => { tmps := #[.slice sa sn sc, .int .i64 day, .int .i64 0, undef, undef, undef, (.pointer (some ⟨w.heap.size, 0, none⟩)), (.pointer (some ⟨w.heap.size + 1, 0, none⟩)), .int .i64 day, .int .i64 1, (.pointer (some ⟨w.heap.size + 1 + 1, 0, none⟩)), .int .i64 x, .int .i64 day, .bool false, .int .i64 0, .bool false, undef, undef, undef, .bool false, .int .i64 0, .bool false, undef, undef, undef, undef, .slice sa sn sc, .int .i64 day, .int .i64 1, .func (.func 38) #[] #[(.pointer (some ⟨w.heap.size + 1 + 1 + 1 + 1, 0, none⟩)), (.pointer (some ⟨w.heap.size + 1 + 1 + 1 + 1 + 1, 0, none⟩)), (.pointer (some ⟨w.heap.size + 1 + 1 + 1, 0, none⟩))], .int .i64 x, undef, undef, undef, undef, undef], defers := [] }) ?assign ?body ?done ?stop
  case assign =>
    intro l x W K hK
    gi_wp2
    exact hK
  case body =>
    rintro l pre x1 W ⟨⟨hlen, hl, hfl, h6, hf6, h7, hf7⟩, hB⟩ _
    have b1 : (0 : Int) ≤ m - pre.length := by omega
    have b2 : (m : Int) - pre.length ≤ 2000 := by omega
    by_cases he : pre.length + 1 = m
    · have hz : ((m : Int) - pre.length - 1 == 0) = true := by simp; omega
      have HE := Lib.hid he
      clear he
      gi_wp2
      refine ⟨((KeepsOthers.setCell _ _ _).trans (KeepsOthers.setCell _ _ _)).trans (KeepsOthers.setCell _ _ _), ⟨rfl, by simp [HE.out], x1, by simp, ?_, ?_⟩, ((hB.setCell (p := ⟨w.heap.size + 1 + 1, 0, none⟩) (by simp; omega) _).setCell (p := ⟨w.heap.size, 0, none⟩) (Nat.le_refl _) _).setCell (p := ⟨w.heap.size + 1, 0, none⟩) (by simp) _⟩
      · exact (World.cell?_setCell_other _ _ _ _ (by simp)).trans (World.cell?_setCell_same _ _ _ ((World.cell?_setCell_other _ _ _ _ (by simp)).trans h6))
      · exact World.cell?_setCell_same _ _ _ ((World.cell?_setCell_other _ _ _ _ (by simp)).trans ((World.cell?_setCell_other _ _ _ _ (by simp)).trans h7))
    · have hz : ((m : Int) - pre.length - 1 == 0) = false := by simp; omega
      have HE := Lib.hid he
      clear he
      gi_wp2
      refine ⟨KeepsOthers.setCell _ _ _, kpf_set _ _ _ (by simp; omega) (by simp), ⟨by have := HE.out; simp; omega, ?_, ?_, (World.cell?_setCell_other _ _ _ _ (by simp)).trans h6, ?_, (World.cell?_setCell_other _ _ _ _ (by simp)).trans h7, ?_⟩, hB.setCell (p := ⟨w.heap.size + 1 + 1, 0, none⟩) (by simp; omega) _⟩
      · rw [World.cell?_setCell_same _ _ _ hl]; simp; omega
      · rw [World.frozen?_setCell]; exact hfl
      · rw [World.frozen?_setCell]; exact hf6
      · rw [World.frozen?_setCell]; exact hf7
  case done =>
    rintro D ys W hD rfl ⟨⟨hlen, hl, hfl, h6, hf6, h7, hf7⟩, hB⟩ hK
    have ho : Hid (o = none) := Lib.hid (by have := HX.out; rw [List.getElem?_eq_none (by omega)] at this; exact this.symm)
    have hB' := Lib.hid hB
    clear hB
    gi_wp2
    have hK' := ((KeepsOthers.setCell W ⟨w.heap.size, 0, none⟩ (.int .i64 0)).trans (KeepsOthers.setCell _ ⟨w.heap.size + 1, 0, none⟩ (.int .i64 2))).same D _ hK rfl
    refine ⟨by simp, .inl ⟨_, _, rfl, run_takeDeferred hK', ?_⟩⟩
    have g6 : ((W.setCell ⟨w.heap.size, 0, none⟩ (.int .i64 0)).setCell ⟨w.heap.size + 1, 0, none⟩ (.int .i64 2)).cell? ⟨w.heap.size, 0, none⟩ = some (.int .i64 0) := (World.cell?_setCell_other _ _ _ _ (by simp)).trans (World.cell?_setCell_same _ _ _ h6)
    have g7 : ((W.setCell ⟨w.heap.size, 0, none⟩ (.int .i64 0)).setCell ⟨w.heap.size + 1, 0, none⟩ (.int .i64 2)).cell? ⟨w.heap.size + 1, 0, none⟩ = some (.int .i64 2) := World.cell?_setCell_same _ _ _ ((World.cell?_setCell_other _ _ _ _ (by simp)).trans h7)
    have hc6 := cell_kept g6 (grownBy_putObj' _ D (.deferred none)) (fun r e => by cases e; exact ⟨_, hK', rfl⟩)
    have hc7 := cell_kept g7 (grownBy_putObj' _ D (.deferred none)) (fun r e => by cases e; exact ⟨_, hK', rfl⟩)
    refine ⟨two (.int .i64 0) (.int .i64 2), ?_, by rw [ho.out]; rfl, ((hB'.out.setCell (p := ⟨w.heap.size, 0, none⟩) (Nat.le_refl _) _).setCell (p := ⟨w.heap.size + 1, 0, none⟩) (by simp) _).trans (belowK_b (w := w) (Nat.le_refl _) _ D _ _ (by omega) hK' rfl rfl)⟩
    simp [results, Try.f23, go_sem, hc6, hc7]
  case stop =>
    rintro D c pre W hD hpre ⟨⟨rfl, hlen, v, hv, h6, h7⟩, hB⟩ hK
    have hvx : o = some v := by
      obtain ⟨t, ht⟩ := hpre
      have := HX.out
      rw [← ht, List.getElem?_append_left (by omega), ← hlen, ← List.getLast?_eq_getElem?, hv] at this
      exact this.symm
    subst hvx
    gi_wp2
    refine ⟨by simp, .inl ⟨_, _, rfl, run_takeDeferred hK, ?_⟩⟩
    have hc6 := cell_kept h6 (grownBy_putObj' _ D (.deferred none)) (fun r e => by cases e; exact ⟨_, hK, rfl⟩)
    have hc7 := cell_kept h7 (grownBy_putObj' _ D (.deferred none)) (fun r e => by cases e; exact ⟨_, hK, rfl⟩)
    refine ⟨two (.int .i64 v) (.int .i64 0), ?_, rfl, hB.trans (belowK_b (w := w) (Nat.le_refl _) W D _ _ (by omega) hK rfl rfl)⟩
    simp [results, Try.f23, go_sem, hc6, hc7]
end Go.Proofs.Ytfphedcgmaakjab
