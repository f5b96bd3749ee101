/-
  shared of package money: what each gets; a contract for all worlds (at most 19 units).
-/
import Derived.Test.YtcimceepkjpggaaMnY
namespace Go.Proofs.Ytcimceepkjpggaa
open Go.RowKit Go.Sort Go.Lib
attribute [local go_sem] set_drewN
/-- the boxes of shared -/
def WS (w : World) (v : Value) (c S : Int) : World := ((w.alloc (.cells #[v] 57)).alloc (.cells #[.int .i64 c] 3)).alloc (.cells #[.int .i64 S] 3)
theorem WS.size (w : World) (v : Value) (c S : Int) : (WS w v c S).heap.size = w.heap.size + 3 := by simp [WS]
theorem WS.below (w : World) (v : Value) (c S : Int) : Below w.heap.size w (WS w v c S) :=
  (((Below.refl _ _).alloc (Nat.le_refl _) _).alloc (by simp) _).alloc (by simp; omega) _
theorem SQ.of_ws {us : List Int} {m bu : Nat} (w : World) (c S : Int) (hbu : bu < w.heap.size) (hL : ∀ (i : Nat) (h : i < us.length), w.cell? ⟨bu, i, none⟩ = some (.int .i64 us[i])) (hm : us.length = m + 1) (cap : Nat) :
    SQ (w.heap.size + 1) w.heap.size (w.heap.size + 1 + 1) bu cap us c S (WS w (.slice (some ⟨bu, 0, none⟩) (m + 1) cap) c S) := by
  have hb := WS.below w (.slice (some ⟨bu, 0, none⟩) (m + 1) cap) c S
  refine ⟨?_, ?_, ?_, fun i hi => (hb.cell (p := ⟨bu, i, none⟩) hbu).trans (hL i hi)⟩
  · unfold BoxI WS; simp [go_sem]
  · rw [hm]; unfold WS; simp [go_sem]
  · unfold BoxI WS; simp [go_sem]
theorem SQ.heap2 {Bc Bu Ba bu cap : Nat} {us : List Int} {c A : Int} {W W' : World} (h : SQ Bc Bu Ba bu cap us c A W) (hb : Below W.heap.size W W') : SQ Bc Bu Ba bu cap us c A W' := by
  have g : ∀ (p : Addr) (v : Value), W.cell? p = some v → W'.cell? p = some v := fun p v hv => (hb.cell (World.block_lt_of_cell? _ _ hv)).trans hv
  exact ⟨g _ _ h.c, g _ _ h.u, g _ _ h.a, fun i hi => g _ _ (h.l i hi)⟩
theorem putRow_grown {m : Nat} (W : World) (g q : Nat) (d : Array (Fin (m + 1))) : W.grownBy ((putRow encF W g 0 d).drewN q) (some g) := by
  refine ⟨rfl, rfl, rfl, by show W.heap.size ≤ (putRow encF W g 0 d).heap.size; simp, fun k hk hne => ?_⟩
  have := heap_sortWorld W g 0 d #[] k hk (fun e => hne (by rw [e]))
  simpa [sortWorld, Sort.ahead] using this
theorem frozen_of {W : World} {g i : Nat} {cur : Array Value} {t : TypeId} (h : W.heap[g]? = some (.cells cur t (0, 0))) : W.frozen? ⟨g, i, none⟩ = false := by
  simp [World.frozen?, h]
theorem holds_id {m g : Nat} {W : World} {cur : Array Value} {t : TypeId} (h : W.heap[g]? = some (.cells cur t (0, 0))) (hc : ∀ i, i < m + 1 → W.cell? ⟨g, i, none⟩ = some (.int .i64 (i : Nat))) : Holds encF W g 0 (Array.ofFn (n := m + 1) id) := by
  intro j hj
  rw [Array.size_ofFn] at hj
  rw [Nat.zero_add]
  refine ⟨?_, frozen_of h⟩
  rw [hc j hj, getElem!_pos _ j (by simpa using hj), Array.getElem_ofFn]
  rfl
/-- while cents are handed out: the row of shares at g8, behind k of the order -/
def S3 (W5 : World) (us : List Int) (c A : Int) (m g8 k : Nat) (W : World) : Prop := W5.grownBy W (some g8) ∧ ∀ j, j < m + 1 → W.cell? ⟨g8, j, none⟩ = some (.int .i64 (bump us c A m k j)) ∧ W.frozen? ⟨g8, j, none⟩ = false
theorem S3.step {W5 W : World} {us : List Int} {c A : Int} {m g8 k x : Nat} (h : S3 W5 us c A m g8 k W) (hx : x < m + 1) (h1 : bump us c A m (k + 1) x = bump us c A m k x + 1) (h2 : ∀ j, j ≠ x → bump us c A m (k + 1) j = bump us c A m k j) :
    S3 W5 us c A m g8 (k + 1) (W.setCell ⟨g8, x, none⟩ (.int .i64 (bump us c A m k x + 1))) := by
  refine ⟨h.1.trans ⟨rfl, rfl, rfl, by simp, fun k _ hne => Below.heap_setCell _ _ _ _ (fun e => hne (by rw [e]))⟩, fun j hj => ⟨?_, (World.frozen?_setCell _ _ _ _).trans (h.2 j hj).2⟩⟩
  by_cases e : j = x
  · subst e
    rw [h1]
    exact World.cell?_setCell_same W _ _ (h.2 j hj).1
  · rw [h2 j e, World.cell?_setCell_other _ _ _ _ (by intro h; simp only [Addr.mk.injEq] at h; omega)]
    exact (h.2 j hj).1
theorem bump_bd {us : List Int} {c A : Int} (c0 : 0 ≤ c) (c9 : c ≤ 1000000000000) (hu : ∀ u ∈ us, 0 ≤ u ∧ u ≤ 2000000) (hA : 0 < A) (m k j : Nat) : 0 ≤ bump us c A m k j ∧ bump us c A m k j ≤ 2000000000000000001 := by
  have hq : 0 ≤ (qL us c A).getD j 0 ∧ (qL us c A).getD j 0 ≤ 2000000000000000000 := by
    rw [List.getD_eq_getElem?_getD]
    by_cases h : j < us.length
    · have e : (qL us c A)[j]? = some (c * us[j] / A) := by simp [qL, h]
      rw [e]
      obtain ⟨u0, u9⟩ := hu _ (List.getElem_mem h)
      have m0 : 0 ≤ c * us[j] := Int.mul_nonneg c0 u0
      have h1 := Int.mul_le_mul_of_nonneg_right c9 u0
      have h2 := Int.ediv_le_self A m0
      exact ⟨Int.ediv_nonneg m0 (Int.le_of_lt hA), by show c * us[j] / A ≤ _; omega⟩
    · have e : (qL us c A)[j]? = none := by simp [qL]; omega
      rw [e]; simp
  unfold bump
  split <;> omega
theorem ord_cell {us : List Int} {c A : Int} {m g k x : Nat} {W : World} (h : Holds encF W g 0 (ordA us c A m)) (hk : k < m + 1) (hx : ∀ y, (ordA us c A m)[k]? = some y → y.val = x) : W.cell? ⟨g, k, none⟩ = some (.int .i64 (x : Nat)) := by
  have hs := (ord_perm us c A m).1
  have := (h k (by omega)).1
  rw [Nat.zero_add] at this
  rw [this, getElem!_pos _ k (by omega)]
  have e := hx _ (Array.getElem?_eq_getElem (show k < (ordA us c A m).size by omega))
  unfold encF
  rw [e]
set_option maxRecDepth 100000 in
set_option maxHeartbeats 8000000 in
theorem shared_any (us : List Int) (c : Int) (m bu cap : Nat) (w : World) (hm : us.length = m + 1) (m9 : m ≤ 18) (c0 : 0 ≤ c) (c9 : c ≤ 1000000000000) (hu : ∀ u ∈ us, 0 ≤ u ∧ u ≤ 2000000) (hA : 0 < sumL us)
    (hbu : bu < w.heap.size) (hL : ∀ (i : Nat) (h : i < us.length), w.cell? ⟨bu, i, none⟩ = some (.int .i64 us[i])) :
    Calls Try.prog 78 #[.slice (some ⟨bu, 0, none⟩) (m + 1) cap, .int .i64 c] w fun e w' => ∃ v, e = .returned v ∧ LI w' v (shM us c) ∧ Below w.heap.size w w' := by
  have HL := Lib.hid hL
  have HU := Lib.hid hu
  have HM := Lib.hid hm
  have HA := Lib.hid hA
  have hb1 : bu < w.heap.size + 1 := by omega
  have hb2 : bu < w.heap.size + 1 + 1 := by omega
  have m9z : (m : Int) ≤ 18 := by omega
  clear hL hu hm
  go_enter Try.func78, Try.ntmps78
  go_wp2
  go_loopw [19] (fun iv wr => ∃ (k : Nat) (S : Int), k ≤ m + 1 ∧ iv = .int .i64 k ∧ Hid (sumL (us.take k) = S) ∧ wr = WS w (.slice (some ⟨bu, 0, none⟩) (m + 1) cap) c S) (fun iv _ => m + 1 - (intOf iv).toNat)
  case atStart => exact ⟨0, 0, Nat.zero_le _, rfl, Lib.hid rfl, rfl⟩
  case round =>
    obtain ⟨k, S, hk, rfl, HS, rfl⟩ := hrel
    by_cases hlt : k < m + 1
    · have hkl : k < us.length := by rw [HM.out]; exact hlt
      have ck := HL.out k hkl
      obtain ⟨S', T, e1, e2, e3, b1, b2, b3, b4⟩ := sum_stepL hkl HU.out (by rw [HM.out]; omega)
      obtain rfl : S' = S := e1.symm.trans HS.out
      have E2 := Lib.hid e2
      have E3 := Lib.hid e3
      have hltz : (k : Int) < (m : Int) + 1 := by omega
      clear e1 e2 e3
      generalize us[k] = U at *
      unfold WS
      go_wp2
      go_roundw
      case rel => exact ⟨k + 1, T, by omega, by go_num, E2, by rw [E3.out]⟩
      case measure => simp [intOf]; omega
    · obtain rfl : k = m + 1 := by omega
      have HSA := Lib.hid (show sumL us = S by have := HS.out; rwa [List.take_of_length_le (by rw [HM.out]; exact Nat.le_refl _)] at this)
      have hS0 : 0 < S := by rw [← HSA.out]; exact HA.out
      have QA := Lib.hid (SQ.of_ws w c S hbu HL.out HM.out cap)
      have BA := Lib.hid (WS.below w (.slice (some ⟨bu, 0, none⟩) (m + 1) cap) c S)
      have SA := Lib.hid (WS.size w (.slice (some ⟨bu, 0, none⟩) (m + 1) cap) c S)
      unfold WS
      go_wp2
      obtain ⟨WA, hWA⟩ : ∃ WA, WS w (.slice (some ⟨bu, 0, none⟩) (m + 1) cap) c S = WA := ⟨_, rfl⟩
      rw [hWA] at QA BA SA
      unfold WS at hWA
      rw [hWA]
      clear hWA
      go_loopw [8, 9, 10, 30] (fun sv ov lv iv wr => ∃ (k : Nat) (Lf : Int), k ≤ m + 1 ∧ iv = .int .i64 k ∧ lv = .int .i64 Lf ∧ Hid (Lf = c - sumL ((qL us c S).take k)) ∧ 0 ≤ Lf ∧ Lf ≤ 1000000000000 ∧ Hid (I2 WA.heap.size WA ((qL us c S).take k) (idL k) sv ov wr)) (fun _ _ _ iv _ => m + 1 - (intOf iv).toNat)
      case atStart => exact ⟨0, c, Nat.zero_le _, rfl, rfl, Lib.hid (by simp [sumL]), c0, c9, Lib.hid (I2.start _ _ _ (Below.refl _ _) (Nat.le_refl _))⟩
      case round =>
        obtain ⟨k, Lf, hk, rfl, rfl, HF, lf0, lf9, HI⟩ := hrel
        have hsz := HI.out.2.2.2.2
        have HQ := Lib.hid (QA.out.heap2 HI.out.2.2.2.1)
        by_cases hlt : k < m + 1
        · have hkl : k < us.length := by rw [HM.out]; exact hlt
          have hltz : (k : Int) < (m : Int) + 1 := by omega
          obtain ⟨q0, q1, q2, q3'⟩ := HQ.out
          have q3 := q3' k hkl
          clear q3'
          rw [HM.out] at q1
          unfold BoxI at q0 q2
          obtain ⟨uz, uy⟩ := HU.out _ (List.getElem_mem hkl)
          obtain ⟨X, Y, e1, e2, e3, e4, e5⟩ := q_step (c := c) (A := S) hkl
          have pb := part_bd c0 HU.out HA.out (k + 1)
          rw [HSA.out, e2] at pb
          have HX := Lib.hid e3
          have E2 := Lib.hid e2
          have LX := Lib.hid e5
          have hLf : Lf = c - sumL X := by have := HF.out; rwa [e1] at this
          have e6 : c - sumL Y = Lf - c * us[k] / S := by omega
          rw [e6] at pb
          have E6 := Lib.hid e6
          have HI2 := Lib.hid (by have := HI.out; rw [e1] at this; exact this)
          have IS := Lib.hid (idL_succ k)
          have IL := Lib.hid (idL_len k)
          obtain ⟨pb1, pb2⟩ := pb
          clear e1 e2 e3 e4 e5 hLf e6
          generalize us[k] = U at *
          have mm0 : 0 ≤ c * U := Int.mul_nonneg c0 uz
          have mm9 : c * U ≤ 2000000000000000000 := by
            have h1 := Int.mul_le_mul_of_nonneg_right c9 uz
            omega
          have wm : wrap64 (c * U) = c * U := by unfold wrap64; omega
          have hq0 := Int.ediv_nonneg mm0 (Int.le_of_lt hS0)
          have hq9 := Int.ediv_le_self S mm0
          go_wp2_with (at_builtin; refine wpList_two rfl _ _ rfl WA.heap.size X.length _ (.int .i64 (c * U / S)) (X.map (Value.int .i64)) rfl (HI2.out.alloc _).1 (by have := LX.out; omega) (by simp; omega) ⟨wr.heap.size, 0, none⟩ 1 rfl (World.news_of_block (cs := #[.int .i64 (c * U / S)]) (heap_alloc_new _ _)) rfl ?_)
          intro v3 w3 ho hg k4 hk4 hk5
          have I3 := Lib.hid ((HI2.out.alloc _).first ho hg ⟨k4, hk4, by simpa using hk5⟩)
          have sz3 := I3.out.2.2.2.2
          clear ho hg hk4 hk5 k4
          go_wp2_with (at_builtin; refine wpList_two rfl _ _ rfl WA.heap.size (idL k).length _ (.int .i64 k) ((idL k).map (Value.int .i64)) rfl (I3.out.alloc _).2.1 (by rw [IL.out]; omega) (by simp; omega) ⟨w3.heap.size, 0, none⟩ 1 rfl (World.news_of_block (cs := #[.int .i64 k]) (heap_alloc_new _ _)) rfl ?_)
          intro v4 w4 ho hg k4 hk4 hk5
          have I4 := Lib.hid ((I3.out.alloc _).second ho hg ⟨k4, hk4, by simpa using hk5⟩)
          clear ho hg hk4 hk5 k4
          go_wp2
          go_roundw
          case rel =>
            refine ⟨_, _, _, _, _, _, _, _, _, _, _, _, _, _, _, _, _, _, _, _, _, _, _, _, _, _, _, _, ?h, rfl⟩
            case h => exact ⟨k + 1, Lf - c * U / S, by omega, by go_num, rfl, Lib.hid (by rw [E2.out]; exact E6.out.symm), pb1, by omega, Lib.hid (by rw [E2.out, HX.out, IS.out]; exact I4.out)⟩
          case measure => simp [intOf]; omega
        · obtain rfl : k = m + 1 := by omega
          have hqn : (qL us c S).length = m + 1 := by simp [qL, HM.out]
          have HI3 := Lib.hid (show I2 WA.heap.size WA (qL us c S) (idL (m + 1)) u8 u9 wr by have := HI.out; rwa [List.take_of_length_le (by omega)] at this)
          have hLf : Lf = leftL us c := by have := HF.out; rw [List.take_of_length_le (by omega)] at this; unfold leftL; rw [HSA.out]; exact this
          have hlb := left_bd (c := c) HA.out
          rw [← hLf, HM.out] at hlb
          obtain ⟨ln, rfl⟩ : ∃ ln : Nat, Lf = ln := ⟨Lf.toNat, by omega⟩
          have HLN := Lib.hid hLf
          have hln : ln ≤ m := by omega
          obtain ⟨g8, c8, cur8, e8, b8, l8, h8, x8, y8⟩ := HI3.out.1.lies (fun e => by rw [e] at hqn; simp at hqn)
          obtain ⟨g9, c9', cur9, e9, b9, l9, h9, x9, y9⟩ := HI3.out.2.1.lies (fun e => by have := idL_len (m + 1); rw [e] at this; simp at this)
          have hap : g8 ≠ g9 := fun e => HI3.out.2.2.1 g8 (by rw [e8]; rfl) (by rw [e9, e]; rfl)
          rw [hqn] at e8 y8
          rw [idL_len] at e9 y9
          subst e8 e9
          have sA := SA.out
          have BW := Lib.hid (BA.out.trans (HI3.out.2.2.2.1.mono (by omega)))
          have H8 := Lib.hid h8
          have H9 := Lib.hid h9
          have X8 := Lib.hid x8
          have X9 := Lib.hid (show ∀ i, i < m + 1 → wr.cell? ⟨g9, i, none⟩ = some (.int .i64 (i : Nat)) by
            intro i hi
            have := x9 i (by rw [idL_len]; exact hi)
            rwa [idL_get] at this)
          have hc9 : (ln : Int) ≤ c9' := by omega
          have SRT := Lib.hid (fun W (hW : W = wr.alloc (.cells #[rmF (w.heap.size + 1) w.heap.size (w.heap.size + 1 + 1)] 124)) => sort_any us c S m (w.heap.size + 1) w.heap.size (w.heap.size + 1 + 1) wr.heap.size bu cap g9 c9' W HM.out m9 c0 c9 HU.out hS0
            (by subst hW; exact HQ.out.heap2 ((Below.refl _ _).alloc (Nat.le_refl _) _)) (by subst hW; simp [go_sem]) (by subst hW; exact holds_id ((heap_alloc_old _ _ l9).trans H9.out) (fun i hi => ((Below.refl wr.heap.size wr).alloc (Nat.le_refl _) _).cell (p := ⟨g9, i, none⟩) l9 |>.trans (X9.out i hi))) (by omega) (by omega))
          clear hqn hLf hlb h8 h9 x8 x9 sA HI3 HI HF
          unfold rmF at SRT
          have HH := Lib.hid (fun W (hW : W = wr.alloc (.cells #[rmF (w.heap.size + 1) w.heap.size (w.heap.size + 1 + 1)] 124)) => (show Holds encF W g9 0 (Array.ofFn (n := m + 1) id) ∧ W.heap[g8]? = some (.cells cur8 3 (0, 0)) ∧ (∀ j (hj : j < (qL us c S).length), W.cell? ⟨g8, j, none⟩ = some (.int .i64 (qL us c S)[j])) ∧ Below w.heap.size w W ∧ g8 < W.heap.size from by
            subst hW
            exact ⟨holds_id ((heap_alloc_old _ _ l9).trans H9.out) (fun i hi => ((Below.refl wr.heap.size wr).alloc (Nat.le_refl _) _).cell (p := ⟨g9, i, none⟩) l9 |>.trans (X9.out i hi)), (heap_alloc_old _ _ l8).trans H8.out, fun j hj => ((Below.refl wr.heap.size wr).alloc (Nat.le_refl _) _).cell (p := ⟨g8, j, none⟩) l8 |>.trans (X8.out j hj), BW.out.alloc BW.out.size _, by simp; omega⟩))
          unfold rmF at HH
          go_wp2_with fail
          refine (SRT.out _ rfl).mono ?_
          rintro e w5 ⟨rfl, q, hw5⟩
          obtain ⟨k1, k2, k3, k4, k5⟩ := HH.out _ rfl
          have G5 := putRow_grown (wr.alloc (.cells #[.func (.func 86) #[] #[.pointer (some ⟨w.heap.size + 1, 0, none⟩), .pointer (some ⟨w.heap.size, 0, none⟩), .pointer (some ⟨w.heap.size + 1 + 1, 0, none⟩)]] 124)) g9 q (ordA us c S m)
          have HO := Lib.hid (show Holds encF w5 g9 0 (ordA us c S m) by
            rw [hw5]
            exact holds_putRow encF _ g9 0 _ _ k1 (by rw [(ord_perm us c S m).1, Array.size_ofFn]))
          rw [← hw5] at G5
          have BW5 := Lib.hid (k4.grown G5 k4.size (fun k' e' => by cases e'; exact Nat.le_trans BA.out.size b9))
          have l95 : g9 < w5.heap.size := Nat.lt_of_lt_of_le (by simp; omega) G5.size
          have L85 := Lib.hid (show g8 < w5.heap.size from Nat.lt_of_lt_of_le k5 G5.size)
          have h85 := (G5.block g8 k5 (fun e => hap (Option.some.inj e))).trans k2
          have HI0 := Lib.hid (show S3 w5 us c S m g8 0 w5 from ⟨gb_refl _ _, fun j hj => by
            have hj' : j < (qL us c S).length := by simp [qL, HM.out]; omega
            refine ⟨?_, frozen_of h85⟩
            rw [bump_zero, List.getD_eq_getElem?_getD, List.getElem?_eq_getElem hj']
            exact G5.cell (k3 j hj') (fun e => hap (Option.some.inj e))⟩)
          clear hw5 k1 k2 k3 k4 k5 G5 h85 SRT HH
          go_wp2
          go_loopw [60] (fun iv wx => ∃ k : Nat, k ≤ ln ∧ iv = .int .i64 k ∧ Hid (S3 w5 us c S m g8 k wx)) (fun iv _ => ln - (intOf iv).toNat)
          case atStart => exact ⟨0, Nat.zero_le _, rfl, HI0⟩
          case round =>
            obtain ⟨k, hk, rfl, HK⟩ := hrel
            by_cases hlt3 : k < ln
            · obtain ⟨x, hx, -, hy, hz1, hz2, -⟩ := bump_step us c S m k (by omega)
              have ST := Lib.hid (HK.out.step hx hz1 hz2)
              have o9 := HK.out.1.cell (ord_cell HO.out (show k < m + 1 by omega) hy) (fun e => hap (Option.some.inj e).symm)
              obtain ⟨o8, f8⟩ := HK.out.2 x hx
              obtain ⟨z0, z9⟩ := bump_bd c0 c9 HU.out hS0 m k x
              have hxz : (x : Int) < (m : Int) + 1 := by omega
              have hk3 : (k : Int) < (ln : Int) := by omega
              have hcast : ((m + 1 : Nat) : Int) = (m : Int) + 1 := by omega
              clear hy hz1 hz2
              generalize bump us c S m k x = V at *
              go_wp2
              go_roundw
              case rel => exact ⟨k + 1, by omega, by go_num, ST⟩
              case measure => simp [intOf]; omega
            · obtain rfl : k = ln := by omega
              have RES := Lib.hid (show LI wr (.slice (some ⟨g8, 0, none⟩) (m + 1) c8) (shM us c) from ⟨_, c8, by rw [shM_len, HM.out], fun _ => ⟨g8, rfl, Nat.lt_of_lt_of_le L85.out HK.out.1.size, fun i hi => by
                have hi' : i < m + 1 := by rwa [shM_len, HM.out] at hi
                have e : (shM us c)[i] = bump us c S m k i := by
                  have e1 : us.length - 1 = m := by have := HM.out; omega
                  have e2 : (leftL us c).toNat = k := by rw [← HLN.out]; simp
                  rw [shM_get, HSA.out, e1, e2]
                rw [e]
                exact (HK.out.2 i hi').1⟩⟩)
              have BR := Lib.hid (BW5.out.grown HK.out.1 BW5.out.size (fun k' e' => by cases e'; exact Nat.le_trans BA.out.size b8))
              go_wp2
              go_ret
              exact ⟨_, rfl, RES.out, BR.out⟩
end Go.Proofs.Ytcimceepkjpggaa
