/-
  Right dues; what is open, left and covered by the specification of chapter 9; contracts.
-/
import Derived.Test.YtcimceepkjpggaaRDu
import Derived.Test.YtcimceepkjpggaaMnN
namespace Go.Proofs.Ytcimceepkjpggaa
open Go.RowKit
attribute [local go_sem] set_drewN
structure DuOk (L : List Du) : Prop where
  len : L.length ≤ 120
  rt : Rt L
  days : ∀ k (hk : k < L.length), 0 ≤ L[k].day ∧ L[k].day ≤ 200000
  mono : ∀ k (hk : k + 1 < L.length), L[k].day ≤ L[k + 1].day
theorem feE_alls : ∀ {xs : List Int}, feE xs = 0 → ∀ x ∈ xs, x = 0
  | [], _, x, m => by cases m
  | y :: ys, h, x, m => by
    unfold feE at h
    by_cases hy : y = 0
    · rw [if_pos hy] at h
      rcases List.mem_cons.1 m with rfl | m
      · exact hy
      · exact feE_alls h x m
    · rw [if_neg hy] at h; exact absurd h hy
theorem du_is {L : List Du} (h : duesE L = 0) : DuOk L := by
  have hl : ¬ 120 < L.length := fun c => by unfold duesE at h; rw [if_pos c] at h; cases h
  unfold duesE at h
  rw [if_neg hl] at h
  have hk0 : ∀ k (hk : k < L.length), duE (prevD 0 L k) L[k] = 0 := by
    intro k hk
    have := feE_alls h ((errsD 0 L)[k]'(by rw [errsD_len]; exact hk)) (List.getElem_mem _)
    rwa [errsD_get 0 L k hk] at this
  have hok : ∀ k (hk : k < L.length), (inB L[k].day 0 200000 && inB L[k].cents 0 1000000000000) = true := by
    intro k hk
    cases hb : (inB L[k].day 0 200000 && inB L[k].cents 0 1000000000000)
    · have := hk0 k hk
      rw [duE_2 hb] at this; cases this
    · rfl
  refine ⟨by omega, fun d m => ?_, fun k hk => inB_iff.1 (Bool.and_eq_true_iff.1 (hok k hk)).1, fun k hk => ?_⟩
  · obtain ⟨k, hk, rfl⟩ := List.mem_iff_getElem.1 m
    exact inB_iff.1 (Bool.and_eq_true_iff.1 (hok k hk)).2
  · refine Classical.byContradiction fun c => ?_
    have := hk0 (k + 1) hk
    rw [duE_9 (hok _ hk) (by rw [prevD_succ 0 L k (by omega)]; omega)] at this
    cases this
theorem srt_at {L : List Du} (ok : DuOk L) {i j : Nat} (hij : i ≤ j) (hj : j < L.length) : (L[i]'(by omega)).day ≤ L[j].day := by
  have := mono_at ok.mono (j - i) i (by omega)
  have e : i + (j - i) = j := by omega
  simpa only [e] using this
theorem uptS_all {t : Int} : ∀ {l : List Du}, (∀ d ∈ l, d.day ≤ t) → uptS t l = sumD l
  | [], _ => rfl
  | d :: l, h => by rw [uptS, sumD, if_pos (h d (by simp)), uptS_all fun x m => h x (by simp [m])]
theorem uptS_none {t : Int} : ∀ {l : List Du}, (∀ d ∈ l, ¬ d.day ≤ t) → uptS t l = 0
  | [], _ => rfl
  | d :: l, h => by rw [uptS, if_neg (h d (by simp)), uptS_none fun x m => h x (by simp [m])]; rfl
theorem begD_mem {t : Int} : ∀ {l : List Du}, ∀ d ∈ begD t l, d.day ≤ t
  | [], d, m => by cases m
  | x :: l, d, m => by
    unfold begD at m
    split at m
    · rcases List.mem_cons.1 m with rfl | m
      · assumption
      · exact begD_mem d m
    · cases m
theorem uptS_eq {L : List Du} (ok : DuOk L) (t : Int) : uptS t L = sumD (begD t L) := by
  by_cases hall : ∀ d ∈ L, d.day ≤ t
  · rw [uptS_all hall, begD_all hall]
  · have : ∃ k, ∃ hk : k < L.length, ¬ L[k].day ≤ t := Classical.byContradiction fun c => hall fun d m => by
      obtain ⟨k, hk, rfl⟩ := List.mem_iff_getElem.1 m
      exact Classical.byContradiction fun c2 => c ⟨k, hk, c2⟩
    obtain ⟨k, hk, hf, hmin⟩ : ∃ k, ∃ hk : k < L.length, ¬ L[k].day ≤ t ∧ ∀ i (hi : i < L.length), i < k → L[i].day ≤ t := by
      obtain ⟨k, hk, hf⟩ := this
      induction k using Nat.strongRecOn with
      | ind k ih =>
        by_cases hc : ∃ i, ∃ hi : i < L.length, i < k ∧ ¬ L[i].day ≤ t
        · obtain ⟨i, hi, hik, h2⟩ := hc
          exact ih i hik hi h2
        · exact ⟨k, hk, hf, fun i hi hik => Classical.byContradiction fun c => hc ⟨i, hi, hik, c⟩⟩
    have h1 : ∀ d ∈ L.take k, d.day ≤ t := by
      intro d m
      obtain ⟨i, hi, rfl⟩ := List.mem_iff_getElem.1 m
      rw [List.length_take] at hi
      rw [List.getElem_take]
      exact hmin i (by omega) (by omega)
    have h2 : ∀ d ∈ L.drop k, ¬ d.day ≤ t := by
      intro d m
      obtain ⟨i, hi, rfl⟩ := List.mem_iff_getElem.1 m
      rw [List.length_drop] at hi
      rw [List.getElem_drop]
      have := srt_at ok (show k ≤ k + i by omega) (by omega)
      omega
    have e : uptS t L = uptS t (L.take k) + uptS t (L.drop k) := by rw [← uptS_app, List.take_append_drop]
    rw [e, uptS_all h1, uptS_none h2, begD_at hk h1 hf]; omega
theorem pre_le {L : List Du} (ok : DuOk L) {j : Nat} (hj : j < L.length) : sumD (L.take (j + 1)) ≤ uptS L[j].day L := by
  have e : uptS L[j].day L = uptS L[j].day (L.take (j + 1)) + uptS L[j].day (L.drop (j + 1)) := by rw [← uptS_app, List.take_append_drop]
  have h1 : ∀ d ∈ L.take (j + 1), d.day ≤ L[j].day := by
    intro d m
    obtain ⟨i, hi, rfl⟩ := List.mem_iff_getElem.1 m
    rw [List.length_take] at hi
    rw [List.getElem_take]
    exact srt_at ok (by omega) hj
  have h2 := (uptS_bd (t := L[j].day) (l := L.drop (j + 1)) (fun d m => ok.rt d (List.mem_of_mem_drop m))).1
  rw [e, uptS_all h1]; omega
theorem find_k {P : List Du} (ok : DuOk P) {S : Int} (hS : 0 < S) {k : Nat} (hk : k < P.length) (hf : ∀ i (hi : i < P.length), i < k → uptS P[i].day P < S) (h : S ≤ uptS P[k].day P) : dayM P S = P[k].day := by
  rw [uptS_eq ok] at h
  obtain ⟨K0, hK0⟩ := begD_pre (t := P[k].day) P
  obtain ⟨K, hKl, hK⟩ : ∃ K, K ≤ P.length ∧ begD P[k].day P = P.take K := by
    by_cases hc : K0 ≤ P.length
    · exact ⟨K0, hc, hK0⟩
    · exact ⟨P.length, Nat.le_refl _, by rw [hK0, List.take_of_length_le (by omega), List.take_of_length_le (Nat.le_refl _)]⟩
  rw [hK] at h
  have hK1 : 1 ≤ K := by
    refine Classical.byContradiction fun c => ?_
    have : K = 0 := by omega
    subst this
    simp [sumD] at h; omega
  obtain ⟨j, hj, h1, h2⟩ := first_at (L := P) (S := S) (K - 1) (by rw [show K - 1 + 1 = K by omega]; exact h)
  have hjl : j < P.length := by omega
  unfold dayM
  rw [if_pos hS, dayG_at hjl h1 h2]
  have hd1 : P[j].day ≤ P[k].day := by
    have hm : P[j] ∈ begD P[k].day P := by
      rw [hK]
      exact List.mem_iff_getElem.2 ⟨j, by rw [List.length_take]; omega, by rw [List.getElem_take]⟩
    exact begD_mem _ hm
  have hkj : k ≤ j := by
    refine Classical.byContradiction fun c => ?_
    have := hf j hjl (by omega)
    have := pre_le ok hjl
    omega
  have := srt_at ok hkj hjl
  omega
theorem none_k {P : List Du} (ok : DuOk P) {S : Int} (hS : 0 < S) (hf : ∀ i (hi : i < P.length), uptS P[i].day P < S) : dayM P S = -1 := by
  unfold dayM
  rw [if_pos hS]
  refine dayG_none fun i hi => ?_
  have := hf i hi
  have := pre_le ok hi
  omega
theorem retd_i {a b a' b' : Int} (h : a = a') (h2 : b = b') : Ending.returned (two (.int .i64 a) (.int .i64 b)) = .returned (two (.int .i64 a') (.int .i64 b')) := by rw [h, h2]
theorem dayM_0 (P : List Du) : dayM P 0 = 0 := by unfold dayM; rw [if_neg (by omega)]
theorem beg_all {L : List Du} (ok : DuOk L) : begD 200000 L = L := begD_all fun d m => by
  obtain ⟨k, hk, rfl⟩ := List.mem_iff_getElem.1 m
  exact (ok.days k hk).2
set_option maxRecDepth 100000 in
theorem xOpen_any (v1 v2 : Value) (D P : List Du) (t : Int) (w : World) (h1 : LD w v1 D) (h2 : LD w v2 P) (okD : DuOk D) (okP : DuOk P) :
    Calls Try.prog 42 #[v1, v2, .int .i64 t] w (RetB (two (.int .i64 (openM t D P)) (.int .i64 (leftM t D P))) w) := by
  have K0 := Lib.hid (show KQ (fun W => LD W v1 D ∧ LD W v2 P) w w from ⟨fun A B h hb => ⟨h.1.below hb, h.2.below hb⟩, ⟨h1, h2⟩, Below.refl _ _⟩)
  have lD : D.length ≤ 1000 := by have := okD.len; omega
  have lP : P.length ≤ 1000 := by have := okP.len; omega
  have U1 := Lib.hid (fun W (h : LD W v2 P) => upto_any P v2 t W lP okP.rt h)
  have U2 := Lib.hid (fun W (h : LD W v1 D) => upto_any D v1 t W lD okD.rt h)
  have U3 := Lib.hid (fun W (h : LD W v1 D) => upto_any D v1 200000 W lD okD.rt h)
  have e1 := uptS_eq okP t
  have e2 := uptS_eq okD t
  have e3 := uptS_eq okD 200000
  rw [beg_all okD] at e3
  have b1 := uptS_bd (t := t) okP.rt
  have b2 := uptS_bd (t := t) okD.rt
  have b3 := uptS_bd (t := 200000) okD.rt
  have m1 := okP.len
  have m2 := okD.len
  have HO := Lib.hid (show openM t D P = max 0 (uptS t D - uptS t P) by unfold openM; rw [e1, e2])
  have HL := Lib.hid (show leftM t D P = max 0 (uptS 200000 D - uptS t P) by unfold leftM; rw [e1, e3])
  generalize uptS t P = A1 at *
  generalize uptS t D = A2 at *
  generalize uptS 200000 D = A3 at *
  have k1 : A1 ≤ 1000000000000000 := by omega
  have k2 : A2 ≤ 1000000000000000 := by omega
  have k3 : A3 ≤ 1000000000000000 := by omega
  have z1 := b1.1
  have z2 := b2.1
  have z3 := b3.1
  clear e1 e2 e3 h1 h2 okD okP lD lP m1 m2 b1 b2 b3
  rcases (show A1 < A2 ∨ A2 ≤ A1 by omega) with a | a
  all_goals rcases (show A1 < A3 ∨ A3 ≤ A1 by omega) with b | b
  · have HO2 := Lib.hid (HO.out.trans (show max 0 (A2 - A1) = A2 - A1 by omega))
    have HL2 := Lib.hid (HL.out.trans (show max 0 (A3 - A1) = A3 - A1 by omega))
    clear HO HL
    go_enter Try.func42, Try.ntmps42
    go_wp2_with fail
    refine (U1.out _ K0.out.q.2).mono ?_
    rintro e w1 ⟨rfl, hb1⟩
    have K1 := Lib.hid (K0.out.bl hb1)
    go_wp2_with fail
    refine (U2.out _ K1.out.q.1).mono ?_
    rintro e w2 ⟨rfl, hb2⟩
    have K2 := Lib.hid (K1.out.bl hb2)
    go_wp2_with fail
    refine (U3.out _ K2.out.q.1).mono ?_
    rintro e w3 ⟨rfl, hb3⟩
    have K3 := Lib.hid (K2.out.bl hb3)
    go_wp2
    go_ret2
    exact ⟨retd_i HO2.out.symm HL2.out.symm, K3.out.b⟩
  · have HO2 := Lib.hid (HO.out.trans (show max 0 (A2 - A1) = A2 - A1 by omega))
    have HL2 := Lib.hid (HL.out.trans (show max 0 (A3 - A1) = 0 by omega))
    clear HO HL
    go_enter Try.func42, Try.ntmps42
    go_wp2_with fail
    refine (U1.out _ K0.out.q.2).mono ?_
    rintro e w1 ⟨rfl, hb1⟩
    have K1 := Lib.hid (K0.out.bl hb1)
    go_wp2_with fail
    refine (U2.out _ K1.out.q.1).mono ?_
    rintro e w2 ⟨rfl, hb2⟩
    have K2 := Lib.hid (K1.out.bl hb2)
    go_wp2_with fail
    refine (U3.out _ K2.out.q.1).mono ?_
    rintro e w3 ⟨rfl, hb3⟩
    have K3 := Lib.hid (K2.out.bl hb3)
    go_wp2
    go_ret2
    exact ⟨retd_i HO2.out.symm HL2.out.symm, K3.out.b⟩
  · have HO2 := Lib.hid (HO.out.trans (show max 0 (A2 - A1) = 0 by omega))
    have HL2 := Lib.hid (HL.out.trans (show max 0 (A3 - A1) = A3 - A1 by omega))
    clear HO HL
    go_enter Try.func42, Try.ntmps42
    go_wp2_with fail
    refine (U1.out _ K0.out.q.2).mono ?_
    rintro e w1 ⟨rfl, hb1⟩
    have K1 := Lib.hid (K0.out.bl hb1)
    go_wp2_with fail
    refine (U2.out _ K1.out.q.1).mono ?_
    rintro e w2 ⟨rfl, hb2⟩
    have K2 := Lib.hid (K1.out.bl hb2)
    go_wp2_with fail
    refine (U3.out _ K2.out.q.1).mono ?_
    rintro e w3 ⟨rfl, hb3⟩
    have K3 := Lib.hid (K2.out.bl hb3)
    go_wp2
    go_ret2
    exact ⟨retd_i HO2.out.symm HL2.out.symm, K3.out.b⟩
  · have HO2 := Lib.hid (HO.out.trans (show max 0 (A2 - A1) = 0 by omega))
    have HL2 := Lib.hid (HL.out.trans (show max 0 (A3 - A1) = 0 by omega))
    clear HO HL
    go_enter Try.func42, Try.ntmps42
    go_wp2_with fail
    refine (U1.out _ K0.out.q.2).mono ?_
    rintro e w1 ⟨rfl, hb1⟩
    have K1 := Lib.hid (K0.out.bl hb1)
    go_wp2_with fail
    refine (U2.out _ K1.out.q.1).mono ?_
    rintro e w2 ⟨rfl, hb2⟩
    have K2 := Lib.hid (K1.out.bl hb2)
    go_wp2_with fail
    refine (U3.out _ K2.out.q.1).mono ?_
    rintro e w3 ⟨rfl, hb3⟩
    have K3 := Lib.hid (K2.out.bl hb3)
    go_wp2
    go_ret2
    exact ⟨retd_i HO2.out.symm HL2.out.symm, K3.out.b⟩
end Go.Proofs.Ytcimceepkjpggaa
