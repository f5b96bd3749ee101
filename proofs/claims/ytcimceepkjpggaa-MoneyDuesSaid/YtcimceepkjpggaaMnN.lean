/-
  Plans whose dues are paid in time: mathematics. What Plan returns where it refuses.
-/
import Derived.Test.YtcimceepkjpggaaMnK
namespace Go.Proofs.Ytcimceepkjpggaa
open Go.RowKit
attribute [local go_sem] set_drewN
theorem duE_ok {p : Int} {d : Du} (h1 : inB d.day 0 200000 = true) (h2 : inB d.cents 0 1000000000000 = true) (h3 : p ≤ d.day) : duE p d = 0 := by
  have h4 : decide (d.day < p) = false := decide_eq_false (by omega)
  unfold duE
  rw [h1, h2, h4]; rfl
theorem duesE_ok {L : List Du} (hl : L.length ≤ 120) (h : ∀ k (hk : k < L.length), inB L[k].day 0 200000 = true ∧ inB L[k].cents 0 1000000000000 = true) (hm : ∀ k (hk : k + 1 < L.length), L[k].day ≤ L[k + 1].day) : duesE L = 0 := by
  unfold duesE
  rw [if_neg (by omega)]
  refine feE_ok fun x hx => ?_
  obtain ⟨k, hk, rfl⟩ := List.mem_iff_getElem.1 hx
  have hk' : k < L.length := by rwa [errsD_len] at hk
  rw [errsD_get 0 L k hk']
  refine duE_ok (h k hk').1 (h k hk').2 ?_
  cases k with
  | zero =>
    have := inB_iff.1 (h 0 hk').1
    have e : prevD 0 L 0 = 0 := by cases L <;> rfl
    rw [e]; omega
  | succ k =>
    rw [prevD_succ 0 L k (by omega)]
    exact hm k hk'
theorem first_at {L : List Du} {S : Int} (k : Nat) (h : S ≤ sumD (L.take (k + 1))) : ∃ j, j ≤ k ∧ (∀ i, i < j → 0 + sumD (L.take (i + 1)) < S) ∧ S ≤ 0 + sumD (L.take (j + 1)) := by
  induction k using Nat.strongRecOn with
  | ind k ih =>
    by_cases hc : ∃ i, i < k ∧ S ≤ sumD (L.take (i + 1))
    · obtain ⟨i, hi, hs⟩ := hc
      obtain ⟨j, hj, r⟩ := ih i hi hs
      exact ⟨j, by omega, r⟩
    · exact ⟨k, Nat.le_refl _, fun i hi => by have : ¬ S ≤ sumD (L.take (i + 1)) := fun h => hc ⟨i, hi, h⟩; omega, by omega⟩
theorem mono_at {L : List Du} (hm : ∀ k (hk : k + 1 < L.length), L[k].day ≤ L[k + 1].day) : ∀ (d i : Nat) (h : i + d < L.length), L[i].day ≤ L[i + d].day
  | 0, i, h => Int.le_refl _
  | d + 1, i, h => Int.le_trans (mono_at hm d i (by omega)) (hm (i + d) h)
theorem cover_at {L : List Du} (hr : Rt L) (hd : ∀ k (hk : k < L.length), 0 ≤ L[k].day) (hm : ∀ k (hk : k + 1 < L.length), L[k].day ≤ L[k + 1].day) (k : Nat) (hk : k < L.length) :
    0 ≤ dayM L (sumD (L.take (k + 1))) ∧ dayM L (sumD (L.take (k + 1))) ≤ L[k].day ∧ (0 < L[k].cents → dayM L (sumD (L.take (k + 1))) = L[k].day) := by
  have hs := sumD_succ hk
  have hp := sumD_pos (hr.take k)
  have hc := (hr _ (List.getElem_mem hk)).1
  obtain ⟨S, hS⟩ : ∃ S, sumD (L.take (k + 1)) = S := ⟨_, rfl⟩
  rw [hS] at hs ⊢
  unfold dayM
  by_cases h0 : 0 < S
  · rw [if_pos h0]
    obtain ⟨j, hj, h1, h2⟩ := first_at (L := L) (S := S) k (by omega)
    rw [dayG_at (show j < L.length by omega) h1 h2]
    refine ⟨hd j (by omega), ?_, fun hpos => ?_⟩
    · have := mono_at hm (k - j) j (by omega)
      have e : j + (k - j) = k := by omega
      simpa [e] using this
    · by_cases e : j = k
      · subst e; rfl
      · have ht : L.take (j + 1) = (L.take k).take (j + 1) := by rw [List.take_take, Nat.min_eq_left (by omega)]
        have := sumD_take_le (hr.take k) (j + 1)
        rw [← ht] at this
        omega
  · rw [if_neg h0]
    exact ⟨Int.le_refl _, hd k hk, fun hpos => by omega⟩
/-- what a plan is asked for -/
def planB (c n d0 d1 : Int) : Bool := inB c 0 1000000000000 && inB n 1 120 && (inB d0 0 200000 && inB d1 1 1000 && inB (d0 + (n - 1) * d1) 0 200000)
theorem ptM_bd {c : Int} {n : Nat} (h0 : 0 ≤ c) (n1 : 1 ≤ n) (i : Nat) : 0 ≤ ptM c n i ∧ ptM c n i ≤ c := by
  have hq := Int.ediv_nonneg h0 (show (0 : Int) ≤ n by omega)
  have hm := Int.emod_nonneg c (show (n : Int) ≠ 0 by omega)
  have he := Int.mul_ediv_add_emod c n
  have hn : c / n ≤ (n : Int) * (c / n) := by
    have := Int.mul_le_mul_of_nonneg_right (show (1 : Int) ≤ n by omega) hq
    omega
  unfold ptM
  split <;> omega
theorem step_bd {d1 : Int} {n k : Nat} (h : 1 ≤ d1) (hk : k < n) : 0 ≤ (k : Int) * d1 ∧ (k : Int) * d1 ≤ ((n : Int) - 1) * d1 :=
  ⟨Int.mul_nonneg (by omega) (by omega), Int.mul_le_mul_of_nonneg_right (by omega) (by omega)⟩
structure PlanIs (c : Int) (n : Nat) (d0 d1 : Int) (D : List Du) : Prop where
  len : D.length = n
  rt : Rt D
  days : ∀ k (hk : k < D.length), 0 ≤ D[k].day ∧ D[k].day ≤ 200000 ∧ D[k].day ≤ d0 + ((n : Int) - 1) * d1
  mono : ∀ k (hk : k + 1 < D.length), D[k].day ≤ D[k + 1].day
  ok : duesE D = 0
theorem plan_is {c : Int} {n : Nat} {d0 d1 : Int} (h0 : 0 ≤ c) (h9 : c ≤ 1000000000000) (n1 : 1 ≤ n) (n9 : n ≤ 120) (a0 : 0 ≤ d0) (s1 : 1 ≤ d1) (l9 : d0 + ((n : Int) - 1) * d1 ≤ 200000) : PlanIs c n d0 d1 (plM c n d0 d1 n) := by
  have hl := plM_len c n d0 d1 n
  have hrt : Rt (plM c n d0 d1 n) := by
    intro d m
    obtain ⟨k, hk, rfl⟩ := List.mem_iff_getElem.1 m
    rw [plM_get]
    have := ptM_bd h0 n1 k
    exact ⟨this.1, by show ptM c n k ≤ _; omega⟩
  have hdays : ∀ k (hk : k < (plM c n d0 d1 n).length), 0 ≤ (plM c n d0 d1 n)[k].day ∧ (plM c n d0 d1 n)[k].day ≤ 200000 ∧ (plM c n d0 d1 n)[k].day ≤ d0 + ((n : Int) - 1) * d1 := by
    intro k hk
    rw [plM_get]
    rw [hl] at hk
    have := step_bd s1 hk
    refine ⟨?_, ?_, ?_⟩
    · show 0 ≤ d0 + (k : Int) * d1; omega
    · show d0 + (k : Int) * d1 ≤ 200000; omega
    · show d0 + (k : Int) * d1 ≤ _; omega
  have hmono : ∀ k (hk : k + 1 < (plM c n d0 d1 n).length), (plM c n d0 d1 n)[k].day ≤ (plM c n d0 d1 n)[k + 1].day := by
    intro k hk
    rw [plM_get, plM_get]
    show d0 + (k : Int) * d1 ≤ d0 + ((k + 1 : Nat) : Int) * d1
    have : ((k + 1 : Nat) : Int) * d1 = (k : Int) * d1 + d1 := by rw [Int.natCast_succ, Int.add_mul]; omega
    omega
  refine ⟨hl, hrt, hdays, hmono, duesE_ok (by omega) (fun k hk => ⟨inB_yes (hdays k hk).1 (hdays k hk).2.1, ?_⟩) hmono⟩
  have := hrt _ (List.getElem_mem hk)
  exact inB_yes this.1 this.2
/-- with the last one paid a day later -/
theorem late_is {L : List Du} {k : Nat} (hk : L.length = k + 1) (hl : L.length ≤ 120) (hr : Rt L) (hd : ∀ i (hi : i < L.length), 0 ≤ L[i].day ∧ L[i].day ≤ 200000) (hm : ∀ i (hi : i + 1 < L.length), L[i].day ≤ L[i + 1].day) (h9 : (L[k]'(by omega)).day < 200000) :
    Rt (L.take k ++ [⟨(L[k]'(by omega)).day + 1, (L[k]'(by omega)).cents⟩]) ∧ duesE (L.take k ++ [⟨(L[k]'(by omega)).day + 1, (L[k]'(by omega)).cents⟩]) = 0 ∧ openM (L[k]'(by omega)).day L (L.take k ++ [⟨(L[k]'(by omega)).day + 1, (L[k]'(by omega)).cents⟩]) = (L[k]'(by omega)).cents ∧ (L.take k ++ [⟨(L[k]'(by omega)).day + 1, (L[k]'(by omega)).cents⟩] : List Du).length = k + 1 := by
  have hk' : k < L.length := by omega
  have hlt : (L.take k).length = k := by rw [List.length_take]; omega
  have hlen : (L.take k ++ [⟨(L[k]'(by omega)).day + 1, (L[k]'(by omega)).cents⟩] : List Du).length = k + 1 := by rw [List.length_append, hlt]; rfl
  have hck := hr _ (List.getElem_mem hk')
  have hle : ∀ d ∈ L, d.day ≤ L[k].day := by
    intro d m
    obtain ⟨i, hi, rfl⟩ := List.mem_iff_getElem.1 m
    have := mono_at hm (k - i) i (by omega)
    have e : i + (k - i) = k := by omega
    simpa [e] using this
  refine ⟨?_, ?_, ?_, hlen⟩
  · intro d m
    rcases List.mem_append.1 m with m | m
    · exact hr.take k d m
    · rw [List.mem_singleton.1 m]; exact hck
  · refine duesE_ok (by omega) (fun i hi => ?_) (fun i hi => ?_)
    · by_cases e : i < k
      · rw [List.getElem_append_left (by omega), List.getElem_take]
        have := hd i (by omega)
        have h2 := hr _ (List.getElem_mem (show i < L.length by omega))
        exact ⟨inB_yes this.1 this.2, inB_yes h2.1 h2.2⟩
      · have e2 : i = k := by omega
        subst e2
        rw [List.getElem_append_right (by omega)]
        simp only [hlt, Nat.sub_self, List.getElem_cons_zero]
        have := hd i (by omega)
        exact ⟨inB_yes (by show 0 ≤ L[i].day + 1; omega) (by show L[i].day + 1 ≤ 200000; omega), inB_yes hck.1 hck.2⟩
    · by_cases e : i + 1 < k
      · rw [List.getElem_append_left (by omega), List.getElem_append_left (by omega), List.getElem_take, List.getElem_take]
        exact hm i (by omega)
      · have e2 : i + 1 = k := by omega
        subst e2
        rw [List.getElem_append_left (by omega), List.getElem_append_right (by omega), List.getElem_take]
        simp only [hlt, Nat.sub_self, List.getElem_cons_zero]
        have := hm i (by omega)
        show L[i].day ≤ L[i + 1].day + 1
        omega
  · have e1 := begD_all hle
    have e2 : begD L[k].day (L.take k ++ [⟨L[k].day + 1, L[k].cents⟩]) = L.take k := by
      have := begD_at (t := L[k].day) (l := L.take k ++ [⟨L[k].day + 1, L[k].cents⟩]) (k := k) (by omega) (fun d m => by
        rw [List.take_append_of_le_length (by omega), List.take_take, Nat.min_self] at m
        exact hle d (List.mem_of_mem_take m)) (by
        rw [List.getElem_append_right (by omega)]
        simp only [hlt, Nat.sub_self, List.getElem_cons_zero]
        omega)
      rw [this, List.take_append_of_le_length (by omega), List.take_take, Nat.min_self]
    unfold openM
    rw [e1, e2]
    have e3 : sumD L = sumD (L.take k) + L[k].cents := by
      have := sumD_succ hk'
      rwa [List.take_of_length_le (by omega)] at this
    rw [e3]
    omega
end Go.Proofs.Ytcimceepkjpggaa
