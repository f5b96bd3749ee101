/-
  Shares: mathematics.
-/
import Derived.Test.YtcimceepkjpggaaMnV
namespace Go.Proofs.Ytcimceepkjpggaa
open Go.RowKit Go.Sort Go.Lib
def sumL : List Int → Int
  | [] => 0
  | x :: l => x + sumL l
theorem sumL_app : ∀ a b : List Int, sumL (a ++ b) = sumL a + sumL b
  | [], b => by simp [sumL]
  | x :: a, b => by rw [List.cons_append, sumL, sumL, sumL_app a b]; omega
theorem sumL_succ {l : List Int} {k : Nat} (h : k < l.length) : sumL (l.take (k + 1)) = sumL (l.take k) + l[k] := by
  rw [List.take_succ_eq_append_getElem h, sumL_app]; simp [sumL]
theorem sumL_bd : ∀ {l : List Int} {M : Int}, (∀ u ∈ l, 0 ≤ u ∧ u ≤ M) → 0 ≤ sumL l ∧ sumL l ≤ l.length * M
  | [], M, _ => by simp [sumL]
  | x :: l, M, h => by
    have h1 := sumL_bd (l := l) (M := M) fun u m => h u (by simp [m])
    have h2 := h x (by simp)
    rw [sumL, List.length_cons]
    have e : ((l.length + 1 : Nat) : Int) * M = l.length * M + M := by rw [Int.natCast_succ, Int.add_mul]; omega
    omega
/-- whole parts and remainders -/
def qL (us : List Int) (c A : Int) : List Int := us.map fun u => c * u / A
def rL (us : List Int) (c A : Int) : List Int := us.map fun u => c * u % A
theorem sum_parts (c A : Int) : ∀ us : List Int, c * sumL us = A * sumL (qL us c A) + sumL (rL us c A)
  | [] => by simp [sumL, qL, rL]
  | u :: us => by
    have ih := sum_parts c A us
    have e := Int.mul_ediv_add_emod (c * u) A
    simp only [qL, rL, List.map_cons, sumL] at ih ⊢
    rw [Int.mul_add, Int.mul_add, ih]
    omega
/-- the cents that are left -/
def leftL (us : List Int) (c : Int) : Int := c - sumL (qL us c (sumL us))
theorem left_bd {us : List Int} {c : Int} (hA : 0 < sumL us) : 0 ≤ leftL us c ∧ leftL us c < us.length := by
  have h := sum_parts c (sumL us) us
  have hr := sumL_bd (l := rL us c (sumL us)) (M := sumL us - 1) (by
    intro r m
    obtain ⟨u, _, rfl⟩ := List.mem_map.1 m
    have h1 := Int.emod_nonneg (c * u) (show sumL us ≠ 0 by omega)
    have h2 := Int.emod_lt_of_pos (c * u) hA
    omega)
  have hl : (rL us c (sumL us)).length = us.length := by simp [rL]
  rw [hl] at hr
  have hne : 0 < us.length := by
    cases us with
    | nil => simp [sumL] at hA
    | cons => simp
  have e : sumL us * leftL us c = sumL (rL us c (sumL us)) := by unfold leftL; rw [Int.mul_sub, Int.mul_comm (sumL us) c]; omega
  have e2 : (us.length : Int) * (sumL us - 1) = us.length * sumL us - us.length := by rw [Int.mul_sub]; omega
  constructor
  · refine Classical.byContradiction fun hc => ?_
    have := Int.mul_le_mul_of_nonneg_left (show leftL us c ≤ -1 by omega) (Int.le_of_lt hA)
    omega
  · refine Classical.byContradiction fun hc => ?_
    have := Int.mul_le_mul_of_nonneg_left (show (us.length : Int) ≤ leftL us c by omega) (Int.le_of_lt hA)
    rw [Int.mul_comm (sumL us)] at this
    omega
theorem swo_cf (us : List Int) (c A : Int) (m : Nat) : SWO (ltOf (cfF us c A m)) := by
  have e : ∀ x y, ltOf (cfF us c A m) x y = decide (rmI us c A y.val < rmI us c A x.val) := by
    intro x y
    unfold ltOf cfF cmpI
    by_cases h : rmI us c A y.val < rmI us c A x.val
    · simp [h]
    · by_cases h2 : rmI us c A x.val < rmI us c A y.val <;> simp [h, h2]
  refine ⟨fun x => ?_, fun x y z h1 h2 => ?_, fun x y z h1 h2 => ?_⟩
  · rw [e]; simp
  · rw [e, decide_eq_true_eq] at *; omega
  · rw [e, decide_eq_false_iff_not] at *; omega
theorem ord_perm (us : List Int) (c A : Int) (m : Nat) : (ordA us c A m).size = m + 1 ∧ (ordA us c A m).toList.Perm (List.ofFn (n := m + 1) id) ∧ SortedIn (ltOf (cfF us c A m)) 0 (m + 1) (ordA us c A m) := by
  obtain ⟨⟨h1, _, h3⟩, h4⟩ := insertionSort_holds (swo_cf us c A m) (Array.ofFn (n := m + 1) id) 0 (m + 1) (by omega) (by simp)
  have hs : (ordA us c A m).size = m + 1 := by unfold ordA; rw [h1]; simp
  refine ⟨hs, ?_, h4⟩
  have e1 : (ordA us c A m).extract 0 (m + 1) = ordA us c A m := by
    have := Array.extract_size (xs := ordA us c A m)
    rwa [hs] at this
  have e2 : (Array.ofFn (n := m + 1) id).extract 0 (m + 1) = Array.ofFn id := by
    have := Array.extract_size (xs := Array.ofFn (n := m + 1) id)
    rwa [Array.size_ofFn] at this
  change ((ordA us c A m).extract 0 (m + 1)).toList.Perm _ at h3
  rw [e1, e2] at h3
  simpa using h3
theorem ord_nodup (us : List Int) (c A : Int) (m : Nat) : (ordA us c A m).toList.Nodup := by
  rw [(ord_perm us c A m).2.1.nodup_iff]
  rw [List.nodup_iff_pairwise_ne, List.pairwise_iff_getElem]
  intro i j hi hj hij
  rw [List.getElem_ofFn, List.getElem_ofFn]
  intro h
  have h2 : i = j := congrArg Fin.val h
  omega
/-- the numbers that get a cent more, of the first k in the order -/
def firstL (us : List Int) (c A : Int) (m k : Nat) : List Nat := ((ordA us c A m).toList.take k).map (fun x => x.val)
def bump (us : List Int) (c A : Int) (m k j : Nat) : Int := (qL us c A).getD j 0 + if j ∈ firstL us c A m k then 1 else 0
def shM (us : List Int) (c : Int) : List Int := (List.range us.length).map (bump us c (sumL us) (us.length - 1) (leftL us c).toNat)
theorem shM_len (us : List Int) (c : Int) : (shM us c).length = us.length := by simp [shM]
theorem shM_get (us : List Int) (c : Int) (i : Nat) (h : i < (shM us c).length) : (shM us c)[i] = bump us c (sumL us) (us.length - 1) (leftL us c).toNat i := by simp [shM]
theorem bump_zero (us : List Int) (c A : Int) (m j : Nat) : bump us c A m 0 j = (qL us c A).getD j 0 := by simp [bump, firstL]
/-- one more of the order -/
theorem bump_step (us : List Int) (c A : Int) (m k : Nat) (h : k < m + 1) : ∃ x : Nat, x < m + 1 ∧ ((ordA us c A m)[k]?).map (fun y => y.val) = some x ∧ (∀ y, (ordA us c A m)[k]? = some y → y.val = x) ∧ bump us c A m (k + 1) x = bump us c A m k x + 1 ∧ (∀ j, j ≠ x → bump us c A m (k + 1) j = bump us c A m k j) ∧ bump us c A m k x = (qL us c A).getD x 0 := by
  obtain ⟨hs, _, _⟩ := ord_perm us c A m
  have hk : k < (ordA us c A m).toList.length := by simpa [hs] using h
  have hnd := ord_nodup us c A m
  have hf : firstL us c A m (k + 1) = firstL us c A m k ++ [((ordA us c A m).toList[k]).val] := by
    unfold firstL
    rw [List.take_succ_eq_append_getElem hk, List.map_append]; rfl
  have hn : ((ordA us c A m).toList[k]).val ∉ firstL us c A m k := by
    unfold firstL
    intro hm
    obtain ⟨y, hy, he⟩ := List.mem_map.1 hm
    obtain ⟨i, hi, rfl⟩ := List.mem_iff_getElem.1 hy
    rw [List.length_take] at hi
    rw [List.getElem_take] at he
    rw [List.nodup_iff_pairwise_ne, List.pairwise_iff_getElem] at hnd
    exact hnd i k (by omega) hk (by omega) (Fin.ext he)
  have hg : (ordA us c A m)[k]? = some ((ordA us c A m).toList[k]) := by rw [← Array.getElem?_toList, List.getElem?_eq_getElem hk]
  generalize (ordA us c A m).toList[k] = X at *
  refine ⟨X.val, X.isLt, by rw [hg]; rfl, fun y hy => by rw [hg] at hy; cases hy; rfl, ?_, fun j hj => ?_, ?_⟩
  · unfold bump
    rw [hf, if_pos (by simp), if_neg hn]; omega
  · unfold bump
    rw [hf]
    by_cases hm : j ∈ firstL us c A m k
    · rw [if_pos (by simp [hm]), if_pos hm]
    · rw [if_neg (by simp [hm, hj]), if_neg hm]
  · unfold bump
    rw [if_neg hn]; omega
end Go.Proofs.Ytcimceepkjpggaa
