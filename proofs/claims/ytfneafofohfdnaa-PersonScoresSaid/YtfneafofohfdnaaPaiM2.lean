/-
  Two names, both ways round: mathematics.
-/
import Derived.Test.YtfneafofohfdnaaDbd
namespace Go.Proofs.Ytfneafofohfdnaa
theorem cM_swap (x y : List Nat) : cM y x = fun i k => cM x y k i := by funext i k; unfold cM; rw [Nat.and_comm]
theorem ds_sym (x y : List Nat) : diM (cM y x) y.length x.length = diM (cM x y) x.length y.length := by rw [cM_swap]; exact diM_swap _ _
theorem cM_zA {x y : List Nat} (h : x.length = y.length) {j : Nat} (hj : j < x.length) : cM x y j j = 0 ↔ (zA x y)[j]'(by rw [zA_len h]; exact hj) ≠ 0 := by
  have hy : j < y.length := by omega
  rw [zA_get]
  unfold cM
  simp only [List.getD_eq_getElem?_getD, List.getElem?_eq_getElem hj, List.getElem?_eq_getElem hy, Option.getD_some]
  by_cases e : x[j] &&& y[j] = 0 <;> simp [e]
theorem ds_zero (x y : List Nat) : diM (cM x y) x.length y.length = 0 ↔ cmM x y ≠ none := by
  rw [diM_zero]
  unfold cmM
  constructor
  · rintro ⟨h1, h2⟩
    rw [if_pos]
    · simp
    · refine ⟨h1, fun m hm => ?_⟩
      obtain ⟨j, hj, rfl⟩ := List.mem_iff_getElem.1 hm
      have hj2 : j < x.length := by rw [zA_len h1] at hj; exact hj
      exact (cM_zA h1 hj2).1 (h2 j hj2)
  · intro h
    by_cases c : x.length = y.length ∧ ∀ m ∈ zA x y, m ≠ 0
    · refine ⟨c.1, fun j hj => (cM_zA c.1 hj).2 (c.2 _ (List.getElem_mem _))⟩
    · rw [if_neg c] at h; exact absurd rfl h
end Go.Proofs.Ytfneafofohfdnaa
