/-
  RuleSources returns true for every list of provisions, name and pair of days, in every world in which the list lies: the walks.
-/
import Derived.Test.YtpfekgmimfkjcaaGreatDoorLawSources
namespace Go.Proofs.YtpfekgmimfkjcaaGreatDoor
open Go.RowKit
attribute [local go_sem] set_drewN
/-- a pair of days lies in block B -/
def At2 (W : World) (B : Nat) (a0 a1 : Int) : Prop := B < W.heap.size ∧ W.cell? ⟨B, 0, none⟩ = some (.int .i64 a0) ∧ W.cell? ⟨B, 1, none⟩ = some (.int .i64 a1)
theorem At2.below {W W' : World} {B : Nat} {a0 a1 : Int} (h : At2 W B a0 a1) (hb : Below W.heap.size W W') : At2 W' B a0 a1 := by
  obtain ⟨hl, a, b⟩ := h
  exact ⟨Nat.lt_of_lt_of_le hl hb.size, (hb.cell hl).trans a, (hb.cell hl).trans b⟩
theorem At2.new (W : World) (a0 a1 : Int) : At2 (W.alloc (.cells #[.int .i64 a0, .int .i64 a1] 53)) W.heap.size a0 a1 := ⟨by simp, by simp [go_sem], by simp [go_sem]⟩
theorem cpE_pv {l : List Pv} (h : cpE l = 0) {i : Nat} (hi : i < l.length) : pvE l[i] = 0 := by
  by_cases h2 : 200 < l.length
  · unfold cpE at h; rw [if_pos h2] at h; cases h
  · by_cases hz : pvE l[i] = 0
    · exact hz
    · exfalso
      have hb := bE_bad hi rfl hz
      -- the first place with an error
      have key : ∀ n, n ≤ l.length → (∀ j, j < n → bE l j = 0) ∨ cpE l ≠ 0 := by
        intro n
        induction n with
        | zero => intro _; exact Or.inl (fun j hj => absurd hj (by omega))
        | succ n ih =>
          intro hn
          rcases ih (by omega) with ih | ih
          · by_cases hb0 : bE l n = 0
            · refine Or.inl (fun j hj => ?_)
              by_cases e : j = n
              · subst e; exact hb0
              · exact ih j (by omega)
            · exact Or.inr (by rw [cpE_no h2 (by omega) ih hb0]; exact hb0)
          · exact Or.inr ih
      rcases key l.length (Nat.le_refl _) with k | k
      · have := k i hi; rw [hb] at this; exact hz this
      · exact k h
theorem srcE_cp {l : List Pv} {a0 a1 : Int} (h : srcE l a0 a1 = 0) : cpE l = 0 := by
  by_cases e : cpE l = 0
  · exact e
  · rw [srcE_1 e] at h; exact h
theorem pv_value {p : Pv} (h : pvE p = 0) (hr : p.repeal = true) : p.value = 0 := by
  by_cases hv : p.value = 0
  · exact hv
  · exfalso
    cases h1 : nameB p.name
    · rw [pvE_1 h1] at h; cases h
    · cases h2 : inB p.value (-1000000000) 1000000000
      · rw [pvE_2 h1 (Or.inl h2)] at h; cases h
      · cases h3 : inB p.from' 0 200000
        · rw [pvE_2 h1 (Or.inr (Or.inl h3))] at h; cases h
        · cases h4 : inB p.entered 0 200000
          · rw [pvE_2 h1 (Or.inr (Or.inr h4))] at h; cases h
          · rw [pvE_3 h1 h2 h3 h4, hr] at h
            have : (true && p.value != 0) = true := by simpa using hv
            rw [this, eI_t] at h; cases h
end Go.Proofs.YtpfekgmimfkjcaaGreatDoor
