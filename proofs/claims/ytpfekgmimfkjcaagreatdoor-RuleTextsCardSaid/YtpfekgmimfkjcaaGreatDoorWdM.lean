/-
  What words tells of a text: facts on lists, no program.
-/
import Derived.Test.YtpfekgmimfkjcaaGreatDoorReadM
namespace Go.Proofs.YtpfekgmimfkjcaaGreatDoor
/-- what words tells of a text -/
def wdB (s : ByteArray) : Bool := decide (rpE s = 0)
theorem wd_no {s : ByteArray} (h : 200 < s.size ∨ rdP s.data.toList = none) : wdB s = false ∧ rpP s = pv0 := by
  by_cases h2 : 200 < s.size
  · obtain ⟨a, b⟩ := rp_long h2
    exact ⟨by unfold wdB; rw [a]; rfl, b⟩
  · rcases h with h | h
    · exact absurd h h2
    · obtain ⟨a, b⟩ := rp_none h2 h
      exact ⟨by unfold wdB; rw [a]; rfl, b⟩
theorem wd_yes {s : ByteArray} {p : Pv} (h : ¬ 200 < s.size) (hr : rdP s.data.toList = some p) : wdB s = true ∧ rpP s = p := by
  obtain ⟨a, b⟩ := rp_some h hr
  exact ⟨by unfold wdB; rw [a]; rfl, b⟩
theorem spl_sub {c x : UInt8} : ∀ (s y : List UInt8), y ∈ spl c s → x ∈ y → x ∈ s
  | [], y, h, hx => by simp [spl] at h; subst h; cases hx
  | b :: r, y, h, hx => by
    unfold spl at h
    split at h
    · rcases List.mem_cons.1 h with h | h
      · subst h; cases hx
      · exact List.mem_cons_of_mem _ (spl_sub r y h hx)
    · rcases List.mem_cons.1 h with h | h
      · subst h
        have hm : (spl c r).headD [] ∈ spl c r := by
          cases hs : spl c r with
          | nil => exact absurd hs (spl_ne c r)
          | cons y t => simp
        rcases List.mem_cons.1 hx with h | h
        · simp [h]
        · exact List.mem_cons_of_mem _ (spl_sub r _ hm h)
      · exact List.mem_cons_of_mem _ (spl_sub r y (List.mem_of_mem_tail h) hx)
end Go.Proofs.YtpfekgmimfkjcaaGreatDoor
