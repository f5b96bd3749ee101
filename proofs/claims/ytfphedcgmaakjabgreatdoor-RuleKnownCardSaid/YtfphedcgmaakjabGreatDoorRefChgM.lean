/-
  Sorted insertion; Has of the base over a list of days of one's own.
-/
import Derived.Test.YtfphedcgmaakjabGreatDoorChgM2
import Derived.Test.YtfphedcgmaakjabGreatDoorIterL
namespace Go.Proofs.YtfphedcgmaakjabGreatDoor
open Go.RowKit
attribute [local go_sem] set_drewN
theorem onc_len (l : List Int) : (once l).length ≤ l.length := by
  unfold once
  exact Nat.le_trans (compact_le _) (by rw [List.length_mergeSort]; exact Nat.le_refl _)
theorem once_dup {F : List Int} {x : Int} (h : x ∈ once F) : once (F ++ [x]) = once F := by
  obtain ⟨a1, a2⟩ := once_spec (F ++ [x])
  obtain ⟨b1, b2⟩ := once_spec F
  refine sorted_ext a1 b1 fun z => ?_
  rw [a2, b2, List.mem_append, List.mem_singleton]
  constructor
  · rintro (h' | rfl)
    · exact h'
    · exact (b2 _).1 h
  · exact Or.inl
theorem once_ins {F : List Int} {x : Int} {j : Nat} (hj : j ≤ (once F).length) (h1 : ∀ i (hi : i < (once F).length), j ≤ i → x < (once F)[i]) (h2 : ∀ i (hi : i < (once F).length), i < j → (once F)[i] < x) :
    (once F).take j ++ [x] ++ (once F).drop j = once (F ++ [x]) := by
  obtain ⟨a1, a2⟩ := once_spec (F ++ [x])
  obtain ⟨b1, b2⟩ := once_spec F
  generalize once F = L at *
  have ht : ∀ a ∈ L.take j, a < x := by
    intro a ha
    obtain ⟨i, hi, rfl⟩ := List.mem_iff_getElem.1 ha
    rw [List.length_take] at hi
    rw [List.getElem_take]
    exact h2 i (by omega) (by omega)
  have hd : ∀ a ∈ L.drop j, x < a := by
    intro a ha
    obtain ⟨i, hi, rfl⟩ := List.mem_iff_getElem.1 ha
    rw [List.length_drop] at hi
    rw [List.getElem_drop]
    exact h1 (j + i) (by omega) (by omega)
  have sp := b1
  rw [← List.take_append_drop j L, List.pairwise_append] at sp
  refine sorted_ext ?_ a1 fun z => ?_
  · rw [List.append_assoc, List.pairwise_append]
    refine ⟨sp.1, ?_, ?_⟩
    · rw [List.pairwise_append]
      exact ⟨by simp, sp.2.1, fun a ha b hb => by rw [List.mem_singleton] at ha; subst ha; exact hd b hb⟩
    · intro a ha b hb
      rcases List.mem_append.1 hb with hb | hb
      · rw [List.mem_singleton] at hb; subst hb; exact ht a ha
      · have := ht a ha; have := hd b hb; omega
  · rw [a2, List.mem_append, List.mem_append, List.mem_singleton, List.mem_append, List.mem_singleton, ← b2]
    constructor
    · rintro ((h | h) | h)
      · exact Or.inl (List.mem_of_mem_take h)
      · exact Or.inr h
      · exact Or.inl (List.mem_of_mem_drop h)
    · rintro (h | h)
      · rw [← List.take_append_drop j L] at h
        rcases List.mem_append.1 h with h | h
        · exact Or.inl (Or.inl h)
        · exact Or.inr h
      · exact Or.inl (Or.inr h)
end Go.Proofs.YtfphedcgmaakjabGreatDoor
