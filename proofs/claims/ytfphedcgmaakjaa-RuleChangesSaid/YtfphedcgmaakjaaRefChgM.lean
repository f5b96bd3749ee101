/-
  Sorted insertion; Has of the base over a list of days of one's own.
-/
import Derived.Test.YtfphedcgmaakjaaChgM
import Derived.Test.YtfphedcgmaakjaaIterL
namespace Go.Proofs.Ytfphedcgmaakjaa
open Go.RowKit
attribute [local go_sem] set_drewN
theorem onc_len (l : List Int) : (once l).length ≤ l.length := by
  unfold once
  exact Nat.le_trans (compact_le _) (by rw [List.length_mergeSort]; exact Nat.le_refl _)
theorem once_dup {F : List Int} {x : Int} (h : x ∈ once F) : once (F ++ [x]) = once F := by
  obtain ⟨a1, a2⟩ := once_spec (F ++ [x])
  obtain ⟨b1, b2⟩ := once_spec F
  refine sorted_ext a1 b1 fun z => ?_
  rw [a2, b2, List.mem_append, List.mem_singleton]
  constructor
  · rintro (h' | rfl)
    · exact h'
    · exact (b2 _).1 h
  · exact Or.inl
theorem once_ins {F : List Int} {x : Int} {j : Nat} (hj : j ≤ (once F).length) (h1 : ∀ i (hi : i < (once F).length), j ≤ i → x < (once F)[i]) (h2 : ∀ i (hi : i < (once F).length), i < j → (once F)[i] < x) :
    (once F).take j ++ [x] ++ (once F).drop j = once (F ++ [x]) := by
  obtain ⟨a1, a2⟩ := once_spec (F ++ [x])
  obtain ⟨b1, b2⟩ := once_spec F
  generalize once F = L at *
  have ht : ∀ a ∈ L.take j, a < x := by
    intro a ha
    obtain ⟨i, hi, rfl⟩ := List.mem_iff_getElem.1 ha
    rw [List.length_take] at hi
    rw [List.getElem_take]
    exact h2 i (by omega) (by omega)
  have hd : ∀ a ∈ L.drop j, x < a := by
    intro a ha
    obtain ⟨i, hi, rfl⟩ := List.mem_iff_getElem.1 ha
    rw [List.length_drop] at hi
    rw [List.getElem_drop]
    exact h1 (j + i) (by omega) (by omega)
  have sp := b1
  rw [← List.take_append_drop j L, List.pairwise_append] at sp
  refine sorted_ext ?_ a1 fun z => ?_
  · rw [List.append_assoc, List.pairwise_append]
    refine ⟨sp.1, ?_, ?_⟩
    · rw [List.pairwise_append]
      exact ⟨by simp, sp.2.1, fun a ha b hb => by rw [List.mem_singleton] at ha; subst ha; exact hd b hb⟩
    · intro a ha b hb
      rcases List.mem_append.1 hb with hb | hb
      · rw [List.mem_singleton] at hb; subst hb; exact ht a ha
      · have := ht a ha; have := hd b hb; omega
  · rw [a2, List.mem_append, List.mem_append, List.mem_singleton, List.mem_append, List.mem_singleton, ← b2]
    constructor
    · rintro ((h | h) | h)
      · exact Or.inl (List.mem_of_mem_take h)
      · exact Or.inr h
      · exact Or.inl (List.mem_of_mem_drop h)
    · rintro (h | h)
      · rw [← List.take_append_drop j L] at h
        rcases List.mem_append.1 h with h | h
        · exact Or.inl (Or.inl h)
        · exact Or.inr h
      · exact Or.inl (Or.inr h)
set_option maxRecDepth 100000 in
theorem bHas_closed {W : World} {n0 : Nat} {v : Value} {L : List Int} (h : Closed W n0 v L) (hl : L.length ≤ 1000) (x : Int) (r : Bool) (hr : decide (x ∈ L) = r) :
    Calls Try.prog 95 #[v, .int .i64 x] W (RetB (.bool r) W) := by
  rcases h with ⟨rfl, rfl⟩ | ⟨g, c, rfl, h1, h2, h3⟩
  · obtain rfl : r = false := by rw [← hr]; simp
    go_enter Try.func95, Try.ntmps95
    go_wp2
    go_loop [5] (fun i => i = .int .i64 0) (fun _ => 0)
    case atStart => exact rfl
    case round =>
      obtain rfl := hrel
      go_wp2
      go_ret
      exact ⟨rfl, Below.refl _ _⟩
  · have H3 := Lib.hid h3
    have HR := Lib.hid hr
    clear h3 hr
    go_enter Try.func95, Try.ntmps95
    go_wp2
    go_loopw [5] (fun i wr => ∃ k : Nat, k ≤ L.length ∧ i = .int .i64 k ∧ (∀ j (hj : j < L.length), j < k → L[j] ≠ x) ∧ Below W.heap.size W wr) (fun i _ => L.length - (intOf i).toNat)
    case atStart => exact ⟨0, Nat.zero_le _, rfl, fun j _ h => absurd h (by omega), Below.refl _ _⟩
    case round =>
      obtain ⟨k, hk, rfl, hall, hB⟩ := hrel
      have HA := Lib.hid hall
      clear hall
      by_cases hlt : k < L.length
      · have a1 := (hB.cell (p := ⟨g, 0 + k, none⟩) h2).trans (H3.out k hlt)
        rw [Nat.zero_add] at a1
        by_cases he : L[k] = x
        · have hm : x ∈ L := by rw [← he]; exact List.getElem_mem hlt
          obtain rfl : r = true := by rw [← HR.out]; simpa using hm
          rw [he] at a1
          clear hm he
          go_wp2
          go_ret
          exact ⟨rfl, hB⟩
        · have ext : ∀ j (hj : j < L.length), j < k + 1 → L[j] ≠ x := by
            intro j hj hjk
            by_cases e : j = k
            · subst e; exact he
            · exact HA.out j hj (by omega)
          have EX := Lib.hid ext
          have he' : (L[k] == x) = false := by simpa using he
          clear ext he
          generalize L[k] = X at *
          go_wp2
          go_roundw
          case rel => exact ⟨k + 1, by omega, by go_num, EX.out, hB⟩
          case measure => simp [intOf]; omega
      · have hm : ¬ x ∈ L := by
          intro c
          obtain ⟨j, hj, e⟩ := List.mem_iff_getElem.1 c
          exact HA.out j hj (by omega) e
        obtain rfl : r = false := by rw [← HR.out]; simpa using hm
        clear hm
        go_wp2
        go_ret
        exact ⟨rfl, hB⟩
end Go.Proofs.Ytfphedcgmaakjaa
