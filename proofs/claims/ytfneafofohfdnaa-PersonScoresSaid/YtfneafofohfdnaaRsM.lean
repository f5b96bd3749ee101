/-
  The signs of a name as the specification reads them, against those of the program; plain mathematics, no program.
-/
import Derived.Test.YtfneafofohfdnaaPsN
namespace Go.Proofs.Ytfneafofohfdnaa
instance setDec (t : List UInt8) : Decidable (setB t) := by unfold setB; infer_instance
theorem letsK_full (m : Nat) : ∀ k, (letsK m k).length = k → ∀ i, i < k → m.testBit i = true
  | 0, _, i, h => absurd h (by omega)
  | k + 1, h, i, hi => by
    have h1 := letsK_len m k
    rw [letsK, List.length_append] at h
    by_cases hb : m.testBit k = true
    · rw [if_pos hb] at h
      have h2 : (letsK m k).length = k := by simpa using h
      by_cases e : i = k
      · rw [e]; exact hb
      · exact letsK_full m k h2 i (by omega)
    · rw [if_neg hb] at h
      simp at h
      omega
theorem full_any {m : Nat} (hm : m < 2 ^ 53) (h : (lets m).length = 53) : m = anyM := by
  refine lets_inj hm any_lt ?_
  rw [lets_any]
  refine pw_ext (lets_pw m) (by rw [← lets_any]; exact lets_pw _) (fun c => ?_)
  rw [lets_mem, ← pl_mem]
  exact ⟨fun h => h.1, fun hc => ⟨hc, letsK_full m 53 h _ hc⟩⟩
/-- a sign in brackets -/
theorem rdS_br (a : List UInt8) : rdS (91 :: (a ++ [93])) = (msk a, decide (setB a ∧ 2 ≤ a.length ∧ a.length < 53)) := by
  have hq : (91 :: (a ++ [93]) : List UInt8) ≠ [63] := by simp
  unfold rdS
  rw [if_neg hq, msk_br]
  congr 1
  have hm := msk_lt a
  by_cases h : setB a ∧ 2 ≤ a.length ∧ a.length < 53
  · obtain ⟨h1, h2, h3⟩ := h
    have hl := lets_msk h1
    have e0 : msk a ≠ 0 := fun e => by rw [e, lets_zero] at hl; rw [← hl] at h2; simp at h2
    have ea : msk a ≠ anyM := fun e => by rw [e, lets_any] at hl; rw [← hl] at h3; simp [AB] at h3
    have et : txt (msk a) = 91 :: (a ++ [93]) := by unfold txt; rw [hl, if_neg (by omega), if_neg ea]
    rw [decide_eq_true e0, decide_eq_true et, decide_eq_true ⟨h1, h2, h3⟩]; rfl
  · rw [decide_eq_false h]
    rw [Bool.and_eq_false_iff]
    by_cases e0 : msk a = 0
    · left; simp [e0]
    · right
      rw [decide_eq_false_iff_not]
      intro et
      apply h
      unfold txt at et
      by_cases h1 : (lets (msk a)).length = 1
      · rw [if_pos h1] at et
        have := (lets_set (msk a)).1 91 (by rw [et]; simp)
        exact absurd this (by decide)
      · rw [if_neg h1] at et
        by_cases ha : msk a = anyM
        · rw [if_pos ha] at et; simp at et
        · rw [if_neg ha] at et
          have e : lets (msk a) = a := by simpa using et
          have hne := lets_ne hm e0
          have hs := lets_set (msk a)
          have h53 := lets_len (msk a)
          rw [e] at h1 hne hs h53
          refine ⟨hs, ?_, ?_⟩
          · have := List.length_pos_iff.2 hne; omega
          · by_cases g : a.length = 53
            · exact absurd (full_any hm (by rw [e]; exact g)) ha
            · omega
theorem lets_br {a : List UInt8} (h : setB a) : lets (msk a) = a := lets_msk h
/-- a bracket that is not closed -/
theorem rdS_open {r : List UInt8} (h : (93 : UInt8) ∉ r) : (rdS (91 :: r)).2 = false := by
  cases hk : (rdS (91 :: r)).2
  · rfl
  · obtain ⟨_, e⟩ := rdS_ok hk
    exfalso
    unfold txt at e
    by_cases h1 : (lets (rdS (91 :: r)).1).length = 1
    · rw [if_pos h1] at e
      have := (lets_set (rdS (91 :: r)).1).1 91 (by rw [e]; simp)
      exact absurd this (by decide)
    · rw [if_neg h1] at e
      by_cases ha : (rdS (91 :: r)).1 = anyM
      · rw [if_pos ha] at e; simp at e
      · rw [if_neg ha] at e
        have e2 : lets (rdS (91 :: r)).1 ++ [93] = r := by simpa using e
        exact h (by rw [← e2]; simp)
/-- a letter alone -/
theorem rdS_one {c : UInt8} (h : c ≠ 63) : rdS [c] = (msk [c], decide (c ∈ AB)) := by
  have hq : [c] ≠ [63] := by simpa using h
  unfold rdS
  rw [if_neg hq]
  congr 1
  by_cases hc : c ∈ AB
  · obtain ⟨e1, e2⟩ := one_ok hc
    rw [e1, decide_eq_true e2, decide_eq_true hc]; simp
  · rw [decide_eq_false hc]
    have : msk [c] = 0 := by
      have hp : ¬ pl c < 53 := fun h => hc (pl_mem.1 h)
      show (if pl c < 53 then 0 ||| 2 ^ pl c else 0) = 0
      rw [if_neg hp]
    rw [this]; simp
theorem lets_one {c : UInt8} (h : c ∈ AB) : lets (msk [c]) = [c] := lets_msk ⟨by simpa using h, by simp⟩
theorem setB_snoc {t : List UInt8} {c : UInt8} (h : setB t) (hc : c ∈ AB) (hl : ∀ x, t.getLast? = some x → x < c) : setB (t ++ [c]) := by
  refine ⟨fun d hd => ?_, ?_⟩
  · rcases List.mem_append.1 hd with e | e
    · exact h.1 d e
    · rw [List.mem_singleton.1 e]; exact hc
  · rw [List.pairwise_append]
    refine ⟨h.2, by simp, fun a ha b hb => ?_⟩
    rw [List.mem_singleton.1 hb]
    have hne : t ≠ [] := fun e => by rw [e] at ha; cases ha
    have hx := hl _ (List.getLast?_eq_some_getLast hne)
    by_cases e : a = t.getLast hne
    · rw [e]; exact hx
    · refine lt_tr ?_ hx
      have hs := List.dropLast_concat_getLast hne
      have hp := h.2
      rw [← hs, List.pairwise_append] at hp
      refine hp.2.2 a ?_ _ (by simp)
      rw [← hs] at ha
      rcases List.mem_append.1 ha with e' | e'
      · exact e'
      · exact absurd (List.mem_singleton.1 e') e
theorem setB_take {s : List UInt8} (h : setB s) (k : Nat) : setB (s.take k) := ⟨fun c hc => h.1 c (List.mem_of_mem_take hc), List.Pairwise.sublist (List.take_sublist k s) h.2⟩
theorem setB_adj {s : List UInt8} (h : setB s) {i j : Nat} (hi : i < s.length) (hj : j < s.length) (hij : i < j) : s[i] < s[j] := List.pairwise_iff_getElem.1 h.2 i j hi hj hij
end Go.Proofs.Ytfneafofohfdnaa
