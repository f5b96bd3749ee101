/-
  The last change by a day has what the name has on that day. Plain mathematics.
-/
import Derived.Test.YtfphedcgmaakjaaChgM
namespace Go.Proofs.Ytfphedcgmaakjaa
open Go.RowKit
theorem cut_at {L : List Int} (hs : L.Pairwise (· < ·)) (a : Int) : ∀ n, n ≤ L.length → ∃ m, m ≤ n ∧ (∀ j, j < m → L.getD j 0 ≤ a) ∧ (∀ j, m ≤ j → j < n → a < L.getD j 0)
  | 0, _ => ⟨0, Nat.le_refl _, fun j h => absurd h (by omega), fun j _ h => absurd h (by omega)⟩
  | n + 1, hn => by
    obtain ⟨m, h1, h2, h3⟩ := cut_at hs a n (by omega)
    by_cases hle : L.getD n 0 ≤ a
    · refine ⟨n + 1, Nat.le_refl _, fun j hj => ?_, fun j h1 h2 => absurd h2 (by omega)⟩
      by_cases e : j = n
      · rw [e]; exact hle
      · have := (List.pairwise_iff_getElem.1 hs) j n (by omega) (by omega) (by omega)
        have e1 : L.getD j 0 = L[j] := by rw [List.getD_eq_getElem?_getD, List.getElem?_eq_getElem (by omega)]; rfl
        have e2 : L.getD n 0 = L[n] := by rw [List.getD_eq_getElem?_getD, List.getElem?_eq_getElem (by omega)]; rfl
        omega
    · refine ⟨m, by omega, h2, fun j hj hjn => ?_⟩
      by_cases e : j = n
      · rw [e]; omega
      · exact h3 j hj (by omega)
theorem chk_days (H : Int → Int × Bool) (L : List Int) : ∀ k c, c ∈ chk H L k → ∃ j, j < k ∧ c.1 = L.getD j 0
  | 0, c, h => by simp [chk] at h
  | k + 1, c, h => by
    rw [chk, List.mem_append] at h
    rcases h with h | h
    · obtain ⟨j, hj, e⟩ := chk_days H L k c h
      exact ⟨j, by omega, e⟩
    · split at h
      · cases h
      · rw [List.mem_singleton] at h; subst h; exact ⟨k, by omega, rfl⟩
theorem chk_split (H : Int → Int × Bool) (L : List Int) (m : Nat) : ∀ k, ∃ R, chk H L (m + k) = chk H L m ++ R ∧ ∀ c ∈ R, ∃ j, m ≤ j ∧ j < m + k ∧ c.1 = L.getD j 0
  | 0 => ⟨[], by simp, by simp⟩
  | k + 1 => by
    obtain ⟨R, e, h⟩ := chk_split H L m k
    refine ⟨R ++ (if H (L.getD (m + k) 0) = prv H L (m + k) then [] else [(L.getD (m + k) 0, H (L.getD (m + k) 0))]), ?_, fun c hc => ?_⟩
    · rw [← Nat.add_assoc, chk, e, List.append_assoc]
    · rcases List.mem_append.1 hc with hc | hc
      · obtain ⟨j, a, b, d⟩ := h c hc
        exact ⟨j, a, by omega, d⟩
      · split at hc
        · cases hc
        · rw [List.mem_singleton] at hc; subst hc; exact ⟨m + k, by omega, by omega, rfl⟩
theorem twc {a : Int} : ∀ {A B : List (Int × Int × Bool)}, (∀ c ∈ A, c.1 ≤ a) → (∀ c, B.head? = some c → a < c.1) → (A ++ B).takeWhile (fun c => decide (c.1 ≤ a)) = A
  | [], [], _, _ => rfl
  | [], b :: B, _, h => by
    have := h b rfl
    rw [List.nil_append, List.takeWhile_cons, if_neg (by simp; omega)]
  | c :: A, B, h1, h2 => by
    have := h1 c (by simp)
    rw [List.cons_append, List.takeWhile_cons, if_pos (by simpa using this), twc (fun x hx => h1 x (by simp [hx])) h2]
theorem last_at {l : List Pv} {nm : ByteArray} {known a : Int} {j : Nat} (h1 : ∀ c ∈ (chk (hv l nm known) (once (frs l nm known)) (once (frs l nm known)).length).take j, c.1 ≤ a)
    (h2 : ∀ c, ((chk (hv l nm known) (once (frs l nm known)) (once (frs l nm known)).length).drop j).head? = some c → a < c.1) :
    lastC ((chk (hv l nm known) (once (frs l nm known)) (once (frs l nm known)).length).take j) = hv l nm known a := by
  obtain ⟨m, hm, g1, g2⟩ := cut_at (once_spec (frs l nm known)).1 a _ (Nat.le_refl _)
  rw [hv_at hm g1 g2, ← lastC_chk]
  congr 1
  obtain ⟨R, e, hR⟩ := chk_split (hv l nm known) (once (frs l nm known)) m ((once (frs l nm known)).length - m)
  rw [show m + ((once (frs l nm known)).length - m) = (once (frs l nm known)).length from by omega] at e
  have t1 := twc h1 h2
  rw [List.take_append_drop] at t1
  rw [← t1, e]
  refine twc (fun c hc => ?_) (fun c hc => ?_)
  · obtain ⟨i, hi, q⟩ := chk_days _ _ _ c hc
    rw [q]; exact g1 i hi
  · obtain ⟨i, q1, q2, q3⟩ := hR c (List.mem_of_mem_head? hc)
    rw [q3]; exact g2 i q1 (by omega)
end Go.Proofs.Ytfphedcgmaakjaa
