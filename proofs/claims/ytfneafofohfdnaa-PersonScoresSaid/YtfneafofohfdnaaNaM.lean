/-
  How many readings a name has, and which: as lists alone. No program is named here.
-/
import Derived.Test.YtfneafofohfdnaaPsN
namespace Go.Proofs.Ytfneafofohfdnaa
theorem snocRec {α : Type} {p : List α → Prop} (nil : p []) (snoc : ∀ M m, p M → p (M ++ [m])) (M : List α) : p M := by
  have h : ∀ n (M : List α), M.length = n → p M := by
    intro n
    induction n with
    | zero => intro M hM; rw [List.length_eq_zero_iff.1 hM]; exact nil
    | succ n ih =>
      intro M hM
      have hne : M ≠ [] := fun e => by rw [e] at hM; simp at hM
      rw [← List.dropLast_concat_getLast hne]
      exact snoc _ _ (ih _ (by rw [List.length_dropLast]; omega))
  exact h _ M rfl
/-- the number of readings, or a number above 1000000 -/
def ctF : List Nat → Nat → Nat
  | [], n => n
  | m :: M, n => if n ≤ 1000000 then ctF M (n * (lets m).length) else n
def ctM (M : List Nat) : Nat := ctF M 1
theorem ctF_big : ∀ (M : List Nat) {n : Nat}, 1000000 < n → ctF M n = n
  | [], _, _ => rfl
  | _ :: _, _, h => by unfold ctF; rw [if_neg (by omega)]
theorem ctF_app : ∀ (M L : List Nat) (n : Nat), ctF (M ++ L) n = ctF L (ctF M n)
  | [], _, _ => rfl
  | m :: M, L, n => by
    show (if n ≤ 1000000 then ctF (M ++ L) (n * (lets m).length) else n) = ctF L (if n ≤ 1000000 then ctF M (n * (lets m).length) else n)
    by_cases h : n ≤ 1000000
    · rw [if_pos h, if_pos h]
      exact ctF_app M L _
    · rw [if_neg h, if_neg h, ctF_big L (by omega)]
theorem ctM_snoc {M : List Nat} {m : Nat} (h : ctM M ≤ 1000000) : ctM (M ++ [m]) = ctM M * (lets m).length := by
  unfold ctM at *
  rw [ctF_app]
  show (if ctF M 1 ≤ 1000000 then ctF [] (ctF M 1 * (lets m).length) else ctF M 1) = _
  rw [if_pos h]; rfl
theorem ctM_big {M : List Nat} (h : 1000000 < ctM M) (L : List Nat) : ctM (M ++ L) = ctM M := by
  unfold ctM at *
  rw [ctF_app, ctF_big _ h]
/-- texts with each letter of a sign behind each of them -/
def bhM (m : Nat) (T : List (List UInt8)) : List (List UInt8) := T.flatMap fun t => (lets m).map fun c => t ++ [c]
def rdgM (M : List Nat) : List (List UInt8) := M.foldl (fun T m => bhM m T) [[]]
theorem rdgM_snoc (M : List Nat) (m : Nat) : rdgM (M ++ [m]) = bhM m (rdgM M) := by simp [rdgM, List.foldl_append]
theorem bhM_len (m : Nat) (T : List (List UInt8)) : (bhM m T).length = T.length * (lets m).length := by
  unfold bhM
  induction T with
  | nil => simp
  | cons t T ih => rw [List.flatMap_cons, List.length_append, ih, List.length_map, List.length_cons, Nat.add_mul]; omega
theorem bhM_take {m : Nat} {T : List (List UInt8)} {k : Nat} (h : k < T.length) : bhM m (T.take (k + 1)) = bhM m (T.take k) ++ (lets m).map (fun c => T[k] ++ [c]) := by
  rw [List.take_succ_eq_append_getElem h]
  unfold bhM
  rw [List.flatMap_append]
  simp
theorem rdgM_len_le : ∀ (M : List Nat), ctM M ≤ 1000000 → (∀ m ∈ M, okM m) → (rdgM M).length = ctM M := by
  intro M
  induction M using snocRec with
  | nil => intro _ _; rfl
  | snoc M m ih =>
    intro h hk
    have h1 : ctM M ≤ 1000000 := by
      rcases Nat.lt_or_ge 1000000 (ctM M) with g | g
      · rw [ctM_big g] at h; omega
      · exact g
    rw [rdgM_snoc, bhM_len, ih h1 (fun x hx => hk x (by simp [hx])), ctM_snoc h1]
theorem lets_pos {m : Nat} (h : okM m) : 1 ≤ (lets m).length := by
  have := lets_ne h.2 (by have := h.1; omega)
  cases hl : lets m with
  | nil => exact absurd hl this
  | cons a b => simp
/-- the readings so far are no more than all of them -/
theorem ctM_mono (L M : List Nat) (hL : ∀ m ∈ L, okM m) (h : ctM (M ++ L) ≤ 1000000) : ctM M ≤ ctM (M ++ L) := by
  induction L using snocRec with
  | nil => simp
  | snoc L m ih =>
    rw [← List.append_assoc] at h ⊢
    have h1 : ctM (M ++ L) ≤ 1000000 := by
      rcases Nat.lt_or_ge 1000000 (ctM (M ++ L)) with g | g
      · rw [ctM_big g] at h; omega
      · exact g
    have h2 := ih (fun x hx => hL x (by simp [hx])) h1
    rw [ctM_snoc h1]
    have := lets_pos (hL m (by simp))
    exact Nat.le_trans h2 (Nat.le_mul_of_pos_right _ this)
theorem rdg_el (M : List Nat) : ∀ t ∈ rdgM M, t.length = M.length := by
  induction M using snocRec with
  | nil => intro t ht; simp [rdgM] at ht; subst ht; rfl
  | snoc M m ih =>
    intro t ht
    rw [rdgM_snoc] at ht
    unfold bhM at ht
    obtain ⟨s, hs, h⟩ := List.mem_flatMap.1 ht
    obtain ⟨c, _, e⟩ := List.mem_map.1 h
    subst e
    simp [ih s hs]
/-- the letters that two signs have in common -/
theorem lets_and (m k : Nat) : (lets m).filter (fun c => decide (c ∈ lets k)) = lets (m &&& k) := by
  refine pw_ext ((lets_pw m).sublist (List.filter_sublist)) (lets_pw _) (fun c => ?_)
  rw [List.mem_filter, decide_eq_true_eq, lets_mem, lets_mem, lets_mem, Nat.testBit_and, Bool.and_eq_true]
  constructor
  · rintro ⟨⟨a, b⟩, _, d⟩; exact ⟨a, b, d⟩
  · rintro ⟨a, b, d⟩; exact ⟨⟨a, b⟩, a, d⟩
end Go.Proofs.Ytfneafofohfdnaa
