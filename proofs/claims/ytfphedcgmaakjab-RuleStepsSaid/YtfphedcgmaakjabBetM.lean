/-
  How many right days there are between two days. Plain mathematics.
-/
import Derived.Test.YtfphedcgmaakjabWork
namespace Go.Proofs.Ytfphedcgmaakjab
open Go.RowKit
/-- the right days among k days from a day on -/
def dl (P : Int → Bool) (a : Int) : Nat → List Int
  | 0 => []
  | k + 1 => dl P a k ++ (if P (a + k) then [a + k] else [])
theorem dl_add (P : Int → Bool) (a : Int) (j : Nat) : ∀ k, dl P a (j + k) = dl P a j ++ dl P (a + j) k
  | 0 => by simp [dl]
  | k + 1 => by
    rw [← Nat.add_assoc, dl, dl, dl_add P a j k, List.append_assoc]
    have : a + ((j + k : Nat) : Int) = a + j + k := by omega
    rw [this]
theorem dl_in (P : Int → Bool) (a : Int) : ∀ k x, x ∈ dl P a k → a ≤ x ∧ x < a + k
  | 0, x, h => by simp [dl] at h
  | k + 1, x, h => by
    rw [dl, List.mem_append] at h
    rcases h with h | h
    · have := dl_in P a k x h; omega
    · split at h
      · rw [List.mem_singleton] at h; omega
      · cases h
theorem dl_len (P : Int → Bool) (a : Int) : ∀ k, (dl P a k).length ≤ k
  | 0 => Nat.le_refl _
  | k + 1 => by
    have := dl_len P a k
    rw [dl, List.length_append]
    split <;> simp <;> omega
theorem wg_dl (P : Int → Bool) (a : Int) (K : Nat) (h0 : 0 ≤ a) : ∀ k : Nat, a + k ≤ 200001 → k ≤ K → wg P 1 K a = dl P a k ++ wg P 1 (K - k) (a + k)
  | 0, _, _ => by simp [dl]
  | k + 1, h1, h2 => by
    have hin : inB (a + k) 0 200000 = true := inB_iff.2 ⟨by omega, by omega⟩
    rw [wg_dl P a K h0 k (by omega) (by omega), dl, List.append_assoc, show K - k = (K - (k + 1)) + 1 from by omega]
    congr 1
    cases hp : P (a + k)
    · rw [wg_no _ hin hp]; simp [Int.add_assoc]
    · rw [wg_yes _ hin hp]; simp [Int.add_assoc]
theorem wg_ge {P : Int → Bool} : ∀ k d x, x ∈ wg P 1 k d → d ≤ x
  | 0, d, x, h => by simp [wg] at h
  | k + 1, d, x, h => by
    cases hin : inB d 0 200000
    · rw [wg_out _ hin] at h; simp at h
    · cases hp : P d
      · rw [wg_no _ hin hp] at h; have := wg_ge k _ x h; omega
      · rw [wg_yes _ hin hp] at h
        rcases List.mem_cons.1 h with e | h
        · omega
        · have := wg_ge k _ x h; omega
theorem tw {t : Int} : ∀ {A B : List Int}, (∀ x ∈ A, x < t) → (∀ x, B.head? = some x → t ≤ x) → (A ++ B).takeWhile (fun x => decide (x < t)) = A
  | [], [], _, _ => rfl
  | [], b :: B, _, h => by
    have := h b rfl
    rw [List.nil_append, List.takeWhile_cons, if_neg (by simpa using this)]
  | a :: A, B, h1, h2 => by
    have := h1 a (by simp)
    rw [List.cons_append, List.takeWhile_cons, if_pos (by simpa using this), tw (fun x hx => h1 x (by simp [hx])) h2]
/-- what has been gone through up to a day -/
theorem bet_of {P : Int → Bool} {a t : Int} {pre r : List Int} (h0 : 0 ≤ a) (hat : a ≤ t) (ht : t ≤ 200000) (he : pre ++ r = wg P 1 200001 a) (hp : ∀ x ∈ pre, x < t) (hr : ∀ x, r.head? = some x → t ≤ x) : pre = dl P a (t - a).toNat := by
  have e1 := wg_dl P a 200001 h0 (t - a).toNat (by omega) (by omega)
  have e2 := tw hp hr
  rw [he, e1, tw (fun x hx => by have := dl_in P a _ x hx; omega) (fun x hx => by
    have := wg_ge _ _ x (List.mem_of_mem_head? hx); omega)] at e2
  exact e2.symm
end Go.Proofs.Ytfphedcgmaakjab
