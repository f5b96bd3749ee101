/-
  Names with one sign more; the distance of three names, one without doubtful signs.
-/
import Derived.Test.YtfneafofohfdnaaDbd
import Derived.Test.YtfneafofohfdnaaCnt
namespace Go.Proofs.Ytfneafofohfdnaa
open Go.RowKit
/-- the sign of the letter x -/
def mX : Nat := msk [120]
theorem mX_txt : txt mX = [120] := by decide +kernel
theorem mX_ok : okM mX := by unfold okM; decide +kernel
theorem rdN_x {a : List UInt8} {M : List Nat} (h : rdN a = some M) : rdN (a ++ [120]) = some (M ++ [mX]) := by
  obtain ⟨h1, h2⟩ := rdN_some h
  rw [h1, ← mX_txt, ← nmT_snoc]
  refine rdN_nmT fun m hm => ?_
  rcases List.mem_append.1 hm with h' | h'
  · exact h2 m h'
  · rw [List.mem_singleton.1 h']; exact mX_ok
theorem nmE_x {a : List UInt8} {M : List Nat} (h : rdN a = some M) : nmE (a ++ [120]) = if 24 < M.length + 1 then 8 else 0 := by
  unfold nmE
  rw [rdN_x h]
  simp
theorem diM_congr {c c' : Nat → Nat → Nat} : ∀ (n m : Nat), (∀ i k, i < n → k < m → c i k = c' i k) → diM c n m = diM c' n m
  | 0, m, _ => by rw [diM_0k, diM_0k]
  | n + 1, 0, _ => by rw [diM_i0, diM_i0]
  | n + 1, m + 1, h => by
    rw [diM_ss, diM_ss, h n m (by omega) (by omega), diM_congr n m (fun i k a b => h i k (by omega) (by omega)), diM_congr (n + 1) m (fun i k a b => h i k a (by omega)), diM_congr n (m + 1) (fun i k a b => h i k (by omega) b)]
theorem cM_app {x y : List Nat} {z : Nat} {i k : Nat} (h : i < x.length) : cM (x ++ [z]) y i k = cM x y i k := by
  have e : (x ++ [z]).getD i 0 = x.getD i 0 := by simp [List.getD, List.getElem?_append_left h]
  unfold cM
  rw [e]
theorem one_mem {m a : Nat} (h : (lets m).length = 1) (hm : m < 2 ^ 53) (hne : m &&& a ≠ 0) : ∀ c ∈ lets m, c ∈ lets a := by
  intro c hc
  have h1 := lets_pos (m := m &&& a) ⟨Nat.pos_of_ne_zero hne, Nat.lt_of_le_of_lt Nat.and_le_left hm⟩
  rw [← lets_and] at h1
  obtain ⟨c', hc'⟩ := List.length_eq_one_iff.1 h
  rw [hc'] at hc h1
  obtain rfl : c = c' := by simpa using hc
  by_cases e : c ∈ lets a
  · exact e
  · simp [e] at h1
theorem one_tri {m a b : Nat} (h : (lets m).length = 1) (hm : m < 2 ^ 53) (ha : a &&& m ≠ 0) (hb : m &&& b ≠ 0) : a &&& b ≠ 0 := by
  rw [Nat.and_comm] at ha
  obtain ⟨c, hc⟩ := List.length_eq_one_iff.1 h
  have h1 := one_mem h hm ha c (by rw [hc]; simp)
  have h2 := one_mem h hm hb c (by rw [hc]; simp)
  intro e
  have h3 := lets_and a b
  rw [e, lets_zero] at h3
  have : c ∈ (lets a).filter (fun c => decide (c ∈ lets b)) := List.mem_filter.2 ⟨h1, by simpa using h2⟩
  rw [h3] at this
  cases this
theorem cM_tri {A B C : List Nat} (hC : ∀ m ∈ C, (lets m).length = 1 ∧ m < 2 ^ 53) (i j k : Nat) : cM A B i k ≤ cM A C i j + cM C B j k := by
  unfold cM
  by_cases h1 : A.getD i 0 &&& C.getD j 0 = 0
  · rw [if_pos h1]; split <;> omega
  · by_cases h2 : C.getD j 0 &&& B.getD k 0 = 0
    · rw [if_pos h2]; split <;> omega
    · have hj : j < C.length := by
        rcases Nat.lt_or_ge j C.length with h | h
        · exact h
        · exfalso; apply h1; simp [List.getD, List.getElem?_eq_none h]
      have hm := hC C[j] (List.getElem_mem hj)
      have e : C.getD j 0 = C[j] := by simp [List.getD, hj]
      rw [e] at h1 h2
      rw [if_neg (one_tri hm.1 hm.2 h1 h2)]
      omega
theorem ctM_one : ∀ (M : List Nat), ctM M = 1 → ∀ m ∈ M, (lets m).length = 1 := by
  intro M
  induction M using snocRec with
  | nil => intro _ m hm; cases hm
  | snoc L x ih =>
    intro h m hm
    by_cases hb : ctM L ≤ 1000000
    · rw [ctM_snoc hb] at h
      have h1 : ctM L = 1 := Nat.dvd_one.1 ⟨_, h.symm⟩
      have h2 : (lets x).length = 1 := by rw [h1, Nat.one_mul] at h; exact h
      rcases List.mem_append.1 hm with h' | h'
      · exact ih h1 m h'
      · rw [List.mem_singleton.1 h']; exact h2
    · rw [ctM_big (by omega)] at h
      omega
/-- the law's facts: three names, the third without doubtful signs -/
theorem tri_all {a b c : List UInt8} (ha : nmE a = 0) (hb : nmE b = 0) (hc : nmE c = 0) (h1 : cnT c = (1, 0)) :
    (dsT a b).1 ≤ (dsT a c).1 + (dsT c b).1 ∧ (nmE (a ++ [120]) = 0 → (dsT (a ++ [120]) b).1 ≤ (dsT a b).1 + 1 ∧ (dsT a b).1 ≤ (dsT (a ++ [120]) b).1 + 1) ∧ (nmE (a ++ [120]) = 0 ∨ nmE (a ++ [120]) = 8) := by
  obtain ⟨A, gA, hA, -⟩ := gd_nmE ha
  obtain ⟨B, gB, hB, -⟩ := gd_nmE hb
  obtain ⟨C, gC, hC, -⟩ := gd_nmE hc
  have d (s t : List UInt8) (x y : List Nat) (hs : nmE s = 0) (ht : nmE t = 0) (hx : rdN s = some x) (hy : rdN t = some y) : (dsT s t).1 = diM (cM x y) x.length y.length := by
    unfold dsT
    rw [if_neg (by simp [feE, hs, ht]), hx, hy]
  have h2 : ctM C = 1 := by
    rw [cnT_good hc hC] at h1
    split at h1
    · cases h1
    · injection h1
  have h3 : ∀ m ∈ C, (lets m).length = 1 ∧ m < 2 ^ 53 := fun m hm => ⟨ctM_one C h2 m hm, (gC.2.2 m hm).2⟩
  refine ⟨?_, fun hx => ?_, ?_⟩
  · rw [d a b A B ha hb hA hB, d a c A C ha hc hA hC, d c b C B hc hb hC hB]
    exact diM_tri (fun i j k => cM_tri h3 i j k) (fun i k => by unfold cM; split <;> omega) _ _ _
  · rw [d a b A B ha hb hA hB, d (a ++ [120]) b (A ++ [mX]) B hx hb (rdN_x hA) hB, List.length_append, List.length_singleton]
    have e := diM_congr (c := cM A B) (c' := cM (A ++ [mX]) B) A.length B.length (fun i k hi _ => (cM_app hi).symm)
    rw [e]
    have u := diM_up (c := cM (A ++ [mX]) B) A.length B.length
    have v := (diM_dn (c := cM (A ++ [mX]) B) A.length B.length).1
    omega
  · rw [nmE_x hA]
    split
    · exact .inr rfl
    · exact .inl rfl
end Go.Proofs.Ytfneafofohfdnaa
