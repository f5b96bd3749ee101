/-
  The distance of two rows of signs, as numbers alone: c i k is 0 where the signs number i and k have a common letter, and 1 elsewhere. No program is named here.
-/
namespace Go.Proofs.Ytfneafofohfdnaa
def nxM (c : Nat → Nat) (prev : Nat → Nat) (i : Nat) : Nat → Nat
  | 0 => i + 1
  | k + 1 => min (min (prev k + c k) (nxM c prev i k + 1)) (prev (k + 1) + 1)
/-- the distance of the first i signs of the one from the first k ones of the other -/
def diM (c : Nat → Nat → Nat) : Nat → Nat → Nat
  | 0 => fun k => k
  | i + 1 => nxM (c i) (diM c i) i
variable {c : Nat → Nat → Nat}
theorem diM_0k (k : Nat) : diM c 0 k = k := rfl
theorem diM_i0 (i : Nat) : diM c i 0 = i := by cases i <;> rfl
theorem diM_ss (i k : Nat) : diM c (i + 1) (k + 1) = min (min (diM c i k + c i k) (diM c (i + 1) k + 1)) (diM c i (k + 1) + 1) := rfl
theorem diM_le (i k : Nat) : diM c i k ≤ i + k := by
  induction i generalizing k with
  | zero => rw [diM_0k]; omega
  | succ i ih =>
    cases k with
    | zero => rw [diM_i0]; omega
    | succ k => rw [diM_ss]; have := ih (k + 1); omega
theorem diM_swap (i k : Nat) : diM (fun a b => c b a) k i = diM c i k := by
  induction i generalizing k with
  | zero => rw [diM_0k, diM_i0]
  | succ i ih =>
    induction k with
    | zero => rw [diM_0k, diM_i0]
    | succ k ik => rw [diM_ss, diM_ss, ih, ih, ik]; omega
/-- one sign more changes it by at most 1 -/
theorem diM_up (i k : Nat) : diM c (i + 1) k ≤ diM c i k + 1 := by
  cases k with
  | zero => rw [diM_i0, diM_i0]; omega
  | succ k => rw [diM_ss]; omega
theorem diM_up2 (i k : Nat) : diM c i (k + 1) ≤ diM c i k + 1 := by
  cases i with
  | zero => rw [diM_0k, diM_0k]; omega
  | succ i => rw [diM_ss]; omega
theorem diM_dn (i k : Nat) : diM c i k ≤ diM c (i + 1) k + 1 ∧ diM c i k ≤ diM c i (k + 1) + 1 := by
  induction i generalizing k with
  | zero =>
    rw [diM_0k, diM_0k]
    refine ⟨?_, by omega⟩
    induction k with
    | zero => omega
    | succ k ik => rw [diM_ss, diM_0k, diM_0k]; omega
  | succ i ih =>
    induction k with
    | zero => simp only [diM_i0]; exact ⟨by omega, by have h := (ih 0).1; have h2 := (ih 0).2; rw [diM_ss, diM_i0, diM_i0]; rw [diM_i0] at h2; omega⟩
    | succ k ik =>
      have e1 := diM_ss (c := c) i k
      have e2 := diM_ss (c := c) (i + 1) k
      have e3 := diM_ss (c := c) i (k + 1)
      have u1 := diM_up (c := c) i k
      have u2 := diM_up (c := c) i (k + 1)
      have v1 := diM_up2 (c := c) i k
      have a1 := ih k
      have a2 := ih (k + 1)
      omega
theorem diM_ge (i k : Nat) : i ≤ diM c i k + k ∧ k ≤ diM c i k + i := by
  induction i generalizing k with
  | zero => rw [diM_0k]; omega
  | succ i ih =>
    induction k with
    | zero => rw [diM_i0]; omega
    | succ k ik => rw [diM_ss]; have := ih k; have := ih (k + 1); omega
theorem diM_zero {i k : Nat} : diM c i k = 0 ↔ i = k ∧ ∀ j, j < i → c j j = 0 := by
  induction i generalizing k with
  | zero => rw [diM_0k]; exact ⟨fun h => ⟨h.symm, fun j hj => by omega⟩, fun h => h.1.symm⟩
  | succ i ih =>
    cases k with
    | zero => rw [diM_i0]; exact ⟨fun h => by omega, fun h => by omega⟩
    | succ k =>
      rw [diM_ss]
      constructor
      · intro h
        have h1 : diM c i k = 0 := by omega
        have h2 : c i k = 0 := by omega
        obtain ⟨e, h3⟩ := ih.1 h1
        subst e
        exact ⟨rfl, fun j hj => by rcases Nat.lt_succ_iff_lt_or_eq.1 hj with g | g; · exact h3 j g
                                   · subst g; exact h2⟩
      · rintro ⟨e, h⟩
        have e : i = k := by omega
        subst e
        have h1 := ih.2 ⟨rfl, fun j hj => h j (by omega)⟩
        have h2 := h i (by omega)
        omega
/-- three rows: the costs through the middle one are no less -/
theorem diM_tri {a b d : Nat → Nat → Nat} (h : ∀ i j k, d i k ≤ a i j + b j k) (hd : ∀ i k, d i k ≤ 1) : ∀ i j k, diM d i k ≤ diM a i j + diM b j k := by
  intro i
  induction i with
  | zero =>
    intro j k
    rw [diM_0k, diM_0k]
    induction j generalizing k with
    | zero => rw [diM_0k]; omega
    | succ j ij =>
      have := (diM_dn (c := b) j k).1
      have := ij k
      omega
  | succ i ih =>
    intro j
    induction j with
    | zero =>
      intro k
      rw [diM_i0, diM_0k]
      have := diM_le (c := d) (i + 1) k
      omega
    | succ j ij =>
      intro k
      induction k with
      | zero =>
        rw [diM_i0, diM_i0]
        have := (diM_ge (c := a) (i + 1) (j + 1)).1
        omega
      | succ k ik =>
        have e1 := diM_ss (c := a) i j
        have e2 := diM_ss (c := b) j k
        have e3 := diM_ss (c := d) i k
        have c1 := ih j k
        have c2 := ih (j + 1) (k + 1)
        have c3 := ij (k + 1)
        have c5 := ih (j + 1) k
        have c4 := ik
        have hh := h i j k
        have hx := hd i k
        have u1 := diM_up (c := a) i j
        have u2 := diM_up2 (c := b) j k
        clear ih ij ik h hd
        rw [e3]
        omega
end Go.Proofs.Ytfneafofohfdnaa
