/-
  Names of persons: signs as sets of letters, their texts; plain mathematics, no program.
-/
namespace Go.Proofs.Ytfneafofohfdnaa
/-- the letters of names, ascending -/
def AB : List UInt8 := [45, 65, 66, 67, 68, 69, 70, 71, 72, 73, 74, 75, 76, 77, 78, 79, 80, 81, 82, 83, 84, 85, 86, 87, 88, 89, 90, 97, 98, 99, 100, 101, 102, 103, 104, 105, 106, 107, 108, 109, 110, 111, 112, 113, 114, 115, 116, 117, 118, 119, 120, 121, 122]
theorem AB_len : AB.length = 53 := rfl
/-- the place of a letter, or 53 -/
def pl (c : UInt8) : Nat := AB.idxOf c
theorem pl_byte : ∀ n : Fin 256, (pl (UInt8.ofNat n.val) < 53 → AB.getD (pl (UInt8.ofNat n.val)) 0 = UInt8.ofNat n.val) ∧ pl (UInt8.ofNat n.val) ≤ 53 := by decide +kernel
theorem byte_fin (c : UInt8) : ∃ n : Fin 256, c = UInt8.ofNat n.val := ⟨⟨c.toNat, UInt8.toNat_lt c⟩, by simp⟩
theorem pl_get {c : UInt8} (h : pl c < 53) : AB.getD (pl c) 0 = c := by
  obtain ⟨n, rfl⟩ := byte_fin c
  exact (pl_byte n).1 h
theorem pl_le (c : UInt8) : pl c ≤ 53 := by
  obtain ⟨n, rfl⟩ := byte_fin c
  exact (pl_byte n).2
theorem AB_pl : ∀ i : Fin 53, pl (AB.getD i.val 0) = i.val := by decide +kernel
theorem AB_mono : ∀ i j : Fin 53, i.val < j.val → (AB.getD i.val 0) < (AB.getD j.val 0) := by decide +kernel
theorem pl_mem {c : UInt8} : pl c < 53 ↔ c ∈ AB := by
  rw [← AB_len]; exact List.idxOf_lt_length_iff
/-- a bit -/
def bit (m i : Nat) : Bool := m.testBit i
/-- the set of the letters of a text -/
def mskF : Nat → List UInt8 → Nat
  | m, [] => m
  | m, c :: t => mskF (if pl c < 53 then m ||| 2 ^ pl c else m) t
def msk (t : List UInt8) : Nat := mskF 0 t
theorem mskF_bit (i : Nat) : ∀ (t : List UInt8) (m : Nat), (mskF m t).testBit i = (m.testBit i || decide (i < 53 ∧ ∃ c ∈ t, pl c = i))
  | [], m => by simp [mskF]
  | c :: t, m => by
    rw [mskF, mskF_bit i t]
    by_cases h : pl c < 53
    · rw [if_pos h, Nat.testBit_or, Nat.testBit_two_pow]
      by_cases e : pl c = i
      · have : i < 53 := by omega
        simp [e, this]
      · simp [e]
    · rw [if_neg h]
      by_cases e : pl c = i
      · have : ¬ i < 53 := by omega
        simp [this]
      · simp [e]
theorem msk_bit (t : List UInt8) (i : Nat) : (msk t).testBit i = decide (i < 53 ∧ ∃ c ∈ t, pl c = i) := by
  rw [msk, mskF_bit]; simp
theorem mskF_lt : ∀ (t : List UInt8) (m : Nat), m < 2 ^ 53 → mskF m t < 2 ^ 53
  | [], m, h => h
  | c :: t, m, h => by
    rw [mskF]
    refine mskF_lt t _ ?_
    by_cases g : pl c < 53
    · rw [if_pos g]; exact Nat.or_lt_two_pow h (Nat.pow_lt_pow_right (by decide) g)
    · rw [if_neg g]; exact h
theorem msk_lt (t : List UInt8) : msk t < 2 ^ 53 := mskF_lt t 0 (by decide)
/-- the letters of a set, from the first on: k of them looked at -/
def letsK (m : Nat) : Nat → List UInt8
  | 0 => []
  | k + 1 => letsK m k ++ (if m.testBit k then [AB.getD k 0] else [])
def lets (m : Nat) : List UInt8 := letsK m 53
theorem letsK_len (m : Nat) : ∀ k, (letsK m k).length ≤ k
  | 0 => by simp [letsK]
  | k + 1 => by
    have := letsK_len m k
    rw [letsK]
    split <;> simp <;> omega
theorem letsK_mem (m : Nat) (c : UInt8) : ∀ k, k ≤ 53 → (c ∈ letsK m k ↔ pl c < k ∧ m.testBit (pl c) = true)
  | 0, _ => by simp [letsK]
  | k + 1, h => by
    have hp := AB_pl ⟨k, by omega⟩
    have ih := letsK_mem m c k (by omega)
    simp only at hp
    rw [letsK, List.mem_append, ih]
    constructor
    · rintro (⟨h1, h2⟩ | h1)
      · exact ⟨by omega, h2⟩
      · by_cases hb : m.testBit k = true
        · rw [if_pos hb, List.mem_singleton] at h1
          subst h1
          rw [hp]
          exact ⟨by omega, hb⟩
        · rw [if_neg hb] at h1; cases h1
    · rintro ⟨h1, h2⟩
      by_cases e : pl c = k
      · right
        rw [← e, if_pos h2, pl_get (by omega)]; simp
      · left; exact ⟨by omega, h2⟩
theorem lets_mem {m : Nat} {c : UInt8} : c ∈ lets m ↔ pl c < 53 ∧ m.testBit (pl c) = true := letsK_mem m c 53 (Nat.le_refl _)
theorem letsK_pw (m : Nat) : ∀ k, k ≤ 53 → (letsK m k).Pairwise (· < ·)
  | 0, _ => by simp [letsK]
  | k + 1, h => by
    rw [letsK, List.pairwise_append]
    refine ⟨letsK_pw m k (by omega), ?_, ?_⟩
    · split <;> simp
    · intro a ha b hb
      have h1 := ((letsK_mem m a k (by omega)).1 ha).1
      by_cases hb' : m.testBit k = true
      · rw [if_pos hb', List.mem_singleton] at hb
        subst hb
        have := AB_mono ⟨pl a, by omega⟩ ⟨k, by omega⟩ h1
        simp only at this
        rwa [pl_get (by omega)] at this
      · rw [if_neg hb'] at hb; cases hb
theorem lets_pw (m : Nat) : (lets m).Pairwise (· < ·) := letsK_pw m 53 (Nat.le_refl _)
theorem pw_nodup_lt {l : List UInt8} (h : l.Pairwise (· < ·)) : l.Pairwise (· ≠ ·) := h.imp (fun h e => absurd (e ▸ h) (by simp))
theorem lt_irr (a : UInt8) : ¬ a < a := by simp
theorem lt_tr {a b c : UInt8} (h : a < b) (k : b < c) : a < c := UInt8.lt_trans h k
/-- two strictly ascending lists with the same members are the same -/
theorem pw_ext : ∀ {a b : List UInt8}, a.Pairwise (· < ·) → b.Pairwise (· < ·) → (∀ c, c ∈ a ↔ c ∈ b) → a = b
  | [], [], _, _, _ => rfl
  | [], y :: b, _, _, h => absurd ((h y).2 (by simp)) (by simp)
  | x :: a, [], _, _, h => absurd ((h x).1 (by simp)) (by simp)
  | x :: a, y :: b, ha, hb, h => by
    obtain ⟨ha1, ha2⟩ := List.pairwise_cons.1 ha
    obtain ⟨hb1, hb2⟩ := List.pairwise_cons.1 hb
    have e : x = y := by
      rcases List.mem_cons.1 ((h x).1 (by simp)) with e | e
      · exact e
      · rcases List.mem_cons.1 ((h y).2 (by simp)) with e' | e'
        · exact e'.symm
        · exact absurd (lt_tr (hb1 x e) (ha1 y e')) (lt_irr _)
    subst e
    congr 1
    refine pw_ext ha2 hb2 (fun c => ⟨fun hc => ?_, fun hc => ?_⟩)
    · rcases List.mem_cons.1 ((h c).1 (by simp [hc])) with e | e
      · exact absurd (e ▸ ha1 c hc) (lt_irr _)
      · exact e
    · rcases List.mem_cons.1 ((h c).2 (by simp [hc])) with e | e
      · exact absurd (e ▸ hb1 c hc) (lt_irr _)
      · exact e
/-- letters, strictly ascending -/
def setB (t : List UInt8) : Prop := (∀ c ∈ t, c ∈ AB) ∧ t.Pairwise (· < ·)
theorem lets_set (m : Nat) : setB (lets m) := ⟨fun _ h => pl_mem.1 (lets_mem.1 h).1, lets_pw m⟩
theorem lets_msk {t : List UInt8} (h : setB t) : lets (msk t) = t := by
  refine pw_ext (lets_pw _) h.2 (fun c => ?_)
  rw [lets_mem, msk_bit]
  simp only [decide_eq_true_eq]
  constructor
  · rintro ⟨h1, _, d, hd, e⟩
    have : c = d := by rw [← pl_get h1, ← e, pl_get (by omega)]
    exact this ▸ hd
  · intro hc
    have h1 := pl_mem.2 (h.1 c hc)
    exact ⟨h1, h1, c, hc, rfl⟩
theorem msk_lets {m : Nat} (h : m < 2 ^ 53) : msk (lets m) = m := by
  refine Nat.eq_of_testBit_eq (fun i => ?_)
  rw [msk_bit]
  by_cases hi : i < 53
  · have hp := AB_pl ⟨i, hi⟩
    simp only at hp
    cases hb : m.testBit i
    · simp only [decide_eq_false_iff_not]
      rintro ⟨_, _, hc, e⟩
      have := (lets_mem.1 hc).2
      rw [e, hb] at this; cases this
    · simp only [decide_eq_true_eq]
      exact ⟨hi, AB.getD i 0, lets_mem.2 ⟨by rw [hp]; exact hi, by rw [hp]; exact hb⟩, hp⟩
  · have : m.testBit i = false := Nat.testBit_lt_two_pow (Nat.lt_of_lt_of_le h (Nat.pow_le_pow_right (by decide) (by omega)))
    rw [this]
    simp [hi]
def anyM : Nat := 9007199254740991
theorem any_lt : anyM < 2 ^ 53 := by decide
theorem lets_any : lets anyM = AB := by decide +kernel
theorem lets_zero : lets 0 = [] := by decide +kernel
theorem lets_inj {m k : Nat} (h : m < 2 ^ 53) (h' : k < 2 ^ 53) (e : lets m = lets k) : m = k := by rw [← msk_lets h, e, msk_lets h']
theorem lets_len (m : Nat) : (lets m).length ≤ 53 := letsK_len m 53
theorem lets_ne {m : Nat} (h : m < 2 ^ 53) (h0 : m ≠ 0) : lets m ≠ [] := fun e => h0 (lets_inj h (by decide) (by rw [e, lets_zero]))
/-- how a set is written -/
def txt (m : Nat) : List UInt8 := if (lets m).length = 1 then lets m else if m = anyM then [63] else 91 :: (lets m ++ [93])
theorem txt_len (m : Nat) : (txt m).length ≤ 55 := by
  have := lets_len m
  unfold txt
  split
  · omega
  · split <;> simp <;> omega
/-- a right sign -/
def okM (m : Nat) : Prop := 0 < m ∧ m < 2 ^ 53
/-- the sign with a text, and whether there is one -/
def rdS (t : List UInt8) : Nat × Bool := if t = [63] then (anyM, true) else (msk t, decide (msk t ≠ 0) && decide (txt (msk t) = t))
theorem one_ok {c : UInt8} (h : c ∈ AB) : txt (msk [c]) = [c] ∧ msk [c] ≠ 0 := by
  have e : lets (msk [c]) = [c] := lets_msk ⟨by simpa using h, by simp⟩
  refine ⟨by unfold txt; rw [e]; rfl, fun e0 => ?_⟩
  rw [e0, lets_zero] at e; cases e
theorem txt_ne (m : Nat) : txt m ≠ [] := by
  unfold txt
  split
  · rename_i h; intro e; rw [e] at h; simp at h
  · split <;> simp
theorem txt_any : txt anyM = [63] := by
  unfold txt; rw [lets_any]; rfl
theorem rdS_any : rdS [63] = (anyM, true) := if_pos rfl
theorem rdS_of {t : List UInt8} (m : Nat) (hq : t ≠ [63]) (em : msk t = m) (h0 : m ≠ 0) (et : txt m = t) : rdS t = (m, true) := by
  unfold rdS
  rw [if_neg hq, em, decide_eq_true h0, decide_eq_true et]
  rfl
theorem msk_br (s : List UInt8) : msk (91 :: (s ++ [93])) = msk s := by
  refine Nat.eq_of_testBit_eq (fun i => ?_)
  rw [msk_bit, msk_bit]
  have h1 : pl 91 = 53 := by decide
  have h2 : pl 93 = 53 := by decide
  congr 1
  simp only [List.mem_cons, List.mem_append, List.not_mem_nil, or_false]
  apply propext
  constructor
  · rintro ⟨hi, c, (rfl | hc | rfl), e⟩
    · omega
    · exact ⟨hi, c, hc, e⟩
    · omega
  · rintro ⟨hi, c, hc, e⟩
    exact ⟨hi, c, .inr (.inl hc), e⟩
theorem no63 {m : Nat} (e : lets m = [63]) : False := by
  have h := (lets_set m).1 63 (by rw [e]; simp)
  revert h
  decide
theorem rdS_txt {m : Nat} (h : okM m) : rdS (txt m) = (m, true) := by
  have h0 : m ≠ 0 := by have := h.1; omega
  by_cases ha : m = anyM
  · rw [ha, txt_any]; exact rdS_any
  · by_cases h1 : (lets m).length = 1
    · have et : txt m = lets m := by unfold txt; rw [if_pos h1]
      refine rdS_of m ?_ ?_ h0 rfl
      · rw [et]; exact fun e => no63 e
      · rw [et, msk_lets h.2]
    · have et : txt m = 91 :: (lets m ++ [93]) := by unfold txt; rw [if_neg h1, if_neg ha]
      refine rdS_of m ?_ ?_ h0 rfl
      · rw [et]; simp
      · rw [et, msk_br, msk_lets h.2]
theorem rdS_ok {t : List UInt8} (h : (rdS t).2 = true) : okM (rdS t).1 ∧ txt (rdS t).1 = t := by
  unfold rdS at *
  by_cases hq : t = [63]
  · rw [if_pos hq, hq]; exact ⟨⟨by decide, any_lt⟩, txt_any⟩
  · rw [if_neg hq] at *
    rw [Bool.and_eq_true, decide_eq_true_eq, decide_eq_true_eq] at h
    exact ⟨⟨Nat.pos_of_ne_zero h.1, msk_lt t⟩, h.2⟩
end Go.Proofs.Ytfneafofohfdnaa
