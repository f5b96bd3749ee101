/-
  Texts divided at a byte, and the texts of numbers: facts on lists, no program.
-/
import Derived.Test.YtpfekgmimfkjcaaGreatDoorDec
import Derived.Lib.SplitLaws
import Derived.Lib.IndexBytes
import Derived.Lib.Atoi
namespace Go.Proofs.YtpfekgmimfkjcaaGreatDoor
/-- a text divided at each byte c -/
def spl (c : UInt8) : List UInt8 → List (List UInt8)
  | [] => [[]]
  | b :: r => if b = c then [] :: spl c r else (b :: (spl c r).headD []) :: (spl c r).tail
theorem spl_ne (c : UInt8) (s : List UInt8) : spl c s ≠ [] := by
  cases s with
  | nil => simp [spl]
  | cons b r => unfold spl; split <;> simp
theorem spl_none {c : UInt8} : ∀ {s : List UInt8}, c ∉ s → spl c s = [s]
  | [], _ => rfl
  | b :: r, h => by
    have hb : ¬ b = c := fun e => h (by simp [e])
    have hr : c ∉ r := fun e => h (by simp [e])
    rw [spl, if_neg hb, spl_none hr]; rfl
theorem spl_app {c : UInt8} : ∀ {a : List UInt8} (b : List UInt8), c ∉ a → spl c (a ++ c :: b) = a :: spl c b
  | [], b, _ => by simp [spl]
  | x :: a, b, h => by
    have hb : ¬ x = c := fun e => h (by simp [e])
    have hr : c ∉ a := fun e => h (by simp [e])
    rw [List.cons_append, spl, if_neg hb, spl_app b hr]; rfl
theorem spl_first {c : UInt8} : ∀ (s : List UInt8), c ∈ s → ∃ a b, s = a ++ c :: b ∧ c ∉ a
  | x :: s, h => by
    by_cases e : x = c
    · exact ⟨[], s, by simp [e], by simp⟩
    · have hs : c ∈ s := by
        rcases List.mem_cons.1 h with h | h
        · exact absurd h.symm e
        · exact h
      obtain ⟨a, b, rfl, ha⟩ := spl_first s hs
      exact ⟨x :: a, b, rfl, by simp [ha, Ne.symm e]⟩
theorem index_no {c : UInt8} : ∀ {s : List UInt8}, c ∉ s → Lib.index s [c] = -1
  | [], _ => by simp [Lib.index]
  | b :: l, h => by
    have hb : c ≠ b := fun e => h (by simp [e])
    have hl : c ∉ l := fun e => h (by simp [e])
    have hp : ([c] : List UInt8).isPrefixOf (b :: l) = false := by simp [List.isPrefixOf, hb]
    rw [Lib.index, hp]; simp [index_no hl]
theorem index_at {c : UInt8} : ∀ {a : List UInt8} (b : List UInt8), c ∉ a → Lib.index (a ++ c :: b) [c] = (a.length : Int)
  | [], b, _ => by rw [List.nil_append, Lib.index]; simp [List.isPrefixOf]
  | x :: a, b, h => by
    have hb : c ≠ x := fun e => h (by simp [e])
    have hl : c ∉ a := fun e => h (by simp [e])
    have hp : ([c] : List UInt8).isPrefixOf (x :: (a ++ c :: b)) = false := by simp [List.isPrefixOf, hb]
    rw [List.cons_append, Lib.index, hp, index_at b hl]
    have : ¬ ((a.length : Int) == -1) = true := by simp
    simp only [Bool.false_eq_true, if_false, this, List.length_cons]
    omega
theorem split_spl (c : UInt8) : ∀ (n : Nat) (s : List UInt8), s.length ≤ n → Lib.split s [c] = spl c s := by
  intro n
  induction n with
  | zero =>
    intro s h
    have : s = [] := List.eq_nil_of_length_eq_zero (by omega)
    subst this
    rw [spl_none (by simp)]; unfold Lib.split; rw [Lib.count_miss (index_no (by simp))]; rfl
  | succ n ih =>
    intro s hs
    by_cases h : c ∈ s
    · obtain ⟨a, b, rfl, ha⟩ := spl_first s h
      have hi := index_at b ha
      have e : (a ++ c :: b).drop (a.length + 1) = b := by
        rw [List.drop_append]; simp
      rw [spl_app b ha, ← ih b (by simp at hs; omega)]
      unfold Lib.split
      rw [Lib.count_hit (by simp) hi, Nat.add_comm, Lib.splitK, hi]
      simp only [List.length_singleton]
      rw [if_neg (by simp), Int.toNat_natCast, e]
      simp
    · rw [spl_none h]; unfold Lib.split; rw [Lib.count_miss (index_no h)]; rfl
/-- one step of a loop that divides -/
theorem spl_step {c : UInt8} {s : List UInt8} {st i : Nat} (h : st ≤ i) (hi : i < s.length) (hc : s[i] = c) (hn : c ∉ (s.take i).drop st) :
    spl c (s.drop st) = (s.take i).drop st :: spl c (s.drop (i + 1)) := by
  have e : s.drop st = (s.take i).drop st ++ c :: s.drop (i + 1) := by
    conv => lhs; rw [← List.take_append_drop i s, List.drop_append]
    rw [show st - (s.take i).length = 0 from by simp; omega, List.drop_zero, List.drop_eq_getElem_cons hi, hc]
  rw [e, spl_app _ hn]
theorem spl_more {c : UInt8} {s : List UInt8} {st i : Nat} (h : st ≤ i) (hi : i < s.length) (hc : s[i] ≠ c) (hn : c ∉ (s.take i).drop st) :
    c ∉ (s.take (i + 1)).drop st := by
  rw [List.take_succ_eq_append_getElem hi, List.drop_append, show st - (s.take i).length = 0 from by simp; omega, List.drop_zero]
  simp only [List.mem_append, List.mem_singleton, not_or]
  exact ⟨hn, fun e => hc e.symm⟩
theorem spl_len (c : UInt8) : ∀ s : List UInt8, (spl c s).length ≤ s.length + 1
  | [] => by simp [spl]
  | b :: r => by
    have := spl_len c r
    unfold spl
    split
    · simp; omega
    · simp; omega
theorem spl_mem {c : UInt8} : ∀ (s : List UInt8) (x : List UInt8), x ∈ spl c s → x.length ≤ s.length ∧ c ∉ x
  | [], x, h => by simp [spl] at h; subst h; simp
  | b :: r, x, h => by
    unfold spl at h
    split at h
    · rcases List.mem_cons.1 h with h | h
      · subst h; simp
      · have := spl_mem r x h; exact ⟨by simp; omega, this.2⟩
    · rename_i hb
      rcases List.mem_cons.1 h with h | h
      · subst h
        have hm : (spl c r).headD [] ∈ spl c r := by
          cases hs : spl c r with
          | nil => exact absurd hs (spl_ne c r)
          | cons y t => simp
        have := spl_mem r _ hm
        exact ⟨by simp only [List.length_cons]; omega, by simp only [List.mem_cons, not_or]; exact ⟨fun e => hb e.symm, this.2⟩⟩
      · have := spl_mem r x (List.mem_of_mem_tail h); exact ⟨by simp; omega, this.2⟩
/-- a byte is a digit -/
def isDg (b : UInt8) : Bool := decide (48 ≤ b.toNat) && decide (b.toNat ≤ 57)
theorem isDg_iff {b : UInt8} : isDg b = true ↔ 48 ≤ b.toNat ∧ b.toNat ≤ 57 := by simp [isDg]
/-- what a row of digits spells -/
def natV (l : List UInt8) : Nat := l.foldl (fun n b => 10 * n + (b.toNat - 48)) 0
theorem natV_snoc (l : List UInt8) (b : UInt8) : natV (l ++ [b]) = 10 * natV l + (b.toNat - 48) := by simp [natV]
theorem natV_lt : ∀ (n : Nat) (l : List UInt8), l.length = n → (∀ b ∈ l, isDg b = true) → natV l < 10 ^ n
  | 0, l, h, _ => by have : l = [] := List.eq_nil_of_length_eq_zero h; subst this; simp [natV]
  | n + 1, l, h, hd => by
    obtain ⟨a, b, rfl⟩ : ∃ a b, l = a ++ [b] := by
      have hne : l ≠ [] := fun e => by rw [e] at h; simp at h
      exact ⟨l.dropLast, l.getLast hne, (List.dropLast_concat_getLast hne).symm⟩
    have ih := natV_lt n a (by simpa using h) (fun x hx => hd x (by simp [hx]))
    have hb := isDg_iff.1 (hd b (by simp))
    rw [natV_snoc, Nat.pow_succ]; omega
/-- the digits of a number's text -/
def digs (w : List UInt8) : List UInt8 := if w.head? = some 45 then w.tail else w
/-- at least one digit and at most ten, behind a '-' or not -/
def digB' (w : List UInt8) : Bool := decide (1 ≤ (digs w).length) && decide ((digs w).length ≤ 10) && (digs w).all isDg
/-- a number's text -/
def numB (w : List UInt8) : Bool := digB' w && !(((digs w).head? == some 48) && !(w == [48]))
/-- what it spells -/
def numV (w : List UInt8) : Int := if w.head? = some 45 then -(natV (digs w) : Int) else (natV (digs w) : Int)
theorem dg_back {b : UInt8} (h : isDg b = true) : UInt8.ofNat (48 + (b.toNat - 48)) = b := by
  have := isDg_iff.1 h
  rw [show 48 + (b.toNat - 48) = b.toNat from by omega]; simp
theorem dg_ofNat {d : Nat} (h : d < 10) : isDg (UInt8.ofNat (48 + d)) = true ∧ (UInt8.ofNat (48 + d)).toNat = 48 + d := by
  have e : (UInt8.ofNat (48 + d)).toNat = 48 + d := UInt8.toNat_ofNat_of_lt' (by show 48 + d < 256; omega)
  exact ⟨isDg_iff.2 (by rw [e]; omega), e⟩
theorem snoc_of {l : List UInt8} (h : l ≠ []) : ∃ a b, l = a ++ [b] := ⟨l.dropLast, l.getLast h, (List.dropLast_concat_getLast h).symm⟩
theorem canon_pos : ∀ (n : Nat) (r : List UInt8), r.length ≤ n → r ≠ [] → (∀ b ∈ r, isDg b = true) → r.head? ≠ some 48 → 1 ≤ natV r := by
  intro n
  induction n with
  | zero => intro r h hne; exact absurd (List.eq_nil_of_length_eq_zero (by omega)) hne
  | succ n ih =>
    intro r h hne hd hh
    obtain ⟨a, b, rfl⟩ := snoc_of hne
    rw [natV_snoc]
    by_cases ha : a = []
    · subst ha
      have hb := isDg_iff.1 (hd b (by simp))
      have : b.toNat ≠ 48 := fun e => hh (by
        have : b = 48 := UInt8.toNat_inj.1 e
        simp [this])
      omega
    · have := ih a (by simp at h; omega) ha (fun x hx => hd x (by simp [hx])) (by
        intro e; apply hh; rw [List.head?_append, e]; rfl)
      omega
theorem canon : ∀ (n : Nat) (r : List UInt8), r.length ≤ n → r ≠ [] → (∀ b ∈ r, isDg b = true) → (r.head? ≠ some 48 ∨ r.length = 1) → Lib.decDigits (natV r) = r := by
  intro n
  induction n with
  | zero => intro r h hne; exact absurd (List.eq_nil_of_length_eq_zero (by omega)) hne
  | succ n ih =>
    intro r h hne hd hh
    obtain ⟨a, b, rfl⟩ := snoc_of hne
    have hb := isDg_iff.1 (hd b (by simp))
    by_cases ha : a = []
    · subst ha
      rw [natV_snoc, show natV [] = 0 from rfl, decDigits_lt (by omega), show 10 * 0 + (b.toNat - 48) = b.toNat - 48 from by omega, dg_back (hd b (by simp))]; rfl
    · have hh' : a.head? ≠ some 48 := by
        rcases hh with hh | hh
        · intro e; apply hh; rw [List.head?_append, e]; rfl
        · exfalso
          have : a.length = 0 := by simpa using hh
          exact ha (List.eq_nil_of_length_eq_zero this)
      have hpos := canon_pos n a (by simp at h; omega) ha (fun x hx => hd x (by simp [hx])) hh'
      rw [natV_snoc, decDigits_ge (by omega), show (10 * natV a + (b.toNat - 48)) / 10 = natV a from by omega, show (10 * natV a + (b.toNat - 48)) % 10 = b.toNat - 48 from by omega, dg_back (hd b (by simp)),
        ih a (by simp at h; omega) ha (fun x hx => hd x (by simp [hx])) (.inl hh')]
theorem dec_ne (n : Nat) : Lib.decDigits n ≠ [] := by
  by_cases h : n < 10
  · rw [decDigits_lt h]; simp
  · rw [decDigits_ge h]; simp
theorem dec_all : ∀ (n : Nat), ∀ b ∈ Lib.decDigits n, isDg b = true := by
  intro n
  induction n using Nat.strongRecOn with
  | ind n ih =>
    intro b hb
    by_cases h : n < 10
    · rw [decDigits_lt h] at hb
      simp only [List.mem_singleton] at hb
      subst hb; exact (dg_ofNat h).1
    · rw [decDigits_ge h] at hb
      rcases List.mem_append.1 hb with hb | hb
      · exact ih (n / 10) (by omega) b hb
      · simp only [List.mem_singleton] at hb
        subst hb; exact (dg_ofNat (Nat.mod_lt _ (by decide))).1
theorem dec_natV : ∀ (n : Nat), natV (Lib.decDigits n) = n := by
  intro n
  induction n using Nat.strongRecOn with
  | ind n ih =>
    by_cases h : n < 10
    · rw [decDigits_lt h, show ([UInt8.ofNat (48 + n)] : List UInt8) = [] ++ [UInt8.ofNat (48 + n)] from rfl, natV_snoc, (dg_ofNat h).2]; simp [natV]
    · rw [decDigits_ge h, natV_snoc, ih (n / 10) (by omega), (dg_ofNat (Nat.mod_lt _ (by decide))).2]; omega
theorem dec_head0 {n : Nat} (h : (Lib.decDigits n).head? = some 48) : n = 0 := by
  induction n using Nat.strongRecOn with
  | ind n ih =>
    by_cases h10 : n < 10
    · rw [decDigits_lt h10] at h
      simp only [List.head?_cons, Option.some.injEq] at h
      have := congrArg UInt8.toNat h
      rw [(dg_ofNat h10).2] at this
      have e : (48 : UInt8).toNat = 48 := rfl
      omega
    · rw [decDigits_ge h10, List.head?_append] at h
      have e : (Lib.decDigits (n / 10)).head? = some 48 := by
        cases hd : Lib.decDigits (n / 10) with
        | nil => exact absurd hd (dec_ne _)
        | cons x t => rw [hd] at h; simpa using h
      have := ih (n / 10) (by omega) e
      omega
theorem dec_len : ∀ (k n : Nat), n < 10 ^ (k + 1) → (Lib.decDigits n).length ≤ k + 1 := by
  intro k
  induction k with
  | zero => intro u hu; rw [decDigits_lt (by omega)]; simp
  | succ k ih =>
    intro u hu
    by_cases h : u < 10
    · rw [decDigits_lt h]; simp
    · rw [decDigits_ge h]
      have := ih (u / 10) (by rw [Nat.pow_succ] at hu; omega)
      simp; omega
theorem itoa_neg {n : Nat} (h : 1 ≤ n) : Lib.itoa (-(n : Int)) = 45 :: Lib.decDigits n := by
  unfold Lib.itoa; rw [if_pos (by omega)]; simp
theorem itoa_pos (n : Nat) : Lib.itoa (n : Int) = Lib.decDigits n := by
  unfold Lib.itoa; rw [if_neg (by omega)]; simp
theorem digB_iff {w : List UInt8} : digB' w = true ↔ 1 ≤ (digs w).length ∧ (digs w).length ≤ 10 ∧ ∀ b ∈ digs w, isDg b = true := by
  unfold digB'; simp only [Bool.and_eq_true, decide_eq_true_eq, List.all_eq_true, and_assoc]
theorem itoa_num {w : List UInt8} (h : digB' w = true) : (Lib.itoa (numV w) == w) = numB w := by
  have hN : numB w = !(((digs w).head? == some 48) && !(w == [48])) := by unfold numB; rw [h]; rfl
  obtain ⟨h1, h10, hd⟩ := digB_iff.1 h
  rw [hN]
  by_cases hm : w.head? = some 45
  · have ed : digs w = w.tail := by unfold digs; rw [if_pos hm]
    obtain ⟨r, rfl⟩ : ∃ r, w = 45 :: r := by
      cases w with
      | nil => simp at hm
      | cons x t => simp only [List.head?_cons, Option.some.injEq] at hm; exact ⟨t, by rw [hm]⟩
    simp only [List.tail_cons] at ed
    rw [ed] at h1 h10 hd
    have hr : r ≠ [] := fun e => by rw [e] at h1; simp at h1
    have hv : numV (45 :: r) = -(natV r : Int) := by unfold numV; rw [if_pos hm, ed]
    have hw : ((45 :: r) == ([48] : List UInt8)) = false := by
      rw [beq_eq_false_iff_ne]; intro e; injection e with e _; exact absurd e (by decide)
    rw [hv, ed, hw]
    by_cases h0 : r.head? = some 48
    · rw [h0]
      have : ¬ Lib.itoa (-(natV r : Int)) = 45 :: r := by
        intro e
        by_cases hz : natV r = 0
        · rw [hz] at e
          have e0 : Lib.itoa (-((0 : Nat) : Int)) = [48] := by
            have := itoa_pos 0
            rw [show (-((0 : Nat) : Int)) = ((0 : Nat) : Int) from by omega, this, decDigits_lt (by omega)]; rfl
          rw [e0] at e
          injection e with e _; exact absurd e (by decide)
        · rw [itoa_neg (by omega)] at e
          injection e with _ e
          rw [← e] at h0
          exact hz (dec_head0 h0)
      simp [this]
    · have hp := canon_pos r.length r (Nat.le_refl _) hr hd h0
      rw [itoa_neg hp, canon r.length r (Nat.le_refl _) hr hd (.inl h0)]
      simp [h0]
  · have ed : digs w = w := by unfold digs; rw [if_neg hm]
    rw [ed] at h1 h10 hd
    have hr : w ≠ [] := fun e => by rw [e] at h1; simp at h1
    have hv : numV w = (natV w : Int) := by unfold numV; rw [if_neg hm, ed]
    rw [hv, ed, itoa_pos]
    by_cases h0 : w.head? = some 48
    · by_cases hw : w = [48]
      · rw [hw]
        have : natV [48] = 0 := by decide
        rw [this, decDigits_lt (by omega)]; rfl
      · have : ¬ Lib.decDigits (natV w) = w := by
          intro e
          have hz : natV w = 0 := dec_head0 (by rw [e]; exact h0)
          rw [hz, decDigits_lt (by omega)] at e
          exact hw e.symm
        have e1 : (Lib.decDigits (natV w) == w) = false := by rw [beq_eq_false_iff_ne]; exact this
        have e2 : (w == [48]) = false := by rw [beq_eq_false_iff_ne]; exact hw
        rw [h0, e1, e2]; rfl
    · rw [canon w.length w (Nat.le_refl _) hr hd (.inl h0)]
      simp [h0]
theorem decFrom_all : ∀ (l : List UInt8) (acc : Nat), (∀ b ∈ l, isDg b = true) → Lib.decFrom acc l = some (l.foldl (fun n b => 10 * n + (b.toNat - 48)) acc)
  | [], acc, _ => rfl
  | b :: r, acc, h => by
    have hb := isDg_iff.1 (h b (by simp))
    have e : Lib.digitVal b = some (b.toNat - 48) := by unfold Lib.digitVal; rw [if_pos hb]
    rw [Lib.decFrom, e]
    simp only
    rw [decFrom_all r _ (fun x hx => h x (by simp [hx])), List.foldl_cons, Nat.mul_comm acc 10]
theorem decNat_all {l : List UInt8} (hne : l ≠ []) (h : ∀ b ∈ l, isDg b = true) : Lib.decNat l = some (natV l) := by
  unfold Lib.decNat
  rw [if_neg (by simpa using hne), decFrom_all l 0 h]; rfl
theorem atoi_num {w : List UInt8} (h : digB' w = true) : Lib.atoi w = some (numV w) := by
  obtain ⟨h1, h10, hd⟩ := digB_iff.1 h
  by_cases hm : w.head? = some 45
  · have ed : digs w = w.tail := by unfold digs; rw [if_pos hm]
    obtain ⟨r, rfl⟩ : ∃ r, w = 45 :: r := by
      cases w with
      | nil => simp at hm
      | cons x t => simp only [List.head?_cons, Option.some.injEq] at hm; exact ⟨t, by rw [hm]⟩
    simp only [List.tail_cons] at ed
    rw [ed] at h1 h10 hd
    have hr : r ≠ [] := fun e => by rw [e] at h1; simp at h1
    have hv : numV (45 :: r) = -(natV r : Int) := by unfold numV; rw [if_pos hm, ed]
    rw [hv, Lib.atoi, if_pos (by decide), decNat_all hr hd]; rfl
  · have ed : digs w = w := by unfold digs; rw [if_neg hm]
    rw [ed] at h1 h10 hd
    have hv : numV w = (natV w : Int) := by unfold numV; rw [if_neg hm, ed]
    cases w with
    | nil => simp at h1
    | cons b r =>
      have hb := isDg_iff.1 (hd b (by simp))
      have n45 : ¬ (b == 45) = true := by
        intro e; have := congrArg UInt8.toNat (eq_of_beq e); have e45 : (45 : UInt8).toNat = 45 := rfl; omega
      have n43 : ¬ (b == 43) = true := by
        intro e; have := congrArg UInt8.toNat (eq_of_beq e); have e43 : (43 : UInt8).toNat = 43 := rfl; omega
      rw [hv, Lib.atoi, if_neg n45, if_neg n43, decNat_all (by simp) hd]; rfl
end Go.Proofs.YtpfekgmimfkjcaaGreatDoor
