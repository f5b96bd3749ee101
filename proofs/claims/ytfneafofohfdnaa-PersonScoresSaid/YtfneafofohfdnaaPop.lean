/-
  How many bits a number has, as math/bits counts them (pairs, then fours, then bytes); plain mathematics, no program.
-/
import Derived.Test.YtfneafofohfdnaaPsM
namespace Go.Proofs.Ytfneafofohfdnaa
/-- a byte, again and again -/
def rep (k : Nat) : Nat → Nat
  | 0 => 0
  | n + 1 => k + 256 * rep k n
theorem and256 {lo k : Nat} (hi m : Nat) (h1 : lo < 256) (h2 : k < 256) : (lo + 256 * hi) &&& (k + 256 * m) = (lo &&& k) + 256 * (hi &&& m) := by
  have h3 : lo &&& k < 256 := Nat.lt_of_le_of_lt Nat.and_le_left h1
  refine Nat.eq_of_testBit_eq (fun i => ?_)
  rw [Nat.testBit_and, show lo + 256 * hi = 2 ^ 8 * hi + lo by omega, show k + 256 * m = 2 ^ 8 * m + k by omega, show (lo &&& k) + 256 * (hi &&& m) = 2 ^ 8 * (hi &&& m) + (lo &&& k) by omega]
  rw [Nat.testBit_two_pow_mul_add hi h1, Nat.testBit_two_pow_mul_add m h2, Nat.testBit_two_pow_mul_add _ h3]
  split <;> rw [Nat.testBit_and]
def p55 (n x : Nat) : Nat := (x / 2 &&& rep 85 n) + (x &&& rep 85 n)
def p33 (n x : Nat) : Nat := (x / 4 &&& rep 51 n) + (x &&& rep 51 n)
def p0f (n x : Nat) : Nat := (x / 16 + x) &&& rep 15 n
def a8 (v : Nat) : Nat := (v / 2 &&& 85) + (v &&& 85)
def b8 (v : Nat) : Nat := (v / 4 &&& 51) + (v &&& 51)
def c8 (v : Nat) : Nat := (v / 16 + v) &&& 15
theorem a8_in : ∀ (v : Fin 256) (r : Fin 2), (v.val / 2 + 128 * r.val) &&& 85 = v.val / 2 &&& 85 := by decide +kernel
theorem b8_in : ∀ (v : Fin 256) (r : Fin 4), (v.val / 4 + 64 * r.val) &&& 51 = v.val / 4 &&& 51 := by decide +kernel
theorem c8_in : ∀ (v : Fin 69) (r : Fin 5), (v.val / 16 + 16 * r.val + v.val) &&& 15 = c8 v.val := by decide +kernel
theorem a8_lt : ∀ v : Fin 256, a8 v.val < 256 := by decide +kernel
theorem b8_le : ∀ v : Fin 256, b8 (a8 v.val) ≤ 68 := by decide +kernel
theorem b8_mod : ∀ v : Fin 256, b8 (a8 v.val) % 16 ≤ 4 := by decide +kernel
theorem p55_step {lo : Nat} (n hi : Nat) (h : lo < 256) : p55 (n + 1) (lo + 256 * hi) = a8 lo + 256 * p55 n hi := by
  have e : (lo + 256 * hi) / 2 = (lo / 2 + 128 * (hi % 2)) + 256 * (hi / 2) := by omega
  have e2 := a8_in ⟨lo, h⟩ ⟨hi % 2, Nat.mod_lt _ (by decide)⟩
  simp only at e2
  have h2 : lo / 2 + 128 * (hi % 2) < 256 := by omega
  unfold p55 a8
  rw [rep, e, and256 _ _ h2 (by decide), and256 _ _ h (by decide), e2]
  omega
theorem p33_step {lo : Nat} (n hi : Nat) (h : lo < 256) : p33 (n + 1) (lo + 256 * hi) = b8 lo + 256 * p33 n hi := by
  have e : (lo + 256 * hi) / 4 = (lo / 4 + 64 * (hi % 4)) + 256 * (hi / 4) := by omega
  have e2 := b8_in ⟨lo, h⟩ ⟨hi % 4, Nat.mod_lt _ (by decide)⟩
  simp only at e2
  have h2 : lo / 4 + 64 * (hi % 4) < 256 := by omega
  unfold p33 b8
  rw [rep, e, and256 _ _ h2 (by decide), and256 _ _ h (by decide), e2]
  omega
theorem p0f_step {lo : Nat} (n hi : Nat) (h : lo ≤ 68) (h4 : hi % 16 ≤ 4) : p0f (n + 1) (lo + 256 * hi) = c8 lo + 256 * p0f n hi := by
  have e : (lo + 256 * hi) / 16 + (lo + 256 * hi) = (lo / 16 + 16 * (hi % 16) + lo) + 256 * (hi / 16 + hi) := by omega
  have e2 := c8_in ⟨lo, by omega⟩ ⟨hi % 16, by omega⟩
  simp only at e2
  have h2 : lo / 16 + 16 * (hi % 16) + lo < 256 := by omega
  unfold p0f
  rw [rep, e, and256 _ _ h2 (by decide), e2]
/-- the bits of each byte, each in a byte -/
def pT (n x : Nat) : Nat := p0f n (p33 n (p55 n x))
theorem p_mod : ∀ (n x : Nat), x < 256 ^ n → p33 n (p55 n x) % 16 ≤ 4
  | 0, x, _ => by
    have e : ∀ y, p33 0 y = 0 := fun y => by simp [p33, rep]
    rw [e]; decide
  | n + 1, x, h => by
    have hl : x % 256 < 256 := Nat.mod_lt _ (by decide)
    have h1 := a8_lt ⟨x % 256, hl⟩
    have h2 := b8_mod ⟨x % 256, hl⟩
    simp only at h1 h2
    have e : x = x % 256 + 256 * (x / 256) := by omega
    rw [e, p55_step n _ hl, p33_step n _ h1]
    omega
theorem pT_step (n x : Nat) (h : x < 256 ^ (n + 1)) : pT (n + 1) x = c8 (b8 (a8 (x % 256))) + 256 * pT n (x / 256) := by
  have hl : x % 256 < 256 := Nat.mod_lt _ (by decide)
  have h1 := a8_lt ⟨x % 256, hl⟩
  simp only at h1
  have h2 := b8_le ⟨x % 256, hl⟩
  simp only at h2
  have e : x = x % 256 + 256 * (x / 256) := by omega
  have h3 := p_mod n (x / 256) (by rw [Nat.pow_succ] at h; omega)
  unfold pT
  conv => lhs; rw [e]
  rw [p55_step n _ hl, p33_step n _ h1, p0f_step n _ h2 h3]
/-- how many bits -/
def pcK (m : Nat) : Nat → Nat
  | 0 => 0
  | k + 1 => pcK m k + (if m.testBit k then 1 else 0)
theorem letsK_length (m : Nat) : ∀ k, (letsK m k).length = pcK m k
  | 0 => rfl
  | k + 1 => by
    rw [letsK, pcK, List.length_append, letsK_length m k]
    split <;> rfl
theorem pc8 : ∀ v : Fin 256, c8 (b8 (a8 v.val)) = pcK v.val 8 ∧ pcK v.val 8 ≤ 8 := by decide +kernel
theorem pcK_low {m : Nat} : ∀ k, k ≤ 8 → pcK m k = pcK (m % 256) k
  | 0, _ => rfl
  | k + 1, h => by
    rw [pcK, pcK, pcK_low k (by omega)]
    have : (m % 256).testBit k = m.testBit k := by
      rw [show (256 : Nat) = 2 ^ 8 from rfl, Nat.testBit_mod_two_pow]
      simp; omega
    rw [this]
theorem pcK_byte (m : Nat) : ∀ k, pcK m (k + 8) = pcK (m % 256) 8 + pcK (m / 256) k
  | 0 => by rw [← pcK_low 8 (Nat.le_refl _)]; simp [pcK]
  | k + 1 => by
    have e1 : pcK m (k + 1 + 8) = pcK m (k + 8) + (if m.testBit (k + 8) then 1 else 0) := by rw [show k + 1 + 8 = (k + 8) + 1 by omega, pcK]
    have e2 : pcK (m / 256) (k + 1) = pcK (m / 256) k + (if (m / 256).testBit k then 1 else 0) := rfl
    rw [e1, pcK_byte m k, e2]
    have : m.testBit (k + 8) = (m / 256).testBit k := by
      rw [show (256 : Nat) = 2 ^ 8 from rfl, Nat.testBit_div_two_pow, Nat.add_comm]
    rw [this]; omega
theorem pcK_high {m : Nat} (h : m < 2 ^ 53) : ∀ k, pcK m (53 + k) = pcK m 53
  | 0 => rfl
  | k + 1 => by
    rw [show 53 + (k + 1) = (53 + k) + 1 by omega, pcK, pcK_high h k, Nat.testBit_lt_two_pow (Nat.lt_of_lt_of_le h (Nat.pow_le_pow_right (by decide) (by omega)))]
    rfl
theorem size_lets {m : Nat} (h : m < 2 ^ 53) : pcK m 64 = (lets m).length := by
  rw [lets, letsK_length]; exact pcK_high h 11
theorem pT_8 (x : Nat) (h : x < 18446744073709551616) : ∃ q0 q1 q2 q3 q4 q5 q6 q7 : Nat, q0 ≤ 8 ∧ q1 ≤ 8 ∧ q2 ≤ 8 ∧ q3 ≤ 8 ∧ q4 ≤ 8 ∧ q5 ≤ 8 ∧ q6 ≤ 8 ∧ q7 ≤ 8 ∧
    pT 8 x = q0 + 256 * (q1 + 256 * (q2 + 256 * (q3 + 256 * (q4 + 256 * (q5 + 256 * (q6 + 256 * q7)))))) ∧ pcK x 64 = q0 + q1 + q2 + q3 + q4 + q5 + q6 + q7 := by
  have st : ∀ (n x : Nat), x < 256 ^ (n + 1) → ∃ q, q ≤ 8 ∧ pT (n + 1) x = q + 256 * pT n (x / 256) ∧ (∀ k, pcK x (k + 8) = q + pcK (x / 256) k) ∧ x / 256 < 256 ^ n := by
    intro n x hx
    obtain ⟨e1, e2⟩ := pc8 ⟨x % 256, Nat.mod_lt _ (by decide)⟩
    simp only at e1 e2
    refine ⟨pcK (x % 256) 8, e2, ?_, fun k => pcK_byte x k, by rw [Nat.pow_succ] at hx; omega⟩
    rw [pT_step n x hx, e1]
  obtain ⟨q0, a0, b0, d0, g0⟩ := st 7 x h
  obtain ⟨q1, a1, b1, d1, g1⟩ := st 6 _ g0
  obtain ⟨q2, a2, b2, d2, g2⟩ := st 5 _ g1
  obtain ⟨q3, a3, b3, d3, g3⟩ := st 4 _ g2
  obtain ⟨q4, a4, b4, d4, g4⟩ := st 3 _ g3
  obtain ⟨q5, a5, b5, d5, g5⟩ := st 2 _ g4
  obtain ⟨q6, a6, b6, d6, g6⟩ := st 1 _ g5
  obtain ⟨q7, a7, b7, d7, g7⟩ := st 0 _ g6
  have hz : ∀ y, pT 0 y = 0 := fun y => by simp [pT, p0f, rep]
  refine ⟨q0, q1, q2, q3, q4, q5, q6, q7, a0, a1, a2, a3, a4, a5, a6, a7, ?_, ?_⟩
  · rw [b0, b1, b2, b3, b4, b5, b6, b7, hz]
    simp only [Nat.mul_zero, Nat.add_zero]
  · rw [show (64 : Nat) = 56 + 8 from rfl, d0, show (56 : Nat) = 48 + 8 from rfl, d1, show (48 : Nat) = 40 + 8 from rfl, d2, show (40 : Nat) = 32 + 8 from rfl, d3, show (32 : Nat) = 24 + 8 from rfl, d4, show (24 : Nat) = 16 + 8 from rfl, d5, show (16 : Nat) = 8 + 8 from rfl, d6, show (8 : Nat) = 0 + 8 from rfl, d7]
    simp only [pcK]
    omega
def fold8 (c : Nat) : Nat := c + c / 256
def fold16 (c : Nat) : Nat := c + c / 65536
def fold32 (c : Nat) : Nat := c + c / 4294967296
theorem split4 (x0 x1 x2 x3 H : Nat) : x0 + 256 * (x1 + 256 * (x2 + 256 * (x3 + 256 * H))) = (x0 + 256 * (x1 + 256 * (x2 + 256 * x3))) + 4294967296 * H := by omega
theorem bnd8 {q0 q1 q2 q3 q4 q5 q6 q7 : Nat} (a0 : q0 ≤ 8) (a1 : q1 ≤ 8) (a2 : q2 ≤ 8) (a3 : q3 ≤ 8) (a4 : q4 ≤ 8) (a5 : q5 ≤ 8) (a6 : q6 ≤ 8) (a7 : q7 ≤ 8) : q0 + 256 * (q1 + 256 * (q2 + 256 * (q3 + 256 * (q4 + 256 * (q5 + 256 * (q6 + 256 * q7)))))) < 1152921504606846976 := by omega
theorem bnd16 {q0 q1 q2 q3 q4 q5 q6 q7 : Nat} (a0 : q0 ≤ 16) (a1 : q1 ≤ 16) (a2 : q2 ≤ 16) (a3 : q3 ≤ 16) (a4 : q4 ≤ 16) (a5 : q5 ≤ 16) (a6 : q6 ≤ 16) (a7 : q7 ≤ 16) : q0 + 256 * (q1 + 256 * (q2 + 256 * (q3 + 256 * (q4 + 256 * (q5 + 256 * (q6 + 256 * q7)))))) < 2305843009213693952 := by omega
theorem mod256 {x y : Nat} (h : x < 256) : (x + 256 * y) % 256 = x := by omega
theorem fold8_8 {q0 q1 q2 q3 q4 q5 q6 q7 : Nat} (a0 : q0 ≤ 8) (_a1 : q1 ≤ 8) (_a2 : q2 ≤ 8) (_a3 : q3 ≤ 8) (_a4 : q4 ≤ 8) (_a5 : q5 ≤ 8) (_a6 : q6 ≤ 8) (_a7 : q7 ≤ 8) : fold8 (q0 + 256 * (q1 + 256 * (q2 + 256 * (q3 + 256 * (q4 + 256 * (q5 + 256 * (q6 + 256 * q7))))))) = (q0 + q1) + 256 * ((q1 + q2) + 256 * ((q2 + q3) + 256 * ((q3 + q4) + 256 * ((q4 + q5) + 256 * ((q5 + q6) + 256 * ((q6 + q7) + 256 * q7)))))) := by unfold fold8; omega
theorem fold16_16 {q0 q1 q2 q3 q4 q5 q6 q7 : Nat} (a0 : q0 ≤ 8) (a1 : q1 ≤ 8) (a2 : q2 ≤ 8) (a3 : q3 ≤ 8) (a4 : q4 ≤ 8) (a5 : q5 ≤ 8) (a6 : q6 ≤ 8) (a7 : q7 ≤ 8) : fold16 ((q0 + q1) + 256 * ((q1 + q2) + 256 * ((q2 + q3) + 256 * ((q3 + q4) + 256 * ((q4 + q5) + 256 * ((q5 + q6) + 256 * ((q6 + q7) + 256 * q7))))))) = (q0 + q1 + q2 + q3) + 256 * ((q1 + q2 + q3 + q4) + 256 * ((q2 + q3 + q4 + q5) + 256 * ((q3 + q4 + q5 + q6) + 256 * ((q4 + q5 + q6 + q7) + 256 * ((q5 + q6 + q7) + 256 * ((q6 + q7) + 256 * q7)))))) := by unfold fold16; omega
theorem bndA {x0 x1 x2 x3 : Nat} (h0 : x0 ≤ 32) (h1 : x1 ≤ 32) (h2 : x2 ≤ 32) (h3 : x3 ≤ 32) : x0 + 256 * (x1 + 256 * (x2 + 256 * x3)) < 1073741824 := by omega
theorem fin4 {A B SA SB : Nat} (hA : A % 256 = SA) (hB : B % 256 = SB) (hS : SA + SB ≤ 64) (h1 : A < 1073741824) (h2 : B < 1073741824) :
    A + 4294967296 * B < 4611686018427387904 ∧ fold32 (A + 4294967296 * B) < 9223372036854775808 ∧ fold32 (A + 4294967296 * B) % 128 = SA + SB := by
  have f3 : fold32 (A + 4294967296 * B) = A + B + 4294967296 * B := by unfold fold32; omega
  rw [f3]
  refine ⟨by omega, by omega, by omega⟩
/-- the count, and that nothing on the way is too great -/
theorem pop64 (x : Nat) (h : x < 18446744073709551616) :
    pT 8 x < 1152921504606846976 ∧ fold8 (pT 8 x) < 2305843009213693952 ∧ fold16 (fold8 (pT 8 x)) < 4611686018427387904 ∧ fold32 (fold16 (fold8 (pT 8 x))) < 9223372036854775808 ∧ fold32 (fold16 (fold8 (pT 8 x))) % 128 = pcK x 64 := by
  obtain ⟨q0, q1, q2, q3, q4, q5, q6, q7, a0, a1, a2, a3, a4, a5, a6, a7, e, ec⟩ := pT_8 x h
  have f1 := fold8_8 a0 a1 a2 a3 a4 a5 a6 a7
  have f2 := fold16_16 a0 a1 a2 a3 a4 a5 a6 a7
  have hx1 := bnd8 a0 a1 a2 a3 a4 a5 a6 a7
  have hx2 := bnd16 (q0 := q0 + q1) (q1 := q1 + q2) (q2 := q2 + q3) (q3 := q3 + q4) (q4 := q4 + q5) (q5 := q5 + q6) (q6 := q6 + q7) (q7 := q7) (Nat.add_le_add a0 a1) (Nat.add_le_add a1 a2) (Nat.add_le_add a2 a3) (Nat.add_le_add a3 a4) (Nat.add_le_add a4 a5) (Nat.add_le_add a5 a6) (Nat.add_le_add a6 a7) (Nat.le_trans a7 (by decide))
  have s0 : q0 + q1 + q2 + q3 ≤ 32 := Nat.add_le_add (Nat.add_le_add (Nat.add_le_add a0 a1) a2) a3
  have s1 : q1 + q2 + q3 + q4 ≤ 32 := Nat.add_le_add (Nat.add_le_add (Nat.add_le_add a1 a2) a3) a4
  have s2 : q2 + q3 + q4 + q5 ≤ 32 := Nat.add_le_add (Nat.add_le_add (Nat.add_le_add a2 a3) a4) a5
  have s3 : q3 + q4 + q5 + q6 ≤ 32 := Nat.add_le_add (Nat.add_le_add (Nat.add_le_add a3 a4) a5) a6
  have s4 : q4 + q5 + q6 + q7 ≤ 32 := Nat.add_le_add (Nat.add_le_add (Nat.add_le_add a4 a5) a6) a7
  have s5 : q5 + q6 + q7 ≤ 32 := Nat.le_trans (Nat.add_le_add (Nat.add_le_add a5 a6) a7) (by decide)
  have s6 : q6 + q7 ≤ 32 := Nat.le_trans (Nat.add_le_add a6 a7) (by decide)
  have s7 : q7 ≤ 32 := Nat.le_trans a7 (by decide)
  have hm1 : ((q0 + q1 + q2 + q3) + 256 * ((q1 + q2 + q3 + q4) + 256 * ((q2 + q3 + q4 + q5) + 256 * (q3 + q4 + q5 + q6)))) % 256 = q0 + q1 + q2 + q3 := mod256 (Nat.lt_of_le_of_lt s0 (by decide))
  have hm2 : ((q4 + q5 + q6 + q7) + 256 * ((q5 + q6 + q7) + 256 * ((q6 + q7) + 256 * q7))) % 256 = q4 + q5 + q6 + q7 := mod256 (Nat.lt_of_le_of_lt s4 (by decide))
  have hf := fin4 hm1 hm2 (Nat.add_le_add s0 s4) (bndA s0 s1 s2 s3) (bndA s4 s5 s6 s7)
  have hS : (q0 + q1 + q2 + q3) + (q4 + q5 + q6 + q7) = q0 + q1 + q2 + q3 + q4 + q5 + q6 + q7 := by simp only [Nat.add_assoc]
  rw [hS] at hf
  refine ⟨by rw [e]; exact hx1, by rw [e, f1]; exact hx2, ?_⟩
  rw [ec, e, f1, f2, split4]
  exact hf
end Go.Proofs.Ytfneafofohfdnaa
