/-
  What bits.OnesCount64 and the size of a sign return: contracts, each for all worlds.
-/
import Derived.Test.YtfneafofohfdnaaPBase
import Derived.Test.YtfneafofohfdnaaPop
import Derived.Laws.BitsAllLaws
import Derived.Laws.BitsLemmas
namespace Go.Proofs.Ytfneafofohfdnaa
open Go.RowKit
theorem wrapU64 (a : Nat) (h : a < 18446744073709551616) : IntKind.u64.wrap (a : Int) = (a : Int) := by
  simp [IntKind.wrap, IntKind.bits, IntKind.signed]; omega
theorem rep85 : rep 85 8 = 6148914691236517205 := by decide
theorem rep51 : rep 51 8 = 3689348814741910323 := by decide
theorem rep15 : rep 15 8 = 1085102592571150095 := by decide
theorem p55_w (m : Nat) (h : m < 18446744073709551616) : IntKind.u64.wrap (bits .and .u64 ((m : Int) / 2) 6148914691236517205 + bits .and .u64 (m : Int) 6148914691236517205) = ((p55 8 m : Nat) : Int) ∧ p55 8 m < 18446744073709551616 := by
  have h1 : (m : Int) / 2 = ((m / 2 : Nat) : Int) := rfl
  have e1 := u64_and_nat (m / 2) 6148914691236517205 (by omega) (by decide)
  have e2 := u64_and_nat m 6148914691236517205 h (by decide)
  have b1 : m / 2 &&& 6148914691236517205 ≤ 6148914691236517205 := Nat.and_le_right
  have b2 : m &&& 6148914691236517205 ≤ 6148914691236517205 := Nat.and_le_right
  unfold p55
  rw [rep85]
  refine ⟨?_, by omega⟩
  rw [h1]
  erw [e1, e2]
  rw [← Int.natCast_add, wrapU64 _ (by omega)]
theorem p33_w (m : Nat) (h : m < 18446744073709551616) : IntKind.u64.wrap (bits .and .u64 ((m : Int) / 4) 3689348814741910323 + bits .and .u64 (m : Int) 3689348814741910323) = ((p33 8 m : Nat) : Int) ∧ p33 8 m ≤ 7378697629483820646 := by
  have h1 : (m : Int) / 4 = ((m / 4 : Nat) : Int) := rfl
  have e1 := u64_and_nat (m / 4) 3689348814741910323 (by omega) (by decide)
  have e2 := u64_and_nat m 3689348814741910323 h (by decide)
  have b1 : m / 4 &&& 3689348814741910323 ≤ 3689348814741910323 := Nat.and_le_right
  have b2 : m &&& 3689348814741910323 ≤ 3689348814741910323 := Nat.and_le_right
  unfold p33
  rw [rep51]
  refine ⟨?_, by omega⟩
  rw [h1]
  erw [e1, e2]
  rw [← Int.natCast_add, wrapU64 _ (by omega)]
theorem p0f_w (m : Nat) (h : m ≤ 7378697629483820646) : bits .and .u64 (IntKind.u64.wrap ((m : Int) / 16 + (m : Int))) 1085102592571150095 = ((p0f 8 m : Nat) : Int) := by
  have h1 : (m : Int) / 16 = ((m / 16 : Nat) : Int) := rfl
  have e1 := u64_and_nat (m / 16 + m) 1085102592571150095 (by omega) (by decide)
  unfold p0f
  rw [rep15, h1, ← Int.natCast_add, wrapU64 _ (by omega)]
  exact e1
theorem f8_w (m : Nat) (h : fold8 m < 18446744073709551616) : IntKind.u64.wrap ((m : Int) + (m : Int) / 256) = ((fold8 m : Nat) : Int) := by
  have h1 : (m : Int) / 256 = ((m / 256 : Nat) : Int) := rfl
  rw [h1, ← Int.natCast_add]; exact wrapU64 _ h
theorem f16_w (m : Nat) (h : fold16 m < 18446744073709551616) : IntKind.u64.wrap ((m : Int) + (m : Int) / 65536) = ((fold16 m : Nat) : Int) := by
  have h1 : (m : Int) / 65536 = ((m / 65536 : Nat) : Int) := rfl
  rw [h1, ← Int.natCast_add]; exact wrapU64 _ h
theorem f32_w (m : Nat) (h : fold32 m < 18446744073709551616) : IntKind.u64.wrap ((m : Int) + (m : Int) / 4294967296) = ((fold32 m : Nat) : Int) := by
  have h1 : (m : Int) / 4294967296 = ((m / 4294967296 : Nat) : Int) := rfl
  rw [h1, ← Int.natCast_add]; exact wrapU64 _ h
theorem ofInt_i64 (a : Nat) (ha : a < 9223372036854775808) : (BitVec.ofInt 64 (a : Int)).toNat = a := by
  rw [BitVec.ofInt_natCast, BitVec.toNat_ofNat]; exact Nat.mod_eq_of_lt (by omega)
theorem i64_and_nat (a b : Nat) (ha : a < 9223372036854775808) (hb : b < 9223372036854775808) : bits .and .i64 (a : Int) (b : Int) = ((a &&& b : Nat) : Int) := by
  have hx : a &&& b < 2 ^ 63 := Nat.and_lt_two_pow _ (by omega)
  show IntKind.i64.wrap ((BitVec.ofInt 64 (a : Int) &&& BitVec.ofInt 64 (b : Int)).toNat : Int) = _
  rw [BitVec.toNat_and, ofInt_i64 a ha, ofInt_i64 b hb, IntKind.wrap_i64]
  omega
theorem ones_any (m : Nat) (w : World) (h : m < 18446744073709551616) : Calls Try.prog 60 #[.int .u64 m] w (Ret (.int .i64 (pcK m 64)) w) := by
  obtain ⟨e1, b1⟩ := p55_w m h
  obtain ⟨e2, b2⟩ := p33_w _ b1
  have e3 := p0f_w _ b2
  obtain ⟨c1, c2, c3, c4, e7⟩ := pop64 m h
  unfold pT at c1 c2 c3 c4 e7
  have e4 := f8_w _ (Nat.lt_trans c2 (by decide))
  have e5 := f16_w _ (Nat.lt_trans c3 (by decide))
  have e6 := f32_w _ (Nat.lt_trans c4 (by decide))
  have H1 := Lib.hid e1
  have H2 := Lib.hid e2
  have H3 := Lib.hid e3
  have H4 := Lib.hid e4
  have H5 := Lib.hid e5
  have H6 := Lib.hid e6
  have H7 := Lib.hid e7
  have H8 := Lib.hid c4
  clear e1 e2 e3 e4 e5 e6 e7 b1 b2 c1 c2 c3 c4
  go_enter Try.func60, Try.ntmps60
  go_wp2
  simp only [H1.out, H2.out, H3.out, H4.out, H5.out, H6.out]
  go_ret
  refine ⟨?_, rfl⟩
  have h7 := H7.out
  have h8 := H8.out
  clear H1 H2 H3 H4 H5 H6 H7 H8
  generalize fold32 (fold16 (fold8 (p0f 8 (p33 8 (p55 8 m))))) = F at *
  have ew : RowKit.wrap64 (F : Int) = (F : Int) := by unfold RowKit.wrap64; omega
  have ea := i64_and_nat F 127 h8 (by decide)
  show Ending.returned (.int .i64 (bits .and .i64 (RowKit.wrap64 (F : Int)) 127)) = _
  rw [ew]
  refine ret_i ?_
  rw [← h7]
  refine Eq.trans ea ?_
  rw [nat_mask7]
theorem size_any (m : Nat) (w : World) (h : m < 2 ^ 53) : Calls Try.prog 36 #[.int .u64 m] w (Ret (.int .i64 ((lets m).length : Nat)) w) := by
  have ho := fun w => ones_any m w (Nat.lt_trans h (by decide))
  rw [size_lets h] at ho
  have HO := Lib.hid ho
  clear ho h
  go_enter Try.func36, Try.ntmps36
  go_wp2_with (go_at_call 60; refine (HO.out _).mono ?_; rintro e w' ⟨rfl, rfl⟩)
  go_ret
  exact ⟨rfl, rfl⟩
end Go.Proofs.Ytfneafofohfdnaa
