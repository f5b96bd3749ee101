/-
  The iterator over the letters of a sign: its contract for every body of a loop.
-/
import Derived.Test.YtfneafofohfdnaaPSize
import Derived.Test.YtfneafofohfdnaaRgM
import Derived.Shelf.Abstract
import Derived.Shelf.RegionOpen
import Derived.OwnWalkIn
import Derived.TacticsInMore
import Derived.LoopNIn
import Derived.LoopIn
namespace Go.Proofs.Ytfneafofohfdnaa
open Go.RowKit Go.Shelf
attribute [local go_sem] set_drewN Oper.semAt_some
theorem bit_u64 (m k : Nat) (hm : m < 2 ^ 53) (hk : k < 53) : bits .and .u64 (m : Int) (IntKind.u64.wrap (2 ^ k)) = ((m / 2 ^ k % 2 * 2 ^ k : Nat) : Int) := by
  have e1 : (2 ^ k : Int) = ((2 ^ k : Nat) : Int) := by simp
  have h2 : 2 ^ k < 2 ^ 53 := Nat.pow_lt_pow_right (by decide) hk
  rw [e1, wrapU64 _ (Nat.lt_trans h2 (by decide)), u64_and_nat _ _ (Nat.lt_trans hm (by decide)) (Nat.lt_trans h2 (by decide)), nat_bit]
theorem bit_no {m k : Nat} (hm : m < 2 ^ 53) (hk : k < 53) (h : m.testBit k = false) : bits .and .u64 (m : Int) (IntKind.u64.wrap (2 ^ k)) = 0 := by
  rw [bit_u64 m k hm hk]
  rw [Nat.testBit_eq_decide_div_mod_eq, decide_eq_false_iff_not] at h
  rcases Nat.mod_two_eq_zero_or_one (m / 2 ^ k) with e | e
  · rw [e]; simp
  · exact absurd e h
theorem bit_yes {m k : Nat} (hm : m < 2 ^ 53) (hk : k < 53) (h : m.testBit k = true) : ¬ bits .and .u64 (m : Int) (IntKind.u64.wrap (2 ^ k)) = 0 := by
  rw [bit_u64 m k hm hk]
  rw [Nat.testBit_eq_decide_div_mod_eq, decide_eq_true_eq] at h
  have hp : 0 < 2 ^ k := Nat.two_pow_pos k
  rw [h, Nat.one_mul]
  intro e
  have : 2 ^ k = 0 := by exact_mod_cast e
  omega
theorem ab_at : ∀ i : Fin 53, (⟨#[45, 65, 66, 67, 68, 69, 70, 71, 72, 73, 74, 75, 76, 77, 78, 79, 80, 81, 82, 83, 84, 85, 86, 87, 88, 89, 90, 97, 98, 99, 100, 101, 102, 103, 104, 105, 106, 107, 108, 109, 110, 111, 112, 113, 114, 115, 116, 117, 118, 119, 120, 121, 122]⟩ : ByteArray)[i.val]'(Nat.lt_of_lt_of_eq i.isLt (by decide)) = AB.getD i.val 0 := by decide +kernel
set_option maxRecDepth 100000 in
set_option maxHeartbeats 2000000 in
theorem let_in (n : Nat) (hn : 2 ≤ n) (l m : Nat) (hm : m < 2 ^ 53) (J : List UInt8 → World → Prop) (W : World)
    (hY : ∀ pre x W1, J pre W1 → pre.length < 53 → YieldAt Fence.wide (n - 1) Try.prog l #[.int .u8 (x.toNat : Int)] W1 fun e W' => e = .returned (.bool true) ∧ J (pre ++ [x]) W') (h0 : J [] W) :
    CallsIn Fence.wide n Try.prog 59 #[.int .u64 m, .func (.yield l) #[] #[]] W fun e W' => (∃ v, e = .returned v) ∧ ∃ xs, xs = lets m ∧ J xs W' := by
  have hJ0 := Lib.hid h0
  clear h0
  refine callsIn_of_wp Try.func59 rfl trivial ?_ rfl
  simp only [Try.ntmps59, List.size_toArray, List.length_cons, List.length_nil, Nat.reduceAdd, Nat.reduceSub, Array.replicate_succ, Array.replicate_zero, List.push_toArray, List.append_toArray, List.nil_append, List.cons_append]
  gi_wp2
  gi_loopw [5] (fun iv wr => ∃ k : Nat, k ≤ 53 ∧ iv = .int .i64 k ∧ Hid (J (letsK m k) wr)) (fun iv _ => 53 - (intOf iv).toNat)
  case atStart => exact ⟨0, by omega, rfl, hJ0⟩
  case round =>
    obtain ⟨k, hk, rfl, hJs⟩ := hrel
    by_cases hlt : k < 53
    · have hlen := letsK_len m k
      have hmH := Lib.hid hm
      clear hm
      cases hbit : m.testBit k
      · have hb := bit_no hmH.out hlt hbit
        have HN := Lib.hid (show letsK m (k + 1) = letsK m k by rw [letsK, hbit]; simp)
        clear hbit
        gi_wp2
        refine ⟨fun _ h => (by cases h), ?_⟩
        gi_wp2
        go_roundw
        case rel => exact ⟨k + 1, by omega, by go_num, by rw [HN.out]; exact hJs⟩
        case measure => simp [intOf]; omega
      · have hb := bit_yes hmH.out hlt hbit
        have HN := Lib.hid (show letsK m (k + 1) = letsK m k ++ [AB.getD k 0] by rw [letsK, hbit]; simp)
        have hx := Lib.hid (ab_at ⟨k, hlt⟩)
        clear hbit
        obtain ⟨fn, tmps, assign, body, hy, hR⟩ := hY (letsK m k) ((⟨#[45, 65, 66, 67, 68, 69, 70, 71, 72, 73, 74, 75, 76, 77, 78, 79, 80, 81, 82, 83, 84, 85, 86, 87, 88, 89, 90, 97, 98, 99, 100, 101, 102, 103, 104, 105, 106, 107, 108, 109, 110, 111, 112, 113, 114, 115, 116, 117, 118, 119, 120, 121, 122]⟩ : ByteArray)[k]'(Nat.lt_of_lt_of_eq hlt (by decide))) wr hJs.out (by omega)
        gi_wp2
        refine ⟨(fun _ => by omega), hR.mono ?_⟩
        rintro e W3 ⟨rfl, hJ3⟩
        have J3 := Lib.hid hJ3
        clear hy hR hJ3
        gi_wp2
        go_roundw
        case rel => exact ⟨k + 1, by omega, by go_num, by rw [HN.out]; have h := J3.out; rw [hx.out] at h; exact Lib.hid h⟩
        case measure => simp [intOf]; omega
    · obtain rfl : k = 53 := by omega
      gi_wp2
      go_end0
      exact ⟨⟨_, rfl⟩, _, rfl, hJs.out⟩
end Go.Proofs.Ytfneafofohfdnaa
