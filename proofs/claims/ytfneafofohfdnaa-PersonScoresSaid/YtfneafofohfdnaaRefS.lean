/-
  What place, isSet, Signs and CheckName of the specification of package person return: contracts, each for all worlds.
-/
import Derived.Test.YtfneafofohfdnaaRsM
import Derived.Test.YtfneafofohfdnaaPStr
import Derived.Test.YtfneafofohfdnaaRdS
namespace Go.Proofs.Ytfneafofohfdnaa
open Go.RowKit
attribute [local go_sem] set_drewN
theorem ib_lt : ∀ (s : List UInt8) (c : UInt8) (k : Nat), (∀ j (h : j < s.length), j < k → s[j] ≠ c) → k ≤ s.length → ∀ (hk : k < s.length), s[k] = c → Lib.indexByte s c = (k : Int)
  | [], _, _, _, _, hk, _ => absurd hk (by simp)
  | d :: s, c, 0, _, _, _, e => by
    have : (d == c) = true := by simpa using e
    rw [Lib.indexByte, this]; rfl
  | d :: s, c, k + 1, h, hk, hk2, e => by
    have hd : (d == c) = false := by rw [beq_eq_false_iff_ne]; exact h 0 (by simp) (by omega)
    have ih := ib_lt s c k (fun j hj hjk => by have := h (j + 1) (by simpa using hj) (by omega); simpa using this) (by simpa using hk) (by simpa using hk2) (by simpa using e)
    rw [Lib.indexByte, hd, ih]
    have : (((k : Int) == -1) = false) := by rw [beq_eq_false_iff_ne]; omega
    simp [this]
theorem ib_none : ∀ (s : List UInt8) (c : UInt8), (∀ j (h : j < s.length), s[j] ≠ c) → Lib.indexByte s c = -1
  | [], _, _ => rfl
  | d :: s, c, h => by
    have hd : (d == c) = false := by rw [beq_eq_false_iff_ne]; exact h 0 (by simp)
    have ih := ib_none s c (fun j hj => by have := h (j + 1) (by simpa using hj); simpa using this)
    rw [Lib.indexByte, hd, ih]; rfl
theorem arr_at (s : List UInt8) (k : Nat) (_h : k < s.length) (hk2 : k < (⟨s.toArray⟩ : ByteArray).size) : (⟨s.toArray⟩ : ByteArray)[k]'hk2 = s[k] := by simp [ByteArray.getElem_eq_getElem_data]
theorem arr_lt {s : List UInt8} {k : Nat} (h : k < s.length) : k < (⟨s.toArray⟩ : ByteArray).size := by show k < s.toArray.size; simpa using h
theorem place_any (s : List UInt8) (c : UInt8) (w : World) (hl : s.length ≤ 1000000000000) : Calls Try.prog 40 #[.string ⟨s.toArray⟩, .int .u8 (c.toNat : Int)] w (Ret (.int .i64 (Lib.indexByte s c)) w) := by
  obtain ⟨R, hR⟩ : ∃ R, Lib.indexByte s c = R := ⟨_, rfl⟩
  rw [hR]
  have HR := Lib.hid hR
  clear hR
  go_enter Try.func40, Try.ntmps40
  go_wp2
  go_loop [5] (fun iv => ∃ k : Nat, k ≤ s.length ∧ iv = .int .i64 k ∧ Hid (∀ j (h : j < s.length), j < k → s[j] ≠ c)) (fun iv => s.length - (intOf iv).toNat)
  case atStart => exact ⟨0, Nat.zero_le _, rfl, Lib.hid (fun j _ h => absurd h (by omega))⟩
  case round =>
    obtain ⟨k, hk, rfl, HA⟩ := hrel
    by_cases hlt : k < s.length
    · have hg := arr_at s k hlt (arr_lt hlt)
      by_cases e : s[k] = c
      · have HRk := Lib.hid ((ib_lt s c k HA.out hk hlt e).symm.trans HR.out)
        have hc : (((⟨s.toArray⟩ : ByteArray)[k]'(arr_lt hlt)).toNat : Int) = (c.toNat : Int) := by rw [hg, e]
        clear hg e
        go_wp2
        go_ret
        exact ⟨ret_i HRk.out, rfl⟩
      · have HA2 := Lib.hid (show ∀ j (h : j < s.length), j < k + 1 → s[j] ≠ c by
          intro j hj hjk
          by_cases ej : j = k
          · subst ej; exact e
          · exact HA.out j hj (by omega))
        have hc : ¬ (((⟨s.toArray⟩ : ByteArray)[k]'(arr_lt hlt)).toNat : Int) = (c.toNat : Int) := by
          rw [hg]; intro h; exact e (Lib.byte_eq_of_toNat (by exact_mod_cast h))
        clear hg e
        go_wp2
        go_round
        case rel => exact ⟨k + 1, by omega, by go_num, HA2⟩
        case measure => simp [intOf]; omega
    · obtain rfl : k = s.length := by omega
      have HRk := Lib.hid ((ib_none s c (fun j hj => HA.out j hj hj)).symm.trans HR.out)
      go_wp2
      go_ret
      exact ⟨ret_i HRk.out, rfl⟩
theorem placeAB (c : UInt8) (r : Int) (h : Hid (plI c = r)) (w : World) : Calls Try.prog 40 #[.string (⟨#[45, 65, 66, 67, 68, 69, 70, 71, 72, 73, 74, 75, 76, 77, 78, 79, 80, 81, 82, 83, 84, 85, 86, 87, 88, 89, 90, 97, 98, 99, 100, 101, 102, 103, 104, 105, 106, 107, 108, 109, 110, 111, 112, 113, 114, 115, 116, 117, 118, 119, 120, 121, 122]⟩ : ByteArray), .int .u8 (c.toNat : Int)] w (Ret (.int .i64 r) w) := by
  have hp := place_any AB c w (by decide)
  rw [idx_any] at hp
  have e : (if pl c < 53 then (pl c : Int) else -1) = r := h.out
  rw [e] at hp
  exact hp
theorem quiet_add_left {P : Program} {f : FuncId} {args : Array Value} {w : World} {a n : Nat} {v : Value}
    (h : Calls P f args (w.drewN (a + n)) (Ret v (w.drewN (a + n)))) :
    Calls P f args (w.drewN (a + n)) fun e w'' => e = .returned v ∧ ∃ m, w'' = w.drewN (a + m) :=
  h.mono fun _ _ ⟨he, hm⟩ => ⟨he, n, hm.symm⟩
theorem quiet_left {P : Program} {f : FuncId} {args : Array Value} {w : World} {n : Nat} {v : Value}
    (h : Calls P f args (w.drewN n) (Ret v (w.drewN n))) : Calls P f args (w.drewN n) fun e w'' => e = .returned v ∧ ∃ m, w'' = w.drewN m :=
  h.mono fun _ _ ⟨he, hm⟩ => ⟨he, n, hm.symm⟩
theorem take_last {s : List UInt8} {k : Nat} (h : k < s.length) : (s.take (k + 1)).getLast? = some s[k] := by
  rw [List.take_succ_eq_append_getElem h, List.getLast?_append]; simp
set_option maxRecDepth 100000 in
set_option maxHeartbeats 2000000 in
theorem isSet_any (s : List UInt8) (w : World) (hl : s.length ≤ 1000000000000) : Calls Try.prog 41 #[.string ⟨s.toArray⟩] w (RetB (.bool (decide (setB s))) w) := by
  obtain ⟨R, hR⟩ : ∃ R, decide (setB s) = R := ⟨_, rfl⟩
  rw [hR]
  have HR := Lib.hid hR
  clear hR
  go_enter Try.func41, Try.ntmps41
  go_wp2
  go_loopw [3] (fun iv wr => ∃ k : Nat, k ≤ s.length ∧ iv = .int .i64 k ∧ Hid (setB (s.take k)) ∧ Hid (Below w.heap.size w wr)) (fun iv _ => s.length - (intOf iv).toNat)
  case atStart => exact ⟨0, Nat.zero_le _, rfl, Lib.hid (by rw [List.take_zero]; exact ⟨by simp, by simp⟩), Lib.hid (Below.refl _ _)⟩
  case round =>
    obtain ⟨k, hk, rfl, HS, HB⟩ := hrel
    by_cases hlt : k < s.length
    · have hg := arr_at s k hlt (arr_lt hlt)
      by_cases hp : s[k] ∈ AB
      · have hpl := pl_mem.2 hp
        rw [← hg] at hpl
        obtain ⟨p, hpp⟩ : ∃ p, pl ((⟨s.toArray⟩ : ByteArray)[k]'(arr_lt hlt)) = p := ⟨_, rfl⟩
        have hx := Lib.hid (show plI ((⟨s.toArray⟩ : ByteArray)[k]'(arr_lt hlt)) = (p : Int) by unfold plI; rw [if_pos hpl, hpp])
        have hpneg : decide ((p : Int) < 0) = false := by rw [decide_eq_false_iff_not]; omega
        have HP := Lib.hid hp
        clear hpl hpp hp
        cases k with
        | zero =>
          have HN := Lib.hid (show setB (s.take 1) by
            rw [show (1 : Nat) = 0 + 1 from rfl, List.take_succ_eq_append_getElem hlt]
            exact setB_snoc HS.out HP.out (by simp))
          clear hg
          go_wp2
          go_quiet (first
            | (go_at_call 40; exact quiet_left (placeAB _ _ hx _))
            | (go_at_call 40; exact quiet_add_left (placeAB _ _ hx _))
            | (go_at_call 40; exact Calls.quiet_of_same (same_n (placeAB _ _ hx _))))
          go_wp2
          go_roundw
          case rel => exact ⟨1, by omega, by go_num, HN, Lib.hid (below_n HB.out _)⟩
          case measure => simp [intOf]; omega
        | succ j =>
          have hj : j < s.length := by omega
          have hg2 := arr_at s j hj (arr_lt hj)
          have hi1 : (j : Int) + 1 < (s.length : Int) := by omega
          have hi2 : (j : Int) < (s.length : Int) := by omega
          have hi3 : 0 ≤ (j : Int) + 1 ∧ (j : Int) + 1 < (s.length : Int) := by omega
          by_cases hc : s[j] < s[j + 1]
          · have HN := Lib.hid (show setB (s.take (j + 1 + 1)) by
              rw [List.take_succ_eq_append_getElem hlt]
              refine setB_snoc HS.out HP.out (fun x hx => ?_)
              rw [take_last hj] at hx
              rw [← Option.some.inj hx]; exact hc)
            have hcmp : ¬ (((⟨s.toArray⟩ : ByteArray)[j + 1]'(arr_lt hlt)).toNat : Int) ≤ (((⟨s.toArray⟩ : ByteArray)[j]'(arr_lt hj)).toNat : Int) := by
              rw [hg, hg2]; have := UInt8.lt_iff_toNat_lt.1 hc; omega
            have hcd : decide ((((⟨s.toArray⟩ : ByteArray)[j + 1]'(arr_lt hlt)).toNat : Int) ≤ (((⟨s.toArray⟩ : ByteArray)[j]'(arr_lt hj)).toNat : Int)) = false := decide_eq_false hcmp
            clear hg hg2 hc
            go_wp2
            go_quiet (first
              | (go_at_call 40; exact quiet_left (placeAB _ _ hx _))
              | (go_at_call 40; exact quiet_add_left (placeAB _ _ hx _))
              | (go_at_call 40; exact Calls.quiet_of_same (same_n (placeAB _ _ hx _))))
            go_wp2
            go_roundw
            case rel => exact ⟨j + 1 + 1, by omega, by go_num, HN, Lib.hid (below_n HB.out _)⟩
            case measure => simp [intOf]; omega
          · have HRf := Lib.hid (show false = R by
              rw [← HR.out]; symm; rw [decide_eq_false_iff_not]
              exact fun h => hc (setB_adj h hj hlt (by omega)))
            have hcmp : (((⟨s.toArray⟩ : ByteArray)[j + 1]'(arr_lt hlt)).toNat : Int) ≤ (((⟨s.toArray⟩ : ByteArray)[j]'(arr_lt hj)).toNat : Int) := by
              rw [hg, hg2]; have : ¬ s[j].toNat < s[j + 1].toNat := fun h => hc (UInt8.lt_iff_toNat_lt.2 h)
              omega
            have hcd : decide ((((⟨s.toArray⟩ : ByteArray)[j + 1]'(arr_lt hlt)).toNat : Int) ≤ (((⟨s.toArray⟩ : ByteArray)[j]'(arr_lt hj)).toNat : Int)) = true := decide_eq_true hcmp
            have e := HRf.out
            subst e
            clear hg hg2 hc
            go_wp2
            go_quiet (first
              | (go_at_call 40; exact quiet_left (placeAB _ _ hx _))
              | (go_at_call 40; exact quiet_add_left (placeAB _ _ hx _))
              | (go_at_call 40; exact Calls.quiet_of_same (same_n (placeAB _ _ hx _))))
            go_wp2
            go_ret
            exact ⟨rfl, below_n HB.out _⟩
      · have hpl := fun h => hp (pl_mem.1 h)
        rw [← hg] at hpl
        have hx := Lib.hid (show plI ((⟨s.toArray⟩ : ByteArray)[k]'(arr_lt hlt)) = -1 by unfold plI; rw [if_neg hpl])
        have HRf := Lib.hid (show false = R by
          rw [← HR.out]; symm; rw [decide_eq_false_iff_not]
          exact fun h => hp (h.1 _ (List.getElem_mem hlt)))
        have e := HRf.out
        subst e
        clear hpl hp hg
        go_wp2
        go_quiet (first
          | (go_at_call 40; exact quiet_left (placeAB _ _ hx _))
          | (go_at_call 40; exact quiet_add_left (placeAB _ _ hx _))
          | (go_at_call 40; exact Calls.quiet_of_same (same_n (placeAB _ _ hx _))))
        go_wp2
        go_ret
        exact ⟨rfl, below_n HB.out _⟩
    · obtain rfl : k = s.length := by omega
      have HRt := Lib.hid (show true = R by
        rw [← HR.out]; symm; rw [decide_eq_true_eq]
        have := HS.out
        rwa [List.take_length] at this)
      have e := HRt.out
      subst e
      go_wp2
      go_ret
      exact ⟨rfl, HB.out⟩
end Go.Proofs.Ytfneafofohfdnaa
