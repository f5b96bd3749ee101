/-
  What Decimal of package mortsafebase returns: the numeral; a contract for all worlds.
-/
import Derived.Test.YtpfekgmimfkjcaaGreatDoorNames
import Derived.Lib.ItoaNum
import Derived.Laws.IdiomStrings
namespace Go.Proofs.YtpfekgmimfkjcaaGreatDoor
open Go.RowKit
theorem decDigits_lt {u : Nat} (h : u < 10) : Lib.decDigits u = [UInt8.ofNat (48 + u)] := by unfold Lib.decDigits; rw [dif_pos h]
theorem decDigits_ge {u : Nat} (h : ¬ u < 10) : Lib.decDigits u = Lib.decDigits (u / 10) ++ [UInt8.ofNat (48 + u % 10)] := by conv => lhs; unfold Lib.decDigits; rw [dif_neg h]
theorem xAbs_small (n : Int) (h0 : -100 ≤ n) (h9 : n ≤ 100) (w : World) : Calls Tryz.prog 54 #[.int .i64 n] w (Ret (.int .i64 (n.natAbs : Int)) w) := by
  by_cases h : n < 0
  · have e : (n.natAbs : Int) = -n := by omega
    rw [e]
    go_enter Tryz.func54, Tryz.ntmps54
    go_wp2
    go_ret
    exact ⟨rfl, rfl⟩
  · have e : (n.natAbs : Int) = n := by omega
    rw [e]
    go_enter Tryz.func54, Tryz.ntmps54
    go_wp2
    go_ret
    exact ⟨rfl, rfl⟩
theorem dl_len (n : Int) (h : n.natAbs ≤ 9223372036854775808) : (Lib.decDigits n.natAbs).length ≤ 21 := by
  have d : ∀ (k : Nat) (u : Nat), u < 10 ^ (k + 1) → (Lib.decDigits u).length ≤ k + 1 := by
    intro k
    induction k with
    | zero => intro u hu; rw [decDigits_lt (by omega)]; simp
    | succ k ih =>
      intro u hu
      by_cases h : u < 10
      · rw [decDigits_lt h]; simp
      · rw [decDigits_ge h]
        have := ih (u / 10) (by rw [Nat.pow_succ] at hu; omega)
        simp; omega
  exact d 20 _ (Nat.lt_of_le_of_lt h (by decide))
theorem bapp' (a b : Array UInt8) : ((⟨a⟩ : ByteArray) ++ (⟨b⟩ : ByteArray)) = ⟨a ++ b⟩ := by
  apply ByteArray.ext
  simp
def strE : Value → Nat
  | .string b => if b.size = 0 then 1 else 0
  | _ => 0
theorem seq_ne' {s : List UInt8} (h : s ≠ []) : ((⟨s.toArray⟩ : ByteArray).toList == (⟨#[]⟩ : ByteArray).toList) = false := by
  rw [beq_eq_false_iff_ne, ByteArray.toList_eq, ByteArray.toList_eq]
  simpa using h
/-- the digits that are written so far, and what is left -/
def DInv (n m : Int) (s : List UInt8) : Prop :=
  m.natAbs ≤ n.natAbs ∧ ((m = 0 ∧ s ≠ [] ∧ Lib.decDigits n.natAbs = s) ∨ ((m ≠ 0 ∨ s = []) ∧ Lib.decDigits n.natAbs = Lib.decDigits m.natAbs ++ s))
set_option maxRecDepth 100000 in
set_option maxHeartbeats 4000000 in
theorem decimal_any (n : Int) (w : World) (h0 : -9223372036854775808 ≤ n) (h1 : n ≤ 9223372036854775807) :
    Calls Tryz.prog 29 #[.int .i64 n] w (RetB (.string ⟨(Lib.itoa n).toArray⟩) w) := by
  go_enter Tryz.func29, Tryz.ntmps29
  go_wp2
  go_loopw [3, 4] (fun sv mv wr => ∃ (s : List UInt8) (m : Int), sv = .string ⟨s.toArray⟩ ∧ mv = .int .i64 m ∧ DInv n m s ∧ Below w.heap.size w wr) (fun sv mv _ => 2 * (intOf mv).natAbs + strE sv)
  case atStart => exact ⟨[], n, rfl, rfl, ⟨Nat.le_refl _, .inr ⟨.inr rfl, by simp⟩⟩, Below.refl _ _⟩
  case round =>
    obtain ⟨s, m, rfl, rfl, hI, hB⟩ := hrel
    have hlen := dl_len n (by omega)
    by_cases hx : m = 0 ∧ s ≠ []
    · obtain ⟨rfl, hs⟩ := hx
      have hD : Lib.decDigits n.natAbs = s := by
        rcases hI.2 with h | h
        · exact h.2.2
        · rcases h.1 with h | h
          · exact absurd rfl h
          · exact absurd h hs
      have hemp : s.isEmpty = false := by simpa using hs
      rw [hD] at hlen
      by_cases hn : n < 0
      · have e : Lib.itoa n = 45 :: s := by unfold Lib.itoa; rw [if_pos hn, hD]
        have HE := Lib.hid e
        clear hD hI e hs
        go_wp2
        go_ret
        exact ⟨by rw [HE.out, bapp']; simp, hB⟩
      · have e : Lib.itoa n = s := by unfold Lib.itoa; rw [if_neg hn, ← hD]; congr 1; omega
        have HE := Lib.hid e
        have hn' : decide (n < 0) = false := by simpa using hn
        clear hD hI e hs
        go_wp2
        go_ret
        exact ⟨by rw [HE.out]; rfl, hB⟩
    · have hD : Lib.decDigits n.natAbs = Lib.decDigits m.natAbs ++ s := by
        rcases hI.2 with h | h
        · exact absurd ⟨h.1, h.2.1⟩ hx
        · exact h.2
      have hs1 : s.length ≤ 21 := by rw [hD, List.length_append] at hlen; omega
      have hm9 := hI.1
      have hTA : (Int.tmod m 10).natAbs = m.natAbs % 10 := by rw [Int.natAbs_tmod]; rfl
      have hDA : (Int.tdiv m 10).natAbs = m.natAbs / 10 := by rw [Int.natAbs_tdiv]; rfl
      have hN := Lib.hid (show DInv n (Int.tdiv m 10) (UInt8.ofNat (48 + m.natAbs % 10) :: s) from ⟨by omega, by
        by_cases h10 : m.natAbs < 10
        · refine .inl ⟨by omega, by simp, ?_⟩
          rw [hD, decDigits_lt h10, Nat.mod_eq_of_lt h10]; rfl
        · refine .inr ⟨.inl (by omega), ?_⟩
          rw [hD, decDigits_ge h10, hDA]; simp⟩)
      have hlt10 : m.natAbs % 10 < 10 := Nat.mod_lt _ (by decide)
      have e8 : ((UInt8.ofNat (48 + m.natAbs % 10)).toNat : Int) = 48 + (m.natAbs : Int) % 10 := by
        rw [UInt8.toNat_ofNat_of_lt' (by show 48 + m.natAbs % 10 < 256; omega)]; omega
      generalize UInt8.ofNat (48 + m.natAbs % 10) = dg at *
      have hconv : (convert 82 9 (.slice (some ⟨wr.heap.size, 0, none⟩) 1 1)).run Tryz.prog (wr.alloc (.cells #[.int .u8 (48 + (m.natAbs : Int) % 10)] 5)) = .ok (.string ⟨#[dg]⟩) (wr.alloc (.cells #[.int .u8 (48 + (m.natAbs : Int) % 10)] 5)) := by
        refine run_convert_bytes_back _ _ _ 5 ⟨wr.heap.size, 0, none⟩ 1 [dg] Tryz.underlying82 Tryz.underlying5 Tryz.underlying9 ?_
        intro j hj
        have hj0 : j = 0 := by simpa using hj
        subst hj0
        simp [go_sem]
        omega
      have ht1 : -100 ≤ Int.tmod m 10 := by omega
      have ht2 : Int.tmod m 10 ≤ 100 := by omega
      have ht3 : -9223372036854775808 ≤ Int.tdiv m 10 := by omega
      have ht4 : Int.tdiv m 10 ≤ 9223372036854775807 := by omega
      have hz2 : 2 * (Int.tdiv m 10).natAbs + 0 < 2 * m.natAbs + (if s = [] then 1 else 0) := by
        by_cases h0 : m = 0
        · have : s = [] := by
            by_cases h : s = []
            · exact h
            · exact absurd ⟨h0, h⟩ hx
          rw [if_pos this]; omega
        · omega
      have HZ := Lib.hid hz2
      clear hI hD hDA hz2
      by_cases hs : s = []
      · subst hs
        clear hx
        go_wp2_with (go_at_call 54; refine (xAbs_small _ ht1 ht2 _).mono ?_; rintro e w' ⟨rfl, rfl⟩)
        go_roundw
        case rel => exact ⟨_, _, by rw [bapp']; rfl, rfl, hN.out, hB.alloc hB.size _⟩
        case measure =>
          have := HZ.out
          rw [bapp']
          simpa [intOf, strE, ByteArray.size] using this
      · have hemp : s.isEmpty = false := by simpa using hs
        have hm0 : ¬ m = 0 := fun c => hx ⟨c, hs⟩
        have hmn : (m != 0) = true := by simpa using hm0
        rw [if_neg hs] at HZ
        clear hx
        go_wp2_with (go_at_call 54; refine (xAbs_small _ ht1 ht2 _).mono ?_; rintro e w' ⟨rfl, rfl⟩)
        go_roundw
        case rel => exact ⟨_, _, by rw [bapp']; simp, rfl, hN.out, hB.alloc hB.size _⟩
        case measure =>
          have := HZ.out
          have hs2 : strE (.string ⟨s.toArray⟩) = 0 := by simp [strE, ByteArray.size, hs]
          rw [bapp', hs2]
          simpa [intOf, strE, ByteArray.size] using this
end Go.Proofs.YtpfekgmimfkjcaaGreatDoor
