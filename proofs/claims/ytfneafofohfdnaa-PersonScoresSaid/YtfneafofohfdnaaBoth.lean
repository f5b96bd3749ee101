/-
  both of the reference: the common letters of two signs, written as texts; a contract.
-/
import Derived.Test.YtfneafofohfdnaaSigns
namespace Go.Proofs.Ytfneafofohfdnaa
open Go.RowKit
theorem ext1 (a : List UInt8) (k : Nat) (h : k < a.length) : (⟨a.toArray⟩ : ByteArray).extract k (k + 1) = ⟨#[a[k]]⟩ := by
  apply ByteArray.ext
  apply Array.ext'
  simp [List.take_one, List.head?_drop, List.getElem?_eq_getElem h]
theorem filt_step {a b : List UInt8} {k : Nat} (h : k < a.length) : (a.take (k + 1)).filter (fun c => decide (c ∈ b)) = if a[k] ∈ b then (a.take k).filter (fun c => decide (c ∈ b)) ++ [a[k]] else (a.take k).filter (fun c => decide (c ∈ b)) := by
  rw [List.take_succ_eq_append_getElem h, List.filter_append]
  by_cases m : a[k] ∈ b <;> simp [m]
theorem idx_nn : ∀ (s : List UInt8) (c : UInt8), decide (0 ≤ Lib.indexByte s c) = decide (c ∈ s)
  | [], c => by simp [Lib.indexByte]
  | x :: s, c => by
    have ih := idx_nn s c
    have h2 := Lib.indexByte_ge s c
    by_cases e : x = c
    · subst e; simp [Lib.indexByte]
    · have e' : ¬ c = x := fun h => e h.symm
      by_cases m : c ∈ s
      · have h3 : 0 ≤ Lib.indexByte s c := by simpa [m] using ih
        have h4 : ¬ Lib.indexByte s c < 0 := by omega
        simp [Lib.indexByte, e, m]
        split <;> omega
      · have h3 : Lib.indexByte s c < 0 := by simpa [m] using ih
        simp [Lib.indexByte, e, e', m]
        split <;> omega
set_option maxRecDepth 100000 in
set_option maxHeartbeats 4000000 in
theorem both_any (a b : List UInt8) (w : World) (hl : a.length ≤ 1000) (hl2 : b.length ≤ 1000) : Calls Try.prog 45 #[.string ⟨a.toArray⟩, .string ⟨b.toArray⟩] w (RetB (.string ⟨(a.filter fun c => decide (c ∈ b)).toArray⟩) w) := by
  go_enter Try.func45, Try.ntmps45
  go_wp2
  go_loopw [5, 6] (fun sv iv wr => ∃ k : Nat, k ≤ a.length ∧ sv = .string ⟨((a.take k).filter fun c => decide (c ∈ b)).toArray⟩ ∧ iv = .int .i64 k ∧ Hid (Below w.heap.size w wr)) (fun _ iv _ => a.length - (intOf iv).toNat)
  case atStart => exact ⟨0, Nat.zero_le _, rfl, rfl, Lib.hid (Below.refl _ _)⟩
  case round =>
    obtain ⟨k, hk, rfl, rfl, HB⟩ := hrel
    have hfl : ((a.take k).filter fun c => decide (c ∈ b)).length ≤ 1000 := Nat.le_trans (List.length_filter_le _ _) (by rw [List.length_take]; omega)
    by_cases hlt : k < a.length
    · have hg := arr_at a k hlt (arr_lt hlt)
      have hsl : ∀ W : World, (Instr.slice 9 (.string ⟨a.toArray⟩) (some (.int .i64 (k : Int))) (some (.int .i64 ((k : Int) + 1))) none).run Try.prog W = .ok (.string ⟨#[a[k]]⟩) W := fun W => by
        have hsz : (⟨a.toArray⟩ : ByteArray).size = a.length := by show a.toArray.size = _; simp
        rw [run_slice_string W 9 ⟨a.toArray⟩ .i64 .i64 (k : Int) ((k : Int) + 1) Try.underlying9 (by omega) (by omega) (by rw [hsz]; omega)]
        rw [show (k : Int).toNat = k by omega, show ((k : Int) + 1).toNat = k + 1 by omega, ext1 a k hlt]
      have HT := Lib.hid (filt_step (a := a) (b := b) hlt)
      have HP := Lib.hid (fun W => place_any b a[k] W (by omega))
      have hnn := idx_nn b a[k]
      generalize (a.take k).filter (fun c => decide (c ∈ b)) = S at *
      generalize a[k] = x at *
      obtain ⟨r, hr⟩ : ∃ r, Lib.indexByte b x = r := ⟨_, rfl⟩
      rw [hr] at hnn
      have HP2 := Lib.hid (fun W => hr ▸ HP.out W)
      clear hr HP
      by_cases hm : x ∈ b
      · have d1 : decide (0 ≤ r) = true := by rw [hnn]; simpa using hm
        have n1 : ¬ 9223372036854775807 < S.length + 1 := by omega
        go_wp2_with (go_at_call 40; refine (HP2.out _).mono ?_; rintro e w2 ⟨rfl, rfl⟩)
        go_roundw
        case rel => exact ⟨k + 1, by omega, by rw [HT.out, if_pos hm, bapp]; simp, by go_num, HB⟩
        case measure => simp [intOf]; omega
      · have d1 : decide (0 ≤ r) = false := by rw [hnn]; simpa using hm
        go_wp2_with (go_at_call 40; refine (HP2.out _).mono ?_; rintro e w2 ⟨rfl, rfl⟩)
        go_roundw
        case rel => exact ⟨k + 1, by omega, by rw [HT.out, if_neg hm], by go_num, HB⟩
        case measure => simp [intOf]; omega
    · obtain rfl : k = a.length := by omega
      rw [List.take_length] at *
      go_wp2
      go_ret
      exact ⟨rfl, HB.out⟩
end Go.Proofs.Ytfneafofohfdnaa
