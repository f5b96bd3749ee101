/-
  Written and Text of the reference: how signs are written; contracts.
-/
import Derived.Test.YtfneafofohfdnaaBoth
import Derived.StillTailTactics
namespace Go.Proofs.Ytfneafofohfdnaa
open Go.RowKit
attribute [local go_sem] set_drewN
theorem nmT_take {R : List Nat} {k : Nat} (h : k < R.length) : nmT (R.take (k + 1)) = nmT (R.take k) ++ txt R[k] := by rw [List.take_succ_eq_append_getElem h, nmT_snoc]
theorem nmT_step {R : List Nat} {k : Nat} (h : k < R.length) (lR : R.length ≤ 24) : ∃ X Y T, nmT (R.take k) = X ∧ nmT (R.take (k + 1)) = Y ∧ txt R[k] = T ∧ Y = X ++ T ∧ X.length ≤ 1320 ∧ T.length ≤ 55 := by
  refine ⟨_, _, _, rfl, rfl, rfl, nmT_take h, ?_, txt_len _⟩
  have h1 := nmT_len (R.take k)
  have h2 : (R.take k).length ≤ 24 := by rw [List.length_take]; omega
  omega
theorem lets_AB {m : Nat} (h : m < 2 ^ 53) : lets m = AB ↔ m = anyM := ⟨fun e => lets_inj h any_lt (by rw [e, lets_any]), fun e => by rw [e, lets_any]⟩
set_option maxRecDepth 100000 in
set_option maxHeartbeats 2000000 in
theorem Written_any (m : Nat) (h : okM m) (w : World) : Calls Try.prog 46 #[.string ⟨(lets m).toArray⟩] w (RetB (.string ⟨(txt m).toArray⟩) w) := by
  obtain ⟨X, hX⟩ : ∃ X, txt m = X := ⟨_, rfl⟩
  rw [hX]
  unfold txt at hX
  have hl := lets_len m
  have hab := lets_AB h.2
  obtain ⟨L, hL⟩ : ∃ L, lets m = L := ⟨_, rfl⟩
  rw [hL] at hX hl hab ⊢
  clear hL h
  by_cases h1 : L.length = 1
  · rw [if_pos h1] at hX
    subst hX
    have h1b : ((L.length : Int) == 1) = true := by rw [h1]; rfl
    go_enter Try.func46, Try.ntmps46
    go_wp2
    go_ret
    exact ⟨rfl, Below.refl _ _⟩
  · rw [if_neg h1] at hX
    have h1b : ((L.length : Int) == 1) = false := by rw [beq_eq_false_iff_ne]; omega
    by_cases ha : m = anyM
    · rw [if_pos ha] at hX
      subst hX
      obtain rfl := hab.2 ha
      clear hab ha h1 hl h1b
      go_enter Try.func46, Try.ntmps46
      unfold AB
      go_wp2
      go_ret
      exact ⟨rfl, Below.refl _ _⟩
    · rw [if_neg ha] at hX
      have hq : (L == AB) = false := by rw [beq_eq_false_iff_ne]; exact fun e => ha (hab.1 e)
      unfold AB at hq
      have HX := Lib.hid hX
      clear hX ha h1 hab
      go_enter Try.func46, Try.ntmps46
      go_wp2
      go_ret
      exact ⟨by rw [← HX.out, one_str]; rfl, Below.refl _ _⟩
set_option maxRecDepth 100000 in
set_option maxHeartbeats 4000000 in
theorem RText_any (w : World) (R : List Nat) (b c : Nat) (lR : R.length ≤ 24) (hR : ∀ m ∈ R, okM m) (h : TxAt w b (R.map lets)) :
    Calls Try.prog 22 #[.slice (some ⟨b, 0, none⟩) R.length c] w (RetB (.string ⟨(nmT R).toArray⟩) w) := by
  have H := Lib.hid h
  have HR := Lib.hid hR
  clear h hR
  go_enter Try.func22, Try.ntmps22
  go_wp2
  go_loopw [3, 4] (fun sv iv wr => ∃ k : Nat, k ≤ R.length ∧ sv = .string ⟨(nmT (R.take k)).toArray⟩ ∧ iv = .int .i64 k ∧ Hid (Below w.heap.size w wr)) (fun _ iv _ => R.length - (intOf iv).toNat)
  case atStart => exact ⟨0, Nat.zero_le _, rfl, rfl, Lib.hid (Below.refl _ _)⟩
  case round =>
    obtain ⟨k, hk, rfl, rfl, HB⟩ := hrel
    by_cases hlt : k < R.length
    · have a1 := (H.out.below HB.out).2 k (lets R[k]) (by simp [hlt])
      have HW := Lib.hid (fun W => Written_any R[k] (HR.out _ (List.getElem_mem hlt)) W)
      obtain ⟨X, Y, T1, hX, hY, hT, hYT, l1, l2⟩ := nmT_step hlt lR
      rw [hT] at HW
      have HY := Lib.hid hY
      have HYT := Lib.hid hYT
      rw [hX]
      clear hX hY hT hYT
      generalize lets R[k] = L1 at *
      have n1 : ¬ 9223372036854775807 < X.length + T1.length := by omega
      go_wp2_with (go_at_call 46; refine (HW.out _).mono ?_; rintro e w2 ⟨rfl, hb2⟩)
      go_roundw
      case rel => exact ⟨k + 1, by omega, by rw [HY.out, HYT.out, bapp]; simp, by go_num, Lib.hid (HB.out.trans (hb2.mono HB.out.size))⟩
      case measure => simp [intOf]; omega
    · obtain rfl : k = R.length := by omega
      rw [List.take_length]
      go_wp2
      go_ret
      exact ⟨rfl, HB.out⟩
end Go.Proofs.Ytfneafofohfdnaa
