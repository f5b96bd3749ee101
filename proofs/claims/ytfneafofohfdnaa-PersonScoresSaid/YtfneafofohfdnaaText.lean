/-
  How a sign is written, and which sign has a text: contracts, each for all worlds.
-/
import Derived.Test.YtfneafofohfdnaaSpl
import Derived.Test.YtfneafofohfdnaaPsN
import Derived.Test.YtfneafofohfdnaaShelf
namespace Go.Proofs.Ytfneafofohfdnaa
open Go.RowKit
attribute [local go_sem] set_drewN
theorem one_str (x : List UInt8) : ((⟨#[91]⟩ : ByteArray) ++ (⟨x.toArray⟩ : ByteArray)) ++ (⟨#[93]⟩ : ByteArray) = ⟨(91 :: (x ++ [93])).toArray⟩ := by
  rw [bapp, bapp]; simp
theorem text_any (m : Nat) (h : okM m) (w : World) : Calls Try.prog 43 #[.int .u64 m] w (RetB (.string ⟨(txt m).toArray⟩) w) := by
  have h0 : m ≠ 0 := by have := h.1; omega
  have HS := Lib.hid (fun w => size_any m w h.2)
  have HP := Lib.hid (fun w => spelt_any m h.2 h0 w)
  obtain ⟨X, hX⟩ : ∃ X, txt m = X := ⟨_, rfl⟩
  rw [hX]
  unfold txt at hX
  have hl := lets_len m
  obtain ⟨L, hL⟩ : ∃ L, lets m = L := ⟨_, rfl⟩
  rw [hL] at HS HP hX hl
  clear hL h h0
  by_cases h1 : L.length = 1
  · rw [if_pos h1] at hX
    subst hX
    rw [h1] at HS
    go_enter Try.func43, Try.ntmps43
    go_wp2_with (first
      | (go_at_call 36; refine (HS.out _).mono ?_; rintro e w' ⟨rfl, rfl⟩)
      | (go_at_call 35; refine (HP.out _).mono ?_; rintro e w' ⟨rfl, hb⟩))
    go_ret
    exact ⟨rfl, hb⟩
  · rw [if_neg h1] at hX
    have h1b : ((L.length : Int) == 1) = false := by rw [beq_eq_false_iff_ne]; omega
    by_cases ha : m = anyM
    · rw [if_pos ha] at hX
      have ha' : m = 9007199254740991 := ha
      subst hX
      subst ha'
      clear ha h1
      go_enter Try.func43, Try.ntmps43
      go_wp2_with (go_at_call 36; refine (HS.out _).mono ?_; rintro e w' ⟨rfl, rfl⟩)
      go_ret
      exact ⟨rfl, Below.refl _ _⟩
    · rw [if_neg ha] at hX
      have hab : ¬ m = 9007199254740991 := ha
      have ha' : ((m : Int) == 9007199254740991) = false := by rw [beq_eq_false_iff_ne]; omega
      clear hab
      have HX := Lib.hid hX
      clear hX ha h1
      go_enter Try.func43, Try.ntmps43
      go_wp2_with (first
        | (go_at_call 36; refine (HS.out _).mono ?_; rintro e w' ⟨rfl, rfl⟩)
        | (go_at_call 35; refine (HP.out _).mono ?_; rintro e w' ⟨rfl, hb⟩))
      go_ret
      exact ⟨by rw [← HX.out, one_str]; rfl, hb⟩
end Go.Proofs.Ytfneafofohfdnaa
