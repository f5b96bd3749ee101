/-
  What readNumber of package rule returns: a contract for all worlds.
-/
import Derived.Test.YtpfekgmimfkjcaaGreatDoorNum
import Derived.Test.YtpfekgmimfkjcaaGreatDoorNames
import Derived.Test.YtpfekgmimfkjcaaGreatDoorShelf
import Derived.Lib.SmallJoins
namespace Go.Proofs.YtpfekgmimfkjcaaGreatDoor
open Go.RowKit
attribute [local go_sem] set_drewN
theorem trim_digs (l : List UInt8) : Lib.trimPrefix l [45] = digs l := by
  unfold Lib.trimPrefix Lib.hasPrefix digs
  cases l with
  | nil => rfl
  | cons x t =>
    by_cases h : x = 45
    · subst h; simp
    · have h' : ¬ 45 = x := fun e => h e.symm
      simp [h, h']
theorem trim_any (s : ByteArray) (w : World) : Calls Tryz.prog 65 #[.string s, .string ⟨#[45]⟩] w (Ret (.string ⟨(digs s.data.toList).toArray⟩) w) := by
  refine (Tryz.strings_TrimPrefix s ⟨#[45]⟩ w).mono ?_
  rintro e w' ⟨rfl, rfl⟩
  exact ⟨by rw [← trim_digs], rfl⟩
theorem atoi_any (s : ByteArray) (w : World) (h : digB' s.data.toList = true) : Calls Tryz.prog 67 #[.string s] w (RetB (two (.int .i64 (numV s.data.toList)) .nilIface) w) := by
  have hl : s.size ≤ 18 := by
    have h10 := (digB_iff.1 h).2.1
    rw [← dlen s]
    unfold digs at h10
    split at h10
    · rw [List.length_tail] at h10; omega
    · omega
  refine (Tryz.strconv_Atoi s _ hl (atoi_num h) w).mono ?_
  rintro e w' ⟨rfl, t, rfl⟩
  exact ⟨rfl, Joins.below_bytesWorld _ _ _ _ (Nat.le_refl _)⟩
/-- what readNumber tells of a word -/
def numC (l : List UInt8) : Int := if numB l then numV l else 0
set_option maxRecDepth 100000 in
set_option maxHeartbeats 4000000 in
theorem readNumber_any (s : ByteArray) (w : World) (hs : s.size ≤ 1000000) :
    Calls Tryz.prog 49 #[.string s] w (RetB (two (.int .i64 (numC s.data.toList)) (.bool (numB s.data.toList))) w) := by
  have hN := Lib.hid (fun h : numB s.data.toList = false => show numC s.data.toList = 0 by unfold numC; rw [if_neg (by rw [h]; decide)])
  have hT := trim_any s w
  obtain ⟨R, hR⟩ : ∃ R : ByteArray, (⟨(digs s.data.toList).toArray⟩ : ByteArray) = R := ⟨_, rfl⟩
  have HD : Hid (digs s.data.toList = R.data.toList) := Lib.hid (by rw [← hR])
  have hRs : R.size ≤ 1000000 := by
    rw [← dlen R, ← HD.out]
    unfold digs
    split
    · rw [List.length_tail, dlen]; omega
    · rw [dlen]; exact hs
  rw [hR] at hT
  have HT := Lib.hid hT
  clear hR hT
  by_cases h1 : R.size < 1
  · have z2 := numB_of (digs_no HD.out (.inl h1))
    rw [hN.out z2, z2]
    clear z2
    go_enter Tryz.func49, Tryz.ntmps49
    go_wp2_with (go_at_call 65; refine (HT.out).mono ?_; rintro e w' ⟨rfl, rfl⟩)
    go_ret2
    exact ⟨rfl, Below.refl _ _⟩
  · have d1 : decide (R.size < 1) = false := by simpa using h1
    by_cases h2 : 10 < R.size
    · have z2 := numB_of (digs_no HD.out (.inr h2))
      rw [hN.out z2, z2]
      clear z2
      have d2 : decide (10 < R.size) = true := by simpa using h2
      go_enter Tryz.func49, Tryz.ntmps49
      go_wp2_with (go_at_call 65; refine (HT.out).mono ?_; rintro e w' ⟨rfl, rfl⟩)
      go_ret2
      exact ⟨rfl, Below.refl _ _⟩
    · have d2 : decide (10 < R.size) = false := by simpa using h2
      go_enter Tryz.func49, Tryz.ntmps49
      go_wp2_with (go_at_call 65; refine (HT.out).mono ?_; rintro e w' ⟨rfl, rfl⟩)
      go_loopw [20] (fun iv wr => ∃ k : Nat, k ≤ R.size ∧ iv = .int .i64 k ∧ (∀ j (hj : j < R.size), j < k → isDg R[j] = true) ∧ Below w.heap.size w wr) (fun iv _ => R.size - (intOf iv).toNat)
      case atStart => exact ⟨0, Nat.zero_le _, rfl, fun j _ h => absurd h (by omega), Below.refl _ _⟩
      case round =>
        obtain ⟨k, hk, rfl, hall, hB⟩ := hrel
        have HA := Lib.hid hall
        clear hall
        by_cases hlt : k < R.size
        · cases hb : digB (R[k].toNat : Int)
          · have z2 := numB_of (digs_bad HD.out hlt (by rw [← digB_dg]; exact hb))
            have Z := Lib.hid z2
            clear z2
            go_wp2_with (go_at_call 66; refine (isDigit_any _ _).mono ?_; rintro e w' ⟨rfl, rfl⟩)
            go_ret2
            exact ⟨by rw [Z.out, hN.out Z.out]; rfl, hB⟩
          · have hdg : isDg R[k] = true := by rw [← digB_dg]; exact hb
            have HE := Lib.hid (show ∀ j (hj : j < R.size), j < k + 1 → isDg R[j] = true by
              intro j hj hjk
              by_cases e : j = k
              · subst e; exact hdg
              · exact HA.out j hj (by omega))
            clear hdg
            go_wp2_with (go_at_call 66; refine (isDigit_any _ _).mono ?_; rintro e w' ⟨rfl, rfl⟩)
            go_roundw
            case rel => exact ⟨k + 1, by omega, by go_num, HE.out, hB⟩
            case measure => simp [intOf]; omega
        · obtain rfl : k = R.size := by omega
          have hok : digB' s.data.toList = true := digs_ok HD.out h1 h2 (fun j hj => HA.out j hj hj)
          have hNB : numB s.data.toList = !(((digs s.data.toList).head? == some 48) && !(s.data.toList == [48])) := by unfold numB; rw [hok]; rfl
          rw [HD.out, dhead R (by omega)] at hNB
          have hA := Lib.hid (fun W => atoi_any s W hok)
          have hz : (s.toList == [48]) = (s.data.toList == [48]) := by rw [Lib.toList_data]
          by_cases h0 : R[0]'(by omega) = 48
          · have hb0 : (((R[0]'(by omega)).toNat : Int) == 48) = true := by rw [h0]; rfl
            have hb1 : ((R[0]'(by omega)).toNat : Int) = 48 := by simpa using hb0
            rw [h0] at hNB
            cases hw : (s.data.toList == [48])
            · rw [hw] at hz hNB
              have Z : Hid (numB s.data.toList = false) := Lib.hid (by rw [hNB]; rfl)
              clear hNB hok h0
              go_wp2_with fail
              go_ret2
              exact ⟨by rw [Z.out, hN.out Z.out]; rfl, hB⟩
            · rw [hw] at hz hNB
              have Z : Hid (numB s.data.toList = true) := Lib.hid (by rw [hNB]; rfl)
              clear hNB hok h0
              go_wp2_with (go_at_call 67; refine (hA.out _).mono ?_; rintro e w4 ⟨rfl, hb4⟩)
              go_quiet (fail)
              go_wp2
              go_ret2
              exact ⟨by unfold numC; rw [Z.out]; rfl, below_n (hB.trans (hb4.mono (by have := hB.size; omega))) _⟩
          · have hb0 : (((R[0]'(by omega)).toNat : Int) == 48) = false := by
              rw [beq_eq_false_iff_ne]; intro c; exact h0 (UInt8.toNat_inj.1 (by have : (48 : UInt8).toNat = 48 := rfl; omega))
            have hb1 : ¬ ((R[0]'(by omega)).toNat : Int) = 48 := by simpa using hb0
            have Z : Hid (numB s.data.toList = true) := Lib.hid (by rw [hNB]; simp [h0])
            clear hNB hok h0
            go_wp2_with (go_at_call 67; refine (hA.out _).mono ?_; rintro e w4 ⟨rfl, hb4⟩)
            go_quiet (fail)
            go_wp2
            go_ret2
            exact ⟨by unfold numC; rw [Z.out]; rfl, below_n (hB.trans (hb4.mono (by have := hB.size; omega))) _⟩
end Go.Proofs.YtpfekgmimfkjcaaGreatDoor
