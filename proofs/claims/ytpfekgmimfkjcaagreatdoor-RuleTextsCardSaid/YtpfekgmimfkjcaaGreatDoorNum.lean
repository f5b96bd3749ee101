/-
  What Number of package mortsafebase returns: a contract for all worlds.
-/
import Derived.Test.YtpfekgmimfkjcaaGreatDoorSplM
import Derived.Test.YtpfekgmimfkjcaaGreatDoorRefProv
namespace Go.Proofs.YtpfekgmimfkjcaaGreatDoor
open Go.RowKit
attribute [local go_sem] set_drewN
theorem digB_dg (b : UInt8) : digB (b.toNat : Int) = isDg b := by
  unfold digB isDg
  have e1 : decide (48 ≤ (b.toNat : Int)) = decide (48 ≤ b.toNat) := by apply decide_eq_decide.2; omega
  have e2 : decide ((b.toNat : Int) ≤ 57) = decide (b.toNat ≤ 57) := by apply decide_eq_decide.2; omega
  rw [e1, e2]
/-- what a word spells; 0: it is not made of digits -/
def numR (l : List UInt8) : Int := if digB' l then numV l else 0
theorem numB_dg {l : List UInt8} (h : numB l = true) : digB' l = true := by
  unfold numB at h
  simp only [Bool.and_eq_true] at h
  exact h.1
theorem numB_of {l : List UInt8} (h : digB' l = false) : numB l = false := by unfold numB; rw [h]; rfl
theorem dlen (s : ByteArray) : s.data.toList.length = s.size := (Lib.size_eq s).symm
theorem dget (s : ByteArray) (k : Nat) (h : k < s.size) : s.data.toList[k]'(by rw [dlen]; exact h) = s[k] := by simp [ByteArray.getElem_eq_getElem_data]
theorem ext_tail (s : ByteArray) : (s.extract 1 s.size).data.toList = s.data.toList.tail := by
  rw [Lib.extract_data, List.drop_one, List.take_of_length_le]
  rw [List.length_tail, dlen]; exact Nat.le_refl _
theorem dhead (s : ByteArray) (h : 0 < s.size) : s.data.toList.head? = some s[0] := by
  have := dget s 0 h
  cases hs : s.data.toList with
  | nil => have := dlen s; rw [hs] at this; simp at this; omega
  | cons a t => simp only [hs, List.getElem_cons_zero] at this; rw [List.head?_cons, this]
theorem natV_take {r : List UInt8} {k : Nat} (h : k < r.length) : natV (r.take (k + 1)) = 10 * natV (r.take k) + (r[k].toNat - 48) := by
  rw [List.take_succ_eq_append_getElem h, natV_snoc]
theorem natV_take_lt {s : ByteArray} {k : Nat} (h : k ≤ s.size) (hd : ∀ j (hj : j < s.size), j < k → isDg s[j] = true) : natV (s.data.toList.take k) < 10 ^ k := by
  refine natV_lt k _ (by rw [List.length_take, dlen]; omega) fun b hb => ?_
  obtain ⟨j, hj, rfl⟩ := List.mem_iff_getElem.1 hb
  rw [List.length_take, dlen] at hj
  rw [List.getElem_take, dget s j (by omega)]
  exact hd j (by omega) (by omega)
theorem pow_le10 {k : Nat} (h : k ≤ 10) : 10 ^ k ≤ 10000000000 := Nat.pow_le_pow_right (show 0 < 10 by decide) h
theorem digs_no {l : List UInt8} {s : ByteArray} (e : digs l = s.data.toList) (h : s.size < 1 ∨ 10 < s.size) : digB' l = false := by
  cases hq : digB' l with
  | false => rfl
  | true => have := digB_iff.1 hq; rw [e, dlen] at this; omega
theorem digs_bad {l : List UInt8} {s : ByteArray} (e : digs l = s.data.toList) {k : Nat} (hk : k < s.size) (h : isDg s[k] = false) : digB' l = false := by
  cases hq : digB' l with
  | false => rfl
  | true => have := (digB_iff.1 hq).2.2 s[k] (by rw [e, ← dget s k hk]; exact List.getElem_mem _); rw [h] at this; cases this
theorem digs_ok {l : List UInt8} {s : ByteArray} (e : digs l = s.data.toList) (h1 : ¬ s.size < 1) (h10 : ¬ 10 < s.size) (h : ∀ j (hj : j < s.size), isDg s[j] = true) : digB' l = true := by
  rw [digB_iff, e, dlen]
  refine ⟨by omega, by omega, fun b hb => ?_⟩
  obtain ⟨j, hj, rfl⟩ := List.mem_iff_getElem.1 hb
  rw [dlen] at hj
  rw [dget s j hj]
  exact h j hj
theorem numR_no {l : List UInt8} (h : digB' l = false) : numR l = 0 ∧ numB l = false := ⟨by unfold numR; rw [if_neg (by rw [h]; decide)], numB_of h⟩
theorem str_beq (a : List UInt8) (s : ByteArray) : ((⟨a.toArray⟩ : ByteArray).toList == s.toList) = (a == s.data.toList) := by
  rw [Lib.toList_data, Lib.toList_data]
set_option maxRecDepth 100000 in
set_option maxHeartbeats 4000000 in
/-- a word that begins with '-' -/
theorem number_neg (s : ByteArray) (w : World) (hs : s.size ≤ 1000000) (hm : s.data.toList.head? = some 45) :
    Calls Tryz.prog 51 #[.string s, .int .i64 10] w (RetB (two (.int .i64 (numR s.data.toList)) (.bool (numB s.data.toList))) w) := by
  have hs0 : 0 < s.size := by
    have := dlen s
    cases h : s.data.toList with
    | nil => rw [h] at hm; simp at hm
    | cons a t => rw [h] at this; simp at this; omega
  have hb0 : ((s[0].toNat : Int) == 45) = true := by
    rw [dhead s hs0] at hm
    rw [Option.some.inj hm]; rfl
  have hb1 : (s[0].toNat : Int) = 45 := by simpa using hb0
  obtain ⟨R, hex⟩ : ∃ R, s.extract 1 s.size = R := ⟨_, rfl⟩
  have HD : Hid (digs s.data.toList = R.data.toList) := Lib.hid (by unfold digs; rw [if_pos hm, ← hex, ext_tail])
  have HV : Hid (numV s.data.toList = -(natV R.data.toList : Int)) := Lib.hid (by unfold numV; rw [if_pos hm, HD.out])
  have hRs : R.size ≤ 1000000 := by rw [← hex]; simp; omega
  by_cases h1 : R.size < 1
  · obtain ⟨z1, z2⟩ := numR_no (digs_no HD.out (.inl h1))
    rw [z1, z2]
    clear z1 z2
    have d1 : decide (R.size < 1) = true := by simpa using h1
    go_enter Tryz.func51, Tryz.ntmps51
    go_wp2
    go_ret2
    exact ⟨rfl, Below.refl _ _⟩
  · have d1 : decide (R.size < 1) = false := by simpa using h1
    by_cases h2 : 10 < R.size
    · obtain ⟨z1, z2⟩ := numR_no (digs_no HD.out (.inr h2))
      rw [z1, z2]
      clear z1 z2
      have d2 : decide (10 < R.size) = true := by simpa using h2
      go_enter Tryz.func51, Tryz.ntmps51
      go_wp2
      go_ret2
      exact ⟨rfl, Below.refl _ _⟩
    · have d2 : decide (10 < R.size) = false := by simpa using h2
      have HNO := Lib.hid (@numR_no s.data.toList)
      have HIT := Lib.hid (@itoa_num s.data.toList)
      go_enter Tryz.func51, Tryz.ntmps51
      go_wp2
      go_loopw [8, 9] (fun nv iv wr => ∃ k : Nat, k ≤ R.size ∧ nv = .int .i64 (natV (R.data.toList.take k) : Int) ∧ iv = .int .i64 k ∧ (∀ j (hj : j < R.size), j < k → isDg R[j] = true) ∧ Below w.heap.size w wr) (fun _ iv _ => R.size - (intOf iv).toNat)
      case atStart => exact ⟨0, Nat.zero_le _, rfl, rfl, fun j _ h => absurd h (by omega), Below.refl _ _⟩
      case round =>
        obtain ⟨k, hk, rfl, rfl, hall, hB⟩ := hrel
        have hnb := natV_take_lt hk hall
        have hnp := pow_le10 (show k ≤ 10 by omega)
        have HA := Lib.hid hall
        clear hall
        by_cases hlt : k < R.size
        · cases hb : digB (R[k].toNat : Int)
          · have Z := Lib.hid (HNO.out (digs_bad HD.out hlt (by rw [← digB_dg]; exact hb)))
            clear hnb hnp
            go_wp2_with (go_at_call 56; refine (bDigit_any _ _).mono ?_; rintro e w' ⟨rfl, rfl⟩)
            go_ret2
            exact ⟨by rw [Z.out.1, Z.out.2]; rfl, hB⟩
          · have hdg : isDg R[k] = true := by rw [← digB_dg]; exact hb
            have HE := Lib.hid (show ∀ j (hj : j < R.size), j < k + 1 → isDg R[j] = true by
              intro j hj hjk
              by_cases e : j = k
              · subst e; exact hdg
              · exact HA.out j hj (by omega))
            have h48 := isDg_iff.1 hdg
            have hnt := natV_take (r := R.data.toList) (k := k) (by rw [dlen]; exact hlt)
            rw [dget R k hlt] at hnt
            have hnb2 : natV (R.data.toList.take k) < 10000000000 := by omega
            have HNT := Lib.hid hnt
            clear hdg hnt hnb hnp
            generalize natV (R.data.toList.take k) = nn at *
            go_wp2_with (go_at_call 56; refine (bDigit_any _ _).mono ?_; rintro e w' ⟨rfl, rfl⟩)
            go_roundw
            case rel => exact ⟨k + 1, by omega, by rw [HNT.out]; congr 1; omega, by go_num, HE.out, hB⟩
            case measure => simp [intOf]; omega
        · obtain rfl : k = R.size := by omega
          have hok : digB' s.data.toList = true := digs_ok HD.out h1 h2 (fun j hj => HA.out j hj hj)
          have hR : numR s.data.toList = -(natV R.data.toList : Int) := by unfold numR; rw [if_pos hok, HV.out]
          have hI := HIT.out hok
          rw [HV.out] at hI
          have hI2 : (Lib.itoa (-(natV R.data.toList : Int)) == s.toList) = numB s.data.toList := by rw [Lib.toList_data]; exact hI
          have HR := Lib.hid hR
          have e1 : R.data.toList.take R.size = R.data.toList := List.take_of_length_le (by rw [dlen]; exact Nat.le_refl _)
          rw [e1] at hnb
          try rw [e1]
          have hnb2 : natV R.data.toList < 10000000000 := by omega
          clear hR e1 hnb hnp hok hI
          generalize natV R.data.toList = nn at *
          generalize numB s.data.toList = bb at *
          go_wp2_with (go_at_call 29; refine (decimal_any (-(nn : Int)) _ (by omega) (by omega)).mono ?_; rintro e w4 ⟨rfl, hb4⟩)
          go_ret2
          exact ⟨by rw [HR.out, ← hI2]; rfl, hB.trans (hb4.mono (by have := hB.size; omega))⟩
set_option maxRecDepth 100000 in
set_option maxHeartbeats 4000000 in
/-- a word that does not -/
theorem number_pos (s : ByteArray) (w : World) (hs : s.size ≤ 1000000) (hm : s.data.toList.head? ≠ some 45) :
    Calls Tryz.prog 51 #[.string s, .int .i64 10] w (RetB (two (.int .i64 (numR s.data.toList)) (.bool (numB s.data.toList))) w) := by
  have HD : Hid (digs s.data.toList = s.data.toList) := Lib.hid (by unfold digs; rw [if_neg hm])
  have HV : Hid (numV s.data.toList = (natV s.data.toList : Int)) := Lib.hid (by unfold numV; rw [if_neg hm, HD.out])
  by_cases h1 : s.size < 1
  · obtain ⟨z1, z2⟩ := numR_no (digs_no HD.out (.inl h1))
    rw [z1, z2]
    clear z1 z2
    have d1 : decide (s.size < 1) = true := by simpa using h1
    go_enter Tryz.func51, Tryz.ntmps51
    go_wp2
    go_ret2
    exact ⟨rfl, Below.refl _ _⟩
  · have d1 : decide (s.size < 1) = false := by simpa using h1
    have hb0 : ((s[0]'(by omega)).toNat : Int) ≠ 45 := fun c => hm (by rw [dhead s (by omega)]; congr 1; exact UInt8.toNat_inj.1 (by have : (45 : UInt8).toNat = 45 := rfl; omega))
    have hb1 : (((s[0]'(by omega)).toNat : Int) == 45) = false := by rw [beq_eq_false_iff_ne]; exact hb0
    by_cases h2 : 10 < s.size
    · obtain ⟨z1, z2⟩ := numR_no (digs_no HD.out (.inr h2))
      rw [z1, z2]
      clear z1 z2
      have d2 : decide (10 < s.size) = true := by simpa using h2
      go_enter Tryz.func51, Tryz.ntmps51
      go_wp2
      go_ret2
      exact ⟨rfl, Below.refl _ _⟩
    · have d2 : decide (10 < s.size) = false := by simpa using h2
      have HNO := Lib.hid (@numR_no s.data.toList)
      have HIT := Lib.hid (@itoa_num s.data.toList)
      go_enter Tryz.func51, Tryz.ntmps51
      go_wp2
      go_loopw [8, 9] (fun nv iv wr => ∃ k : Nat, k ≤ s.size ∧ nv = .int .i64 (natV (s.data.toList.take k) : Int) ∧ iv = .int .i64 k ∧ (∀ j (hj : j < s.size), j < k → isDg s[j] = true) ∧ Below w.heap.size w wr) (fun _ iv _ => s.size - (intOf iv).toNat)
      case atStart => exact ⟨0, Nat.zero_le _, rfl, rfl, fun j _ h => absurd h (by omega), Below.refl _ _⟩
      case round =>
        obtain ⟨k, hk, rfl, rfl, hall, hB⟩ := hrel
        have hnb := natV_take_lt hk hall
        have hnp := pow_le10 (show k ≤ 10 by omega)
        have HA := Lib.hid hall
        clear hall
        by_cases hlt : k < s.size
        · cases hb : digB (s[k].toNat : Int)
          · have Z := Lib.hid (HNO.out (digs_bad HD.out hlt (by rw [← digB_dg]; exact hb)))
            clear hnb hnp
            go_wp2_with (go_at_call 56; refine (bDigit_any _ _).mono ?_; rintro e w' ⟨rfl, rfl⟩)
            go_ret2
            exact ⟨by rw [Z.out.1, Z.out.2]; rfl, hB⟩
          · have hdg : isDg s[k] = true := by rw [← digB_dg]; exact hb
            have HE := Lib.hid (show ∀ j (hj : j < s.size), j < k + 1 → isDg s[j] = true by
              intro j hj hjk
              by_cases e : j = k
              · subst e; exact hdg
              · exact HA.out j hj (by omega))
            have h48 := isDg_iff.1 hdg
            have hnt := natV_take (r := s.data.toList) (k := k) (by rw [dlen]; exact hlt)
            rw [dget s k hlt] at hnt
            have hnb2 : natV (s.data.toList.take k) < 10000000000 := by omega
            have HNT := Lib.hid hnt
            clear hdg hnt hnb hnp
            generalize natV (s.data.toList.take k) = nn at *
            go_wp2_with (go_at_call 56; refine (bDigit_any _ _).mono ?_; rintro e w' ⟨rfl, rfl⟩)
            go_roundw
            case rel => exact ⟨k + 1, by omega, by rw [HNT.out]; congr 1; omega, by go_num, HE.out, hB⟩
            case measure => simp [intOf]; omega
        · obtain rfl : k = s.size := by omega
          have hok : digB' s.data.toList = true := digs_ok HD.out h1 h2 (fun j hj => HA.out j hj hj)
          have hR : numR s.data.toList = (natV s.data.toList : Int) := by unfold numR; rw [if_pos hok, HV.out]
          have hI := HIT.out hok
          rw [HV.out] at hI
          have hI2 : (Lib.itoa ((natV s.data.toList : Int)) == s.toList) = numB s.data.toList := by rw [Lib.toList_data]; exact hI
          have HR := Lib.hid hR
          have e1 : s.data.toList.take s.size = s.data.toList := List.take_of_length_le (by rw [dlen]; exact Nat.le_refl _)
          rw [e1] at hnb
          try rw [e1]
          have hnb2 : natV s.data.toList < 10000000000 := by omega
          clear hR e1 hnb hnp hok hI
          generalize natV s.data.toList = nn at *
          generalize numB s.data.toList = bb at *
          go_wp2_with (go_at_call 29; refine (decimal_any ((nn : Int)) _ (by omega) (by omega)).mono ?_; rintro e w4 ⟨rfl, hb4⟩)
          go_ret2
          exact ⟨by rw [HR.out, ← hI2]; rfl, hB.trans (hb4.mono (by have := hB.size; omega))⟩
theorem number_any (s : ByteArray) (w : World) (hs : s.size ≤ 1000000) :
    Calls Tryz.prog 51 #[.string s, .int .i64 10] w (RetB (two (.int .i64 (numR s.data.toList)) (.bool (numB s.data.toList))) w) := by
  by_cases hm : s.data.toList.head? = some 45
  · exact number_neg s w hs hm
  · exact number_pos s w hs hm
end Go.Proofs.YtpfekgmimfkjcaaGreatDoor
