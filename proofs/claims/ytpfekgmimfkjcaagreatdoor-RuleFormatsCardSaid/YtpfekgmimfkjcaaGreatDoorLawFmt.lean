/-
  RuleFormats returns true: the walks over contracts of what is called.
-/
import Derived.Test.YtpfekgmimfkjcaaGreatDoorXPar
import Derived.Test.YtpfekgmimfkjcaaGreatDoorFmtR
import Derived.Test.YtpfekgmimfkjcaaGreatDoorAwake
namespace Go.Proofs.YtpfekgmimfkjcaaGreatDoor
open Go.RowKit
attribute [local go_sem] set_drewN
set_option maxRecDepth 100000 in
set_option maxHeartbeats 8000000 in
theorem RuleFormats_any (p : Pv) (s : ByteArray) (w : World) (hp : PvI p) (ht : Tab w) (hm : MaxL w) :
    Calls Tryz.prog 3 #[p.val, .string s] w (RetB (.bool true) w) := by
  obtain ⟨nm, v, fr, en, rp⟩ := p
  by_cases h60 : 60 < nm.size
  · have h60' : (60 : Int) < (nm.size : Int) := by omega
    go_enter Tryz.func3, Tryz.ntmps3
    go_wp2_with fail
    refine (awake_any _).mono ?_
    rintro e w1 ⟨rfl, hb1⟩
    have C1 := Lib.hid ((C5.new w 23 ⟨nm, v, fr, en, rp⟩).below hb1)
    have B1 := Lib.hid (((Below.refl _ w).alloc (Nat.le_refl _) _).trans (hb1.mono (by simp)))
    have s1 := hb1.size
    simp only [World.size_alloc] at s1
    clear hb1
    obtain ⟨al, p0, p1, p2, p3, p4⟩ := C1.out
    go_wp2
    go_ret
    exact ⟨rfl, B1.out⟩
  · have h60' : ¬ (60 : Int) < (nm.size : Int) := by omega
    by_cases h300 : 300 < s.size
    · have h300' : (300 : Int) < (s.size : Int) := by omega
      go_enter Tryz.func3, Tryz.ntmps3
      go_wp2_with fail
      refine (awake_any _).mono ?_
      rintro e w1 ⟨rfl, hb1⟩
      have C1 := Lib.hid ((C5.new w 23 ⟨nm, v, fr, en, rp⟩).below hb1)
      have B1 := Lib.hid (((Below.refl _ w).alloc (Nat.le_refl _) _).trans (hb1.mono (by simp)))
      have s1 := hb1.size
      simp only [World.size_alloc] at s1
      clear hb1
      obtain ⟨al, p0, p1, p2, p3, p4⟩ := C1.out
      go_wp2
      go_ret
      exact ⟨rfl, B1.out⟩
    · have h300' : ¬ (300 : Int) < (s.size : Int) := by omega
      have HP := Lib.hid (fun W hW => parseProvision_any s W (by omega) hW)
      have HX := Lib.hid (fun W => xParseProvision_any s W (by omega))
      have HF := Lib.hid (fun W hW => FormatProvision_any ⟨nm, v, fr, en, rp⟩ W (by simp only; omega) hp hW)
      have HG := Lib.hid (fun W => xFormat_any ⟨nm, v, fr, en, rp⟩ W (by simp only; omega) hp)
      have hfl : (fmtL ⟨nm, v, fr, en, rp⟩).length ≤ 1000 := by
        have := fmt_len ⟨nm, v, fr, en, rp⟩ (by have := hp.1; simp only at this ⊢; omega) (by have := hp.2.1; simp only at this ⊢; omega) (by have := hp.2.2; simp only at this ⊢; omega)
        simp only at this; omega
      have HPF := Lib.hid (fun W hW => parseProvision_any ⟨(fmtL ⟨nm, v, fr, en, rp⟩).toArray⟩ W (by show (fmtL ⟨nm, v, fr, en, rp⟩).toArray.size ≤ 1000000; simp; omega) hW)
      have HE := Lib.hid (fun W => xProvisionErr_any ⟨nm, v, fr, en, rp⟩ W (by simp only [maxLen]; omega))
      have hback := fun h => @pp_fmt ⟨nm, v, fr, en, rp⟩ h
      have HT := Lib.hid ht
      have HM := Lib.hid hm
      clear ht hm hp hfl
      generalize fmtL ⟨nm, v, fr, en, rp⟩ = fl at *
      generalize pvE ⟨nm, v, fr, en, rp⟩ = pe at *
      generalize ppP s = x at *
      generalize ppE s = xe at *
      generalize ppP ⟨fl.toArray⟩ = y at *
      generalize ppE ⟨fl.toArray⟩ = ye at *
      obtain ⟨nm1, v1, fr1, en1, rp1⟩ := x
      have HB := Lib.hid hback
      clear hback
      by_cases h0 : pe = 0
      · obtain ⟨hy, hy2⟩ := HB.out h0
        subst hy hy2 h0
        clear HB
        go_enter Tryz.func3, Tryz.ntmps3
        go_wp2_with fail
        refine (awake_any _).mono ?_
        rintro e w1 ⟨rfl, hb1⟩
        have C1 := Lib.hid ((C5.new w 23 ⟨nm, v, fr, en, rp⟩).below hb1)
        have B1 := Lib.hid (((Below.refl _ w).alloc (Nat.le_refl _) _).trans (hb1.mono (by simp)))
        have s1 := hb1.size
        simp only [World.size_alloc] at s1
        clear hb1
        obtain ⟨al, p0, p1, p2, p3, p4⟩ := C1.out
        go_wp2_with fail
        refine (HP.out _ (HM.out.below B1.out)).mono ?_
        rintro e w2 ⟨rfl, hb2⟩
        have C2 := Lib.hid (C1.out.below hb2)
        have B2 := Lib.hid (B1.out.trans (hb2.mono (by omega)))
        have s2 := hb2.size
        clear hb2 al p0 p1 p2 p3 p4
        obtain ⟨al, p0, p1, p2, p3, p4⟩ := C2.out
        go_wp2_with fail
        refine (HX.out _).mono ?_
        rintro e w3 ⟨rfl, hb3⟩
        have C3 := Lib.hid (((C2.out.below ((Below.refl _ _).alloc (Nat.le_refl _) _))).below hb3)
        have D3 := Lib.hid ((C5.new w2 23 ⟨nm1, v1, fr1, en1, rp1⟩).below hb3)
        have B3 := Lib.hid ((B2.out.alloc (by omega) (.cells #[.string nm1, .int .i64 v1, .int .i64 fr1, .int .i64 en1, .bool rp1] 23)).trans (hb3.mono (by simp; omega)))
        have s3 := hb3.size
        simp only [World.size_alloc] at s3
        clear hb3 al p0 p1 p2 p3 p4
        obtain ⟨al, p0, p1, p2, p3, p4⟩ := C3.out
        obtain ⟨dl, d0, d1, d2, d3, d4⟩ := D3.out
        go_wp2_with fail
        refine (HF.out _ (HT.out.below (by exact B3.out.alloc (by omega) _))).mono ?_
        rintro e w4 ⟨rfl, hb4⟩
        have C4 := Lib.hid (((C3.out.below ((Below.refl _ _).alloc (Nat.le_refl _) _))).below hb4)
        have B4 := Lib.hid ((B3.out.alloc (by omega) (.cells #[.string nm1, .int .i64 v1, .int .i64 fr1, .int .i64 en1, .bool rp1] 23)).trans (hb4.mono (by simp; omega)))
        have s4 := hb4.size
        simp only [World.size_alloc] at s4
        clear hb4 al p0 p1 p2 p3 p4 dl d0 d1 d2 d3 d4
        obtain ⟨al, p0, p1, p2, p3, p4⟩ := C4.out
        go_wp2_with fail
        refine (HG.out _).mono ?_
        rintro e w5 ⟨rfl, hb5⟩
        have C5' := Lib.hid (C4.out.below hb5)
        have B5 := Lib.hid (B4.out.trans (hb5.mono (by omega)))
        have s5 := hb5.size
        clear hb5 al p0 p1 p2 p3 p4
        obtain ⟨al, p0, p1, p2, p3, p4⟩ := C5'.out
        go_wp2_with fail
        refine (HPF.out _ (HM.out.below B5.out)).mono ?_
        rintro e w6 ⟨rfl, hb6⟩
        have C6 := Lib.hid (C5'.out.below hb6)
        have B6 := Lib.hid (B5.out.trans (hb6.mono (by omega)))
        have s6 := hb6.size
        clear hb6 al p0 p1 p2 p3 p4
        obtain ⟨al, p0, p1, p2, p3, p4⟩ := C6.out
        go_wp2_with fail
        refine (HE.out _).mono ?_
        rintro e w7 ⟨rfl, hb7⟩
        have C7 := Lib.hid (((C6.out.below ((Below.refl _ _).alloc (Nat.le_refl _) _))).below hb7)
        have D7 := Lib.hid ((C5.new w6 23 (Pv.mk nm v fr en rp)).below hb7)
        have B8 := Lib.hid ((B6.out.alloc (by omega) (.cells #[.string (Pv.mk nm v fr en rp).name, .int .i64 (Pv.mk nm v fr en rp).value, .int .i64 (Pv.mk nm v fr en rp).from', .int .i64 (Pv.mk nm v fr en rp).entered, .bool (Pv.mk nm v fr en rp).repeal] 23)).trans (hb7.mono (by simp; omega)))
        have s7 := hb7.size
        simp only [World.size_alloc] at s7
        clear hb7 al p0 p1 p2 p3 p4
        obtain ⟨al, p0, p1, p2, p3, p4⟩ := C7.out
        obtain ⟨dl, d0, d1, d2, d3, d4⟩ := D7.out
        simp only at d0 d1 d2 d3 d4
        go_wp2
        go_ret
        exact ⟨rfl, B8.out⟩
      · have hnb : (pe != 0) = true := by simpa using h0
        clear HB
        obtain ⟨nm2, v2, fr2, en2, rp2⟩ := y
        go_enter Tryz.func3, Tryz.ntmps3
        go_wp2_with fail
        refine (awake_any _).mono ?_
        rintro e w1 ⟨rfl, hb1⟩
        have C1 := Lib.hid ((C5.new w 23 ⟨nm, v, fr, en, rp⟩).below hb1)
        have B1 := Lib.hid (((Below.refl _ w).alloc (Nat.le_refl _) _).trans (hb1.mono (by simp)))
        have s1 := hb1.size
        simp only [World.size_alloc] at s1
        clear hb1
        obtain ⟨al, p0, p1, p2, p3, p4⟩ := C1.out
        go_wp2_with fail
        refine (HP.out _ (HM.out.below B1.out)).mono ?_
        rintro e w2 ⟨rfl, hb2⟩
        have C2 := Lib.hid (C1.out.below hb2)
        have B2 := Lib.hid (B1.out.trans (hb2.mono (by omega)))
        have s2 := hb2.size
        clear hb2 al p0 p1 p2 p3 p4
        obtain ⟨al, p0, p1, p2, p3, p4⟩ := C2.out
        go_wp2_with fail
        refine (HX.out _).mono ?_
        rintro e w3 ⟨rfl, hb3⟩
        have C3 := Lib.hid (((C2.out.below ((Below.refl _ _).alloc (Nat.le_refl _) _))).below hb3)
        have D3 := Lib.hid ((C5.new w2 23 ⟨nm1, v1, fr1, en1, rp1⟩).below hb3)
        have B3 := Lib.hid ((B2.out.alloc (by omega) (.cells #[.string nm1, .int .i64 v1, .int .i64 fr1, .int .i64 en1, .bool rp1] 23)).trans (hb3.mono (by simp; omega)))
        have s3 := hb3.size
        simp only [World.size_alloc] at s3
        clear hb3 al p0 p1 p2 p3 p4
        obtain ⟨al, p0, p1, p2, p3, p4⟩ := C3.out
        obtain ⟨dl, d0, d1, d2, d3, d4⟩ := D3.out
        go_wp2_with fail
        refine (HF.out _ (HT.out.below (by exact B3.out.alloc (by omega) _))).mono ?_
        rintro e w4 ⟨rfl, hb4⟩
        have C4 := Lib.hid (((C3.out.below ((Below.refl _ _).alloc (Nat.le_refl _) _))).below hb4)
        have B4 := Lib.hid ((B3.out.alloc (by omega) (.cells #[.string nm1, .int .i64 v1, .int .i64 fr1, .int .i64 en1, .bool rp1] 23)).trans (hb4.mono (by simp; omega)))
        have s4 := hb4.size
        simp only [World.size_alloc] at s4
        clear hb4 al p0 p1 p2 p3 p4 dl d0 d1 d2 d3 d4
        obtain ⟨al, p0, p1, p2, p3, p4⟩ := C4.out
        go_wp2_with fail
        refine (HG.out _).mono ?_
        rintro e w5 ⟨rfl, hb5⟩
        have C5' := Lib.hid (C4.out.below hb5)
        have B5 := Lib.hid (B4.out.trans (hb5.mono (by omega)))
        have s5 := hb5.size
        clear hb5 al p0 p1 p2 p3 p4
        obtain ⟨al, p0, p1, p2, p3, p4⟩ := C5'.out
        go_wp2_with fail
        refine (HPF.out _ (HM.out.below B5.out)).mono ?_
        rintro e w6 ⟨rfl, hb6⟩
        have C6 := Lib.hid (C5'.out.below hb6)
        have B6 := Lib.hid (B5.out.trans (hb6.mono (by omega)))
        have s6 := hb6.size
        clear hb6 al p0 p1 p2 p3 p4
        obtain ⟨al, p0, p1, p2, p3, p4⟩ := C6.out
        go_wp2_with fail
        refine (HE.out _).mono ?_
        rintro e w7 ⟨rfl, hb7⟩
        have C7 := Lib.hid (((C6.out.below ((Below.refl _ _).alloc (Nat.le_refl _) _))).below hb7)
        have D7 := Lib.hid ((C5.new w6 23 (Pv.mk nm2 v2 fr2 en2 rp2)).below hb7)
        have B8 := Lib.hid ((B6.out.alloc (by omega) (.cells #[.string (Pv.mk nm2 v2 fr2 en2 rp2).name, .int .i64 (Pv.mk nm2 v2 fr2 en2 rp2).value, .int .i64 (Pv.mk nm2 v2 fr2 en2 rp2).from', .int .i64 (Pv.mk nm2 v2 fr2 en2 rp2).entered, .bool (Pv.mk nm2 v2 fr2 en2 rp2).repeal] 23)).trans (hb7.mono (by simp; omega)))
        have s7 := hb7.size
        simp only [World.size_alloc] at s7
        clear hb7 al p0 p1 p2 p3 p4
        obtain ⟨al, p0, p1, p2, p3, p4⟩ := C7.out
        obtain ⟨dl, d0, d1, d2, d3, d4⟩ := D7.out
        simp only at d0 d1 d2 d3 d4
        go_wp2
        go_ret
        exact ⟨rfl, B8.out⟩
end Go.Proofs.YtpfekgmimfkjcaaGreatDoor
