/-
  RuleProvisions returns true for every list of provisions and every provision, in every world in which the list lies: the walks.
-/
import Derived.Test.YtfphedcgmaakjaaLawProv
namespace Go.Proofs.Ytfphedcgmaakjaa
open Go.RowKit
attribute [local go_sem] set_drewN
set_option maxRecDepth 100000 in
set_option maxHeartbeats 2000000 in
theorem RuleProvisions_1 (G : World → Prop) (hG : ∀ W W', G W → Below W.heap.size W W' → G W') (sv : Value) (p : Pv) (hm : p.name.size ≤ maxLen) (w : World) (g0 : G w)
    (cL : Hid (∀ W, G W → Calls Try.prog 50 #[sv] W (Ret (.bool false) W))) :
    Calls Try.prog 11 #[sv, p.val] w (RetB (.bool true) w) := by
  obtain ⟨nm, v, fr, en, rp⟩ := p
  simp only [Pv.val]
  clear hm
  have g1 := hG _ _ g0 ((Below.refl _ _).alloc (Nat.le_refl _) (Pv.box ⟨nm, v, fr, en, rp⟩))
  have pb := PBox.new w nm v fr en rp
  simp only [Pv.box] at g1
  go_enter Try.func11, Try.ntmps11
  go_wp2_with fail
  refine (awake_any _).mono ?_
  rintro e w1 ⟨rfl, hb1⟩
  have pb1 := pb.below hb1 (by simp)
  have G1 := hG _ _ g1 hb1
  have s1 := hb1.size
  rw [World.size_alloc] at s1
  have P1 := Lib.hid pb1
  obtain ⟨q0, q1, q2, q3, q4⟩ := pb1
  simp only at q0 q1 q2 q3 q4
  clear pb g1
  go_wp2_with fail
  refine (cL.out _ G1).mono ?_
  rintro e w' ⟨rfl, rfl⟩
  go_wp2
  go_ret
  exact ⟨rfl, ((Below.refl _ _).alloc (Nat.le_refl _) _).trans (hb1.mono (by simp))⟩
set_option maxRecDepth 100000 in
set_option maxHeartbeats 2000000 in
theorem RuleProvisions_2 (G : World → Prop) (hG : ∀ W W', G W → Below W.heap.size W W' → G W') (sv : Value) (p : Pv) (hm : p.name.size ≤ maxLen) (w : World) (g0 : G w) (hn : 30 < p.name.size)
    (cL : Hid (∀ W, G W → Calls Try.prog 50 #[sv] W (Ret (.bool true) W))) :
    Calls Try.prog 11 #[sv, p.val] w (RetB (.bool true) w) := by
  obtain ⟨nm, v, fr, en, rp⟩ := p
  simp only [Pv.val]
  unfold maxLen at hm
  have g1 := hG _ _ g0 ((Below.refl _ _).alloc (Nat.le_refl _) (Pv.box ⟨nm, v, fr, en, rp⟩))
  have pb := PBox.new w nm v fr en rp
  simp only [Pv.box] at g1
  go_enter Try.func11, Try.ntmps11
  go_wp2_with fail
  refine (awake_any _).mono ?_
  rintro e w1 ⟨rfl, hb1⟩
  have pb1 := pb.below hb1 (by simp)
  have G1 := hG _ _ g1 hb1
  have s1 := hb1.size
  rw [World.size_alloc] at s1
  have P1 := Lib.hid pb1
  obtain ⟨q0, q1, q2, q3, q4⟩ := pb1
  simp only at q0 q1 q2 q3 q4
  clear pb g1
  go_wp2_with fail
  refine (cL.out _ G1).mono ?_
  rintro e w' ⟨rfl, rfl⟩
  go_wp2
  go_ret
  exact ⟨rfl, ((Below.refl _ _).alloc (Nat.le_refl _) _).trans (hb1.mono (by simp))⟩
set_option maxRecDepth 100000 in
set_option maxHeartbeats 2000000 in
theorem RuleProvisions_3 (G : World → Prop) (hG : ∀ W W', G W → Below W.heap.size W W' → G W') (sv : Value) (p : Pv) (hm : p.name.size ≤ maxLen) (w : World) (g0 : G w) (hn : p.name.size ≤ 30)
    (cL : Hid (∀ W, G W → Calls Try.prog 50 #[sv] W (Ret (.bool true) W)))
    (C : Int) (cC : Hid (∀ W, G W → Calls Try.prog 53 #[sv] W (RetB (.int .i64 C) W)))
    (cD : Hid (∀ W, G W → Calls Try.prog 54 #[sv] W (RetB (.int .i64 C) W)))
    (E : Int) (cN : Hid (∀ W, G W → Calls Try.prog 51 #[sv, p.val] W (RetB (two (.slice none 0 0) (.int .i64 E)) W)))
    (cX : Hid (∀ W, G W → Calls Try.prog 52 #[sv, p.val] W (RetB (two (.slice none 0 0) (.int .i64 E)) W))) :
    Calls Try.prog 11 #[sv, p.val] w (RetB (.bool true) w) := by
  obtain ⟨nm, v, fr, en, rp⟩ := p
  simp only [Pv.val]
  unfold maxLen at hm
  have hn' : ¬ 30 < nm.size := by simp only at hn; omega
  simp only [Pv.val] at cN cX
  have g1 := hG _ _ g0 ((Below.refl _ _).alloc (Nat.le_refl _) (Pv.box ⟨nm, v, fr, en, rp⟩))
  have pb := PBox.new w nm v fr en rp
  simp only [Pv.box] at g1
  go_enter Try.func11, Try.ntmps11
  go_wp2_with fail
  refine (awake_any _).mono ?_
  rintro e w1 ⟨rfl, hb1⟩
  have pb1 := pb.below hb1 (by simp)
  have G1 := hG _ _ g1 hb1
  have s1 := hb1.size
  rw [World.size_alloc] at s1
  have P1 := Lib.hid pb1
  obtain ⟨q0, q1, q2, q3, q4⟩ := pb1
  simp only at q0 q1 q2 q3 q4
  clear pb g1
  go_wp2_with fail
  refine (cL.out _ G1).mono ?_
  rintro e w' ⟨rfl, rfl⟩
  go_wp2_with fail
  refine (cN.out _ G1).mono ?_
  rintro e w2 ⟨rfl, hb2⟩
  have G2 := hG _ _ G1 hb2
  have s2 := hb2.size
  have P2 := P1.out.below hb2 (by omega)
  obtain ⟨r0, r1, r2, r3, r4⟩ := P2
  simp only at r0 r1 r2 r3 r4
  go_wp2_with fail
  refine (cX.out _ G2).mono ?_
  rintro e w3 ⟨rfl, hb3⟩
  have G3 := hG _ _ G2 hb3
  have s3 := hb3.size
  go_wp2_with fail
  refine (cC.out _ G3).mono ?_
  rintro e w4 ⟨rfl, hb4⟩
  have G4 := hG _ _ G3 hb4
  have s4 := hb4.size
  go_wp2_with fail
  refine (cD.out _ G4).mono ?_
  rintro e w5 ⟨rfl, hb5⟩
  have s5 := hb5.size
  go_wp2_with fail
  refine (same_nil _).mono ?_
  rintro e w6 ⟨rfl, hb6⟩
  go_wp2
  go_ret
  exact ⟨rfl, ((Below.refl _ _).alloc (Nat.le_refl _) _).trans (hb1.mono (by simp)) |>.trans (hb2.mono (by omega)) |>.trans (hb3.mono (by omega)) |>.trans (hb4.mono (by omega)) |>.trans (hb5.mono (by omega)) |>.trans (hb6.mono (by omega))⟩
set_option maxRecDepth 100000 in
set_option maxHeartbeats 2000000 in
theorem RuleProvisions_4 (G : World → Prop) (hG : ∀ W W', G W → Below W.heap.size W W' → G W') (sv : Value) (p : Pv) (hm : p.name.size ≤ maxLen) (w : World) (g0 : G w) (l : List Pv) (hl : l.length ≤ 1000) (hn : p.name.size ≤ 30)
    (cL : Hid (∀ W, G W → Calls Try.prog 50 #[sv] W (Ret (.bool true) W)))
    (C : Int) (cC : Hid (∀ W, G W → Calls Try.prog 53 #[sv] W (RetB (.int .i64 C) W)))
    (cD : Hid (∀ W, G W → Calls Try.prog 54 #[sv] W (RetB (.int .i64 C) W)))
    (cN : Hid (∀ W, G W → Calls Try.prog 51 #[sv, p.val] W (NextOk l p W)))
    (cX : Hid (∀ W, G W → Calls Try.prog 52 #[sv, p.val] W (NextOk l p W))) :
    Calls Try.prog 11 #[sv, p.val] w (RetB (.bool true) w) := by
  obtain ⟨nm, v, fr, en, rp⟩ := p
  simp only [Pv.val]
  unfold maxLen at hm
  have hn' : ¬ 30 < nm.size := by simp only at hn; omega
  simp only [Pv.val] at cN cX
  have g1 := hG _ _ g0 ((Below.refl _ _).alloc (Nat.le_refl _) (Pv.box ⟨nm, v, fr, en, rp⟩))
  have pb := PBox.new w nm v fr en rp
  simp only [Pv.box] at g1
  go_enter Try.func11, Try.ntmps11
  go_wp2_with fail
  refine (awake_any _).mono ?_
  rintro e w1 ⟨rfl, hb1⟩
  have pb1 := pb.below hb1 (by simp)
  have G1 := hG _ _ g1 hb1
  have s1 := hb1.size
  rw [World.size_alloc] at s1
  have P1 := Lib.hid pb1
  obtain ⟨q0, q1, q2, q3, q4⟩ := pb1
  simp only at q0 q1 q2 q3 q4
  clear pb g1
  go_wp2_with fail
  refine (cL.out _ G1).mono ?_
  rintro e w' ⟨rfl, rfl⟩
  go_wp2_with fail
  refine (cN.out _ G1).mono ?_
  rintro e w2 ⟨g2, c2, rfl, _, V2, hb2⟩
  have HV2 := Lib.hid V2
  clear V2
  have G2 := hG _ _ G1 hb2
  have s2 := hb2.size
  have P2 := P1.out.below hb2 (by omega)
  obtain ⟨r0, r1, r2, r3, r4⟩ := P2
  simp only at r0 r1 r2 r3 r4
  go_wp2_with fail
  refine (cX.out _ G2).mono ?_
  rintro e w3 ⟨g3, c3, rfl, _, V3, hb3⟩
  have HV3 := Lib.hid V3
  clear V3
  have G3 := hG _ _ G2 hb3
  have s3 := hb3.size
  go_wp2_with fail
  refine (cC.out _ G3).mono ?_
  rintro e w4 ⟨rfl, hb4⟩
  have G4 := hG _ _ G3 hb4
  have s4 := hb4.size
  go_wp2_with fail
  refine (cD.out _ G4).mono ?_
  rintro e w5 ⟨rfl, hb5⟩
  have s5 := hb5.size
  go_wp2_with fail
  refine (same_any (l ++ [⟨nm, v, fr, en, rp⟩]) (l.length + 1) (by simp) g2 0 c2 g3 0 c3 _ (by simp; omega) (((HV2.out.below hb3).below hb4).below hb5) ((HV3.out.below hb4).below hb5)).mono ?_
  rintro e w6 ⟨rfl, hb6⟩
  go_wp2
  go_ret
  exact ⟨rfl, ((Below.refl _ _).alloc (Nat.le_refl _) _).trans (hb1.mono (by simp)) |>.trans (hb2.mono (by omega)) |>.trans (hb3.mono (by omega)) |>.trans (hb4.mono (by omega)) |>.trans (hb5.mono (by omega)) |>.trans (hb6.mono (by omega))⟩
theorem RuleProvisions_list (l : List Pv) (b o cap : Nat) (p : Pv) (w : World) (hl : l.length ≤ maxLen) (hm : p.name.size ≤ maxLen) (hc : PvsAt w b o l) :
    Calls Try.prog 11 #[.slice (some ⟨b, o, none⟩) l.length cap, p.val] w (RetB (.bool true) w) := by
  cases hB : lawB l
  · exact RuleProvisions_1 (fun W => PvsAt W b o l) (fun _ _ h k => h.below k) _ p hm w hc (Lib.hid fun W hW => by have := Laws_any l b o cap W hl hW; rwa [hB] at this)
  · have hl2 : l.length ≤ 1000 := by have := lawB_le hB; omega
    have cL : Hid (∀ W, PvsAt W b o l → Calls Try.prog 50 #[.slice (some ⟨b, o, none⟩) l.length cap] W (Ret (.bool true) W)) := Lib.hid fun W hW => by have := Laws_any l b o cap W hl hW; rwa [hB] at this
    by_cases hn : 30 < p.name.size
    · exact RuleProvisions_2 (fun W => PvsAt W b o l) (fun _ _ h k => h.below k) _ p hm w hc hn cL
    · have cC := Lib.hid (fun W (hW : PvsAt W b o l) => CheckProvisions_any l b o cap W (by omega) hW)
      have cD := Lib.hid (fun W (hW : PvsAt W b o l) => xCheckProvisions_any l b o cap W (by omega) hW)
      by_cases he : nxE l p = 0
      · exact RuleProvisions_4 (fun W => PvsAt W b o l) (fun _ _ h k => h.below k) _ p hm w hc l hl2 (by omega) cL _ cC cD (Lib.hid fun W hW => Next_ok l p b o cap W hl2 hW hm he) (Lib.hid fun W hW => xNext_ok l p b o cap W hl2 hW hm he)
      · exact RuleProvisions_3 (fun W => PvsAt W b o l) (fun _ _ h k => h.below k) _ p hm w hc (by omega) cL _ cC cD _ (Lib.hid fun W hW => Next_err l p b o cap W hl2 hW hm he) (Lib.hid fun W hW => xNext_err l p b o cap W hl2 hW hm he)
theorem RuleProvisions_nil (a : Option Addr) (cap : Nat) (p : Pv) (w : World) (hm : p.name.size ≤ maxLen) :
    Calls Try.prog 11 #[.slice a 0 cap, p.val] w (RetB (.bool true) w) := by
  have cL : Hid (∀ W, True → Calls Try.prog 50 #[.slice a 0 cap] W (Ret (.bool true) W)) := Lib.hid fun W _ => Laws_0 a cap W
  by_cases hn : 30 < p.name.size
  · exact RuleProvisions_2 (fun _ => True) (fun _ _ _ _ => trivial) _ p hm w trivial hn cL
  · have cC := Lib.hid (fun W (_ : True) => CheckProvisions_0 a cap W)
    have cD := Lib.hid (fun W (_ : True) => xCheckProvisions_0 a cap W)
    by_cases he : nxE [] p = 0
    · exact RuleProvisions_4 (fun _ => True) (fun _ _ _ _ => trivial) _ p hm w trivial [] (by simp) (by omega) cL _ cC cD (Lib.hid fun W _ => (Next_0 p a cap W hm).2 he) (Lib.hid fun W _ => (xNext_0 p a cap W hm).2 he)
    · exact RuleProvisions_3 (fun _ => True) (fun _ _ _ _ => trivial) _ p hm w trivial (by omega) cL _ cC cD _ (Lib.hid fun W _ => (Next_0 p a cap W hm).1 he) (Lib.hid fun W _ => (xNext_0 p a cap W hm).1 he)
end Go.Proofs.Ytfphedcgmaakjaa
