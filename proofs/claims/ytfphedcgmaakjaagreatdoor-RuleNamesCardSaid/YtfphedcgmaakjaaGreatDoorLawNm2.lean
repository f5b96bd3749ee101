/-
  RuleNames returns true for every list of provisions and pair of days, in every world in which the list lies and the table of powers of ten is laid.
-/
import Derived.Test.YtfphedcgmaakjaaGreatDoorTxt
import Derived.Test.YtfphedcgmaakjaaGreatDoorLawSrc2
import Derived.Test.YtfphedcgmaakjaaGreatDoorRefCon
namespace Go.Proofs.YtfphedcgmaakjaaGreatDoor
open Go.RowKit
attribute [local go_sem] set_drewN
set_option maxRecDepth 100000 in
set_option maxHeartbeats 4000000 in
theorem RuleNames_1 (G : World → Prop) (hG : ∀ W W', G W → Below W.heap.size W W' → G W') (sv : Value) (a0 a1 : Int) (w : World) (g0 : G w)
    (cL : Hid (∀ W, G W → Calls Tryz.prog 5 #[sv] W (Ret (.bool false) W))) :
    Calls Tryz.prog 3 #[sv, .agg #[.int .i64 a0, .int .i64 a1]] w (RetB (.bool true) w) := by
  go_enter Tryz.func3, Tryz.ntmps3
  go_wp2_with fail
  refine (awake_any _).mono ?_
  rintro e w1 ⟨rfl, hb1⟩
  have G1 := hG _ _ (hG _ _ g0 ((Below.refl _ _).alloc (Nat.le_refl _) _)) hb1
  have A1 := Lib.hid ((At2.new w a0 a1).below hb1)
  have B1 := Lib.hid (((Below.refl _ w).alloc (Nat.le_refl _) _).trans (hb1.mono (by simp)))
  have s1 := hb1.size
  simp only [World.size_alloc] at s1
  clear hb1
  obtain ⟨al, a0', a1'⟩ := A1.out
  go_wp2_with fail
  refine (cL.out _ G1).mono ?_
  rintro e w' ⟨rfl, rfl⟩
  go_wp2
  go_ret
  exact ⟨rfl, B1.out⟩
set_option maxRecDepth 100000 in
set_option maxHeartbeats 4000000 in
theorem RuleNames_2 (G : World → Prop) (hG : ∀ W W', G W → Below W.heap.size W W' → G W') (sv : Value) (a0 a1 : Int) (w : World) (g0 : G w) (E : Int) (hE : (E != 0) = true)
    (cL : Hid (∀ W, G W → Calls Tryz.prog 5 #[sv] W (Ret (.bool true) W)))
    (cA : Hid (∀ W, G W → Calls Tryz.prog 8 #[sv, .agg #[.int .i64 a0, .int .i64 a1]] W (RetB (.int .i64 E) W)))
    (cN : Hid (∀ W, G W → Calls Tryz.prog 6 #[sv, .agg #[.int .i64 a0, .int .i64 a1]] W (RetB (two (.slice none 0 0) (.int .i64 E)) W)))
    (cC : Hid (∀ W, G W → Calls Tryz.prog 7 #[sv, .agg #[.int .i64 a0, .int .i64 a1]] W (RetB (two (.string ⟨#[]⟩) (.int .i64 E)) W))) :
    Calls Tryz.prog 3 #[sv, .agg #[.int .i64 a0, .int .i64 a1]] w (RetB (.bool true) w) := by
  go_enter Tryz.func3, Tryz.ntmps3
  go_wp2_with fail
  refine (awake_any _).mono ?_
  rintro e w1 ⟨rfl, hb1⟩
  have G1 := hG _ _ (hG _ _ g0 ((Below.refl _ _).alloc (Nat.le_refl _) _)) hb1
  have A1 := Lib.hid ((At2.new w a0 a1).below hb1)
  have B1 := Lib.hid (((Below.refl _ w).alloc (Nat.le_refl _) _).trans (hb1.mono (by simp)))
  have s1 := hb1.size
  simp only [World.size_alloc] at s1
  clear hb1
  obtain ⟨al, a0', a1'⟩ := A1.out
  go_wp2_with fail
  refine (cL.out _ G1).mono ?_
  rintro e w' ⟨rfl, rfl⟩
  go_wp2_with fail
  refine (cN.out _ G1).mono ?_
  rintro e w2 ⟨rfl, hb2⟩
  have s2 := hb2.size
  have G2 := hG _ _ G1 hb2
  have A2 := Lib.hid (A1.out.below hb2)
  have B2 := Lib.hid (B1.out.trans (hb2.mono (by omega)))
  clear al a0' a1'
  obtain ⟨al, a0', a1'⟩ := A2.out
  go_wp2_with fail
  refine (cC.out _ G2).mono ?_
  rintro e w3 ⟨rfl, hb3⟩
  have s3 := hb3.size
  have G3 := hG _ _ G2 hb3
  have A3 := Lib.hid (A2.out.below hb3)
  have B3 := Lib.hid (B2.out.trans (hb3.mono (by omega)))
  clear al a0' a1'
  obtain ⟨al, a0', a1'⟩ := A3.out
  go_wp2_with fail
  refine (cA.out _ G3).mono ?_
  rintro e w4 ⟨rfl, hb4⟩
  have s4 := hb4.size
  have G4 := hG _ _ G3 hb4
  have A4 := Lib.hid (A3.out.below hb4)
  have B4 := Lib.hid (B3.out.trans (hb4.mono (by omega)))
  clear al a0' a1'
  obtain ⟨al, a0', a1'⟩ := A4.out
  go_wp2
  go_ret
  exact ⟨rfl, B4.out⟩
set_option maxRecDepth 100000 in
set_option maxHeartbeats 4000000 in
theorem RuleNames_3 (G : World → Prop) (hG : ∀ W W', G W → Below W.heap.size W W' → G W') (sv : Value) (a0 a1 : Int) (w : World) (g0 : G w) (T : List (List UInt8)) (hT : T.length ≤ 1000) (t : ByteArray)
    (cL : Hid (∀ W, G W → Calls Tryz.prog 5 #[sv] W (Ret (.bool true) W)))
    (cA : Hid (∀ W, G W → Calls Tryz.prog 8 #[sv, .agg #[.int .i64 a0, .int .i64 a1]] W (RetB (.int .i64 0) W)))
    (cN : Hid (∀ W, G W → Calls Tryz.prog 6 #[sv, .agg #[.int .i64 a0, .int .i64 a1]] W (fun e w' => ∃ v, e = .returned (two v (.int .i64 0)) ∧ StrV w' W.heap.size v T ∧ Below W.heap.size W w')))
    (cC : Hid (∀ W, G W → Calls Tryz.prog 7 #[sv, .agg #[.int .i64 a0, .int .i64 a1]] W (RetB (two (.string t) (.int .i64 0)) W)))
    (xN : Hid (∀ W, G W → Calls Tryz.prog 10 #[sv, .agg #[.int .i64 a0, .int .i64 a1]] W (fun e w' => ∃ v, e = .returned v ∧ StrV w' W.heap.size v T ∧ Below W.heap.size W w')))
    (xC : Hid (∀ W, G W → Calls Tryz.prog 11 #[sv, .agg #[.int .i64 a0, .int .i64 a1]] W (RetB (.string t) W))) :
    Calls Tryz.prog 3 #[sv, .agg #[.int .i64 a0, .int .i64 a1]] w (RetB (.bool true) w) := by
  go_enter Tryz.func3, Tryz.ntmps3
  go_wp2_with fail
  refine (awake_any _).mono ?_
  rintro e w1 ⟨rfl, hb1⟩
  have G1 := hG _ _ (hG _ _ g0 ((Below.refl _ _).alloc (Nat.le_refl _) _)) hb1
  have A1 := Lib.hid ((At2.new w a0 a1).below hb1)
  have B1 := Lib.hid (((Below.refl _ w).alloc (Nat.le_refl _) _).trans (hb1.mono (by simp)))
  have s1 := hb1.size
  simp only [World.size_alloc] at s1
  clear hb1
  obtain ⟨al, a0', a1'⟩ := A1.out
  go_wp2_with fail
  refine (cL.out _ G1).mono ?_
  rintro e w' ⟨rfl, rfl⟩
  go_wp2_with fail
  refine (cN.out _ G1).mono ?_
  rintro e w2 ⟨v2, rfl, hv2, hb2⟩
  have s2 := hb2.size
  have G2 := hG _ _ G1 hb2
  have A2 := Lib.hid (A1.out.below hb2)
  have B2 := Lib.hid (B1.out.trans (hb2.mono (by omega)))
  have V2 := Lib.hid hv2
  clear hv2
  clear al a0' a1'
  obtain ⟨al, a0', a1'⟩ := A2.out
  go_wp2_with fail
  refine (cC.out _ G2).mono ?_
  rintro e w3 ⟨rfl, hb3⟩
  have s3 := hb3.size
  have G3 := hG _ _ G2 hb3
  have A3 := Lib.hid (A2.out.below hb3)
  have B3 := Lib.hid (B2.out.trans (hb3.mono (by omega)))
  have V3 := Lib.hid (V2.out.below hb3)
  clear al a0' a1'
  obtain ⟨al, a0', a1'⟩ := A3.out
  go_wp2_with fail
  refine (cA.out _ G3).mono ?_
  rintro e w4 ⟨rfl, hb4⟩
  have s4 := hb4.size
  have G4 := hG _ _ G3 hb4
  have A4 := Lib.hid (A3.out.below hb4)
  have B4 := Lib.hid (B3.out.trans (hb4.mono (by omega)))
  have V4 := Lib.hid (V3.out.below hb4)
  clear al a0' a1'
  obtain ⟨al, a0', a1'⟩ := A4.out
  go_wp2_with fail
  refine (xN.out _ G4).mono ?_
  rintro e w5 ⟨v5, rfl, hx5, hb5⟩
  have s5 := hb5.size
  have G5 := hG _ _ G4 hb5
  have A5 := Lib.hid (A4.out.below hb5)
  have B5 := Lib.hid (B4.out.trans (hb5.mono (by omega)))
  have V5 := Lib.hid (V4.out.below hb5)
  have X5 := Lib.hid hx5
  clear hx5
  clear al a0' a1'
  obtain ⟨al, a0', a1'⟩ := A5.out
  go_wp2_with fail
  refine (texts_any V5.out X5.out hT).mono ?_
  rintro e w6 ⟨rfl, hb6⟩
  have s6 := hb6.size
  have G6 := hG _ _ G5 hb6
  have A6 := Lib.hid (A5.out.below hb6)
  have B6 := Lib.hid (B5.out.trans (hb6.mono (by omega)))
  clear al a0' a1'
  obtain ⟨al, a0', a1'⟩ := A6.out
  go_wp2_with fail
  refine (xC.out _ G6).mono ?_
  rintro e w7 ⟨rfl, hb7⟩
  have s7 := hb7.size
  have G7 := hG _ _ G6 hb7
  have A7 := Lib.hid (A6.out.below hb7)
  have B7 := Lib.hid (B6.out.trans (hb7.mono (by omega)))
  clear al a0' a1'
  obtain ⟨al, a0', a1'⟩ := A7.out
  go_wp2
  go_ret
  exact ⟨rfl, B7.out⟩
end Go.Proofs.YtfphedcgmaakjaaGreatDoor
namespace Go.Proofs.YtfphedcgmaakjaaGreatDoor
open Go.RowKit
theorem lawB_names {l : List Pv} (h : lawB l = true) : ∀ p ∈ l, p.name.size ≤ 30 := by
  intro p hp
  unfold lawB at h
  rw [Bool.and_eq_true] at h
  simpa using List.all_eq_true.1 h.2 p hp
theorem NmsPost.strv {T : List (List UInt8)} {w : World} {e : Ending} {w' : World} (h : NmsPost T w e w') : ∃ v, e = .returned (two v (.int .i64 0)) ∧ StrV w' w.heap.size v T ∧ Below w.heap.size w w' := by
  rcases h with ⟨hT, rfl, hb⟩ | ⟨_, g, cap, rfl, hg, hS, hb⟩
  · exact ⟨_, rfl, .inl ⟨hT, rfl⟩, hb⟩
  · exact ⟨_, rfl, .inr ⟨g, cap, rfl, hg, hS⟩, hb⟩
theorem RuleNames_list (l : List Pv) (b o cap : Nat) (a0 a1 : Int) (w : World) (hl : l.length ≤ maxLen) (hc : PvsAt w b o l) (ht : Tab w) :
    Calls Tryz.prog 3 #[.slice (some ⟨b, o, none⟩) l.length cap, .agg #[.int .i64 a0, .int .i64 a1]] w (RetB (.bool true) w) := by
  have hG : ∀ W W', (PvsAt W b o l ∧ Tab W) → Below W.heap.size W W' → (PvsAt W' b o l ∧ Tab W') := fun _ _ h k => ⟨h.1.below k, h.2.below k⟩
  cases hB : lawB l
  · exact RuleNames_1 (fun W => PvsAt W b o l ∧ Tab W) hG _ a0 a1 w ⟨hc, ht⟩ (Lib.hid fun W hW => by have := Laws_any l b o cap W hl hW.1; rwa [hB] at this)
  · have hl2 : l.length ≤ 210 := lawB_le hB
    have hnm := lawB_names hB
    have cL : Hid (∀ W, (PvsAt W b o l ∧ Tab W) → Calls Tryz.prog 5 #[.slice (some ⟨b, o, none⟩) l.length cap] W (Ret (.bool true) W)) := Lib.hid fun W hW => by have := Laws_any l b o cap W hl hW.1; rwa [hB] at this
    have cA := fun W (hW : PvsAt W b o l ∧ Tab W) => atErr_any l a0 a1 b o cap W (by omega) hW.1
    by_cases he : srcE l a0 a1 = 0
    · rw [he] at cA
      exact RuleNames_3 (fun W => PvsAt W b o l ∧ Tab W) hG _ a0 a1 w ⟨hc, ht⟩ (nmsOf l a0 a1) (by have := nmsOf_len l a0 a1; omega) (conT l a0 a1) cL (Lib.hid cA)
        (Lib.hid fun W hW => (Names_ok l a0 a1 b o cap W (by omega) hW.1 he).mono fun e w' h => h.strv)
        (Lib.hid fun W hW => Consolidated_ok l a0 a1 b o cap W (by omega) hW.1 hW.2 hnm he)
        (Lib.hid fun W hW => xNames_any l a0 a1 b o cap W (by omega) hW.1)
        (Lib.hid fun W hW => xConsolidated_any l a0 a1 b o cap W (by omega) hW.1 hnm he)
    · exact RuleNames_2 (fun W => PvsAt W b o l ∧ Tab W) hG _ a0 a1 w ⟨hc, ht⟩ _ (by simpa using he) cL (Lib.hid cA)
        (Lib.hid fun W hW => Names_err l a0 a1 b o cap W (by omega) hW.1 he) (Lib.hid fun W hW => Consolidated_err l a0 a1 b o cap W (by omega) hW.1 he)
theorem RuleNames_nil (a : Option Addr) (cap : Nat) (a0 a1 : Int) (w : World) (ht : Tab w) :
    Calls Tryz.prog 3 #[.slice a 0 cap, .agg #[.int .i64 a0, .int .i64 a1]] w (RetB (.bool true) w) := by
  have hG : ∀ W W', Tab W → Below W.heap.size W W' → Tab W' := fun _ _ h k => h.below k
  have cL : Hid (∀ W, Tab W → Calls Tryz.prog 5 #[.slice a 0 cap] W (Ret (.bool true) W)) := Lib.hid fun W _ => Laws_0 a cap W
  have cA := fun W (_ : Tab W) => atErr_any_0 a0 a1 a cap W
  have hT : nmsOf [] a0 a1 = [] := by simp [nmsOf, nmSet, dd]
  by_cases he : srcE [] a0 a1 = 0
  · rw [he] at cA
    exact RuleNames_3 Tab hG _ a0 a1 w ht (nmsOf [] a0 a1) (by rw [hT]; simp) (conT [] a0 a1) cL (Lib.hid cA)
      (Lib.hid fun W _ => (Names_ok_0 a0 a1 a cap W he).mono fun e w' h => h.strv)
      (Lib.hid fun W _ => Consolidated_ok_0 a0 a1 a cap W he)
      (Lib.hid fun W _ => (xNames_0 a0 a1 a cap W).mono (by
        rintro e w' ⟨rfl, hb⟩
        exact ⟨_, rfl, .inl ⟨hT, rfl⟩, hb⟩))
      (Lib.hid fun W _ => xConsolidated_0 a0 a1 a cap W)
  · exact RuleNames_2 Tab hG _ a0 a1 w ht _ (by simpa using he) cL (Lib.hid cA)
      (Lib.hid fun W _ => Names_err_0 a0 a1 a cap W he) (Lib.hid fun W _ => Consolidated_err_0 a0 a1 a cap W he)
end Go.Proofs.YtfphedcgmaakjaaGreatDoor
