/-
  RuleChanges returns true for every list of provisions, name and pair of days, in every world in which the list lies: the walks.
-/
import Derived.Test.YtfphedcgmaakjaaSameC
import Derived.Test.YtfphedcgmaakjaaChg
import Derived.Test.YtfphedcgmaakjaaChgM2
import Derived.Test.YtfphedcgmaakjaaHv
import Derived.Test.YtfphedcgmaakjaaLawSrc2
namespace Go.Proofs.Ytfphedcgmaakjaa
open Go.RowKit
attribute [local go_sem] set_drewN
set_option maxRecDepth 100000 in
set_option maxHeartbeats 4000000 in
theorem RuleChanges_1 (G : World → Prop) (hG : ∀ W W', G W → Below W.heap.size W W' → G W') (sv : Value) (nm : ByteArray) (a0 a1 : Int) (w : World) (g0 : G w) (_ : nm.size ≤ maxLen)
    (cL : Hid (∀ W, G W → Calls Try.prog 50 #[sv] W (Ret (.bool false) W))) :
    Calls Try.prog 13 #[sv, .string nm, .agg #[.int .i64 a0, .int .i64 a1]] w (RetB (.bool true) w) := by
  go_enter Try.func13, Try.ntmps13
  go_wp2_with fail
  refine (awake_any _).mono ?_
  rintro e w1 ⟨rfl, hb1⟩
  have G1 := hG _ _ (hG _ _ g0 ((Below.refl _ _).alloc (Nat.le_refl _) _)) hb1
  have A1 := Lib.hid ((At2.new w a0 a1).below hb1)
  have B1 := Lib.hid (((Below.refl _ w).alloc (Nat.le_refl _) _).trans (hb1.mono (by simp)))
  obtain ⟨al1, a10, a11⟩ := A1.out
  have q1 := hb1.size
  simp only [World.size_alloc] at q1
  clear hb1
  go_wp2_with fail
  refine (cL.out _ G1).mono ?_
  rintro e w' ⟨rfl, rfl⟩
  go_wp2
  go_ret
  exact ⟨rfl, B1.out⟩
set_option maxRecDepth 100000 in
set_option maxHeartbeats 4000000 in
theorem RuleChanges_2 (G : World → Prop) (hG : ∀ W W', G W → Below W.heap.size W W' → G W') (sv : Value) (nm : ByteArray) (a0 a1 : Int) (w : World) (g0 : G w) (hm : nm.size ≤ maxLen) (hn : 30 < nm.size)
    (cL : Hid (∀ W, G W → Calls Try.prog 50 #[sv] W (Ret (.bool true) W))) :
    Calls Try.prog 13 #[sv, .string nm, .agg #[.int .i64 a0, .int .i64 a1]] w (RetB (.bool true) w) := by
  unfold maxLen at hm
  go_enter Try.func13, Try.ntmps13
  go_wp2_with fail
  refine (awake_any _).mono ?_
  rintro e w1 ⟨rfl, hb1⟩
  have G1 := hG _ _ (hG _ _ g0 ((Below.refl _ _).alloc (Nat.le_refl _) _)) hb1
  have A1 := Lib.hid ((At2.new w a0 a1).below hb1)
  have B1 := Lib.hid (((Below.refl _ w).alloc (Nat.le_refl _) _).trans (hb1.mono (by simp)))
  obtain ⟨al1, a10, a11⟩ := A1.out
  have q1 := hb1.size
  simp only [World.size_alloc] at q1
  clear hb1
  go_wp2_with fail
  refine (cL.out _ G1).mono ?_
  rintro e w' ⟨rfl, rfl⟩
  go_wp2
  go_ret
  exact ⟨rfl, B1.out⟩
set_option maxRecDepth 100000 in
set_option maxHeartbeats 4000000 in
theorem RuleChanges_3a (G : World → Prop) (hG : ∀ W W', G W → Below W.heap.size W W' → G W') (sv : Value) (nm : ByteArray) (a0 a1 : Int) (w : World) (g0 : G w) (hm : nm.size ≤ maxLen) (hn : nm.size ≤ 30) (E : Int) (hE : E ≠ 0)
    (cL : Hid (∀ W, G W → Calls Try.prog 50 #[sv] W (Ret (.bool true) W)))
    (I1 : Hid (∀ W, G W → Calls Try.prog 60 #[sv, .string nm, .int .i64 a1] W (RetB (two (.slice none 0 0) (.int .i64 E)) W)))
    (X1 : Hid (∀ W, G W → Calls Try.prog 54 #[sv] W (RetB (.int .i64 E) W))) :
    Calls Try.prog 13 #[sv, .string nm, .agg #[.int .i64 a0, .int .i64 a1]] w (RetB (.bool true) w) := by
  have hn' : ¬ 30 < nm.size := by omega
  have hb : (E != 0) = true := by simpa using hE
  have hb0 : (E == 0) = false := by simpa using hE
  unfold maxLen at hm
  go_enter Try.func13, Try.ntmps13
  go_wp2_with fail
  refine (awake_any _).mono ?_
  rintro e w1 ⟨rfl, hb1⟩
  have G1 := hG _ _ (hG _ _ g0 ((Below.refl _ _).alloc (Nat.le_refl _) _)) hb1
  have A1 := Lib.hid ((At2.new w a0 a1).below hb1)
  have B1 := Lib.hid (((Below.refl _ w).alloc (Nat.le_refl _) _).trans (hb1.mono (by simp)))
  obtain ⟨al1, a10, a11⟩ := A1.out
  have q1 := hb1.size
  simp only [World.size_alloc] at q1
  clear hb1
  go_wp2_with fail
  refine (cL.out _ G1).mono ?_
  rintro e w' ⟨rfl, rfl⟩
  go_wp2_with fail
  refine (I1.out _ G1).mono ?_
  rintro e w2 ⟨rfl, hb2⟩
  have G2 := hG _ _ G1 hb2
  have A2 := Lib.hid (A1.out.below hb2)
  obtain ⟨al2, a20, a21⟩ := A2.out
  have B2 := Lib.hid (B1.out.trans (hb2.mono (by omega)))
  have q2 := hb2.size
  go_wp2_with fail
  refine (X1.out _ G2).mono ?_
  rintro e w3 ⟨rfl, hb3⟩
  have G3 := hG _ _ G2 hb3
  have A3 := Lib.hid (A2.out.below hb3)
  obtain ⟨al3, a30, a31⟩ := A3.out
  have B3 := Lib.hid (B2.out.trans (hb3.mono (by omega)))
  have q3 := hb3.size
  go_wp2
  go_ret
  exact ⟨rfl, B3.out⟩
set_option maxRecDepth 100000 in
set_option maxHeartbeats 4000000 in
theorem RuleChanges_3b (G : World → Prop) (hG : ∀ W W', G W → Below W.heap.size W W' → G W') (sv : Value) (nm : ByteArray) (a0 a1 : Int) (w : World) (g0 : G w) (hm : nm.size ≤ maxLen) (hn : nm.size ≤ 30) (hd : inB a1 0 200000 = false)
    (cL : Hid (∀ W, G W → Calls Try.prog 50 #[sv] W (Ret (.bool true) W)))
    (I1 : Hid (∀ W, G W → Calls Try.prog 60 #[sv, .string nm, .int .i64 a1] W (RetB (two (.slice none 0 0) (.int .i64 2)) W)))
    (X1 : Hid (∀ W, G W → Calls Try.prog 54 #[sv] W (RetB (.int .i64 0) W))) :
    Calls Try.prog 13 #[sv, .string nm, .agg #[.int .i64 a0, .int .i64 a1]] w (RetB (.bool true) w) := by
  have hn' : ¬ 30 < nm.size := by omega
  have HD := Lib.hid hd
  clear hd
  unfold maxLen at hm
  go_enter Try.func13, Try.ntmps13
  go_wp2_with fail
  refine (awake_any _).mono ?_
  rintro e w1 ⟨rfl, hb1⟩
  have G1 := hG _ _ (hG _ _ g0 ((Below.refl _ _).alloc (Nat.le_refl _) _)) hb1
  have A1 := Lib.hid ((At2.new w a0 a1).below hb1)
  have B1 := Lib.hid (((Below.refl _ w).alloc (Nat.le_refl _) _).trans (hb1.mono (by simp)))
  obtain ⟨al1, a10, a11⟩ := A1.out
  have q1 := hb1.size
  simp only [World.size_alloc] at q1
  clear hb1
  go_wp2_with fail
  refine (cL.out _ G1).mono ?_
  rintro e w' ⟨rfl, rfl⟩
  go_wp2_with fail
  refine (I1.out _ G1).mono ?_
  rintro e w2 ⟨rfl, hb2⟩
  have G2 := hG _ _ G1 hb2
  have A2 := Lib.hid (A1.out.below hb2)
  obtain ⟨al2, a20, a21⟩ := A2.out
  have B2 := Lib.hid (B1.out.trans (hb2.mono (by omega)))
  have q2 := hb2.size
  go_wp2_with fail
  refine (X1.out _ G2).mono ?_
  rintro e w3 ⟨rfl, hb3⟩
  have G3 := hG _ _ G2 hb3
  have A3 := Lib.hid (A2.out.below hb3)
  obtain ⟨al3, a30, a31⟩ := A3.out
  have B3 := Lib.hid (B2.out.trans (hb3.mono (by omega)))
  have q3 := hb3.size
  go_wp2_with (go_at_call 23; refine (xIsDay_any _ _).mono ?_; rintro e w' ⟨rfl, rfl⟩; rw [HD.out])
  go_ret
  exact ⟨rfl, B3.out⟩
set_option maxRecDepth 100000 in
set_option maxHeartbeats 4000000 in
theorem RuleChanges_4 (G : World → Prop) (hG : ∀ W W', G W → Below W.heap.size W W' → G W') (sv : Value) (nm : ByteArray) (a0 a1 : Int) (w : World) (g0 : G w) (hm : nm.size ≤ maxLen) (hn : nm.size ≤ 30) (hd : inB a1 0 200000 = true)
    (cL : Hid (∀ W, G W → Calls Try.prog 50 #[sv] W (Ret (.bool true) W)))
    (I1 : Hid (∀ W, G W → Calls Try.prog 60 #[sv, .string nm, .int .i64 a1] W (RetB (two (.slice none 0 0) (.int .i64 6)) W)))
    (X1 : Hid (∀ W, G W → Calls Try.prog 54 #[sv] W (RetB (.int .i64 0) W)))
    (R1 : Hid (∀ W, G W → Calls Try.prog 61 #[sv, .string nm, .int .i64 a1] W (fun e w' => ∃ v, e = .returned (two v (.bool false)) ∧ Below W.heap.size W w'))) :
    Calls Try.prog 13 #[sv, .string nm, .agg #[.int .i64 a0, .int .i64 a1]] w (RetB (.bool true) w) := by
  have hn' : ¬ 30 < nm.size := by omega
  have HD := Lib.hid hd
  clear hd
  unfold maxLen at hm
  go_enter Try.func13, Try.ntmps13
  go_wp2_with fail
  refine (awake_any _).mono ?_
  rintro e w1 ⟨rfl, hb1⟩
  have G1 := hG _ _ (hG _ _ g0 ((Below.refl _ _).alloc (Nat.le_refl _) _)) hb1
  have A1 := Lib.hid ((At2.new w a0 a1).below hb1)
  have B1 := Lib.hid (((Below.refl _ w).alloc (Nat.le_refl _) _).trans (hb1.mono (by simp)))
  obtain ⟨al1, a10, a11⟩ := A1.out
  have q1 := hb1.size
  simp only [World.size_alloc] at q1
  clear hb1
  go_wp2_with fail
  refine (cL.out _ G1).mono ?_
  rintro e w' ⟨rfl, rfl⟩
  go_wp2_with fail
  refine (I1.out _ G1).mono ?_
  rintro e w2 ⟨rfl, hb2⟩
  have G2 := hG _ _ G1 hb2
  have A2 := Lib.hid (A1.out.below hb2)
  obtain ⟨al2, a20, a21⟩ := A2.out
  have B2 := Lib.hid (B1.out.trans (hb2.mono (by omega)))
  have q2 := hb2.size
  go_wp2_with fail
  refine (X1.out _ G2).mono ?_
  rintro e w3 ⟨rfl, hb3⟩
  have G3 := hG _ _ G2 hb3
  have A3 := Lib.hid (A2.out.below hb3)
  obtain ⟨al3, a30, a31⟩ := A3.out
  have B3 := Lib.hid (B2.out.trans (hb3.mono (by omega)))
  have q3 := hb3.size
  go_wp2_with (go_at_call 23; refine (xIsDay_any _ _).mono ?_; rintro e w' ⟨rfl, rfl⟩; rw [HD.out])
  refine (R1.out _ G3).mono ?_
  rintro e w4 ⟨v4, rfl, hb4⟩
  have G4 := hG _ _ G3 hb4
  have A4 := Lib.hid (A3.out.below hb4)
  obtain ⟨al4, a40, a41⟩ := A4.out
  have B4 := Lib.hid (B3.out.trans (hb4.mono (by omega)))
  have q4 := hb4.size
  go_wp2
  go_ret
  exact ⟨rfl, B4.out⟩
set_option maxRecDepth 100000 in
set_option maxHeartbeats 4000000 in
theorem RuleChanges_5a (G : World → Prop) (hG : ∀ W W', G W → Below W.heap.size W W' → G W') (sv : Value) (nm : ByteArray) (a0 a1 : Int) (w : World) (g0 : G w) (hm : nm.size ≤ maxLen) (hn : nm.size ≤ 30) (hd : inB a1 0 200000 = true) (hd0 : inB a0 0 200000 = false) (C : List (Int × Int × Bool)) (hC9 : C.length ≤ 1000)
    (cL : Hid (∀ W, G W → Calls Try.prog 50 #[sv] W (Ret (.bool true) W)))
    (I1 : Hid (∀ W, G W → Calls Try.prog 60 #[sv, .string nm, .int .i64 a1] W (fun e w' => ∃ v, e = .returned (two v (.int .i64 0)) ∧ ChgAt w' W.heap.size v C ∧ Below W.heap.size W w')))
    (X1 : Hid (∀ W, G W → Calls Try.prog 54 #[sv] W (RetB (.int .i64 0) W)))
    (R1 : Hid (∀ W, G W → Calls Try.prog 61 #[sv, .string nm, .int .i64 a1] W (fun e w' => ∃ v, e = .returned (two v (.bool true)) ∧ ChgAt w' W.heap.size v C ∧ Below W.heap.size W w'))) :
    Calls Try.prog 13 #[sv, .string nm, .agg #[.int .i64 a0, .int .i64 a1]] w (RetB (.bool true) w) := by
  have hn' : ¬ 30 < nm.size := by omega
  have HD := Lib.hid hd
  have HD0 := Lib.hid hd0
  clear hd hd0
  unfold maxLen at hm
  go_enter Try.func13, Try.ntmps13
  go_wp2_with fail
  refine (awake_any _).mono ?_
  rintro e w1 ⟨rfl, hb1⟩
  have G1 := hG _ _ (hG _ _ g0 ((Below.refl _ _).alloc (Nat.le_refl _) _)) hb1
  have A1 := Lib.hid ((At2.new w a0 a1).below hb1)
  have B1 := Lib.hid (((Below.refl _ w).alloc (Nat.le_refl _) _).trans (hb1.mono (by simp)))
  obtain ⟨al1, a10, a11⟩ := A1.out
  have q1 := hb1.size
  simp only [World.size_alloc] at q1
  clear hb1
  go_wp2_with fail
  refine (cL.out _ G1).mono ?_
  rintro e w' ⟨rfl, rfl⟩
  go_wp2_with fail
  refine (I1.out _ G1).mono ?_
  rintro e w2 ⟨v2, rfl, hc2, hb2⟩
  have G2 := hG _ _ G1 hb2
  have A2 := Lib.hid (A1.out.below hb2)
  obtain ⟨al2, a20, a21⟩ := A2.out
  have B2 := Lib.hid (B1.out.trans (hb2.mono (by omega)))
  have q2 := hb2.size
  have C2 := Lib.hid hc2
  clear hc2
  go_wp2_with fail
  refine (X1.out _ G2).mono ?_
  rintro e w3 ⟨rfl, hb3⟩
  have G3 := hG _ _ G2 hb3
  have A3 := Lib.hid (A2.out.below hb3)
  obtain ⟨al3, a30, a31⟩ := A3.out
  have B3 := Lib.hid (B2.out.trans (hb3.mono (by omega)))
  have q3 := hb3.size
  have C3 := Lib.hid (C2.out.below hb3)
  go_wp2_with (go_at_call 23; refine (xIsDay_any _ _).mono ?_; rintro e w' ⟨rfl, rfl⟩; rw [HD.out])
  refine (R1.out _ G3).mono ?_
  rintro e w4 ⟨v4, rfl, hc4, hb4⟩
  have G4 := hG _ _ G3 hb4
  have A4 := Lib.hid (A3.out.below hb4)
  obtain ⟨al4, a40, a41⟩ := A4.out
  have B4 := Lib.hid (B3.out.trans (hb4.mono (by omega)))
  have q4 := hb4.size
  have C4 := Lib.hid (C3.out.below hb4)
  have D4 := Lib.hid hc4
  clear hc4
  go_wp2_with fail
  refine (sameC C4.out D4.out hC9).mono ?_
  rintro e w5 ⟨rfl, hb5⟩
  have G5 := hG _ _ G4 hb5
  have A5 := Lib.hid (A4.out.below hb5)
  obtain ⟨al5, a50, a51⟩ := A5.out
  have B5 := Lib.hid (B4.out.trans (hb5.mono (by omega)))
  have q5 := hb5.size
  have C5 := Lib.hid (C4.out.below hb5)
  go_wp2_with (go_at_call 23; refine (xIsDay_any _ _).mono ?_; rintro e w' ⟨rfl, rfl⟩; rw [HD0.out])
  go_ret
  exact ⟨rfl, B5.out⟩
set_option maxRecDepth 100000 in
set_option maxHeartbeats 4000000 in
theorem RuleChanges_5b (G : World → Prop) (hG : ∀ W W', G W → Below W.heap.size W W' → G W') (sv : Value) (nm : ByteArray) (a0 a1 : Int) (w : World) (g0 : G w) (hm : nm.size ≤ maxLen) (hn : nm.size ≤ 30) (hd : inB a1 0 200000 = true) (hd0 : inB a0 0 200000 = true) (C : List (Int × Int × Bool)) (hC9 : C.length ≤ 1000) (q : Int × Bool)
    (hq : Hid (∀ j, (∀ c ∈ C.take j, c.1 ≤ a0) → (∀ c, (C.drop j).head? = some c → a0 < c.1) → lastC (C.take j) = q)) (f : Int) (hf : (f == 0) = q.2)
    (cL : Hid (∀ W, G W → Calls Try.prog 50 #[sv] W (Ret (.bool true) W)))
    (I1 : Hid (∀ W, G W → Calls Try.prog 60 #[sv, .string nm, .int .i64 a1] W (fun e w' => ∃ v, e = .returned (two v (.int .i64 0)) ∧ ChgAt w' W.heap.size v C ∧ Below W.heap.size W w')))
    (X1 : Hid (∀ W, G W → Calls Try.prog 54 #[sv] W (RetB (.int .i64 0) W)))
    (R1 : Hid (∀ W, G W → Calls Try.prog 61 #[sv, .string nm, .int .i64 a1] W (fun e w' => ∃ v, e = .returned (two v (.bool true)) ∧ ChgAt w' W.heap.size v C ∧ Below W.heap.size W w')))
    (V1 : Hid (∀ W, G W → Calls Try.prog 57 #[sv, .string nm, .agg #[.int .i64 a0, .int .i64 a1]] W (RetB (two (.int .i64 q.1) (.int .i64 f)) W))) :
    Calls Try.prog 13 #[sv, .string nm, .agg #[.int .i64 a0, .int .i64 a1]] w (RetB (.bool true) w) := by
  have hn' : ¬ 30 < nm.size := by omega
  have HD := Lib.hid hd
  have HD0 := Lib.hid hd0
  clear hd hd0
  unfold maxLen at hm
  go_enter Try.func13, Try.ntmps13
  go_wp2_with fail
  refine (awake_any _).mono ?_
  rintro e w1 ⟨rfl, hb1⟩
  have G1 := hG _ _ (hG _ _ g0 ((Below.refl _ _).alloc (Nat.le_refl _) _)) hb1
  have A1 := Lib.hid ((At2.new w a0 a1).below hb1)
  have B1 := Lib.hid (((Below.refl _ w).alloc (Nat.le_refl _) _).trans (hb1.mono (by simp)))
  obtain ⟨al1, a10, a11⟩ := A1.out
  have q1 := hb1.size
  simp only [World.size_alloc] at q1
  clear hb1
  go_wp2_with fail
  refine (cL.out _ G1).mono ?_
  rintro e w' ⟨rfl, rfl⟩
  go_wp2_with fail
  refine (I1.out _ G1).mono ?_
  rintro e w2 ⟨v2, rfl, hc2, hb2⟩
  have G2 := hG _ _ G1 hb2
  have A2 := Lib.hid (A1.out.below hb2)
  obtain ⟨al2, a20, a21⟩ := A2.out
  have B2 := Lib.hid (B1.out.trans (hb2.mono (by omega)))
  have q2 := hb2.size
  have C2 := Lib.hid hc2
  clear hc2
  go_wp2_with fail
  refine (X1.out _ G2).mono ?_
  rintro e w3 ⟨rfl, hb3⟩
  have G3 := hG _ _ G2 hb3
  have A3 := Lib.hid (A2.out.below hb3)
  obtain ⟨al3, a30, a31⟩ := A3.out
  have B3 := Lib.hid (B2.out.trans (hb3.mono (by omega)))
  have q3 := hb3.size
  have C3 := Lib.hid (C2.out.below hb3)
  go_wp2_with (go_at_call 23; refine (xIsDay_any _ _).mono ?_; rintro e w' ⟨rfl, rfl⟩; rw [HD.out])
  refine (R1.out _ G3).mono ?_
  rintro e w4 ⟨v4, rfl, hc4, hb4⟩
  have G4 := hG _ _ G3 hb4
  have A4 := Lib.hid (A3.out.below hb4)
  obtain ⟨al4, a40, a41⟩ := A4.out
  have B4 := Lib.hid (B3.out.trans (hb4.mono (by omega)))
  have q4 := hb4.size
  have C4 := Lib.hid (C3.out.below hb4)
  have D4 := Lib.hid hc4
  clear hc4
  go_wp2_with fail
  refine (sameC C4.out D4.out hC9).mono ?_
  rintro e w5 ⟨rfl, hb5⟩
  have G5 := hG _ _ G4 hb5
  have A5 := Lib.hid (A4.out.below hb5)
  obtain ⟨al5, a50, a51⟩ := A5.out
  have B5 := Lib.hid (B4.out.trans (hb5.mono (by omega)))
  have q5 := hb5.size
  have C5 := Lib.hid (C4.out.below hb5)
  rcases C5.out with ⟨e, rfl⟩ | ⟨g, cap, rfl, hg1, hg2, hcells⟩
  · subst e
    go_wp2_with (go_at_call 23; refine (xIsDay_any _ _).mono ?_; rintro e w' ⟨rfl, rfl⟩; rw [HD0.out])
    go_loopw [13] (fun i wr => i = .int .i64 0 ∧ ∃ dd, LstI w5.heap.size w5 wr dd (0, false)) (fun _ _ => 0)
    case atStart => exact ⟨rfl, 0, (Below.refl _ _).alloc (Nat.le_refl _) _, by simp, by simp [go_sem], by simp [go_sem], by simp [go_sem], by simp [go_sem], by simp [go_sem], by simp [go_sem]⟩
    case round =>
      obtain ⟨rfl, dd, hLI⟩ := hrel
      have LH := Lib.hid hLI
      clear hLI
      go_wp2
      go_quiet (fail)
      have hL := hq.out 0 (by simp) (by simp)
      have LI := LH.out
      rw [show ((0, false) : Int × Bool) = q from hL] at LI
      have LK := Lib.hid (LI.keep (W := wr.drewN nq) (below_n (Below.refl _ _) _))
      clear LI
      have AK := Lib.hid (A5.out.below LK.out.1)
      obtain ⟨alk, ak0, ak1⟩ := AK.out
      go_wp2_with fail
      refine (V1.out _ (hG _ _ G5 LK.out.1)).mono ?_
      rintro e w7 ⟨rfl, hb7⟩
      have L7 := LK.out.keep hb7
      obtain ⟨_, _, x0, x1, x2, _⟩ := L7
      have B7 := Lib.hid ((B5.out.trans (LK.out.1.mono (by omega))).trans (hb7.mono (Nat.le_trans B5.out.size LK.out.1.size)))
      obtain ⟨qa, qb⟩ := q
      simp only at x1 x2 hf
      cases qb
      all_goals
        go_wp2
        go_ret
        exact ⟨rfl, B7.out⟩
  · have HCL := Lib.hid hcells
    clear hcells
    go_wp2_with (go_at_call 23; refine (xIsDay_any _ _).mono ?_; rintro e w' ⟨rfl, rfl⟩; rw [HD0.out])
    go_loopw [13] (fun i wr => ∃ j : Nat, j ≤ C.length ∧ i = .int .i64 j ∧ (∀ c ∈ C.take j, c.1 ≤ a0) ∧ ∃ dd, LstI w5.heap.size w5 wr dd (lastC (C.take j))) (fun i _ => C.length - (intOf i).toNat)
    case atStart => exact ⟨0, Nat.zero_le _, rfl, by simp, 0, (Below.refl _ _).alloc (Nat.le_refl _) _, by simp, by simp [go_sem], by simp [go_sem, lastC], by simp [go_sem, lastC], by simp [go_sem], by simp [go_sem], by simp [go_sem]⟩
    case round =>
      obtain ⟨j, hj, rfl, hall, dd, hLI⟩ := hrel
      have HA := Lib.hid hall
      have LH := Lib.hid hLI
      clear hall hLI
      have hB := LH.out.1
      have AR := Lib.hid (A5.out.below hB)
      obtain ⟨alr, ar0, ar1⟩ := AR.out
      by_cases hlt : j < C.length
      · obtain ⟨e0, e1, e2⟩ := HCL.out j hlt
        have e0 := (hB.cell (p := ⟨g, j * 3, none⟩) hg2).trans e0
        have e1 := (hB.cell (p := ⟨g, j * 3 + 1, none⟩) hg2).trans e1
        have e2 := (hB.cell (p := ⟨g, j * 3 + 2, none⟩) hg2).trans e2
        obtain ⟨c, hcj⟩ : ∃ c, C[j] = c := ⟨_, rfl⟩
        rw [hcj] at e0 e1 e2
        have tk : C.take (j + 1) = C.take j ++ [c] := by rw [List.take_succ_eq_append_getElem hlt, hcj]
        have dh : (C.drop j).head? = some c := by rw [List.head?_drop, List.getElem?_eq_getElem hlt, hcj]
        have TK := Lib.hid tk
        have DH := Lib.hid dh
        clear hcj tk dh
        obtain ⟨cd, ca, cb⟩ := c
        simp only at e0 e1 e2
        by_cases hle : cd ≤ a0
        · obtain ⟨_, z9, z0, z1, z2, y0, y1, y2⟩ := LH.out
          go_wp2
          go_quiet (fail)
          have LN := Lib.hid ((LH.out.keep (W := wr.drewN nq) (below_n (Below.refl _ _) _)).set cd ca cb)
          go_wp2
          go_roundw
          case rel =>
            refine ⟨j + 1, by omega, by go_num, ?_, ?_⟩
            · rw [TK.out]
              intro x hx
              rcases List.mem_append.1 hx with hx | hx
              · exact HA.out x hx
              · rw [List.mem_singleton] at hx; subst hx; exact hle
            · rw [TK.out, show lastC (C.take j ++ [(cd, ca, cb)]) = (ca, cb) from by simp [lastC]]
              exact ⟨_, LN.out⟩
          case measure => simp [intOf]; omega
        · have hle' : decide (cd ≤ a0) = false := by simpa using hle
          go_wp2
          go_quiet (fail)
          have LI := LH.out
          have hL := hq.out j HA.out (fun c hc => by rw [DH.out] at hc; obtain rfl := Option.some.inj hc; simp only; omega)
          rw [hL] at LI
          have LK := Lib.hid (LI.keep (W := wr.drewN nq) (below_n (Below.refl _ _) _))
          clear LI
          have AK := Lib.hid (A5.out.below LK.out.1)
          obtain ⟨alk, ak0, ak1⟩ := AK.out
          go_wp2_with fail
          refine (V1.out _ (hG _ _ G5 LK.out.1)).mono ?_
          rintro e w7 ⟨rfl, hb7⟩
          have L7 := LK.out.keep hb7
          obtain ⟨_, _, x0, x1, x2, _⟩ := L7
          have B7 := Lib.hid ((B5.out.trans (LK.out.1.mono (by omega))).trans (hb7.mono (Nat.le_trans B5.out.size LK.out.1.size)))
          obtain ⟨qa, qb⟩ := q
          simp only at x1 x2 hf
          cases qb
          all_goals
            go_wp2
            go_ret
            exact ⟨rfl, B7.out⟩
      · obtain rfl : j = C.length := by omega
        go_wp2
        go_quiet (fail)
        have LI := LH.out
        have hL := hq.out C.length HA.out (by simp)
        rw [hL] at LI
        have LK := Lib.hid (LI.keep (W := wr.drewN nq) (below_n (Below.refl _ _) _))
        clear LI
        have AK := Lib.hid (A5.out.below LK.out.1)
        obtain ⟨alk, ak0, ak1⟩ := AK.out
        go_wp2_with fail
        refine (V1.out _ (hG _ _ G5 LK.out.1)).mono ?_
        rintro e w7 ⟨rfl, hb7⟩
        have L7 := LK.out.keep hb7
        obtain ⟨_, _, x0, x1, x2, _⟩ := L7
        have B7 := Lib.hid ((B5.out.trans (LK.out.1.mono (by omega))).trans (hb7.mono (Nat.le_trans B5.out.size LK.out.1.size)))
        obtain ⟨qa, qb⟩ := q
        simp only at x1 x2 hf
        cases qb
        all_goals
          go_wp2
          go_ret
          exact ⟨rfl, B7.out⟩
end Go.Proofs.Ytfphedcgmaakjaa
