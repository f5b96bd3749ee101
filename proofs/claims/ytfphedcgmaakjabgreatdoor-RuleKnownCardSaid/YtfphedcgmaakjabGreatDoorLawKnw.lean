/-
  RuleKnown returns true: the walks, one for each way through it, over contracts of what is called.
-/
import Derived.Test.YtfphedcgmaakjabGreatDoorSameC
import Derived.Test.YtfphedcgmaakjabGreatDoorChg
import Derived.Test.YtfphedcgmaakjabGreatDoorChgM2
import Derived.Test.YtfphedcgmaakjabGreatDoorHv
import Derived.Test.YtfphedcgmaakjabGreatDoorLawSrc2
import Derived.Test.YtfphedcgmaakjabGreatDoorNext
import Derived.Test.YtfphedcgmaakjabGreatDoorEmpty
import Derived.Test.YtfphedcgmaakjabGreatDoorRefChgM
namespace Go.Proofs.YtfphedcgmaakjabGreatDoor
open Go.RowKit
attribute [local go_sem] set_drewN
end Go.Proofs.YtfphedcgmaakjabGreatDoor
namespace Go.Proofs.YtfphedcgmaakjabGreatDoor
open Go.RowKit
attribute [local go_sem] set_drewN
/-- what Value says of the error -/
def vF (l : List Pv) (nm : ByteArray) (known d : Int) : Int :=
  match dec l d known nm l.length with
  | none => 6
  | some i => if (l[i]?.map (·.repeal)).getD false then 12 else 0
theorem Value_vf (l : List Pv) (nm : ByteArray) (d known : Int) (b o cap : Nat) (hl : l.length ≤ 1000000) (hs : nm.size ≤ maxLen) (he : srcE l d known = 0) :
    ∀ W, PvsAt W b o l → Calls Tryz.prog 21 #[.slice (some ⟨b, o, none⟩) l.length cap, .string nm, .agg #[.int .i64 d, .int .i64 known]] W (RetB (two (.int .i64 (hv l nm known d).1) (.int .i64 (vF l nm known d))) W) := by
  intro W hW
  unfold vF
  cases hd : dec l d known nm l.length with
  | none => rw [hv_none hd]; exact Value_none l nm d known b o cap W hl hs hW he hd
  | some i =>
    obtain ⟨_, hil⟩ := dec_lt l d known nm l.length i hd
    have hpe := cpE_pv (srcE_cp he) hil
    rw [hv_some hil hd]
    have cV := Value_some l nm d known b o cap W hl hs hW he i l[i] hd (List.getElem?_eq_getElem hil)
    simp only [List.getElem?_eq_getElem hil, Option.map_some, Option.getD_some]
    cases hr : l[i].repeal
    · rw [hr, eI_f] at cV; simpa [hr] using cV
    · rw [hr, eI_t] at cV
      rw [pv_value hpe hr] at cV; simpa [hr] using cV
/-- what Changes says of the error, and its changes -/
def chgE (l : List Pv) (nm : ByteArray) (known : Int) : Int := if once (frs l nm known) = [] then 6 else 0
def chgC (l : List Pv) (nm : ByteArray) (known : Int) : List (Int × Int × Bool) := chk (hv l nm known) (once (frs l nm known)) (once (frs l nm known)).length
theorem Changes_all (l : List Pv) (nm : ByteArray) (a0 known : Int) (b o cap : Nat) (hl : l.length ≤ 1000) (hs : nm.size ≤ maxLen) (he : srcE l a0 known = 0) (hd : inB known 0 200000 = true) :
    ∀ W, PvsAt W b o l → Calls Tryz.prog 22 #[.slice (some ⟨b, o, none⟩) l.length cap, .string nm, .int .i64 known] W (fun e w' => ∃ v, e = .returned (two v (.int .i64 (chgE l nm known))) ∧ ChgAt w' W.heap.size v (chgC l nm known) ∧ Below W.heap.size W w') := by
  intro W hW
  have hG : ∀ W W', PvsAt W b o l → Below W.heap.size W W' → PvsAt W' b o l := fun _ _ h k => h.below k
  have cC := fun W (hW : PvsAt W b o l) => CheckProvisions_any l b o cap W (by omega) hW
  rw [srcE_cp he] at cC
  have cB := fun W (hW : PvsAt W b o l) => beginnings_days l nm known b o cap W (by omega) hW
  unfold chgE chgC
  by_cases hL : once (frs l nm known) = []
  · rw [if_pos hL, hL]
    refine (Changes_none _ nm known (fun W => PvsAt W b o l) hG W hW _ hL hd (Lib.hid cC) (Lib.hid cB)).mono ?_
    rintro e w' ⟨rfl, hb⟩
    exact ⟨_, rfl, .inl ⟨rfl, rfl⟩, hb⟩
  · rw [if_neg hL]
    have hlen : (once (frs l nm known)).length ≤ 1000 := by
      have := onc_len (frs l nm known); have := frs_le l nm known l.length; rw [List.take_length] at this; omega
    exact Changes_ok _ nm known (fun W => PvsAt W b o l) hG W hW _ hL hlen hd (hv l nm known) (Lib.hid cC) (Lib.hid cB) (Lib.hid fun W d hW => heldBy_hv l nm d known b o cap W (by omega) hs hW)
theorem chgC_len {l : List Pv} {nm : ByteArray} {known : Int} (hl : l.length ≤ 1000) : (chgC l nm known).length ≤ 1000 := by
  have := onc_len (frs l nm known); have := frs_le l nm known l.length; rw [List.take_length] at this
  exact Nat.le_trans (chk_len _ _ _) (by omega)
end Go.Proofs.YtfphedcgmaakjabGreatDoor
namespace Go.Proofs.YtfphedcgmaakjabGreatDoor
open Go.RowKit
attribute [local go_sem] set_drewN
set_option maxRecDepth 100000 in
set_option maxHeartbeats 4000000 in
theorem RuleKnown_1 (G : World → Prop) (hG : ∀ W W', G W → Below W.heap.size W W' → G W') (sv : Value) (p : Pv) (a0 a1 : Int) (hm : p.name.size ≤ maxLen) (w : World) (g0 : G w)
    (cL : Hid (∀ W, G W → Calls Tryz.prog 12 #[sv] W (Ret (.bool false) W))) :
    Calls Tryz.prog 5 #[sv, p.val, .agg #[.int .i64 a0, .int .i64 a1]] w (RetB (.bool true) w) := by
  obtain ⟨nm, v, fr, en, rp⟩ := p
  simp only [Pv.val] at *
  unfold maxLen at hm
  have g1 := hG _ _ g0 ((Below.refl _ _).alloc (Nat.le_refl _) (Pv.box ⟨nm, v, fr, en, rp⟩))
  have pb := PBox.new w nm v fr en rp
  have g2 := hG _ _ g1 ((Below.refl _ _).alloc (Nat.le_refl _) (.cells #[.int .i64 a0, .int .i64 a1] 45))
  have ab := At2.new (w.alloc (Pv.box ⟨nm, v, fr, en, rp⟩)) a0 a1
  have pb' := pb.below ((Below.refl _ _).alloc (Nat.le_refl _) (.cells #[.int .i64 a0, .int .i64 a1] 45)) (by simp)
  clear pb g1
  simp only [Pv.box, World.size_alloc] at *
  go_enter Tryz.func5, Tryz.ntmps5
  go_wp2_with fail
  refine (awake_any _).mono ?_
  rintro e w1 ⟨rfl, hb1⟩
  have G1 := hG _ _ g2 hb1
  have s1 := hb1.size
  simp only [World.size_alloc] at s1
  have P1 := Lib.hid (pb'.below hb1 (by simp; omega))
  have A1 := Lib.hid (ab.below hb1)
  have B1 := Lib.hid ((((Below.refl _ w).alloc (Nat.le_refl _) _).alloc (by simp) _).trans (hb1.mono (by simp; omega)))
  clear pb' ab g2 hb1
  obtain ⟨p0, p1, p2, p3, p4⟩ := P1.out
  obtain ⟨al, a0', a1'⟩ := A1.out
  simp only at p0 p1 p2 p3 p4
  go_wp2_with fail
  refine (cL.out _ G1).mono ?_
  rintro e w' ⟨rfl, rfl⟩
  go_wp2
  go_ret
  exact ⟨rfl, B1.out⟩
set_option maxRecDepth 100000 in
set_option maxHeartbeats 4000000 in
theorem RuleKnown_2 (G : World → Prop) (hG : ∀ W W', G W → Below W.heap.size W W' → G W') (sv : Value) (p : Pv) (a0 a1 : Int) (hm : p.name.size ≤ maxLen) (w : World) (g0 : G w) (hn : 30 < p.name.size)
    (cL : Hid (∀ W, G W → Calls Tryz.prog 12 #[sv] W (Ret (.bool true) W))) :
    Calls Tryz.prog 5 #[sv, p.val, .agg #[.int .i64 a0, .int .i64 a1]] w (RetB (.bool true) w) := by
  obtain ⟨nm, v, fr, en, rp⟩ := p
  simp only [Pv.val] at *
  unfold maxLen at hm
  have g1 := hG _ _ g0 ((Below.refl _ _).alloc (Nat.le_refl _) (Pv.box ⟨nm, v, fr, en, rp⟩))
  have pb := PBox.new w nm v fr en rp
  have g2 := hG _ _ g1 ((Below.refl _ _).alloc (Nat.le_refl _) (.cells #[.int .i64 a0, .int .i64 a1] 45))
  have ab := At2.new (w.alloc (Pv.box ⟨nm, v, fr, en, rp⟩)) a0 a1
  have pb' := pb.below ((Below.refl _ _).alloc (Nat.le_refl _) (.cells #[.int .i64 a0, .int .i64 a1] 45)) (by simp)
  clear pb g1
  simp only [Pv.box, World.size_alloc] at *
  go_enter Tryz.func5, Tryz.ntmps5
  go_wp2_with fail
  refine (awake_any _).mono ?_
  rintro e w1 ⟨rfl, hb1⟩
  have G1 := hG _ _ g2 hb1
  have s1 := hb1.size
  simp only [World.size_alloc] at s1
  have P1 := Lib.hid (pb'.below hb1 (by simp; omega))
  have A1 := Lib.hid (ab.below hb1)
  have B1 := Lib.hid ((((Below.refl _ w).alloc (Nat.le_refl _) _).alloc (by simp) _).trans (hb1.mono (by simp; omega)))
  clear pb' ab g2 hb1
  obtain ⟨p0, p1, p2, p3, p4⟩ := P1.out
  obtain ⟨al, a0', a1'⟩ := A1.out
  simp only at p0 p1 p2 p3 p4
  go_wp2_with fail
  refine (cL.out _ G1).mono ?_
  rintro e w' ⟨rfl, rfl⟩
  go_wp2
  go_ret
  exact ⟨rfl, B1.out⟩
set_option maxRecDepth 100000 in
set_option maxHeartbeats 4000000 in
theorem RuleKnown_3 (G : World → Prop) (hG : ∀ W W', G W → Below W.heap.size W W' → G W') (sv : Value) (p : Pv) (a0 a1 : Int) (hm : p.name.size ≤ maxLen) (w : World) (g0 : G w) (hn : p.name.size ≤ 30) (E : Int) (hE : (E != 0) = true)
    (cL : Hid (∀ W, G W → Calls Tryz.prog 12 #[sv] W (Ret (.bool true) W)))
    (cA : Hid (∀ W, G W → Calls Tryz.prog 19 #[sv, .agg #[.int .i64 a0, .int .i64 a1]] W (RetB (.int .i64 E) W))) :
    Calls Tryz.prog 5 #[sv, p.val, .agg #[.int .i64 a0, .int .i64 a1]] w (RetB (.bool true) w) := by
  obtain ⟨nm, v, fr, en, rp⟩ := p
  simp only [Pv.val] at *
  unfold maxLen at hm
  have hn' : ¬ 30 < nm.size := by omega
  have g1 := hG _ _ g0 ((Below.refl _ _).alloc (Nat.le_refl _) (Pv.box ⟨nm, v, fr, en, rp⟩))
  have pb := PBox.new w nm v fr en rp
  have g2 := hG _ _ g1 ((Below.refl _ _).alloc (Nat.le_refl _) (.cells #[.int .i64 a0, .int .i64 a1] 45))
  have ab := At2.new (w.alloc (Pv.box ⟨nm, v, fr, en, rp⟩)) a0 a1
  have pb' := pb.below ((Below.refl _ _).alloc (Nat.le_refl _) (.cells #[.int .i64 a0, .int .i64 a1] 45)) (by simp)
  clear pb g1
  simp only [Pv.box, World.size_alloc] at *
  go_enter Tryz.func5, Tryz.ntmps5
  go_wp2_with fail
  refine (awake_any _).mono ?_
  rintro e w1 ⟨rfl, hb1⟩
  have G1 := hG _ _ g2 hb1
  have s1 := hb1.size
  simp only [World.size_alloc] at s1
  have P1 := Lib.hid (pb'.below hb1 (by simp; omega))
  have A1 := Lib.hid (ab.below hb1)
  have B1 := Lib.hid ((((Below.refl _ w).alloc (Nat.le_refl _) _).alloc (by simp) _).trans (hb1.mono (by simp; omega)))
  clear pb' ab g2 hb1
  obtain ⟨p0, p1, p2, p3, p4⟩ := P1.out
  obtain ⟨al, a0', a1'⟩ := A1.out
  simp only at p0 p1 p2 p3 p4
  go_wp2_with fail
  refine (cL.out _ G1).mono ?_
  rintro e w' ⟨rfl, rfl⟩
  go_wp2_with fail
  refine (cA.out _ G1).mono ?_
  rintro e w2 ⟨rfl, hb2⟩
  have s2 := hb2.size
  have G2 := hG _ _ G1 hb2
  have P2 := Lib.hid (P1.out.below hb2 (by omega))
  have A2 := Lib.hid (A1.out.below hb2)
  have B2 := Lib.hid (B1.out.trans (hb2.mono (by omega)))
  clear p0 p1 p2 p3 p4 al a0' a1'
  obtain ⟨p0, p1, p2, p3, p4⟩ := P2.out
  obtain ⟨al, a0', a1'⟩ := A2.out
  simp only at p0 p1 p2 p3 p4
  go_wp2
  go_ret
  exact ⟨rfl, B2.out⟩
set_option maxRecDepth 100000 in
set_option maxHeartbeats 4000000 in
theorem RuleKnown_4 (G : World → Prop) (hG : ∀ W W', G W → Below W.heap.size W W' → G W') (sv : Value) (p : Pv) (a0 a1 : Int) (hm : p.name.size ≤ maxLen) (w : World) (g0 : G w) (hn : p.name.size ≤ 30) (hk : p.entered ≤ a1)
    (cL : Hid (∀ W, G W → Calls Tryz.prog 12 #[sv] W (Ret (.bool true) W)))
    (cA : Hid (∀ W, G W → Calls Tryz.prog 19 #[sv, .agg #[.int .i64 a0, .int .i64 a1]] W (RetB (.int .i64 0) W))) :
    Calls Tryz.prog 5 #[sv, p.val, .agg #[.int .i64 a0, .int .i64 a1]] w (RetB (.bool true) w) := by
  obtain ⟨nm, v, fr, en, rp⟩ := p
  simp only [Pv.val] at *
  unfold maxLen at hm
  have hn' : ¬ 30 < nm.size := by omega
  have g1 := hG _ _ g0 ((Below.refl _ _).alloc (Nat.le_refl _) (Pv.box ⟨nm, v, fr, en, rp⟩))
  have pb := PBox.new w nm v fr en rp
  have g2 := hG _ _ g1 ((Below.refl _ _).alloc (Nat.le_refl _) (.cells #[.int .i64 a0, .int .i64 a1] 45))
  have ab := At2.new (w.alloc (Pv.box ⟨nm, v, fr, en, rp⟩)) a0 a1
  have pb' := pb.below ((Below.refl _ _).alloc (Nat.le_refl _) (.cells #[.int .i64 a0, .int .i64 a1] 45)) (by simp)
  clear pb g1
  simp only [Pv.box, World.size_alloc] at *
  go_enter Tryz.func5, Tryz.ntmps5
  go_wp2_with fail
  refine (awake_any _).mono ?_
  rintro e w1 ⟨rfl, hb1⟩
  have G1 := hG _ _ g2 hb1
  have s1 := hb1.size
  simp only [World.size_alloc] at s1
  have P1 := Lib.hid (pb'.below hb1 (by simp; omega))
  have A1 := Lib.hid (ab.below hb1)
  have B1 := Lib.hid ((((Below.refl _ w).alloc (Nat.le_refl _) _).alloc (by simp) _).trans (hb1.mono (by simp; omega)))
  clear pb' ab g2 hb1
  obtain ⟨p0, p1, p2, p3, p4⟩ := P1.out
  obtain ⟨al, a0', a1'⟩ := A1.out
  simp only at p0 p1 p2 p3 p4
  go_wp2_with fail
  refine (cL.out _ G1).mono ?_
  rintro e w' ⟨rfl, rfl⟩
  go_wp2_with fail
  refine (cA.out _ G1).mono ?_
  rintro e w2 ⟨rfl, hb2⟩
  have s2 := hb2.size
  have G2 := hG _ _ G1 hb2
  have P2 := Lib.hid (P1.out.below hb2 (by omega))
  have A2 := Lib.hid (A1.out.below hb2)
  have B2 := Lib.hid (B1.out.trans (hb2.mono (by omega)))
  clear p0 p1 p2 p3 p4 al a0' a1'
  obtain ⟨p0, p1, p2, p3, p4⟩ := P2.out
  obtain ⟨al, a0', a1'⟩ := A2.out
  simp only at p0 p1 p2 p3 p4
  go_wp2
  go_ret
  exact ⟨rfl, B2.out⟩
set_option maxRecDepth 100000 in
set_option maxHeartbeats 4000000 in
theorem RuleKnown_5 (G : World → Prop) (hG : ∀ W W', G W → Below W.heap.size W W' → G W') (sv : Value) (p : Pv) (a0 a1 : Int) (hm : p.name.size ≤ maxLen) (w : World) (g0 : G w) (hn : p.name.size ≤ 30) (hk : a1 < p.entered)
    (cL : Hid (∀ W, G W → Calls Tryz.prog 12 #[sv] W (Ret (.bool true) W)))
    (cA : Hid (∀ W, G W → Calls Tryz.prog 19 #[sv, .agg #[.int .i64 a0, .int .i64 a1]] W (RetB (.int .i64 0) W)))
    (E : Int) (hE : (E != 0) = true) (cN : Hid (∀ W, G W → Calls Tryz.prog 20 #[sv, p.val] W (RetB (two (.slice none 0 0) (.int .i64 E)) W))) :
    Calls Tryz.prog 5 #[sv, p.val, .agg #[.int .i64 a0, .int .i64 a1]] w (RetB (.bool true) w) := by
  obtain ⟨nm, v, fr, en, rp⟩ := p
  simp only [Pv.val] at *
  unfold maxLen at hm
  have hn' : ¬ 30 < nm.size := by omega
  have hk' : ¬ en ≤ a1 := by omega
  have g1 := hG _ _ g0 ((Below.refl _ _).alloc (Nat.le_refl _) (Pv.box ⟨nm, v, fr, en, rp⟩))
  have pb := PBox.new w nm v fr en rp
  have g2 := hG _ _ g1 ((Below.refl _ _).alloc (Nat.le_refl _) (.cells #[.int .i64 a0, .int .i64 a1] 45))
  have ab := At2.new (w.alloc (Pv.box ⟨nm, v, fr, en, rp⟩)) a0 a1
  have pb' := pb.below ((Below.refl _ _).alloc (Nat.le_refl _) (.cells #[.int .i64 a0, .int .i64 a1] 45)) (by simp)
  clear pb g1
  simp only [Pv.box, World.size_alloc] at *
  go_enter Tryz.func5, Tryz.ntmps5
  go_wp2_with fail
  refine (awake_any _).mono ?_
  rintro e w1 ⟨rfl, hb1⟩
  have G1 := hG _ _ g2 hb1
  have s1 := hb1.size
  simp only [World.size_alloc] at s1
  have P1 := Lib.hid (pb'.below hb1 (by simp; omega))
  have A1 := Lib.hid (ab.below hb1)
  have B1 := Lib.hid ((((Below.refl _ w).alloc (Nat.le_refl _) _).alloc (by simp) _).trans (hb1.mono (by simp; omega)))
  clear pb' ab g2 hb1
  obtain ⟨p0, p1, p2, p3, p4⟩ := P1.out
  obtain ⟨al, a0', a1'⟩ := A1.out
  simp only at p0 p1 p2 p3 p4
  go_wp2_with fail
  refine (cL.out _ G1).mono ?_
  rintro e w' ⟨rfl, rfl⟩
  go_wp2_with fail
  refine (cA.out _ G1).mono ?_
  rintro e w2 ⟨rfl, hb2⟩
  have s2 := hb2.size
  have G2 := hG _ _ G1 hb2
  have P2 := Lib.hid (P1.out.below hb2 (by omega))
  have A2 := Lib.hid (A1.out.below hb2)
  have B2 := Lib.hid (B1.out.trans (hb2.mono (by omega)))
  clear p0 p1 p2 p3 p4 al a0' a1'
  obtain ⟨p0, p1, p2, p3, p4⟩ := P2.out
  obtain ⟨al, a0', a1'⟩ := A2.out
  simp only at p0 p1 p2 p3 p4
  go_wp2_with fail
  refine (cN.out _ G2).mono ?_
  rintro e w3 ⟨rfl, hb3⟩
  have s3 := hb3.size
  have G3 := hG _ _ G2 hb3
  have P3 := Lib.hid (P2.out.below hb3 (by omega))
  have A3 := Lib.hid (A2.out.below hb3)
  have B3 := Lib.hid (B2.out.trans (hb3.mono (by omega)))
  clear p0 p1 p2 p3 p4 al a0' a1'
  obtain ⟨p0, p1, p2, p3, p4⟩ := P3.out
  obtain ⟨al, a0', a1'⟩ := A3.out
  simp only at p0 p1 p2 p3 p4
  go_wp2
  go_ret
  exact ⟨rfl, B3.out⟩
set_option maxRecDepth 100000 in
set_option maxHeartbeats 4000000 in
theorem RuleKnown_6 (G : World → Prop) (hG : ∀ W W', G W → Below W.heap.size W W' → G W') (sv : Value) (p : Pv) (a0 a1 : Int) (hm : p.name.size ≤ maxLen) (w : World) (g0 : G w) (hn : p.name.size ≤ 30) (hk : a1 < p.entered)
    (cL : Hid (∀ W, G W → Calls Tryz.prog 12 #[sv] W (Ret (.bool true) W)))
    (cA : Hid (∀ W, G W → Calls Tryz.prog 19 #[sv, .agg #[.int .i64 a0, .int .i64 a1]] W (RetB (.int .i64 0) W)))
    (l : List Pv) (cN : Hid (∀ W, G W → Calls Tryz.prog 20 #[sv, p.val] W (NextOk l p W)))
    (q f : Int) (cV : Hid (∀ W, G W → Calls Tryz.prog 21 #[sv, .string p.name, .agg #[.int .i64 a0, .int .i64 a1]] W (RetB (two (.int .i64 q) (.int .i64 f)) W)))
    (mV : Hid (∀ W g c, PvsAt W g 0 (l ++ [p]) → Calls Tryz.prog 21 #[(.slice (some ⟨g, 0, none⟩) (l.length + 1) c), .string p.name, .agg #[.int .i64 a0, .int .i64 a1]] W (RetB (two (.int .i64 q) (.int .i64 f)) W)))
    (E : Int) (X : List (Int × Int × Bool)) (hX : X.length ≤ 1000) (cH : Hid (∀ W, G W → Calls Tryz.prog 22 #[sv, .string p.name, .int .i64 a1] W (fun e w' => ∃ v, e = .returned (two v (.int .i64 E)) ∧ ChgAt w' W.heap.size v X ∧ Below W.heap.size W w')))
    (mH : Hid (∀ W g c, PvsAt W g 0 (l ++ [p]) → Calls Tryz.prog 22 #[(.slice (some ⟨g, 0, none⟩) (l.length + 1) c), .string p.name, .int .i64 a1] W (fun e w' => ∃ v, e = .returned (two v (.int .i64 E)) ∧ ChgAt w' W.heap.size v X ∧ Below W.heap.size W w')))
    (t : ByteArray) (cT : Hid (∀ W, G W → Calls Tryz.prog 23 #[sv, .agg #[.int .i64 a0, .int .i64 a1]] W (RetB (two (.string t) (.int .i64 0)) W)))
    (mT : Hid (∀ W g c, G W → PvsAt W g 0 (l ++ [p]) → Calls Tryz.prog 23 #[(.slice (some ⟨g, 0, none⟩) (l.length + 1) c), .agg #[.int .i64 a0, .int .i64 a1]] W (RetB (two (.string t) (.int .i64 0)) W))) :
    Calls Tryz.prog 5 #[sv, p.val, .agg #[.int .i64 a0, .int .i64 a1]] w (RetB (.bool true) w) := by
  obtain ⟨nm, v, fr, en, rp⟩ := p
  simp only [Pv.val] at *
  unfold maxLen at hm
  have hn' : ¬ 30 < nm.size := by omega
  have hk' : ¬ en ≤ a1 := by omega
  have g1 := hG _ _ g0 ((Below.refl _ _).alloc (Nat.le_refl _) (Pv.box ⟨nm, v, fr, en, rp⟩))
  have pb := PBox.new w nm v fr en rp
  have g2 := hG _ _ g1 ((Below.refl _ _).alloc (Nat.le_refl _) (.cells #[.int .i64 a0, .int .i64 a1] 45))
  have ab := At2.new (w.alloc (Pv.box ⟨nm, v, fr, en, rp⟩)) a0 a1
  have pb' := pb.below ((Below.refl _ _).alloc (Nat.le_refl _) (.cells #[.int .i64 a0, .int .i64 a1] 45)) (by simp)
  clear pb g1
  simp only [Pv.box, World.size_alloc] at *
  go_enter Tryz.func5, Tryz.ntmps5
  go_wp2_with fail
  refine (awake_any _).mono ?_
  rintro e w1 ⟨rfl, hb1⟩
  have G1 := hG _ _ g2 hb1
  have s1 := hb1.size
  simp only [World.size_alloc] at s1
  have P1 := Lib.hid (pb'.below hb1 (by simp; omega))
  have A1 := Lib.hid (ab.below hb1)
  have B1 := Lib.hid ((((Below.refl _ w).alloc (Nat.le_refl _) _).alloc (by simp) _).trans (hb1.mono (by simp; omega)))
  clear pb' ab g2 hb1
  obtain ⟨p0, p1, p2, p3, p4⟩ := P1.out
  obtain ⟨al, a0', a1'⟩ := A1.out
  simp only at p0 p1 p2 p3 p4
  go_wp2_with fail
  refine (cL.out _ G1).mono ?_
  rintro e w' ⟨rfl, rfl⟩
  go_wp2_with fail
  refine (cA.out _ G1).mono ?_
  rintro e w2 ⟨rfl, hb2⟩
  have s2 := hb2.size
  have G2 := hG _ _ G1 hb2
  have P2 := Lib.hid (P1.out.below hb2 (by omega))
  have A2 := Lib.hid (A1.out.below hb2)
  have B2 := Lib.hid (B1.out.trans (hb2.mono (by omega)))
  clear p0 p1 p2 p3 p4 al a0' a1'
  obtain ⟨p0, p1, p2, p3, p4⟩ := P2.out
  obtain ⟨al, a0', a1'⟩ := A2.out
  simp only at p0 p1 p2 p3 p4
  go_wp2_with fail
  refine (cN.out _ G2).mono ?_
  rintro e w3 ⟨g3, c3, rfl, hg3, hv3, hb3⟩
  have s3 := hb3.size
  have G3 := hG _ _ G2 hb3
  have P3 := Lib.hid (P2.out.below hb3 (by omega))
  have A3 := Lib.hid (A2.out.below hb3)
  have B3 := Lib.hid (B2.out.trans (hb3.mono (by omega)))
  have V3 := Lib.hid hv3
  clear hv3
  clear p0 p1 p2 p3 p4 al a0' a1'
  obtain ⟨p0, p1, p2, p3, p4⟩ := P3.out
  obtain ⟨al, a0', a1'⟩ := A3.out
  simp only at p0 p1 p2 p3 p4
  go_wp2_with fail
  refine (cV.out _ G3).mono ?_
  rintro e w4 ⟨rfl, hb4⟩
  have s4 := hb4.size
  have G4 := hG _ _ G3 hb4
  have P4 := Lib.hid (P3.out.below hb4 (by omega))
  have A4 := Lib.hid (A3.out.below hb4)
  have B4 := Lib.hid (B3.out.trans (hb4.mono (by omega)))
  have V4 := Lib.hid (V3.out.below hb4)
  clear p0 p1 p2 p3 p4 al a0' a1'
  obtain ⟨p0, p1, p2, p3, p4⟩ := P4.out
  obtain ⟨al, a0', a1'⟩ := A4.out
  simp only at p0 p1 p2 p3 p4
  go_wp2_with fail
  refine (mV.out _ g3 c3 V4.out).mono ?_
  rintro e w5 ⟨rfl, hb5⟩
  have s5 := hb5.size
  have G5 := hG _ _ G4 hb5
  have P5 := Lib.hid (P4.out.below hb5 (by omega))
  have A5 := Lib.hid (A4.out.below hb5)
  have B5 := Lib.hid (B4.out.trans (hb5.mono (by omega)))
  have V5 := Lib.hid (V4.out.below hb5)
  clear p0 p1 p2 p3 p4 al a0' a1'
  obtain ⟨p0, p1, p2, p3, p4⟩ := P5.out
  obtain ⟨al, a0', a1'⟩ := A5.out
  simp only at p0 p1 p2 p3 p4
  go_wp2_with fail
  refine (cH.out _ G5).mono ?_
  rintro e w6 ⟨v6, rfl, hx6, hb6⟩
  have s6 := hb6.size
  have G6 := hG _ _ G5 hb6
  have P6 := Lib.hid (P5.out.below hb6 (by omega))
  have A6 := Lib.hid (A5.out.below hb6)
  have B6 := Lib.hid (B5.out.trans (hb6.mono (by omega)))
  have V6 := Lib.hid (V5.out.below hb6)
  have X6 := Lib.hid hx6
  clear hx6
  clear p0 p1 p2 p3 p4 al a0' a1'
  obtain ⟨p0, p1, p2, p3, p4⟩ := P6.out
  obtain ⟨al, a0', a1'⟩ := A6.out
  simp only at p0 p1 p2 p3 p4
  go_wp2_with fail
  refine (mH.out _ g3 c3 V6.out).mono ?_
  rintro e w7 ⟨v7, rfl, hx7, hb7⟩
  have s7 := hb7.size
  have G7 := hG _ _ G6 hb7
  have P7 := Lib.hid (P6.out.below hb7 (by omega))
  have A7 := Lib.hid (A6.out.below hb7)
  have B7 := Lib.hid (B6.out.trans (hb7.mono (by omega)))
  have V7 := Lib.hid (V6.out.below hb7)
  have X7 := Lib.hid (X6.out.below hb7)
  have Y7 := Lib.hid hx7
  clear hx7
  clear p0 p1 p2 p3 p4 al a0' a1'
  obtain ⟨p0, p1, p2, p3, p4⟩ := P7.out
  obtain ⟨al, a0', a1'⟩ := A7.out
  simp only at p0 p1 p2 p3 p4
  go_wp2_with fail
  refine (cT.out _ G7).mono ?_
  rintro e w8 ⟨rfl, hb8⟩
  have s8 := hb8.size
  have G8 := hG _ _ G7 hb8
  have P8 := Lib.hid (P7.out.below hb8 (by omega))
  have A8 := Lib.hid (A7.out.below hb8)
  have B8 := Lib.hid (B7.out.trans (hb8.mono (by omega)))
  have V8 := Lib.hid (V7.out.below hb8)
  have X8 := Lib.hid (X7.out.below hb8)
  have Y8 := Lib.hid (Y7.out.below hb8)
  clear p0 p1 p2 p3 p4 al a0' a1'
  obtain ⟨p0, p1, p2, p3, p4⟩ := P8.out
  obtain ⟨al, a0', a1'⟩ := A8.out
  simp only at p0 p1 p2 p3 p4
  go_wp2_with fail
  refine (mT.out _ g3 c3 G8 V8.out).mono ?_
  rintro e w9 ⟨rfl, hb9⟩
  have s9 := hb9.size
  have G9 := hG _ _ G8 hb9
  have P9 := Lib.hid (P8.out.below hb9 (by omega))
  have A9 := Lib.hid (A8.out.below hb9)
  have B9 := Lib.hid (B8.out.trans (hb9.mono (by omega)))
  have V9 := Lib.hid (V8.out.below hb9)
  have X9 := Lib.hid (X8.out.below hb9)
  have Y9 := Lib.hid (Y8.out.below hb9)
  clear p0 p1 p2 p3 p4 al a0' a1'
  obtain ⟨p0, p1, p2, p3, p4⟩ := P9.out
  obtain ⟨al, a0', a1'⟩ := A9.out
  simp only at p0 p1 p2 p3 p4
  go_wp2_with (go_at_call 24; refine (sameC X9.out Y9.out hX).mono ?_; rintro e w10 ⟨rfl, hb10⟩)
  go_ret
  exact ⟨rfl, B9.out.trans (hb10.mono (by omega))⟩
end Go.Proofs.YtfphedcgmaakjabGreatDoor
