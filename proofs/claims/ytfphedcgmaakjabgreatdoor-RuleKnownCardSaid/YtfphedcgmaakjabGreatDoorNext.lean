/-
  What Next of package rule returns: contracts, over the contracts of what it calls.
-/
import Derived.Test.YtfphedcgmaakjabGreatDoorClone
import Derived.Test.YtfphedcgmaakjabGreatDoorHeld0
namespace Go.Proofs.YtfphedcgmaakjabGreatDoor
open Go.RowKit
attribute [local go_sem] set_drewN
/-- a name has a value on a day -/
def hasB (l : List Pv) (nm : ByteArray) (a0 a1 : Int) : Bool :=
  match dec l a0 a1 nm l.length with
  | none => false
  | some i => match l[i]? with
    | none => false
    | some p => !p.repeal
/-- the error of one entry more -/
def nxE (l : List Pv) (p : Pv) : Int :=
  if cpE l ≠ 0 then cpE l else if cpE (l ++ [p]) ≠ 0 then cpE (l ++ [p]) else if p.repeal && !hasB l p.name p.from' p.entered then 6 else 0
theorem nxE_1 {l : List Pv} {p : Pv} (h : cpE l ≠ 0) : nxE l p = cpE l := by unfold nxE; rw [if_pos h]
theorem nxE_2 {l : List Pv} {p : Pv} (h : cpE l = 0) (h2 : cpE (l ++ [p]) ≠ 0) : nxE l p = cpE (l ++ [p]) := by unfold nxE; rw [if_neg (by simp [h]), if_pos h2]
theorem nxE_3 {l : List Pv} {p : Pv} (h : cpE l = 0) (h2 : cpE (l ++ [p]) = 0) (h3 : (p.repeal && !hasB l p.name p.from' p.entered) = true) : nxE l p = 6 := by
  unfold nxE; rw [if_neg (by simp [h]), if_neg (by simp [h2]), if_pos h3]
theorem nxE_4 {l : List Pv} {p : Pv} (h : cpE l = 0) (h2 : cpE (l ++ [p]) = 0) (h3 : (p.repeal && !hasB l p.name p.from' p.entered) = false) : nxE l p = 0 := by
  unfold nxE; rw [if_neg (by simp [h]), if_neg (by simp [h2]), if_neg (by simp [h3])]
/-- a longer list of the call's own comes back -/
def NextOk (l : List Pv) (p : Pv) (w : World) (e : Ending) (w' : World) : Prop :=
  ∃ g cap, e = .returned (two (.slice (some ⟨g, 0, none⟩) (l.length + 1) cap) (.int .i64 0)) ∧ w.heap.size ≤ g ∧ PvsAt w' g 0 (l ++ [p]) ∧ Below w.heap.size w w'
abbrev Pv.box (p : Pv) : Obj := .cells #[.string p.name, .int .i64 p.value, .int .i64 p.from', .int .i64 p.entered, .bool p.repeal] 23
set_option maxRecDepth 100000 in
set_option maxHeartbeats 2000000 in
theorem Next_1 (G : World → Prop) (hG : ∀ W W', G W → Below W.heap.size W W' → G W') (sv : Value) (p : Pv) (E : Int) (hE : (E != 0) = true) (w : World) (g0 : G w)
    (cC : Hid (∀ W, G W → Calls Tryz.prog 39 #[sv] W (RetB (.int .i64 E) W))) :
    Calls Tryz.prog 20 #[sv, p.val] w (RetB (two (.slice none 0 0) (.int .i64 E)) w) := by
  obtain ⟨nm, v, fr, en, rp⟩ := p
  simp only [Pv.val]
  have g1 := hG _ _ g0 ((Below.refl _ _).alloc (Nat.le_refl _) (Pv.box ⟨nm, v, fr, en, rp⟩))
  simp only [Pv.box] at g1
  go_enter Tryz.func20, Tryz.ntmps20
  go_wp2_with fail
  refine (cC.out _ g1).mono ?_
  rintro e w1 ⟨rfl, hb1⟩
  go_wp2
  go_ret2
  exact ⟨rfl, ((Below.refl _ _).alloc (Nat.le_refl _) _).trans (hb1.mono (by simp))⟩
/-- the cells of a provision's box -/
def PBox (W : World) (B : Nat) (p : Pv) : Prop :=
  W.cell? ⟨B, 0, none⟩ = some (.string p.name) ∧ W.cell? ⟨B, 1, none⟩ = some (.int .i64 p.value) ∧ W.cell? ⟨B, 2, none⟩ = some (.int .i64 p.from') ∧ W.cell? ⟨B, 3, none⟩ = some (.int .i64 p.entered) ∧ W.cell? ⟨B, 4, none⟩ = some (.bool p.repeal)
theorem PBox.below {W W' : World} {B n : Nat} {p : Pv} (h : PBox W B p) (hb : Below n W W') (hn : B < n) : PBox W' B p := by
  obtain ⟨a0, a1, a2, a3, a4⟩ := h
  exact ⟨(hb.cell (p := ⟨B, 0, none⟩) hn).trans a0, (hb.cell (p := ⟨B, 1, none⟩) hn).trans a1, (hb.cell (p := ⟨B, 2, none⟩) hn).trans a2, (hb.cell (p := ⟨B, 3, none⟩) hn).trans a3, (hb.cell (p := ⟨B, 4, none⟩) hn).trans a4⟩
theorem PBox.new (w : World) (nm : ByteArray) (v fr en : Int) (rp : Bool) : PBox (w.alloc (.cells #[.string nm, .int .i64 v, .int .i64 fr, .int .i64 en, .bool rp] 23)) w.heap.size ⟨nm, v, fr, en, rp⟩ :=
  ⟨by simp [go_sem], by simp [go_sem], by simp [go_sem], by simp [go_sem], by simp [go_sem]⟩
theorem bl_tr {B : Nat} {a w w1 : World} (h : Below B a w) (h1 : Below w.heap.size w w1) (hB : B ≤ w.heap.size) : Below B a w1 := h.trans (h1.mono hB)
set_option maxRecDepth 100000 in
set_option maxHeartbeats 2000000 in
theorem Next_2 (l : List Pv) (G : World → Prop) (hG : ∀ W W', G W → Below W.heap.size W W' → G W') (hGd : ∀ W, G W → G W.drew) (sa : Option Addr) (cap : Nat) (p : Pv) (E : Int) (hE : (E != 0) = true) (hl : l.length ≤ 1000) (w : World) (g0 : G w)
    (hn : ∀ q ∈ l ++ [p], q.name.size ≤ maxLen)
    (cC : Hid (∀ W, G W → Calls Tryz.prog 39 #[.slice sa l.length cap] W (RetB (.int .i64 0) W)))
    (cK : Hid (∀ W B, G W → B ≤ W.heap.size → Calls Tryz.prog 42 #[.slice sa l.length cap] W (CloneP l B W)))
    (cM : Hid (∀ W g c, PvsAt W g 0 (l ++ [p]) → Calls Tryz.prog 39 #[.slice (some ⟨g, 0, none⟩) (l.length + 1) c] W (RetB (.int .i64 E) W))) :
    Calls Tryz.prog 20 #[.slice sa l.length cap, p.val] w (RetB (two (.slice none 0 0) (.int .i64 E)) w) := by
  obtain ⟨i0, hi, hz0, hz1, hz2⟩ := info_parts infoPv
  have HN := Lib.hid hn
  clear hn
  obtain ⟨nm, v, fr, en, rp⟩ := p
  simp only [Pv.val]
  have g1 := hG _ _ g0 ((Below.refl _ _).alloc (Nat.le_refl _) (Pv.box ⟨nm, v, fr, en, rp⟩))
  have pb := PBox.new w nm v fr en rp
  simp only [Pv.box] at g1
  go_enter Tryz.func20, Tryz.ntmps20
  go_wp2_with fail
  refine (cC.out _ g1).mono ?_
  rintro e w1 ⟨rfl, hb1⟩
  have pb1 := pb.below hb1 (by simp)
  have g2 := hG _ _ g1 hb1
  have s1 := hb1.size
  rw [World.size_alloc] at s1
  have P1 := Lib.hid pb1
  obtain ⟨q0, q1, q2, q3, q4⟩ := pb1
  have GG := Lib.hid g2
  clear pb g1 g2
  go_wp2_with fail
  go_region_held3 (fun w' => w'.cell? ⟨w.heap.size, 0, none⟩ = some (.string nm) ∧ w'.cell? ⟨w.heap.size, 1, none⟩ = some (.int .i64 v) ∧ w'.cell? ⟨w.heap.size, 2, none⟩ = some (.int .i64 fr) ∧ w'.cell? ⟨w.heap.size, 3, none⟩ = some (.int .i64 en) ∧ w'.cell? ⟨w.heap.size, 4, none⟩ = some (.bool rp)) (first | exact ⟨q0, q1, q2, q3, q4⟩ | exact ⟨k0, k1, k2, k3, k4⟩ | exact ⟨j0, j1, j2, j3, j4⟩ | go_keep)
    (first
      | (go_at_call 42
         refine (cK.out _ (w.heap.size + 1) ?_ ?_).mono ?_
         · first | exact hGd _ GG.out | exact hGd _ (hG _ _ GG.out ((Below.refl _ _).alloc (Nat.le_refl _) _))
         · simp; omega
         rintro e w2 ⟨v2, rfl, hown2, hb2⟩
         have hb2s := hb2.size
         have P2 := Lib.hid (PBox.below (p := ⟨nm, v, fr, en, rp⟩) (B := w.heap.size) (W := w1) P1.out (n := w.heap.size + 1) (W' := w2) (by first | exact bl_tr (below_dr (Below.refl _ _)) hb2 (by simp; omega) | exact bl_tr (below_dr ((Below.refl _ _).alloc (by omega) _)) hb2 (by simp; omega)) (by omega))
         have B2 : Hid (Below (w.heap.size + 1) w1 w2) := Lib.hid (by first | exact bl_tr (below_dr (Below.refl _ _)) hb2 (by simp; omega) | exact bl_tr (below_dr ((Below.refl _ _).alloc (by omega) _)) hb2 (by simp; omega))
         obtain ⟨k0, k1, k2, k3, k4⟩ := P2.out)
      | (refine step_append_lies _ rfl _ _ _ rfl (w.heap.size + 1) 23 i0 _ 5 48 Tryz.underlying33 hi hz0 hz1 hz2 rfl (by decide) _ l.length (pcs l) rfl ?_ _ 1 1 (pvC ⟨nm, v, fr, en, rp⟩) rfl rfl ?_ ?_ ?_ ?_ ?_ ?_ _ rfl ?_
         · first | exact hown2 | exact hown2.alloc _
         · first | exact World.news_of_block (cs := #[.string nm, .int .i64 v, .int .i64 fr, .int .i64 en, .bool rp]) (heap_alloc_new _ _) | exact World.news_of_block (cs := #[.string nm, .int .i64 v, .int .i64 fr, .int .i64 en, .bool rp]) ((hb2.block _ (by simp)).trans (heap_alloc_new _ _))
         · simp [pvC, Value.oneCell']
         · omega
         · unfold maxLen; omega
         · omega
         · simp at hb2s ⊢; omega
         intro g3 cap3 w3 hown3 hgrow3 hat3 hlt3
         have B3 : Hid (Below (w.heap.size + 1) w1 w3) := Lib.hid (by first | exact Below.grown B2.out hgrow3 (by simp at hb2s ⊢; omega) (fun k' e' => (hown2.lt k' e').1) | exact Below.grown (B2.out.alloc (by simp at hb2s ⊢; omega) _) hgrow3 (by simp at hb2s ⊢; omega) (fun k' e' => (hown2.lt k' e').1))
         have P3 := Lib.hid (P1.out.below B3.out (by omega))
         obtain ⟨j0, j1, j2, j3, j4⟩ := P3.out))
  all_goals
    have HV : PvsAt w3 g3 0 (l ++ [⟨nm, v, fr, en, rp⟩]) := PvsAt.of_own (n := l.length + 1) (by rw [pcs_app, pcs_one]; exact hown3) HN.out
    have HH := Lib.hid HV
    clear HV hown3 hgrow3 hat3 hown2
    go_wp2_with fail
    refine (cM.out _ _ _ HH.out).mono ?_
    rintro e w4 ⟨rfl, hb4⟩
    go_wp2
    go_ret2
    exact ⟨rfl, ((((Below.refl _ _).alloc (Nat.le_refl _) _).trans (hb1.mono (by simp))).trans (B3.out.mono (by omega))).trans (hb4.mono (by have := B3.out.size; omega))⟩
set_option maxRecDepth 100000 in
set_option maxHeartbeats 2000000 in
theorem Next_3 (l : List Pv) (G : World → Prop) (hG : ∀ W W', G W → Below W.heap.size W W' → G W') (hGd : ∀ W, G W → G W.drew) (sa : Option Addr) (cap : Nat) (nm : ByteArray) (v fr en : Int) (hl : l.length ≤ 1000) (w : World) (g0 : G w) (hGB : ∀ W, Below w.heap.size w W → G W)
    (hn : ∀ q ∈ l ++ [⟨nm, v, fr, en, true⟩], q.name.size ≤ maxLen)
    (cC : Hid (∀ W, G W → Calls Tryz.prog 39 #[.slice sa l.length cap] W (RetB (.int .i64 0) W)))
    (cK : Hid (∀ W B, G W → B ≤ W.heap.size → Calls Tryz.prog 42 #[.slice sa l.length cap] W (CloneP l B W)))
    (cM : Hid (∀ W g c, PvsAt W g 0 (l ++ [⟨nm, v, fr, en, true⟩]) → Calls Tryz.prog 39 #[.slice (some ⟨g, 0, none⟩) (l.length + 1) c] W (RetB (.int .i64 0) W))) (x : Int)
    (cH : Hid (∀ W, G W → Calls Tryz.prog 43 #[.slice sa l.length cap, .string nm, .agg #[.int .i64 fr, .int .i64 en]] W (RetB (.agg #[.int .i64 x, .bool false]) W))) :
    Calls Tryz.prog 20 #[.slice sa l.length cap, Pv.val ⟨nm, v, fr, en, true⟩] w (RetB (two (.slice none 0 0) (.int .i64 6)) w) := by
  obtain ⟨i0, hi, hz0, hz1, hz2⟩ := info_parts infoPv
  have HN := Lib.hid hn
  clear hn
  simp only [Pv.val]
  have g1 := hG _ _ g0 ((Below.refl _ _).alloc (Nat.le_refl _) (Pv.box ⟨nm, v, fr, en, true⟩))
  have pb := PBox.new w nm v fr en true
  simp only [Pv.box] at g1
  have hfld : ∀ w : World, (Instr.field 79 (.agg #[.int .i64 x, .bool false]) 1).run Tryz.prog w = .ok (.bool false) w := fun _ => by kernel_rfl
  go_enter Tryz.func20, Tryz.ntmps20
  go_wp2_with fail
  refine (cC.out _ g1).mono ?_
  rintro e w1 ⟨rfl, hb1⟩
  have pb1 := pb.below hb1 (by simp)
  have g2 := hG _ _ g1 hb1
  have s1 := hb1.size
  rw [World.size_alloc] at s1
  have P1 := Lib.hid pb1
  obtain ⟨q0, q1, q2, q3, q4⟩ := pb1
  have GG := Lib.hid g2
  clear pb g1 g2
  go_wp2_with fail
  go_region_held3 (fun w' => w'.cell? ⟨w.heap.size, 0, none⟩ = some (.string nm) ∧ w'.cell? ⟨w.heap.size, 1, none⟩ = some (.int .i64 v) ∧ w'.cell? ⟨w.heap.size, 2, none⟩ = some (.int .i64 fr) ∧ w'.cell? ⟨w.heap.size, 3, none⟩ = some (.int .i64 en) ∧ w'.cell? ⟨w.heap.size, 4, none⟩ = some (.bool true)) (first | exact ⟨q0, q1, q2, q3, q4⟩ | exact ⟨k0, k1, k2, k3, k4⟩ | exact ⟨j0, j1, j2, j3, j4⟩ | go_keep)
    (first
      | (go_at_call 42
         refine (cK.out _ (w.heap.size + 1) ?_ ?_).mono ?_
         · first | exact hGd _ GG.out | exact hGd _ (hG _ _ GG.out ((Below.refl _ _).alloc (Nat.le_refl _) _))
         · simp; omega
         rintro e w2 ⟨v2, rfl, hown2, hb2⟩
         have hb2s := hb2.size
         have P2 := Lib.hid (PBox.below (p := ⟨nm, v, fr, en, true⟩) (B := w.heap.size) (W := w1) P1.out (n := w.heap.size + 1) (W' := w2) (by first | exact bl_tr (below_dr (Below.refl _ _)) hb2 (by simp; omega) | exact bl_tr (below_dr ((Below.refl _ _).alloc (by omega) _)) hb2 (by simp; omega)) (by omega))
         have B2 : Hid (Below (w.heap.size + 1) w1 w2) := Lib.hid (by first | exact bl_tr (below_dr (Below.refl _ _)) hb2 (by simp; omega) | exact bl_tr (below_dr ((Below.refl _ _).alloc (by omega) _)) hb2 (by simp; omega))
         obtain ⟨k0, k1, k2, k3, k4⟩ := P2.out)
      | (refine step_append_lies _ rfl _ _ _ rfl (w.heap.size + 1) 23 i0 _ 5 48 Tryz.underlying33 hi hz0 hz1 hz2 rfl (by decide) _ l.length (pcs l) rfl ?_ _ 1 1 (pvC ⟨nm, v, fr, en, true⟩) rfl rfl ?_ ?_ ?_ ?_ ?_ ?_ _ rfl ?_
         · first | exact hown2 | exact hown2.alloc _
         · first | exact World.news_of_block (cs := #[.string nm, .int .i64 v, .int .i64 fr, .int .i64 en, .bool true]) (heap_alloc_new _ _) | exact World.news_of_block (cs := #[.string nm, .int .i64 v, .int .i64 fr, .int .i64 en, .bool true]) ((hb2.block _ (by simp)).trans (heap_alloc_new _ _))
         · simp [pvC, Value.oneCell']
         · omega
         · unfold maxLen; omega
         · omega
         · simp at hb2s ⊢; omega
         intro g3 cap3 w3 hown3 hgrow3 hat3 hlt3
         have B3 : Hid (Below (w.heap.size + 1) w1 w3) := Lib.hid (by first | exact Below.grown B2.out hgrow3 (by simp at hb2s ⊢; omega) (fun k' e' => (hown2.lt k' e').1) | exact Below.grown (B2.out.alloc (by simp at hb2s ⊢; omega) _) hgrow3 (by simp at hb2s ⊢; omega) (fun k' e' => (hown2.lt k' e').1))
         have P3 := Lib.hid (P1.out.below B3.out (by omega))
         obtain ⟨j0, j1, j2, j3, j4⟩ := P3.out))
  all_goals
    have HV : PvsAt w3 g3 0 (l ++ [⟨nm, v, fr, en, true⟩]) := PvsAt.of_own (n := l.length + 1) (by rw [pcs_app, pcs_one]; exact hown3) HN.out
    have HH := Lib.hid HV
    have HLT := Lib.hid ((hown3.lt g3 rfl).1)
    clear HV hown3 hgrow3 hat3 hown2
    go_wp2_with fail
    refine (cM.out _ _ _ HH.out).mono ?_
    rintro e w4 ⟨rfl, hb4⟩
    have B4 := Lib.hid (B3.out.trans (hb4.mono (by have := B3.out.size; omega)))
    have P4 := P1.out.below B4.out (by omega)
    obtain ⟨n0, n1, n2, n3, n4⟩ := P4
    have G4 := Lib.hid (hGB _ (Below.trans ((Below.refl _ _).alloc (Nat.le_refl _) _) ((hb1.mono (by simp)).trans (B4.out.mono (by omega)))))
    have V4 := Lib.hid (HH.out.below hb4)
    go_wp2_with fail
    refine (cH.out _ G4.out).mono ?_
    rintro e w5 ⟨rfl, hb5⟩
    have V5 := Lib.hid (V4.out.below hb5)
    go_wp2
    go_ret2
    exact ⟨rfl, (((Below.refl _ _).alloc (Nat.le_refl _) _).trans ((hb1.mono (by simp)).trans (B4.out.mono (by omega)))).trans (hb5.mono (by have := B4.out.size; omega))⟩
set_option maxRecDepth 100000 in
set_option maxHeartbeats 2000000 in
theorem Next_4 (l : List Pv) (G : World → Prop) (hG : ∀ W W', G W → Below W.heap.size W W' → G W') (hGd : ∀ W, G W → G W.drew) (sa : Option Addr) (cap : Nat) (nm : ByteArray) (v fr en : Int) (hl : l.length ≤ 1000) (w : World) (g0 : G w) (hGB : ∀ W, Below w.heap.size w W → G W)
    (hn : ∀ q ∈ l ++ [⟨nm, v, fr, en, true⟩], q.name.size ≤ maxLen)
    (cC : Hid (∀ W, G W → Calls Tryz.prog 39 #[.slice sa l.length cap] W (RetB (.int .i64 0) W)))
    (cK : Hid (∀ W B, G W → B ≤ W.heap.size → Calls Tryz.prog 42 #[.slice sa l.length cap] W (CloneP l B W)))
    (cM : Hid (∀ W g c, PvsAt W g 0 (l ++ [⟨nm, v, fr, en, true⟩]) → Calls Tryz.prog 39 #[.slice (some ⟨g, 0, none⟩) (l.length + 1) c] W (RetB (.int .i64 0) W))) (x : Int)
    (cH : Hid (∀ W, G W → Calls Tryz.prog 43 #[.slice sa l.length cap, .string nm, .agg #[.int .i64 fr, .int .i64 en]] W (RetB (.agg #[.int .i64 x, .bool true]) W))) :
    Calls Tryz.prog 20 #[.slice sa l.length cap, Pv.val ⟨nm, v, fr, en, true⟩] w (NextOk l ⟨nm, v, fr, en, true⟩ w) := by
  obtain ⟨i0, hi, hz0, hz1, hz2⟩ := info_parts infoPv
  have HN := Lib.hid hn
  clear hn
  simp only [Pv.val]
  have g1 := hG _ _ g0 ((Below.refl _ _).alloc (Nat.le_refl _) (Pv.box ⟨nm, v, fr, en, true⟩))
  have pb := PBox.new w nm v fr en true
  simp only [Pv.box] at g1
  have hfld : ∀ w : World, (Instr.field 79 (.agg #[.int .i64 x, .bool true]) 1).run Tryz.prog w = .ok (.bool true) w := fun _ => by kernel_rfl
  go_enter Tryz.func20, Tryz.ntmps20
  go_wp2_with fail
  refine (cC.out _ g1).mono ?_
  rintro e w1 ⟨rfl, hb1⟩
  have pb1 := pb.below hb1 (by simp)
  have g2 := hG _ _ g1 hb1
  have s1 := hb1.size
  rw [World.size_alloc] at s1
  have P1 := Lib.hid pb1
  obtain ⟨q0, q1, q2, q3, q4⟩ := pb1
  have GG := Lib.hid g2
  clear pb g1 g2
  go_wp2_with fail
  go_region_held3 (fun w' => w'.cell? ⟨w.heap.size, 0, none⟩ = some (.string nm) ∧ w'.cell? ⟨w.heap.size, 1, none⟩ = some (.int .i64 v) ∧ w'.cell? ⟨w.heap.size, 2, none⟩ = some (.int .i64 fr) ∧ w'.cell? ⟨w.heap.size, 3, none⟩ = some (.int .i64 en) ∧ w'.cell? ⟨w.heap.size, 4, none⟩ = some (.bool true)) (first | exact ⟨q0, q1, q2, q3, q4⟩ | exact ⟨k0, k1, k2, k3, k4⟩ | exact ⟨j0, j1, j2, j3, j4⟩ | go_keep)
    (first
      | (go_at_call 42
         refine (cK.out _ (w.heap.size + 1) ?_ ?_).mono ?_
         · first | exact hGd _ GG.out | exact hGd _ (hG _ _ GG.out ((Below.refl _ _).alloc (Nat.le_refl _) _))
         · simp; omega
         rintro e w2 ⟨v2, rfl, hown2, hb2⟩
         have hb2s := hb2.size
         have P2 := Lib.hid (PBox.below (p := ⟨nm, v, fr, en, true⟩) (B := w.heap.size) (W := w1) P1.out (n := w.heap.size + 1) (W' := w2) (by first | exact bl_tr (below_dr (Below.refl _ _)) hb2 (by simp; omega) | exact bl_tr (below_dr ((Below.refl _ _).alloc (by omega) _)) hb2 (by simp; omega)) (by omega))
         have B2 : Hid (Below (w.heap.size + 1) w1 w2) := Lib.hid (by first | exact bl_tr (below_dr (Below.refl _ _)) hb2 (by simp; omega) | exact bl_tr (below_dr ((Below.refl _ _).alloc (by omega) _)) hb2 (by simp; omega))
         obtain ⟨k0, k1, k2, k3, k4⟩ := P2.out)
      | (refine step_append_lies _ rfl _ _ _ rfl (w.heap.size + 1) 23 i0 _ 5 48 Tryz.underlying33 hi hz0 hz1 hz2 rfl (by decide) _ l.length (pcs l) rfl ?_ _ 1 1 (pvC ⟨nm, v, fr, en, true⟩) rfl rfl ?_ ?_ ?_ ?_ ?_ ?_ _ rfl ?_
         · first | exact hown2 | exact hown2.alloc _
         · first | exact World.news_of_block (cs := #[.string nm, .int .i64 v, .int .i64 fr, .int .i64 en, .bool true]) (heap_alloc_new _ _) | exact World.news_of_block (cs := #[.string nm, .int .i64 v, .int .i64 fr, .int .i64 en, .bool true]) ((hb2.block _ (by simp)).trans (heap_alloc_new _ _))
         · simp [pvC, Value.oneCell']
         · omega
         · unfold maxLen; omega
         · omega
         · simp at hb2s ⊢; omega
         intro g3 cap3 w3 hown3 hgrow3 hat3 hlt3
         have B3 : Hid (Below (w.heap.size + 1) w1 w3) := Lib.hid (by first | exact Below.grown B2.out hgrow3 (by simp at hb2s ⊢; omega) (fun k' e' => (hown2.lt k' e').1) | exact Below.grown (B2.out.alloc (by simp at hb2s ⊢; omega) _) hgrow3 (by simp at hb2s ⊢; omega) (fun k' e' => (hown2.lt k' e').1))
         have P3 := Lib.hid (P1.out.below B3.out (by omega))
         obtain ⟨j0, j1, j2, j3, j4⟩ := P3.out))
  all_goals
    have HV : PvsAt w3 g3 0 (l ++ [⟨nm, v, fr, en, true⟩]) := PvsAt.of_own (n := l.length + 1) (by rw [pcs_app, pcs_one]; exact hown3) HN.out
    have HH := Lib.hid HV
    have HLT := Lib.hid ((hown3.lt g3 rfl).1)
    clear HV hown3 hgrow3 hat3 hown2
    go_wp2_with fail
    refine (cM.out _ _ _ HH.out).mono ?_
    rintro e w4 ⟨rfl, hb4⟩
    have B4 := Lib.hid (B3.out.trans (hb4.mono (by have := B3.out.size; omega)))
    have P4 := P1.out.below B4.out (by omega)
    obtain ⟨n0, n1, n2, n3, n4⟩ := P4
    have G4 := Lib.hid (hGB _ (Below.trans ((Below.refl _ _).alloc (Nat.le_refl _) _) ((hb1.mono (by simp)).trans (B4.out.mono (by omega)))))
    have V4 := Lib.hid (HH.out.below hb4)
    go_wp2_with fail
    refine (cH.out _ G4.out).mono ?_
    rintro e w5 ⟨rfl, hb5⟩
    have V5 := Lib.hid (V4.out.below hb5)
    go_wp2
    go_ret2
    exact ⟨g3, cap3, rfl, by have := HLT.out; omega, V5.out, (((Below.refl _ _).alloc (Nat.le_refl _) _).trans ((hb1.mono (by simp)).trans (B4.out.mono (by omega)))).trans (hb5.mono (by have := B4.out.size; omega))⟩
set_option maxRecDepth 100000 in
set_option maxHeartbeats 2000000 in
theorem Next_5 (l : List Pv) (G : World → Prop) (hG : ∀ W W', G W → Below W.heap.size W W' → G W') (hGd : ∀ W, G W → G W.drew) (sa : Option Addr) (cap : Nat) (nm : ByteArray) (v fr en : Int) (hl : l.length ≤ 1000) (w : World) (g0 : G w) (hGB : ∀ W, Below w.heap.size w W → G W)
    (hn : ∀ q ∈ l ++ [⟨nm, v, fr, en, false⟩], q.name.size ≤ maxLen)
    (cC : Hid (∀ W, G W → Calls Tryz.prog 39 #[.slice sa l.length cap] W (RetB (.int .i64 0) W)))
    (cK : Hid (∀ W B, G W → B ≤ W.heap.size → Calls Tryz.prog 42 #[.slice sa l.length cap] W (CloneP l B W)))
    (cM : Hid (∀ W g c, PvsAt W g 0 (l ++ [⟨nm, v, fr, en, false⟩]) → Calls Tryz.prog 39 #[.slice (some ⟨g, 0, none⟩) (l.length + 1) c] W (RetB (.int .i64 0) W))) :
    Calls Tryz.prog 20 #[.slice sa l.length cap, Pv.val ⟨nm, v, fr, en, false⟩] w (NextOk l ⟨nm, v, fr, en, false⟩ w) := by
  obtain ⟨i0, hi, hz0, hz1, hz2⟩ := info_parts infoPv
  have HN := Lib.hid hn
  clear hn
  simp only [Pv.val]
  have g1 := hG _ _ g0 ((Below.refl _ _).alloc (Nat.le_refl _) (Pv.box ⟨nm, v, fr, en, false⟩))
  have pb := PBox.new w nm v fr en false
  simp only [Pv.box] at g1
  go_enter Tryz.func20, Tryz.ntmps20
  go_wp2_with fail
  refine (cC.out _ g1).mono ?_
  rintro e w1 ⟨rfl, hb1⟩
  have pb1 := pb.below hb1 (by simp)
  have g2 := hG _ _ g1 hb1
  have s1 := hb1.size
  rw [World.size_alloc] at s1
  have P1 := Lib.hid pb1
  obtain ⟨q0, q1, q2, q3, q4⟩ := pb1
  have GG := Lib.hid g2
  clear pb g1 g2
  go_wp2_with fail
  go_region_held3 (fun w' => w'.cell? ⟨w.heap.size, 0, none⟩ = some (.string nm) ∧ w'.cell? ⟨w.heap.size, 1, none⟩ = some (.int .i64 v) ∧ w'.cell? ⟨w.heap.size, 2, none⟩ = some (.int .i64 fr) ∧ w'.cell? ⟨w.heap.size, 3, none⟩ = some (.int .i64 en) ∧ w'.cell? ⟨w.heap.size, 4, none⟩ = some (.bool false)) (first | exact ⟨q0, q1, q2, q3, q4⟩ | exact ⟨k0, k1, k2, k3, k4⟩ | exact ⟨j0, j1, j2, j3, j4⟩ | go_keep)
    (first
      | (go_at_call 42
         refine (cK.out _ (w.heap.size + 1) ?_ ?_).mono ?_
         · first | exact hGd _ GG.out | exact hGd _ (hG _ _ GG.out ((Below.refl _ _).alloc (Nat.le_refl _) _))
         · simp; omega
         rintro e w2 ⟨v2, rfl, hown2, hb2⟩
         have hb2s := hb2.size
         have P2 := Lib.hid (PBox.below (p := ⟨nm, v, fr, en, false⟩) (B := w.heap.size) (W := w1) P1.out (n := w.heap.size + 1) (W' := w2) (by first | exact bl_tr (below_dr (Below.refl _ _)) hb2 (by simp; omega) | exact bl_tr (below_dr ((Below.refl _ _).alloc (by omega) _)) hb2 (by simp; omega)) (by omega))
         have B2 : Hid (Below (w.heap.size + 1) w1 w2) := Lib.hid (by first | exact bl_tr (below_dr (Below.refl _ _)) hb2 (by simp; omega) | exact bl_tr (below_dr ((Below.refl _ _).alloc (by omega) _)) hb2 (by simp; omega))
         obtain ⟨k0, k1, k2, k3, k4⟩ := P2.out)
      | (refine step_append_lies _ rfl _ _ _ rfl (w.heap.size + 1) 23 i0 _ 5 48 Tryz.underlying33 hi hz0 hz1 hz2 rfl (by decide) _ l.length (pcs l) rfl ?_ _ 1 1 (pvC ⟨nm, v, fr, en, false⟩) rfl rfl ?_ ?_ ?_ ?_ ?_ ?_ _ rfl ?_
         · first | exact hown2 | exact hown2.alloc _
         · first | exact World.news_of_block (cs := #[.string nm, .int .i64 v, .int .i64 fr, .int .i64 en, .bool false]) (heap_alloc_new _ _) | exact World.news_of_block (cs := #[.string nm, .int .i64 v, .int .i64 fr, .int .i64 en, .bool false]) ((hb2.block _ (by simp)).trans (heap_alloc_new _ _))
         · simp [pvC, Value.oneCell']
         · omega
         · unfold maxLen; omega
         · omega
         · simp at hb2s ⊢; omega
         intro g3 cap3 w3 hown3 hgrow3 hat3 hlt3
         have B3 : Hid (Below (w.heap.size + 1) w1 w3) := Lib.hid (by first | exact Below.grown B2.out hgrow3 (by simp at hb2s ⊢; omega) (fun k' e' => (hown2.lt k' e').1) | exact Below.grown (B2.out.alloc (by simp at hb2s ⊢; omega) _) hgrow3 (by simp at hb2s ⊢; omega) (fun k' e' => (hown2.lt k' e').1))
         have P3 := Lib.hid (P1.out.below B3.out (by omega))
         obtain ⟨j0, j1, j2, j3, j4⟩ := P3.out))
  all_goals
    have HV : PvsAt w3 g3 0 (l ++ [⟨nm, v, fr, en, false⟩]) := PvsAt.of_own (n := l.length + 1) (by rw [pcs_app, pcs_one]; exact hown3) HN.out
    have HH := Lib.hid HV
    have HLT := Lib.hid ((hown3.lt g3 rfl).1)
    clear HV hown3 hgrow3 hat3 hown2
    go_wp2_with fail
    refine (cM.out _ _ _ HH.out).mono ?_
    rintro e w4 ⟨rfl, hb4⟩
    have B4 := Lib.hid (B3.out.trans (hb4.mono (by have := B3.out.size; omega)))
    have P4 := P1.out.below B4.out (by omega)
    obtain ⟨n0, n1, n2, n3, n4⟩ := P4
    have G4 := Lib.hid (hGB _ (Below.trans ((Below.refl _ _).alloc (Nat.le_refl _) _) ((hb1.mono (by simp)).trans (B4.out.mono (by omega)))))
    have V4 := Lib.hid (HH.out.below hb4)
    go_wp2
    go_ret2
    exact ⟨g3, cap3, rfl, by have := HLT.out; omega, V4.out, ((Below.refl _ _).alloc (Nat.le_refl _) _).trans ((hb1.mono (by simp)).trans (B4.out.mono (by omega)))⟩
theorem Next_err (l : List Pv) (p : Pv) (b o cap : Nat) (w : World) (hl : l.length ≤ 1000) (hc : PvsAt w b o l) (hn : p.name.size ≤ maxLen) (he : nxE l p ≠ 0) :
    Calls Tryz.prog 20 #[.slice (some ⟨b, o, none⟩) l.length cap, p.val] w (RetB (two (.slice none 0 0) (.int .i64 (nxE l p))) w) := by
  have hn' : ∀ q ∈ l ++ [p], q.name.size ≤ maxLen := fun q hq => by
    rcases List.mem_append.1 hq with h | h
    · exact hc.names q h
    · rw [List.mem_singleton] at h; subst h; exact hn
  by_cases h1 : cpE l = 0
  · have cC : Hid (∀ W, PvsAt W b o l → Calls Tryz.prog 39 #[.slice (some ⟨b, o, none⟩) l.length cap] W (RetB (.int .i64 0) W)) := Lib.hid fun W hW => by have := CheckProvisions_any l b o cap W (by omega) hW; rwa [h1] at this
    have cM := fun W g c (hW : PvsAt W g 0 (l ++ [p])) => CheckProvisions_any (l ++ [p]) g 0 c W (by simp; omega) hW
    simp only [List.length_append, List.length_singleton] at cM
    by_cases h2 : cpE (l ++ [p]) = 0
    · cases h3 : (p.repeal && !hasB l p.name p.from' p.entered)
      · exact absurd (nxE_4 h1 h2 h3) he
      · rw [nxE_3 h1 h2 h3]
        rw [h2] at cM
        obtain ⟨nm, v, fr, en, rp⟩ := p
        simp only [Bool.and_eq_true, Bool.not_eq_true'] at h3
        obtain ⟨h3, h4⟩ := h3
        subst h3
        have cH : ∃ x : Int, ∀ W, PvsAt W b o l → Calls Tryz.prog 43 #[.slice (some ⟨b, o, none⟩) l.length cap, .string nm, .agg #[.int .i64 fr, .int .i64 en]] W (RetB (.agg #[.int .i64 x, .bool false]) W) := by
          unfold hasB at h4
          cases hd : dec l fr en nm l.length with
          | none => exact ⟨0, fun W hW => heldBy_none l nm fr en b o cap W (by omega) hn hW hd⟩
          | some i =>
            obtain ⟨_, hil⟩ := dec_lt l fr en nm l.length i hd
            rw [hd] at h4
            simp only [List.getElem?_eq_getElem hil, Bool.not_eq_false'] at h4
            exact ⟨0, fun W hW => heldBy_rep l nm fr en b o cap W (by omega) hn hW i l[i] hil rfl h4 hd⟩
        obtain ⟨x, cH⟩ := cH
        exact Next_3 l (fun W => PvsAt W b o l) (fun _ _ h k => h.below k) (fun _ h => h) _ cap nm v fr en hl w hc (fun W hW => hc.below hW) hn' cC (Lib.hid fun W B hW hB => clone_any l b o cap B W hB (by omega) hW) (Lib.hid cM) x (Lib.hid cH)
    · rw [nxE_2 h1 h2]
      exact Next_2 l (fun W => PvsAt W b o l) (fun _ _ h k => h.below k) (fun _ h => h) _ cap p _ (by simpa using h2) hl w hc hn' cC (Lib.hid fun W B hW hB => clone_any l b o cap B W hB (by omega) hW) (Lib.hid cM)
  · rw [nxE_1 h1]
    exact Next_1 (fun W => PvsAt W b o l) (fun _ _ h k => h.below k) _ p _ (by simpa using h1) w hc (Lib.hid fun W hW => CheckProvisions_any l b o cap W (by omega) hW)
theorem Next_ok (l : List Pv) (p : Pv) (b o cap : Nat) (w : World) (hl : l.length ≤ 1000) (hc : PvsAt w b o l) (hn : p.name.size ≤ maxLen) (he : nxE l p = 0) :
    Calls Tryz.prog 20 #[.slice (some ⟨b, o, none⟩) l.length cap, p.val] w (NextOk l p w) := by
  have hn' : ∀ q ∈ l ++ [p], q.name.size ≤ maxLen := fun q hq => by
    rcases List.mem_append.1 hq with h | h
    · exact hc.names q h
    · rw [List.mem_singleton] at h; subst h; exact hn
  have h1 : cpE l = 0 := by
    by_cases h1 : cpE l = 0
    · exact h1
    · rw [nxE_1 h1] at he; exact absurd he h1
  have h2 : cpE (l ++ [p]) = 0 := by
    by_cases h2 : cpE (l ++ [p]) = 0
    · exact h2
    · rw [nxE_2 h1 h2] at he; exact absurd he h2
  have h3 : (p.repeal && !hasB l p.name p.from' p.entered) = false := by
    cases h3 : (p.repeal && !hasB l p.name p.from' p.entered)
    · rfl
    · rw [nxE_3 h1 h2 h3] at he; cases he
  have cC : Hid (∀ W, PvsAt W b o l → Calls Tryz.prog 39 #[.slice (some ⟨b, o, none⟩) l.length cap] W (RetB (.int .i64 0) W)) := Lib.hid fun W hW => by have := CheckProvisions_any l b o cap W (by omega) hW; rwa [h1] at this
  have cM := fun W g c (hW : PvsAt W g 0 (l ++ [p])) => CheckProvisions_any (l ++ [p]) g 0 c W (by simp; omega) hW
  simp only [List.length_append, List.length_singleton] at cM
  rw [h2] at cM
  obtain ⟨nm, v, fr, en, rp⟩ := p
  cases rp
  · exact Next_5 l (fun W => PvsAt W b o l) (fun _ _ h k => h.below k) (fun _ h => h) _ cap nm v fr en hl w hc (fun W hW => hc.below hW) hn' cC (Lib.hid fun W B hW hB => clone_any l b o cap B W hB (by omega) hW) (Lib.hid cM)
  · simp only [Bool.true_and, Bool.not_eq_false'] at h3
    have cH : ∃ x : Int, ∀ W, PvsAt W b o l → Calls Tryz.prog 43 #[.slice (some ⟨b, o, none⟩) l.length cap, .string nm, .agg #[.int .i64 fr, .int .i64 en]] W (RetB (.agg #[.int .i64 x, .bool true]) W) := by
      unfold hasB at h3
      cases hd : dec l fr en nm l.length with
      | none => rw [hd] at h3; cases h3
      | some i =>
        obtain ⟨_, hil⟩ := dec_lt l fr en nm l.length i hd
        rw [hd] at h3
        simp only [List.getElem?_eq_getElem hil, Bool.not_eq_true'] at h3
        exact ⟨_, fun W hW => heldBy_val l nm fr en b o cap W (by omega) hn hW i l[i] hil rfl h3 hd⟩
    obtain ⟨x, cH⟩ := cH
    exact Next_4 l (fun W => PvsAt W b o l) (fun _ _ h k => h.below k) (fun _ h => h) _ cap nm v fr en hl w hc (fun W hW => hc.below hW) hn' cC (Lib.hid fun W B hW hB => clone_any l b o cap B W hB (by omega) hW) (Lib.hid cM) x (Lib.hid cH)
end Go.Proofs.YtfphedcgmaakjabGreatDoor
