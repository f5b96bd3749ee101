/-
  What Next of the specification of package rule returns: contracts, over the contracts of what it calls.
-/
import Derived.Test.YtfphedcgmaakjaaNext
import Derived.Test.YtfphedcgmaakjaaApp
namespace Go.Proofs.Ytfphedcgmaakjaa
open Go.RowKit
attribute [local go_sem] set_drewN
theorem heap_new_at {w : World} {o : Obj} {n : Nat} (h : n = w.heap.size) : (w.alloc o).heap[n]? = some o := by subst h; exact heap_alloc_new _ _
theorem heap_old_at {w : World} {o : Obj} {n : Nat} (h : n < w.heap.size) : (w.alloc o).heap[n]? = w.heap[n]? := heap_alloc_old w o h
set_option maxRecDepth 100000 in
set_option maxHeartbeats 2000000 in
theorem xNext_1 (G : World → Prop) (hG : ∀ W W', G W → Below W.heap.size W W' → G W') (sv : Value) (p : Pv) (E : Int) (hE : (E != 0) = true) (w : World) (g0 : G w)
    (cC : Hid (∀ W, G W → Calls Try.prog 54 #[sv] W (RetB (.int .i64 E) W))) :
    Calls Try.prog 52 #[sv, p.val] w (RetB (two (.slice none 0 0) (.int .i64 E)) w) := by
  obtain ⟨nm, v, fr, en, rp⟩ := p
  simp only [Pv.val]
  have g1 := hG _ _ g0 ((Below.refl _ _).alloc (Nat.le_refl _) (Pv.box ⟨nm, v, fr, en, rp⟩))
  simp only [Pv.box] at g1
  go_enter Try.func52, Try.ntmps52
  go_wp2_with fail
  refine (cC.out _ g1).mono ?_
  rintro e w1 ⟨rfl, hb1⟩
  go_wp2
  go_ret2
  exact ⟨rfl, ((Below.refl _ _).alloc (Nat.le_refl _) _).trans (hb1.mono (by simp))⟩
set_option maxRecDepth 100000 in
set_option maxHeartbeats 4000000 in
theorem xNext_2 (l : List Pv) (G : World → Prop) (hG : ∀ W W', G W → Below W.heap.size W W' → G W') (hGd : ∀ W, G W → G W.drew) (sa : Option Addr) (cap : Nat) (nm : ByteArray) (v fr en : Int) (rp : Bool) (hl : l.length ≤ 1000) (w : World) (g0 : G w) (_ : ∀ W, Below w.heap.size w W → G W)
    (hn : ∀ q ∈ l ++ [⟨nm, v, fr, en, rp⟩], q.name.size ≤ maxLen)
    (cC : Hid (∀ W, G W → Calls Try.prog 54 #[.slice sa l.length cap] W (RetB (.int .i64 0) W)))
    (cS : Hid (∀ W, G W → ∀ ad, sa = some ad → ∀ j u, (pcs l)[j]? = some u → W.cell? (ad.add j) = some u)) (cN : Hid (sa = none → l.length = 0)) (E : Int) (hE : (E != 0) = true)
    (cM : Hid (∀ W g c, PvsAt W g 0 (l ++ [⟨nm, v, fr, en, rp⟩]) → Calls Try.prog 54 #[.slice (some ⟨g, 0, none⟩) (l.length + 1) c] W (RetB (.int .i64 E) W))) :
    Calls Try.prog 52 #[.slice sa l.length cap, Pv.val ⟨nm, v, fr, en, rp⟩] w (RetB (two (.slice none 0 0) (.int .i64 E)) w) := by
  obtain ⟨i0, hi, hz0, hz1, hz2⟩ := info_parts infoPv
  have HN := Lib.hid hn
  clear hn
  simp only [Pv.val]
  have g1 := hG _ _ g0 ((Below.refl _ _).alloc (Nat.le_refl _) (Pv.box ⟨nm, v, fr, en, rp⟩))
  have pb := PBox.new w nm v fr en rp
  simp only [Pv.box] at g1
  go_enter Try.func52, Try.ntmps52
  go_wp2_with fail
  refine (cC.out _ g1).mono ?_
  rintro e w1 ⟨rfl, hb1⟩
  have pb1 := pb.below hb1 (by simp)
  have g2 := hG _ _ g1 hb1
  have s1 := hb1.size
  rw [World.size_alloc] at s1
  have P1 := Lib.hid pb1
  obtain ⟨q0, q1, q2, q3, q4⟩ := pb1
  have GG := Lib.hid g2
  clear pb g1 g2
  go_wp2_with fail
  go_region_held3 (fun w' => w'.cell? ⟨w.heap.size, 0, none⟩ = some (.string nm) ∧ w'.cell? ⟨w.heap.size, 1, none⟩ = some (.int .i64 v) ∧ w'.cell? ⟨w.heap.size, 2, none⟩ = some (.int .i64 fr) ∧ w'.cell? ⟨w.heap.size, 3, none⟩ = some (.int .i64 en) ∧ w'.cell? ⟨w.heap.size, 4, none⟩ = some (.bool rp)) (first | exact ⟨q0, q1, q2, q3, q4⟩ | exact ⟨k0, k1, k2, k3, k4⟩ | exact ⟨j0, j1, j2, j3, j4⟩ | go_keep)
    (first
      | (refine step_app rfl (.tmp 16) (.tmp 17) _ rfl (w.heap.size + 1) (v := .slice (some ⟨_, 0, none⟩) 0 0) (n := 0) (m := l.length) (xs := []) (news := pcs l) Try.underlying68 hi hz0 hz1 hz2 rfl (by decide) rfl rfl ?_ ?_ ?_ ?_ ?_ ?_ ?_ ?_ ?_
         · first | exact World.ownsRow_made w1 #[] 0 (by omega) (Nat.zero_le _) (by simp) | exact (World.ownsRow_made w1 #[] 0 (by omega) (Nat.zero_le _) (by simp)).alloc _ | (rw [← World.size_alloc w1 (.cells #[.string nm, .int .i64 v, .int .i64 fr, .int .i64 en, .bool rp] 70)]; exact World.ownsRow_made (w1.alloc (.cells #[.string nm, .int .i64 v, .int .i64 fr, .int .i64 en, .bool rp] 70)) #[] 0 (by simp; omega) (Nat.zero_le _) (by simp)) | exact World.ownsRow_made (w1.alloc (.cells #[.string nm, .int .i64 v, .int .i64 fr, .int .i64 en, .bool rp] 70)) #[] 0 (by simp; omega) (Nat.zero_le _) (by simp)
         · exact pcs_len l
         · intro ad hs j u hj
           first | exact cS.out _ (hGd _ (hG _ _ GG.out ((Below.refl _ _).alloc (Nat.le_refl _) _))) ad hs j u hj | exact cS.out _ (hGd _ (hG _ _ (hG _ _ GG.out ((Below.refl _ _).alloc (Nat.le_refl _) _)) ((Below.refl _ _).alloc (Nat.le_refl _) _))) ad hs j u hj
         · exact cN.out
         · exact pcs_one_cell
         · unfold maxLen; omega
         · omega
         · simp; omega
         intro v2 w2 hown2 hgrow2
         have B2 : Hid (Below (w.heap.size + 1) w1 w2) := Lib.hid (by first | exact Below.grown (below_dr ((Below.refl _ _).alloc (by omega) _)) hgrow2 (by simp; omega) (by intro k' e'; simp [Value.ownBlock] at e'; omega) | exact Below.grown (below_dr (((Below.refl _ _).alloc (by omega) _).alloc (by simp; omega) _)) hgrow2 (by simp; omega) (by intro k' e'; simp [Value.ownBlock] at e'; omega))
         have hb2s := B2.out.size
         have hg2s := hgrow2.size
         have P2 := Lib.hid (P1.out.below B2.out (by omega))
         obtain ⟨k0, k1, k2, k3, k4⟩ := P2.out)
      | (refine step_app rfl (.tmp 18) (.tmp 20) _ rfl (w.heap.size + 1) (v := v2) (n := 0 + l.length) (m := 1) (xs := [] ++ pcs l) (news := pvC ⟨nm, v, fr, en, rp⟩) Try.underlying68 hi hz0 hz1 hz2 rfl (by decide) rfl rfl ?_ ?_ ?_ ?_ ?_ ?_ ?_ ?_ ?_
         · first | exact hown2 | exact hown2.alloc _
         · rfl
         · intro ad hs
           obtain rfl := Option.some.inj hs
           first | exact World.news_of_block (cs := #[.string nm, .int .i64 v, .int .i64 fr, .int .i64 en, .bool rp]) (heap_alloc_new _ _) | exact World.news_of_block (cs := #[.string nm, .int .i64 v, .int .i64 fr, .int .i64 en, .bool rp]) ((hgrow2.block _ (by simp) (by simp [Value.ownBlock])).trans (heap_new_at (by simp))) | exact World.news_of_block (cs := #[.string nm, .int .i64 v, .int .i64 fr, .int .i64 en, .bool rp]) ((hgrow2.block _ (by simp; omega) (by simp [Value.ownBlock])).trans ((heap_old_at (by simp)).trans (heap_new_at (by simp))))
         · intro c; cases c
         · simp [pvC, Value.oneCell']
         · unfold maxLen; omega
         · omega
         · first | omega | (simp; omega)
         intro v3 w3 hown3 hgrow3
         have B3 : Hid (Below (w.heap.size + 1) w1 w3) := Lib.hid (by first | exact Below.grown B2.out hgrow3 (by first | omega | (simp; omega)) (fun k' e' => (hown2.lt k' e').1) | exact Below.grown (B2.out.alloc (by first | omega | (simp; omega)) _) hgrow3 (by first | omega | (simp; omega)) (fun k' e' => (hown2.lt k' e').1))
         have P3 := Lib.hid (P1.out.below B3.out (by omega))
         obtain ⟨j0, j1, j2, j3, j4⟩ := P3.out))
  all_goals
    rw [List.nil_append] at hown3
    obtain ⟨g3, cap3, rfl, hbg, hlt3⟩ := hown3.form (by omega)
    rw [Nat.zero_add] at hown3
    have HV : PvsAt w3 g3 0 (l ++ [⟨nm, v, fr, en, rp⟩]) := PvsAt.of_own (n := l.length + 1) (by rw [pcs_app, pcs_one]; exact hown3) HN.out
    have HH := Lib.hid HV
    have HLT := Lib.hid hbg
    rw [Nat.zero_add]
    clear HV hown3 hgrow3 hgrow2 hown2 hbg hlt3
    go_wp2_with fail
    refine (cM.out _ _ _ HH.out).mono ?_
    rintro e w4 ⟨rfl, hb4⟩
    go_wp2
    go_ret2
    exact ⟨rfl, ((((Below.refl _ _).alloc (Nat.le_refl _) _).trans (hb1.mono (by simp))).trans (B3.out.mono (by omega))).trans (hb4.mono (by have := B3.out.size; omega))⟩
set_option maxRecDepth 100000 in
set_option maxHeartbeats 4000000 in
theorem xNext_3 (l : List Pv) (G : World → Prop) (hG : ∀ W W', G W → Below W.heap.size W W' → G W') (hGd : ∀ W, G W → G W.drew) (sa : Option Addr) (cap : Nat) (nm : ByteArray) (v fr en : Int) (hl : l.length ≤ 1000) (w : World) (g0 : G w) (hGB : ∀ W, Below w.heap.size w W → G W)
    (hn : ∀ q ∈ l ++ [⟨nm, v, fr, en, true⟩], q.name.size ≤ maxLen)
    (cC : Hid (∀ W, G W → Calls Try.prog 54 #[.slice sa l.length cap] W (RetB (.int .i64 0) W)))
    (cS : Hid (∀ W, G W → ∀ ad, sa = some ad → ∀ j u, (pcs l)[j]? = some u → W.cell? (ad.add j) = some u)) (cN : Hid (sa = none → l.length = 0))
    (cM : Hid (∀ W g c, PvsAt W g 0 (l ++ [⟨nm, v, fr, en, true⟩]) → Calls Try.prog 54 #[.slice (some ⟨g, 0, none⟩) (l.length + 1) c] W (RetB (.int .i64 0) W))) (x : Int)
    (cH : Hid (∀ W, G W → Calls Try.prog 90 #[.slice sa l.length cap, .string nm, .agg #[.int .i64 fr, .int .i64 en]] W (RetB (two (.int .i64 x) (.bool false)) W))) :
    Calls Try.prog 52 #[.slice sa l.length cap, Pv.val ⟨nm, v, fr, en, true⟩] w (RetB (two (.slice none 0 0) (.int .i64 6)) w) := by
  obtain ⟨i0, hi, hz0, hz1, hz2⟩ := info_parts infoPv
  have HN := Lib.hid hn
  clear hn
  simp only [Pv.val]
  have g1 := hG _ _ g0 ((Below.refl _ _).alloc (Nat.le_refl _) (Pv.box ⟨nm, v, fr, en, true⟩))
  have pb := PBox.new w nm v fr en true
  simp only [Pv.box] at g1
  go_enter Try.func52, Try.ntmps52
  go_wp2_with fail
  refine (cC.out _ g1).mono ?_
  rintro e w1 ⟨rfl, hb1⟩
  have pb1 := pb.below hb1 (by simp)
  have g2 := hG _ _ g1 hb1
  have s1 := hb1.size
  rw [World.size_alloc] at s1
  have P1 := Lib.hid pb1
  obtain ⟨q0, q1, q2, q3, q4⟩ := pb1
  have GG := Lib.hid g2
  clear pb g1 g2
  go_wp2_with fail
  go_region_held3 (fun w' => w'.cell? ⟨w.heap.size, 0, none⟩ = some (.string nm) ∧ w'.cell? ⟨w.heap.size, 1, none⟩ = some (.int .i64 v) ∧ w'.cell? ⟨w.heap.size, 2, none⟩ = some (.int .i64 fr) ∧ w'.cell? ⟨w.heap.size, 3, none⟩ = some (.int .i64 en) ∧ w'.cell? ⟨w.heap.size, 4, none⟩ = some (.bool true)) (first | exact ⟨q0, q1, q2, q3, q4⟩ | exact ⟨k0, k1, k2, k3, k4⟩ | exact ⟨j0, j1, j2, j3, j4⟩ | go_keep)
    (first
      | (refine step_app rfl (.tmp 16) (.tmp 17) _ rfl (w.heap.size + 1) (v := .slice (some ⟨_, 0, none⟩) 0 0) (n := 0) (m := l.length) (xs := []) (news := pcs l) Try.underlying68 hi hz0 hz1 hz2 rfl (by decide) rfl rfl ?_ ?_ ?_ ?_ ?_ ?_ ?_ ?_ ?_
         · first | exact World.ownsRow_made w1 #[] 0 (by omega) (Nat.zero_le _) (by simp) | exact (World.ownsRow_made w1 #[] 0 (by omega) (Nat.zero_le _) (by simp)).alloc _ | (rw [← World.size_alloc w1 (.cells #[.string nm, .int .i64 v, .int .i64 fr, .int .i64 en, .bool true] 70)]; exact World.ownsRow_made (w1.alloc (.cells #[.string nm, .int .i64 v, .int .i64 fr, .int .i64 en, .bool true] 70)) #[] 0 (by simp; omega) (Nat.zero_le _) (by simp)) | exact World.ownsRow_made (w1.alloc (.cells #[.string nm, .int .i64 v, .int .i64 fr, .int .i64 en, .bool true] 70)) #[] 0 (by simp; omega) (Nat.zero_le _) (by simp)
         · exact pcs_len l
         · intro ad hs j u hj
           first | exact cS.out _ (hGd _ (hG _ _ GG.out ((Below.refl _ _).alloc (Nat.le_refl _) _))) ad hs j u hj | exact cS.out _ (hGd _ (hG _ _ (hG _ _ GG.out ((Below.refl _ _).alloc (Nat.le_refl _) _)) ((Below.refl _ _).alloc (Nat.le_refl _) _))) ad hs j u hj
         · exact cN.out
         · exact pcs_one_cell
         · unfold maxLen; omega
         · omega
         · simp; omega
         intro v2 w2 hown2 hgrow2
         have B2 : Hid (Below (w.heap.size + 1) w1 w2) := Lib.hid (by first | exact Below.grown (below_dr ((Below.refl _ _).alloc (by omega) _)) hgrow2 (by simp; omega) (by intro k' e'; simp [Value.ownBlock] at e'; omega) | exact Below.grown (below_dr (((Below.refl _ _).alloc (by omega) _).alloc (by simp; omega) _)) hgrow2 (by simp; omega) (by intro k' e'; simp [Value.ownBlock] at e'; omega))
         have hb2s := B2.out.size
         have hg2s := hgrow2.size
         have P2 := Lib.hid (P1.out.below B2.out (by omega))
         obtain ⟨k0, k1, k2, k3, k4⟩ := P2.out)
      | (refine step_app rfl (.tmp 18) (.tmp 20) _ rfl (w.heap.size + 1) (v := v2) (n := 0 + l.length) (m := 1) (xs := [] ++ pcs l) (news := pvC ⟨nm, v, fr, en, true⟩) Try.underlying68 hi hz0 hz1 hz2 rfl (by decide) rfl rfl ?_ ?_ ?_ ?_ ?_ ?_ ?_ ?_ ?_
         · first | exact hown2 | exact hown2.alloc _
         · rfl
         · intro ad hs
           obtain rfl := Option.some.inj hs
           first | exact World.news_of_block (cs := #[.string nm, .int .i64 v, .int .i64 fr, .int .i64 en, .bool true]) (heap_alloc_new _ _) | exact World.news_of_block (cs := #[.string nm, .int .i64 v, .int .i64 fr, .int .i64 en, .bool true]) ((hgrow2.block _ (by simp) (by simp [Value.ownBlock])).trans (heap_new_at (by simp))) | exact World.news_of_block (cs := #[.string nm, .int .i64 v, .int .i64 fr, .int .i64 en, .bool true]) ((hgrow2.block _ (by simp; omega) (by simp [Value.ownBlock])).trans ((heap_old_at (by simp)).trans (heap_new_at (by simp))))
         · intro c; cases c
         · simp [pvC, Value.oneCell']
         · unfold maxLen; omega
         · omega
         · first | omega | (simp; omega)
         intro v3 w3 hown3 hgrow3
         have B3 : Hid (Below (w.heap.size + 1) w1 w3) := Lib.hid (by first | exact Below.grown B2.out hgrow3 (by first | omega | (simp; omega)) (fun k' e' => (hown2.lt k' e').1) | exact Below.grown (B2.out.alloc (by first | omega | (simp; omega)) _) hgrow3 (by first | omega | (simp; omega)) (fun k' e' => (hown2.lt k' e').1))
         have P3 := Lib.hid (P1.out.below B3.out (by omega))
         obtain ⟨j0, j1, j2, j3, j4⟩ := P3.out))
  all_goals
    rw [List.nil_append] at hown3
    obtain ⟨g3, cap3, rfl, hbg, hlt3⟩ := hown3.form (by omega)
    rw [Nat.zero_add] at hown3
    have HV : PvsAt w3 g3 0 (l ++ [⟨nm, v, fr, en, true⟩]) := PvsAt.of_own (n := l.length + 1) (by rw [pcs_app, pcs_one]; exact hown3) HN.out
    have HH := Lib.hid HV
    have HLT := Lib.hid hbg
    rw [Nat.zero_add]
    clear HV hown3 hgrow3 hgrow2 hown2 hbg hlt3
    go_wp2_with fail
    refine (cM.out _ _ _ HH.out).mono ?_
    rintro e w4 ⟨rfl, hb4⟩
    have B4 := Lib.hid (B3.out.trans (hb4.mono (by have := B3.out.size; omega)))
    have P4 := P1.out.below B4.out (by omega)
    obtain ⟨n0, n1, n2, n3, n4⟩ := P4
    have G4 := Lib.hid (hGB _ (Below.trans ((Below.refl _ _).alloc (Nat.le_refl _) _) ((hb1.mono (by simp)).trans (B4.out.mono (by omega)))))
    have V4 := Lib.hid (HH.out.below hb4)
    go_wp2_with fail
    refine (cH.out _ G4.out).mono ?_
    rintro e w5 ⟨rfl, hb5⟩
    have P5 := P1.out.below (B4.out.trans (hb5.mono (by have := B4.out.size; omega))) (by omega)
    obtain ⟨m0, m1, m2, m3, m4⟩ := P5
    have V5 := Lib.hid (V4.out.below hb5)
    go_wp2
    go_ret2
    exact ⟨rfl, (((Below.refl _ _).alloc (Nat.le_refl _) _).trans ((hb1.mono (by simp)).trans (B4.out.mono (by omega)))).trans (hb5.mono (by have := B4.out.size; omega))⟩
set_option maxRecDepth 100000 in
set_option maxHeartbeats 4000000 in
theorem xNext_4 (l : List Pv) (G : World → Prop) (hG : ∀ W W', G W → Below W.heap.size W W' → G W') (hGd : ∀ W, G W → G W.drew) (sa : Option Addr) (cap : Nat) (nm : ByteArray) (v fr en : Int) (hl : l.length ≤ 1000) (w : World) (g0 : G w) (hGB : ∀ W, Below w.heap.size w W → G W)
    (hn : ∀ q ∈ l ++ [⟨nm, v, fr, en, true⟩], q.name.size ≤ maxLen)
    (cC : Hid (∀ W, G W → Calls Try.prog 54 #[.slice sa l.length cap] W (RetB (.int .i64 0) W)))
    (cS : Hid (∀ W, G W → ∀ ad, sa = some ad → ∀ j u, (pcs l)[j]? = some u → W.cell? (ad.add j) = some u)) (cN : Hid (sa = none → l.length = 0))
    (cM : Hid (∀ W g c, PvsAt W g 0 (l ++ [⟨nm, v, fr, en, true⟩]) → Calls Try.prog 54 #[.slice (some ⟨g, 0, none⟩) (l.length + 1) c] W (RetB (.int .i64 0) W))) (x : Int)
    (cH : Hid (∀ W, G W → Calls Try.prog 90 #[.slice sa l.length cap, .string nm, .agg #[.int .i64 fr, .int .i64 en]] W (RetB (two (.int .i64 x) (.bool true)) W))) :
    Calls Try.prog 52 #[.slice sa l.length cap, Pv.val ⟨nm, v, fr, en, true⟩] w (NextOk l ⟨nm, v, fr, en, true⟩ w) := by
  obtain ⟨i0, hi, hz0, hz1, hz2⟩ := info_parts infoPv
  have HN := Lib.hid hn
  clear hn
  simp only [Pv.val]
  have g1 := hG _ _ g0 ((Below.refl _ _).alloc (Nat.le_refl _) (Pv.box ⟨nm, v, fr, en, true⟩))
  have pb := PBox.new w nm v fr en true
  simp only [Pv.box] at g1
  go_enter Try.func52, Try.ntmps52
  go_wp2_with fail
  refine (cC.out _ g1).mono ?_
  rintro e w1 ⟨rfl, hb1⟩
  have pb1 := pb.below hb1 (by simp)
  have g2 := hG _ _ g1 hb1
  have s1 := hb1.size
  rw [World.size_alloc] at s1
  have P1 := Lib.hid pb1
  obtain ⟨q0, q1, q2, q3, q4⟩ := pb1
  have GG := Lib.hid g2
  clear pb g1 g2
  go_wp2_with fail
  go_region_held3 (fun w' => w'.cell? ⟨w.heap.size, 0, none⟩ = some (.string nm) ∧ w'.cell? ⟨w.heap.size, 1, none⟩ = some (.int .i64 v) ∧ w'.cell? ⟨w.heap.size, 2, none⟩ = some (.int .i64 fr) ∧ w'.cell? ⟨w.heap.size, 3, none⟩ = some (.int .i64 en) ∧ w'.cell? ⟨w.heap.size, 4, none⟩ = some (.bool true)) (first | exact ⟨q0, q1, q2, q3, q4⟩ | exact ⟨k0, k1, k2, k3, k4⟩ | exact ⟨j0, j1, j2, j3, j4⟩ | go_keep)
    (first
      | (refine step_app rfl (.tmp 16) (.tmp 17) _ rfl (w.heap.size + 1) (v := .slice (some ⟨_, 0, none⟩) 0 0) (n := 0) (m := l.length) (xs := []) (news := pcs l) Try.underlying68 hi hz0 hz1 hz2 rfl (by decide) rfl rfl ?_ ?_ ?_ ?_ ?_ ?_ ?_ ?_ ?_
         · first | exact World.ownsRow_made w1 #[] 0 (by omega) (Nat.zero_le _) (by simp) | exact (World.ownsRow_made w1 #[] 0 (by omega) (Nat.zero_le _) (by simp)).alloc _ | (rw [← World.size_alloc w1 (.cells #[.string nm, .int .i64 v, .int .i64 fr, .int .i64 en, .bool true] 70)]; exact World.ownsRow_made (w1.alloc (.cells #[.string nm, .int .i64 v, .int .i64 fr, .int .i64 en, .bool true] 70)) #[] 0 (by simp; omega) (Nat.zero_le _) (by simp)) | exact World.ownsRow_made (w1.alloc (.cells #[.string nm, .int .i64 v, .int .i64 fr, .int .i64 en, .bool true] 70)) #[] 0 (by simp; omega) (Nat.zero_le _) (by simp)
         · exact pcs_len l
         · intro ad hs j u hj
           first | exact cS.out _ (hGd _ (hG _ _ GG.out ((Below.refl _ _).alloc (Nat.le_refl _) _))) ad hs j u hj | exact cS.out _ (hGd _ (hG _ _ (hG _ _ GG.out ((Below.refl _ _).alloc (Nat.le_refl _) _)) ((Below.refl _ _).alloc (Nat.le_refl _) _))) ad hs j u hj
         · exact cN.out
         · exact pcs_one_cell
         · unfold maxLen; omega
         · omega
         · simp; omega
         intro v2 w2 hown2 hgrow2
         have B2 : Hid (Below (w.heap.size + 1) w1 w2) := Lib.hid (by first | exact Below.grown (below_dr ((Below.refl _ _).alloc (by omega) _)) hgrow2 (by simp; omega) (by intro k' e'; simp [Value.ownBlock] at e'; omega) | exact Below.grown (below_dr (((Below.refl _ _).alloc (by omega) _).alloc (by simp; omega) _)) hgrow2 (by simp; omega) (by intro k' e'; simp [Value.ownBlock] at e'; omega))
         have hb2s := B2.out.size
         have hg2s := hgrow2.size
         have P2 := Lib.hid (P1.out.below B2.out (by omega))
         obtain ⟨k0, k1, k2, k3, k4⟩ := P2.out)
      | (refine step_app rfl (.tmp 18) (.tmp 20) _ rfl (w.heap.size + 1) (v := v2) (n := 0 + l.length) (m := 1) (xs := [] ++ pcs l) (news := pvC ⟨nm, v, fr, en, true⟩) Try.underlying68 hi hz0 hz1 hz2 rfl (by decide) rfl rfl ?_ ?_ ?_ ?_ ?_ ?_ ?_ ?_ ?_
         · first | exact hown2 | exact hown2.alloc _
         · rfl
         · intro ad hs
           obtain rfl := Option.some.inj hs
           first | exact World.news_of_block (cs := #[.string nm, .int .i64 v, .int .i64 fr, .int .i64 en, .bool true]) (heap_alloc_new _ _) | exact World.news_of_block (cs := #[.string nm, .int .i64 v, .int .i64 fr, .int .i64 en, .bool true]) ((hgrow2.block _ (by simp) (by simp [Value.ownBlock])).trans (heap_new_at (by simp))) | exact World.news_of_block (cs := #[.string nm, .int .i64 v, .int .i64 fr, .int .i64 en, .bool true]) ((hgrow2.block _ (by simp; omega) (by simp [Value.ownBlock])).trans ((heap_old_at (by simp)).trans (heap_new_at (by simp))))
         · intro c; cases c
         · simp [pvC, Value.oneCell']
         · unfold maxLen; omega
         · omega
         · first | omega | (simp; omega)
         intro v3 w3 hown3 hgrow3
         have B3 : Hid (Below (w.heap.size + 1) w1 w3) := Lib.hid (by first | exact Below.grown B2.out hgrow3 (by first | omega | (simp; omega)) (fun k' e' => (hown2.lt k' e').1) | exact Below.grown (B2.out.alloc (by first | omega | (simp; omega)) _) hgrow3 (by first | omega | (simp; omega)) (fun k' e' => (hown2.lt k' e').1))
         have P3 := Lib.hid (P1.out.below B3.out (by omega))
         obtain ⟨j0, j1, j2, j3, j4⟩ := P3.out))
  all_goals
    rw [List.nil_append] at hown3
    obtain ⟨g3, cap3, rfl, hbg, hlt3⟩ := hown3.form (by omega)
    rw [Nat.zero_add] at hown3
    have HV : PvsAt w3 g3 0 (l ++ [⟨nm, v, fr, en, true⟩]) := PvsAt.of_own (n := l.length + 1) (by rw [pcs_app, pcs_one]; exact hown3) HN.out
    have HH := Lib.hid HV
    have HLT := Lib.hid hbg
    rw [Nat.zero_add]
    clear HV hown3 hgrow3 hgrow2 hown2 hbg hlt3
    go_wp2_with fail
    refine (cM.out _ _ _ HH.out).mono ?_
    rintro e w4 ⟨rfl, hb4⟩
    have B4 := Lib.hid (B3.out.trans (hb4.mono (by have := B3.out.size; omega)))
    have P4 := P1.out.below B4.out (by omega)
    obtain ⟨n0, n1, n2, n3, n4⟩ := P4
    have G4 := Lib.hid (hGB _ (Below.trans ((Below.refl _ _).alloc (Nat.le_refl _) _) ((hb1.mono (by simp)).trans (B4.out.mono (by omega)))))
    have V4 := Lib.hid (HH.out.below hb4)
    go_wp2_with fail
    refine (cH.out _ G4.out).mono ?_
    rintro e w5 ⟨rfl, hb5⟩
    have P5 := P1.out.below (B4.out.trans (hb5.mono (by have := B4.out.size; omega))) (by omega)
    obtain ⟨m0, m1, m2, m3, m4⟩ := P5
    have V5 := Lib.hid (V4.out.below hb5)
    go_wp2
    go_ret2
    exact ⟨g3, cap3, rfl, by have := HLT.out; omega, V5.out, (((Below.refl _ _).alloc (Nat.le_refl _) _).trans ((hb1.mono (by simp)).trans (B4.out.mono (by omega)))).trans (hb5.mono (by have := B4.out.size; omega))⟩
set_option maxRecDepth 100000 in
set_option maxHeartbeats 4000000 in
theorem xNext_5 (l : List Pv) (G : World → Prop) (hG : ∀ W W', G W → Below W.heap.size W W' → G W') (hGd : ∀ W, G W → G W.drew) (sa : Option Addr) (cap : Nat) (nm : ByteArray) (v fr en : Int) (hl : l.length ≤ 1000) (w : World) (g0 : G w) (hGB : ∀ W, Below w.heap.size w W → G W)
    (hn : ∀ q ∈ l ++ [⟨nm, v, fr, en, false⟩], q.name.size ≤ maxLen)
    (cC : Hid (∀ W, G W → Calls Try.prog 54 #[.slice sa l.length cap] W (RetB (.int .i64 0) W)))
    (cS : Hid (∀ W, G W → ∀ ad, sa = some ad → ∀ j u, (pcs l)[j]? = some u → W.cell? (ad.add j) = some u)) (cN : Hid (sa = none → l.length = 0))
    (cM : Hid (∀ W g c, PvsAt W g 0 (l ++ [⟨nm, v, fr, en, false⟩]) → Calls Try.prog 54 #[.slice (some ⟨g, 0, none⟩) (l.length + 1) c] W (RetB (.int .i64 0) W))) (x : Int) (bb : Bool)
    (cH : Hid (∀ W, G W → Calls Try.prog 90 #[.slice sa l.length cap, .string nm, .agg #[.int .i64 fr, .int .i64 en]] W (RetB (two (.int .i64 x) (.bool bb)) W))) :
    Calls Try.prog 52 #[.slice sa l.length cap, Pv.val ⟨nm, v, fr, en, false⟩] w (NextOk l ⟨nm, v, fr, en, false⟩ w) := by
  obtain ⟨i0, hi, hz0, hz1, hz2⟩ := info_parts infoPv
  have HN := Lib.hid hn
  clear hn
  simp only [Pv.val]
  have g1 := hG _ _ g0 ((Below.refl _ _).alloc (Nat.le_refl _) (Pv.box ⟨nm, v, fr, en, false⟩))
  have pb := PBox.new w nm v fr en false
  simp only [Pv.box] at g1
  go_enter Try.func52, Try.ntmps52
  go_wp2_with fail
  refine (cC.out _ g1).mono ?_
  rintro e w1 ⟨rfl, hb1⟩
  have pb1 := pb.below hb1 (by simp)
  have g2 := hG _ _ g1 hb1
  have s1 := hb1.size
  rw [World.size_alloc] at s1
  have P1 := Lib.hid pb1
  obtain ⟨q0, q1, q2, q3, q4⟩ := pb1
  have GG := Lib.hid g2
  clear pb g1 g2
  go_wp2_with fail
  go_region_held3 (fun w' => w'.cell? ⟨w.heap.size, 0, none⟩ = some (.string nm) ∧ w'.cell? ⟨w.heap.size, 1, none⟩ = some (.int .i64 v) ∧ w'.cell? ⟨w.heap.size, 2, none⟩ = some (.int .i64 fr) ∧ w'.cell? ⟨w.heap.size, 3, none⟩ = some (.int .i64 en) ∧ w'.cell? ⟨w.heap.size, 4, none⟩ = some (.bool false)) (first | exact ⟨q0, q1, q2, q3, q4⟩ | exact ⟨k0, k1, k2, k3, k4⟩ | exact ⟨j0, j1, j2, j3, j4⟩ | go_keep)
    (first
      | (refine step_app rfl (.tmp 16) (.tmp 17) _ rfl (w.heap.size + 1) (v := .slice (some ⟨_, 0, none⟩) 0 0) (n := 0) (m := l.length) (xs := []) (news := pcs l) Try.underlying68 hi hz0 hz1 hz2 rfl (by decide) rfl rfl ?_ ?_ ?_ ?_ ?_ ?_ ?_ ?_ ?_
         · first | exact World.ownsRow_made w1 #[] 0 (by omega) (Nat.zero_le _) (by simp) | exact (World.ownsRow_made w1 #[] 0 (by omega) (Nat.zero_le _) (by simp)).alloc _ | (rw [← World.size_alloc w1 (.cells #[.string nm, .int .i64 v, .int .i64 fr, .int .i64 en, .bool false] 70)]; exact World.ownsRow_made (w1.alloc (.cells #[.string nm, .int .i64 v, .int .i64 fr, .int .i64 en, .bool false] 70)) #[] 0 (by simp; omega) (Nat.zero_le _) (by simp)) | exact World.ownsRow_made (w1.alloc (.cells #[.string nm, .int .i64 v, .int .i64 fr, .int .i64 en, .bool false] 70)) #[] 0 (by simp; omega) (Nat.zero_le _) (by simp)
         · exact pcs_len l
         · intro ad hs j u hj
           first | exact cS.out _ (hGd _ (hG _ _ GG.out ((Below.refl _ _).alloc (Nat.le_refl _) _))) ad hs j u hj | exact cS.out _ (hGd _ (hG _ _ (hG _ _ GG.out ((Below.refl _ _).alloc (Nat.le_refl _) _)) ((Below.refl _ _).alloc (Nat.le_refl _) _))) ad hs j u hj
         · exact cN.out
         · exact pcs_one_cell
         · unfold maxLen; omega
         · omega
         · simp; omega
         intro v2 w2 hown2 hgrow2
         have B2 : Hid (Below (w.heap.size + 1) w1 w2) := Lib.hid (by first | exact Below.grown (below_dr ((Below.refl _ _).alloc (by omega) _)) hgrow2 (by simp; omega) (by intro k' e'; simp [Value.ownBlock] at e'; omega) | exact Below.grown (below_dr (((Below.refl _ _).alloc (by omega) _).alloc (by simp; omega) _)) hgrow2 (by simp; omega) (by intro k' e'; simp [Value.ownBlock] at e'; omega))
         have hb2s := B2.out.size
         have hg2s := hgrow2.size
         have P2 := Lib.hid (P1.out.below B2.out (by omega))
         obtain ⟨k0, k1, k2, k3, k4⟩ := P2.out)
      | (refine step_app rfl (.tmp 18) (.tmp 20) _ rfl (w.heap.size + 1) (v := v2) (n := 0 + l.length) (m := 1) (xs := [] ++ pcs l) (news := pvC ⟨nm, v, fr, en, false⟩) Try.underlying68 hi hz0 hz1 hz2 rfl (by decide) rfl rfl ?_ ?_ ?_ ?_ ?_ ?_ ?_ ?_ ?_
         · first | exact hown2 | exact hown2.alloc _
         · rfl
         · intro ad hs
           obtain rfl := Option.some.inj hs
           first | exact World.news_of_block (cs := #[.string nm, .int .i64 v, .int .i64 fr, .int .i64 en, .bool false]) (heap_alloc_new _ _) | exact World.news_of_block (cs := #[.string nm, .int .i64 v, .int .i64 fr, .int .i64 en, .bool false]) ((hgrow2.block _ (by simp) (by simp [Value.ownBlock])).trans (heap_new_at (by simp))) | exact World.news_of_block (cs := #[.string nm, .int .i64 v, .int .i64 fr, .int .i64 en, .bool false]) ((hgrow2.block _ (by simp; omega) (by simp [Value.ownBlock])).trans ((heap_old_at (by simp)).trans (heap_new_at (by simp))))
         · intro c; cases c
         · simp [pvC, Value.oneCell']
         · unfold maxLen; omega
         · omega
         · first | omega | (simp; omega)
         intro v3 w3 hown3 hgrow3
         have B3 : Hid (Below (w.heap.size + 1) w1 w3) := Lib.hid (by first | exact Below.grown B2.out hgrow3 (by first | omega | (simp; omega)) (fun k' e' => (hown2.lt k' e').1) | exact Below.grown (B2.out.alloc (by first | omega | (simp; omega)) _) hgrow3 (by first | omega | (simp; omega)) (fun k' e' => (hown2.lt k' e').1))
         have P3 := Lib.hid (P1.out.below B3.out (by omega))
         obtain ⟨j0, j1, j2, j3, j4⟩ := P3.out))
  all_goals
    rw [List.nil_append] at hown3
    obtain ⟨g3, cap3, rfl, hbg, hlt3⟩ := hown3.form (by omega)
    rw [Nat.zero_add] at hown3
    have HV : PvsAt w3 g3 0 (l ++ [⟨nm, v, fr, en, false⟩]) := PvsAt.of_own (n := l.length + 1) (by rw [pcs_app, pcs_one]; exact hown3) HN.out
    have HH := Lib.hid HV
    have HLT := Lib.hid hbg
    rw [Nat.zero_add]
    clear HV hown3 hgrow3 hgrow2 hown2 hbg hlt3
    go_wp2_with fail
    refine (cM.out _ _ _ HH.out).mono ?_
    rintro e w4 ⟨rfl, hb4⟩
    have B4 := Lib.hid (B3.out.trans (hb4.mono (by have := B3.out.size; omega)))
    have P4 := P1.out.below B4.out (by omega)
    obtain ⟨n0, n1, n2, n3, n4⟩ := P4
    have G4 := Lib.hid (hGB _ (Below.trans ((Below.refl _ _).alloc (Nat.le_refl _) _) ((hb1.mono (by simp)).trans (B4.out.mono (by omega)))))
    have V4 := Lib.hid (HH.out.below hb4)
    go_wp2_with fail
    refine (cH.out _ G4.out).mono ?_
    rintro e w5 ⟨rfl, hb5⟩
    have P5 := P1.out.below (B4.out.trans (hb5.mono (by have := B4.out.size; omega))) (by omega)
    obtain ⟨m0, m1, m2, m3, m4⟩ := P5
    have V5 := Lib.hid (V4.out.below hb5)
    go_wp2
    go_ret2
    exact ⟨g3, cap3, rfl, by have := HLT.out; omega, V5.out, (((Below.refl _ _).alloc (Nat.le_refl _) _).trans ((hb1.mono (by simp)).trans (B4.out.mono (by omega)))).trans (hb5.mono (by have := B4.out.size; omega))⟩
end Go.Proofs.Ytfphedcgmaakjaa
