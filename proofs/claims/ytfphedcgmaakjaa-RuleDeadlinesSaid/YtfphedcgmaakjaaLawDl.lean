/-
  RuleDeadlines returns true for every list of holidays, day and period, in every world in which the list lies: the walks.
-/
import Derived.Test.YtfphedcgmaakjaaDl
import Derived.Test.YtfphedcgmaakjaaBelow
namespace Go.Proofs.Ytfphedcgmaakjaa
open Go.RowKit
attribute [local go_sem] set_drewN
/-- the deadline, or that there is none -/
noncomputable def dlRes (l : List Hd) (day mo dy : Int) (wk : Bool) : Option Int :=
  if inB (mlt day mo) 0 200000 then (if wk then addRes l (mlt day mo) dy else (wg (workB l) 1 200001 (mlt day mo + dy))[1 - 1]?) else none
theorem dlRes_some {l : List Hd} {day mo dy x : Int} {wk : Bool} (h : dlRes l day mo dy wk = some x) : inB x 0 200000 = true ∧ workB l x = true := by
  unfold dlRes at h
  split at h
  · split at h
    · exact ⟨addRes_day h, addRes_work h⟩
    · exact ⟨wg_day _ _ _ (List.mem_of_getElem? h), wg_mem _ _ _ (List.mem_of_getElem? h)⟩
  · cases h
theorem Deadline_ok {sa : Option Addr} {sn sc : Nat} {l : List Hd} {G : World → Prop} (hw : Cw sa sn sc l G) (w : World) (g0 : G w) (day mo dy : Int) (wk : Bool) (he : dlE l day mo dy wk = 0) :
    Calls Try.prog 46 #[.slice sa sn sc, .int .i64 day, .agg #[.int .i64 mo, .int .i64 dy, .bool wk]] w (RetB (wres (dlRes l day mo dy wk)) w) := by
  unfold dlRes
  cases hl : inB (mlt day mo) 0 200000
  · exact Deadline_no hw w g0 day mo dy wk he hl
  · cases wk
    · exact Deadline_days hw w g0 day mo dy he hl
    · exact Deadline_wk hw w g0 day mo dy he hl
set_option maxRecDepth 100000 in
set_option maxHeartbeats 2000000 in
theorem xDeadline_any {sa : Option Addr} {sn sc : Nat} {l : List Hd} {G : World → Prop} (hw : Cw sa sn sc l G) (w : World) (g0 : G w) (day mo dy : Int) (wk : Bool) (he : dlE l day mo dy wk = 0) :
    Calls Try.prog 49 #[.slice sa sn sc, .int .i64 day, .agg #[.int .i64 mo, .int .i64 dy, .bool wk]] w (RetB (xres (dlRes l day mo dy wk)) w) := by
  obtain ⟨he0, hday, hpd⟩ := dlE_0 he
  obtain ⟨hmo, hdy⟩ := pdE_0 hpd
  obtain ⟨x0, x9⟩ := inB_iff.1 hday
  obtain ⟨m0, m9⟩ := inB_iff.1 hmo
  have AM := Lib.hid (fun W => xAddMonths_any day mo W x0 (by omega) (by omega) (by omega))
  rw [xa_eq x0] at AM
  unfold dlRes
  cases hl : inB (mlt day mo) 0 200000
  · rw [hl] at AM
    generalize xaN day mo = X at *
    clear hl he hpd hmo hdy
    go_enter Try.func49, Try.ntmps49
    go_wp2_with fail
    refine (AM.out _).mono ?_
    rintro e w1 ⟨rfl, hb1⟩
    go_wp2
    go_ret2
    exact ⟨rfl, ((Below.refl _ _).alloc (Nat.le_refl _) _).trans (hb1.mono (by simp))⟩
  · rw [hl, xa_yes x0 hl] at AM
    obtain ⟨L0, L9⟩ := inB_iff.1 hl
    cases wk
    · simp only [Bool.false_eq_true, if_false] at hdy
      obtain ⟨dy0, dy9⟩ := inB_iff.1 hdy
      generalize mlt day mo = L at *
      simp only [if_true, Bool.false_eq_true, if_false]
      cases h2 : inB (L + dy) 0 200000
      · rw [wg_out _ h2]
        have HL := Lib.hid h2
        have nn : ([] : List Int)[1 - 1]? = none := rfl
        rw [nn]
        simp only [xres]
        clear nn h2 hl he hpd hmo hdy
        go_enter Try.func49, Try.ntmps49
        go_wp2_with fail
        refine (AM.out _).mono ?_
        rintro e w1 ⟨rfl, hb1⟩
        obtain ⟨c0, c1, c2⟩ := (Per.new w mo dy false).keep hb1
        go_wp2_with (go_at_call 23; refine (xIsDay_any _ _).mono ?_; rintro e w' ⟨rfl, rfl⟩; rw [HL.out])
        go_ret2
        exact ⟨rfl, ((Below.refl _ _).alloc (Nat.le_refl _) _).trans (hb1.mono (by simp))⟩
      · have AW := Lib.hid (fun W (hW : G W) => xAddWorking_cal hw he0 W hW (L + dy) 0 h2 rfl)
        have e0 : addRes l (L + dy) 0 = (wg (workB l) 1 200001 (L + dy))[1 - 1]? := by unfold addRes; rw [if_neg (by omega), if_neg (by omega)]
        rw [e0] at AW
        have HL := Lib.hid h2
        generalize (wg (workB l) 1 200001 (L + dy))[1 - 1]? = r at *
        clear e0 h2 hl he hpd hmo hdy
        cases r
        all_goals
          simp only [xres] at AW ⊢
          go_enter Try.func49, Try.ntmps49
          go_wp2_with fail
          refine (AM.out _).mono ?_
          rintro e w1 ⟨rfl, hb1⟩
          obtain ⟨c0, c1, c2⟩ := (Per.new w mo dy false).keep hb1
          have B1 := Lib.hid (((Below.refl _ w).alloc (Nat.le_refl _) _).trans (hb1.mono (by simp)))
          go_wp2_with (first
            | (go_at_call 23; refine (xIsDay_any _ _).mono ?_; rintro e w' ⟨rfl, rfl⟩; rw [HL.out])
            | (go_at_call 43; refine (AW.out _ (hw.below _ _ g0 B1.out)).mono ?_; rintro e w2 ⟨rfl, hb2⟩))
          go_ret2
          exact ⟨rfl, B1.out.trans (hb2.mono B1.out.size)⟩
    · simp only [if_true] at hdy
      have AW := Lib.hid (fun W (hW : G W) => xAddWorking_cal hw he0 W hW (mlt day mo) dy hl (inB_iff.2 ⟨by have := (inB_iff.1 hdy).1; omega, (inB_iff.1 hdy).2⟩))
      simp only [if_true]
      generalize mlt day mo = L at *
      generalize addRes l L dy = r at *
      clear hl he hpd hmo hdy
      cases r
      all_goals
        simp only [xres] at AW ⊢
        go_enter Try.func49, Try.ntmps49
        go_wp2_with fail
        refine (AM.out _).mono ?_
        rintro e w1 ⟨rfl, hb1⟩
        obtain ⟨c0, c1, c2⟩ := (Per.new w mo dy true).keep hb1
        have B1 := Lib.hid (((Below.refl _ w).alloc (Nat.le_refl _) _).trans (hb1.mono (by simp)))
        go_wp2_with (go_at_call 43; refine (AW.out _ (hw.below _ _ g0 B1.out)).mono ?_; rintro e w2 ⟨rfl, hb2⟩)
        go_ret2
        exact ⟨rfl, B1.out.trans (hb2.mono B1.out.size)⟩
set_option maxRecDepth 100000 in
set_option maxHeartbeats 4000000 in
theorem RuleDeadlines_1 {sa : Option Addr} {sn sc : Nat} {l : List Hd} {G : World → Prop} (hw : Cw sa sn sc l G) (w : World) (g0 : G w) (day mo dy : Int) (wk : Bool)
    (cL : Hid (∀ W, G W → Calls Try.prog 33 #[.slice sa sn sc] W (Ret (.bool false) W))) :
    Calls Try.prog 10 #[.slice sa sn sc, .int .i64 day, .agg #[.int .i64 mo, .int .i64 dy, .bool wk]] w (RetB (.bool true) w) := by
  go_enter Try.func10, Try.ntmps10
  go_wp2_with fail
  refine (awake_any _).mono ?_
  rintro e w1 ⟨rfl, hb1⟩
  have P1 := Lib.hid ((Per.new w mo dy wk).keep hb1)
  obtain ⟨c0, c1, c2⟩ := P1.out
  have B1 := Lib.hid (((Below.refl _ w).alloc (Nat.le_refl _) _).trans (hb1.mono (by simp)))
  have G1 := Lib.hid (hw.below _ _ g0 B1.out)
  have s1 := hb1.size
  simp only [World.size_alloc] at s1
  clear hb1
  go_wp2_with (first
    | (go_at_call 33; refine (cL.out _ G1.out).mono ?_; rintro e w' ⟨rfl, rfl⟩)
    | fail)
  go_ret
  exact ⟨rfl, B1.out⟩
set_option maxRecDepth 100000 in
set_option maxHeartbeats 4000000 in
theorem RuleDeadlines_2 {sa : Option Addr} {sn sc : Nat} {l : List Hd} {G : World → Prop} (hw : Cw sa sn sc l G) (w : World) (g0 : G w) (day mo dy : Int) (wk : Bool) (hk : wk = true) (h1 : 60 < dy) (h2 : dy ≤ 2000)
    (cL : Hid (∀ W, G W → Calls Try.prog 33 #[.slice sa sn sc] W (Ret (.bool true) W))) :
    Calls Try.prog 10 #[.slice sa sn sc, .int .i64 day, .agg #[.int .i64 mo, .int .i64 dy, .bool wk]] w (RetB (.bool true) w) := by
  subst hk
  go_enter Try.func10, Try.ntmps10
  go_wp2_with fail
  refine (awake_any _).mono ?_
  rintro e w1 ⟨rfl, hb1⟩
  have P1 := Lib.hid ((Per.new w mo dy true).keep hb1)
  obtain ⟨c0, c1, c2⟩ := P1.out
  have B1 := Lib.hid (((Below.refl _ w).alloc (Nat.le_refl _) _).trans (hb1.mono (by simp)))
  have G1 := Lib.hid (hw.below _ _ g0 B1.out)
  have s1 := hb1.size
  simp only [World.size_alloc] at s1
  clear hb1
  go_wp2_with (first
    | (go_at_call 33; refine (cL.out _ G1.out).mono ?_; rintro e w' ⟨rfl, rfl⟩)
    | fail)
  go_ret
  exact ⟨rfl, B1.out⟩
set_option maxRecDepth 100000 in
set_option maxHeartbeats 4000000 in
theorem RuleDeadlines_3a {sa : Option Addr} {sn sc : Nat} {l : List Hd} {G : World → Prop} (hw : Cw sa sn sc l G) (w : World) (g0 : G w) (day mo dy : Int) (wk : Bool)
    (cL : Hid (∀ W, G W → Calls Try.prog 33 #[.slice sa sn sc] W (Ret (.bool true) W)))
    (hs : wk = false ∨ (wk = true ∧ ¬ 60 < dy) ∨ (wk = true ∧ 60 < dy ∧ ¬ dy ≤ 2000)) (he : chE l ≠ 0) :
    Calls Try.prog 10 #[.slice sa sn sc, .int .i64 day, .agg #[.int .i64 mo, .int .i64 dy, .bool wk]] w (RetB (.bool true) w) := by
  have CP := Lib.hid (fun W => CheckPeriod_any mo dy wk W)
  have XP := Lib.hid (fun W => xCheckPeriod_any mo dy wk W)
  have hX := Lib.hid hw.xchk
  have hD : dlE l day mo dy wk = chE l := by unfold dlE feE; rw [if_neg he]
  have I1 := Lib.hid (fun W (hW : G W) => Deadline_err hw W hW day mo dy wk (by rw [hD]; exact he))
  rw [hD] at I1
  clear hD
  have hb : (chE l != 0) = true := by simpa using he
  have hb0 : (chE l == 0) = false := by simpa using he
  clear he
  generalize chE l = C at *
  generalize pdE mo dy wk = Q at *
  rcases hs with rfl | ⟨rfl, h60⟩ | ⟨rfl, h60, h20⟩
  · go_enter Try.func10, Try.ntmps10
    go_wp2_with fail
    refine (awake_any _).mono ?_
    rintro e w1 ⟨rfl, hb1⟩
    have P1 := Lib.hid ((Per.new w mo dy false).keep hb1)
    obtain ⟨c0, c1, c2⟩ := P1.out
    have B1 := Lib.hid (((Below.refl _ w).alloc (Nat.le_refl _) _).trans (hb1.mono (by simp)))
    have G1 := Lib.hid (hw.below _ _ g0 B1.out)
    have s1 := hb1.size
    simp only [World.size_alloc] at s1
    clear hb1
    go_wp2_with (first
      | (go_at_call 33; refine (cL.out _ G1.out).mono ?_; rintro e w' ⟨rfl, rfl⟩)
      | fail)
    refine (I1.out _ G1.out).mono ?_
    rintro e w2 ⟨rfl, hb2⟩
    have P2 := Lib.hid (P1.out.keep hb2)
    obtain ⟨d0, d1, d2⟩ := P2.out
    have B2 := Lib.hid (B1.out.trans (hb2.mono (by omega)))
    have s2 := hb2.size
    clear hb2
    go_wp2_with fail
    go_region_held3 (fun w' => w'.cell? ⟨w.heap.size, 0, none⟩ = some (.int .i64 mo) ∧ w'.cell? ⟨w.heap.size, 1, none⟩ = some (.int .i64 dy) ∧ w'.cell? ⟨w.heap.size, 2, none⟩ = some (.bool false)) (first | exact ⟨d0, d1, d2⟩ | exact ⟨k0, k1, k2⟩ | exact ⟨j0, j1, j2⟩ | go_keep)
      (first
        | (go_at_call 47
           refine (CP.out _).mono ?_
           rintro e w3 ⟨rfl, hb3⟩
           have P3 : Hid (Per w3 w.heap.size mo dy false) := Lib.hid ((P2.out.keep (below_dr (Below.refl _ _))).keep hb3)
           obtain ⟨k0, k1, k2⟩ := P3.out
           have B3 : Hid (Below w.heap.size w w3) := Lib.hid ((below_dr B2.out).trans (hb3.mono (by simp; omega)))
           have s3 : w2.heap.size ≤ w3.heap.size := by have h3 := hb3.size; first | exact h3 | (simp at h3; omega))
        | (go_at_call 48
           refine (XP.out _).mono ?_
           rintro e w4 ⟨rfl, hb4⟩
           have P4 : Hid (Per w4 w.heap.size mo dy false) := Lib.hid (P3.out.keep hb4)
           obtain ⟨j0, j1, j2⟩ := P4.out
           have B4 : Hid (Below w.heap.size w w4) := Lib.hid (B3.out.trans (hb4.mono (by omega)))
           have s4 : w3.heap.size ≤ w4.heap.size := hb4.size))
    all_goals
      go_wp2_with fail
      refine (hX.out _ (hw.below _ _ g0 B4.out)).mono ?_
      rintro e w5 ⟨rfl, hb5⟩
      have P5 := Lib.hid (P4.out.keep hb5)
      obtain ⟨n0, n1, n2⟩ := P5.out
      have B5 := Lib.hid (B4.out.trans (hb5.mono (by omega)))
      have s5 := hb5.size
      clear hb5
      go_wp2
      go_ret
      exact ⟨rfl, B5.out⟩
  · have g60 : decide (60 < dy) = false := by simpa using h60
    go_enter Try.func10, Try.ntmps10
    go_wp2_with fail
    refine (awake_any _).mono ?_
    rintro e w1 ⟨rfl, hb1⟩
    have P1 := Lib.hid ((Per.new w mo dy true).keep hb1)
    obtain ⟨c0, c1, c2⟩ := P1.out
    have B1 := Lib.hid (((Below.refl _ w).alloc (Nat.le_refl _) _).trans (hb1.mono (by simp)))
    have G1 := Lib.hid (hw.below _ _ g0 B1.out)
    have s1 := hb1.size
    simp only [World.size_alloc] at s1
    clear hb1
    go_wp2_with (first
      | (go_at_call 33; refine (cL.out _ G1.out).mono ?_; rintro e w' ⟨rfl, rfl⟩)
      | fail)
    refine (I1.out _ G1.out).mono ?_
    rintro e w2 ⟨rfl, hb2⟩
    have P2 := Lib.hid (P1.out.keep hb2)
    obtain ⟨d0, d1, d2⟩ := P2.out
    have B2 := Lib.hid (B1.out.trans (hb2.mono (by omega)))
    have s2 := hb2.size
    clear hb2
    go_wp2_with fail
    go_region_held3 (fun w' => w'.cell? ⟨w.heap.size, 0, none⟩ = some (.int .i64 mo) ∧ w'.cell? ⟨w.heap.size, 1, none⟩ = some (.int .i64 dy) ∧ w'.cell? ⟨w.heap.size, 2, none⟩ = some (.bool true)) (first | exact ⟨d0, d1, d2⟩ | exact ⟨k0, k1, k2⟩ | exact ⟨j0, j1, j2⟩ | go_keep)
      (first
        | (go_at_call 47
           refine (CP.out _).mono ?_
           rintro e w3 ⟨rfl, hb3⟩
           have P3 : Hid (Per w3 w.heap.size mo dy true) := Lib.hid ((P2.out.keep (below_dr (Below.refl _ _))).keep hb3)
           obtain ⟨k0, k1, k2⟩ := P3.out
           have B3 : Hid (Below w.heap.size w w3) := Lib.hid ((below_dr B2.out).trans (hb3.mono (by simp; omega)))
           have s3 : w2.heap.size ≤ w3.heap.size := by have h3 := hb3.size; first | exact h3 | (simp at h3; omega))
        | (go_at_call 48
           refine (XP.out _).mono ?_
           rintro e w4 ⟨rfl, hb4⟩
           have P4 : Hid (Per w4 w.heap.size mo dy true) := Lib.hid (P3.out.keep hb4)
           obtain ⟨j0, j1, j2⟩ := P4.out
           have B4 : Hid (Below w.heap.size w w4) := Lib.hid (B3.out.trans (hb4.mono (by omega)))
           have s4 : w3.heap.size ≤ w4.heap.size := hb4.size))
    all_goals
      go_wp2_with fail
      refine (hX.out _ (hw.below _ _ g0 B4.out)).mono ?_
      rintro e w5 ⟨rfl, hb5⟩
      have P5 := Lib.hid (P4.out.keep hb5)
      obtain ⟨n0, n1, n2⟩ := P5.out
      have B5 := Lib.hid (B4.out.trans (hb5.mono (by omega)))
      have s5 := hb5.size
      clear hb5
      go_wp2
      go_ret
      exact ⟨rfl, B5.out⟩
  · have g20 : decide (dy ≤ 2000) = false := by simpa using h20
    go_enter Try.func10, Try.ntmps10
    go_wp2_with fail
    refine (awake_any _).mono ?_
    rintro e w1 ⟨rfl, hb1⟩
    have P1 := Lib.hid ((Per.new w mo dy true).keep hb1)
    obtain ⟨c0, c1, c2⟩ := P1.out
    have B1 := Lib.hid (((Below.refl _ w).alloc (Nat.le_refl _) _).trans (hb1.mono (by simp)))
    have G1 := Lib.hid (hw.below _ _ g0 B1.out)
    have s1 := hb1.size
    simp only [World.size_alloc] at s1
    clear hb1
    go_wp2_with (first
      | (go_at_call 33; refine (cL.out _ G1.out).mono ?_; rintro e w' ⟨rfl, rfl⟩)
      | fail)
    refine (I1.out _ G1.out).mono ?_
    rintro e w2 ⟨rfl, hb2⟩
    have P2 := Lib.hid (P1.out.keep hb2)
    obtain ⟨d0, d1, d2⟩ := P2.out
    have B2 := Lib.hid (B1.out.trans (hb2.mono (by omega)))
    have s2 := hb2.size
    clear hb2
    go_wp2_with fail
    go_region_held3 (fun w' => w'.cell? ⟨w.heap.size, 0, none⟩ = some (.int .i64 mo) ∧ w'.cell? ⟨w.heap.size, 1, none⟩ = some (.int .i64 dy) ∧ w'.cell? ⟨w.heap.size, 2, none⟩ = some (.bool true)) (first | exact ⟨d0, d1, d2⟩ | exact ⟨k0, k1, k2⟩ | exact ⟨j0, j1, j2⟩ | go_keep)
      (first
        | (go_at_call 47
           refine (CP.out _).mono ?_
           rintro e w3 ⟨rfl, hb3⟩
           have P3 : Hid (Per w3 w.heap.size mo dy true) := Lib.hid ((P2.out.keep (below_dr (Below.refl _ _))).keep hb3)
           obtain ⟨k0, k1, k2⟩ := P3.out
           have B3 : Hid (Below w.heap.size w w3) := Lib.hid ((below_dr B2.out).trans (hb3.mono (by simp; omega)))
           have s3 : w2.heap.size ≤ w3.heap.size := by have h3 := hb3.size; first | exact h3 | (simp at h3; omega))
        | (go_at_call 48
           refine (XP.out _).mono ?_
           rintro e w4 ⟨rfl, hb4⟩
           have P4 : Hid (Per w4 w.heap.size mo dy true) := Lib.hid (P3.out.keep hb4)
           obtain ⟨j0, j1, j2⟩ := P4.out
           have B4 : Hid (Below w.heap.size w w4) := Lib.hid (B3.out.trans (hb4.mono (by omega)))
           have s4 : w3.heap.size ≤ w4.heap.size := hb4.size))
    all_goals
      go_wp2_with fail
      refine (hX.out _ (hw.below _ _ g0 B4.out)).mono ?_
      rintro e w5 ⟨rfl, hb5⟩
      have P5 := Lib.hid (P4.out.keep hb5)
      obtain ⟨n0, n1, n2⟩ := P5.out
      have B5 := Lib.hid (B4.out.trans (hb5.mono (by omega)))
      have s5 := hb5.size
      clear hb5
      go_wp2
      go_ret
      exact ⟨rfl, B5.out⟩
set_option maxRecDepth 100000 in
set_option maxHeartbeats 4000000 in
theorem RuleDeadlines_3b {sa : Option Addr} {sn sc : Nat} {l : List Hd} {G : World → Prop} (hw : Cw sa sn sc l G) (w : World) (g0 : G w) (day mo dy : Int) (wk : Bool)
    (cL : Hid (∀ W, G W → Calls Try.prog 33 #[.slice sa sn sc] W (Ret (.bool true) W)))
    (hs : wk = false ∨ (wk = true ∧ ¬ 60 < dy) ∨ (wk = true ∧ 60 < dy ∧ ¬ dy ≤ 2000)) (he : chE l = 0) (hd : inB day 0 200000 = false) :
    Calls Try.prog 10 #[.slice sa sn sc, .int .i64 day, .agg #[.int .i64 mo, .int .i64 dy, .bool wk]] w (RetB (.bool true) w) := by
  have CP := Lib.hid (fun W => CheckPeriod_any mo dy wk W)
  have XP := Lib.hid (fun W => xCheckPeriod_any mo dy wk W)
  have hX := Lib.hid hw.xchk
  have hD : dlE l day mo dy wk = 2 := by unfold dlE; rw [he, cdE_1n hd]; rfl
  have I1 := Lib.hid (fun W (hW : G W) => Deadline_err hw W hW day mo dy wk (by rw [hD]; decide))
  rw [hD] at I1
  rw [he] at hX
  have HD := Lib.hid hd
  clear hD he hd
  generalize pdE mo dy wk = Q at *
  rcases hs with rfl | ⟨rfl, h60⟩ | ⟨rfl, h60, h20⟩
  · go_enter Try.func10, Try.ntmps10
    go_wp2_with fail
    refine (awake_any _).mono ?_
    rintro e w1 ⟨rfl, hb1⟩
    have P1 := Lib.hid ((Per.new w mo dy false).keep hb1)
    obtain ⟨c0, c1, c2⟩ := P1.out
    have B1 := Lib.hid (((Below.refl _ w).alloc (Nat.le_refl _) _).trans (hb1.mono (by simp)))
    have G1 := Lib.hid (hw.below _ _ g0 B1.out)
    have s1 := hb1.size
    simp only [World.size_alloc] at s1
    clear hb1
    go_wp2_with (first
      | (go_at_call 33; refine (cL.out _ G1.out).mono ?_; rintro e w' ⟨rfl, rfl⟩)
      | fail)
    refine (I1.out _ G1.out).mono ?_
    rintro e w2 ⟨rfl, hb2⟩
    have P2 := Lib.hid (P1.out.keep hb2)
    obtain ⟨d0, d1, d2⟩ := P2.out
    have B2 := Lib.hid (B1.out.trans (hb2.mono (by omega)))
    have s2 := hb2.size
    clear hb2
    go_wp2_with fail
    go_region_held3 (fun w' => w'.cell? ⟨w.heap.size, 0, none⟩ = some (.int .i64 mo) ∧ w'.cell? ⟨w.heap.size, 1, none⟩ = some (.int .i64 dy) ∧ w'.cell? ⟨w.heap.size, 2, none⟩ = some (.bool false)) (first | exact ⟨d0, d1, d2⟩ | exact ⟨k0, k1, k2⟩ | exact ⟨j0, j1, j2⟩ | go_keep)
      (first
        | (go_at_call 47
           refine (CP.out _).mono ?_
           rintro e w3 ⟨rfl, hb3⟩
           have P3 : Hid (Per w3 w.heap.size mo dy false) := Lib.hid ((P2.out.keep (below_dr (Below.refl _ _))).keep hb3)
           obtain ⟨k0, k1, k2⟩ := P3.out
           have B3 : Hid (Below w.heap.size w w3) := Lib.hid ((below_dr B2.out).trans (hb3.mono (by simp; omega)))
           have s3 : w2.heap.size ≤ w3.heap.size := by have h3 := hb3.size; first | exact h3 | (simp at h3; omega))
        | (go_at_call 48
           refine (XP.out _).mono ?_
           rintro e w4 ⟨rfl, hb4⟩
           have P4 : Hid (Per w4 w.heap.size mo dy false) := Lib.hid (P3.out.keep hb4)
           obtain ⟨j0, j1, j2⟩ := P4.out
           have B4 : Hid (Below w.heap.size w w4) := Lib.hid (B3.out.trans (hb4.mono (by omega)))
           have s4 : w3.heap.size ≤ w4.heap.size := hb4.size))
    all_goals
      go_wp2_with fail
      refine (hX.out _ (hw.below _ _ g0 B4.out)).mono ?_
      rintro e w5 ⟨rfl, hb5⟩
      have P5 := Lib.hid (P4.out.keep hb5)
      obtain ⟨n0, n1, n2⟩ := P5.out
      have B5 := Lib.hid (B4.out.trans (hb5.mono (by omega)))
      have s5 := hb5.size
      clear hb5
      go_wp2_with (first
        | (go_at_call 23; refine (xIsDay_any _ _).mono ?_; rintro e w' ⟨rfl, rfl⟩; rw [HD.out])
        | fail)
      go_ret
      exact ⟨rfl, B5.out⟩
  · have g60 : decide (60 < dy) = false := by simpa using h60
    go_enter Try.func10, Try.ntmps10
    go_wp2_with fail
    refine (awake_any _).mono ?_
    rintro e w1 ⟨rfl, hb1⟩
    have P1 := Lib.hid ((Per.new w mo dy true).keep hb1)
    obtain ⟨c0, c1, c2⟩ := P1.out
    have B1 := Lib.hid (((Below.refl _ w).alloc (Nat.le_refl _) _).trans (hb1.mono (by simp)))
    have G1 := Lib.hid (hw.below _ _ g0 B1.out)
    have s1 := hb1.size
    simp only [World.size_alloc] at s1
    clear hb1
    go_wp2_with (first
      | (go_at_call 33; refine (cL.out _ G1.out).mono ?_; rintro e w' ⟨rfl, rfl⟩)
      | fail)
    refine (I1.out _ G1.out).mono ?_
    rintro e w2 ⟨rfl, hb2⟩
    have P2 := Lib.hid (P1.out.keep hb2)
    obtain ⟨d0, d1, d2⟩ := P2.out
    have B2 := Lib.hid (B1.out.trans (hb2.mono (by omega)))
    have s2 := hb2.size
    clear hb2
    go_wp2_with fail
    go_region_held3 (fun w' => w'.cell? ⟨w.heap.size, 0, none⟩ = some (.int .i64 mo) ∧ w'.cell? ⟨w.heap.size, 1, none⟩ = some (.int .i64 dy) ∧ w'.cell? ⟨w.heap.size, 2, none⟩ = some (.bool true)) (first | exact ⟨d0, d1, d2⟩ | exact ⟨k0, k1, k2⟩ | exact ⟨j0, j1, j2⟩ | go_keep)
      (first
        | (go_at_call 47
           refine (CP.out _).mono ?_
           rintro e w3 ⟨rfl, hb3⟩
           have P3 : Hid (Per w3 w.heap.size mo dy true) := Lib.hid ((P2.out.keep (below_dr (Below.refl _ _))).keep hb3)
           obtain ⟨k0, k1, k2⟩ := P3.out
           have B3 : Hid (Below w.heap.size w w3) := Lib.hid ((below_dr B2.out).trans (hb3.mono (by simp; omega)))
           have s3 : w2.heap.size ≤ w3.heap.size := by have h3 := hb3.size; first | exact h3 | (simp at h3; omega))
        | (go_at_call 48
           refine (XP.out _).mono ?_
           rintro e w4 ⟨rfl, hb4⟩
           have P4 : Hid (Per w4 w.heap.size mo dy true) := Lib.hid (P3.out.keep hb4)
           obtain ⟨j0, j1, j2⟩ := P4.out
           have B4 : Hid (Below w.heap.size w w4) := Lib.hid (B3.out.trans (hb4.mono (by omega)))
           have s4 : w3.heap.size ≤ w4.heap.size := hb4.size))
    all_goals
      go_wp2_with fail
      refine (hX.out _ (hw.below _ _ g0 B4.out)).mono ?_
      rintro e w5 ⟨rfl, hb5⟩
      have P5 := Lib.hid (P4.out.keep hb5)
      obtain ⟨n0, n1, n2⟩ := P5.out
      have B5 := Lib.hid (B4.out.trans (hb5.mono (by omega)))
      have s5 := hb5.size
      clear hb5
      go_wp2_with (first
        | (go_at_call 23; refine (xIsDay_any _ _).mono ?_; rintro e w' ⟨rfl, rfl⟩; rw [HD.out])
        | fail)
      go_ret
      exact ⟨rfl, B5.out⟩
  · have g20 : decide (dy ≤ 2000) = false := by simpa using h20
    go_enter Try.func10, Try.ntmps10
    go_wp2_with fail
    refine (awake_any _).mono ?_
    rintro e w1 ⟨rfl, hb1⟩
    have P1 := Lib.hid ((Per.new w mo dy true).keep hb1)
    obtain ⟨c0, c1, c2⟩ := P1.out
    have B1 := Lib.hid (((Below.refl _ w).alloc (Nat.le_refl _) _).trans (hb1.mono (by simp)))
    have G1 := Lib.hid (hw.below _ _ g0 B1.out)
    have s1 := hb1.size
    simp only [World.size_alloc] at s1
    clear hb1
    go_wp2_with (first
      | (go_at_call 33; refine (cL.out _ G1.out).mono ?_; rintro e w' ⟨rfl, rfl⟩)
      | fail)
    refine (I1.out _ G1.out).mono ?_
    rintro e w2 ⟨rfl, hb2⟩
    have P2 := Lib.hid (P1.out.keep hb2)
    obtain ⟨d0, d1, d2⟩ := P2.out
    have B2 := Lib.hid (B1.out.trans (hb2.mono (by omega)))
    have s2 := hb2.size
    clear hb2
    go_wp2_with fail
    go_region_held3 (fun w' => w'.cell? ⟨w.heap.size, 0, none⟩ = some (.int .i64 mo) ∧ w'.cell? ⟨w.heap.size, 1, none⟩ = some (.int .i64 dy) ∧ w'.cell? ⟨w.heap.size, 2, none⟩ = some (.bool true)) (first | exact ⟨d0, d1, d2⟩ | exact ⟨k0, k1, k2⟩ | exact ⟨j0, j1, j2⟩ | go_keep)
      (first
        | (go_at_call 47
           refine (CP.out _).mono ?_
           rintro e w3 ⟨rfl, hb3⟩
           have P3 : Hid (Per w3 w.heap.size mo dy true) := Lib.hid ((P2.out.keep (below_dr (Below.refl _ _))).keep hb3)
           obtain ⟨k0, k1, k2⟩ := P3.out
           have B3 : Hid (Below w.heap.size w w3) := Lib.hid ((below_dr B2.out).trans (hb3.mono (by simp; omega)))
           have s3 : w2.heap.size ≤ w3.heap.size := by have h3 := hb3.size; first | exact h3 | (simp at h3; omega))
        | (go_at_call 48
           refine (XP.out _).mono ?_
           rintro e w4 ⟨rfl, hb4⟩
           have P4 : Hid (Per w4 w.heap.size mo dy true) := Lib.hid (P3.out.keep hb4)
           obtain ⟨j0, j1, j2⟩ := P4.out
           have B4 : Hid (Below w.heap.size w w4) := Lib.hid (B3.out.trans (hb4.mono (by omega)))
           have s4 : w3.heap.size ≤ w4.heap.size := hb4.size))
    all_goals
      go_wp2_with fail
      refine (hX.out _ (hw.below _ _ g0 B4.out)).mono ?_
      rintro e w5 ⟨rfl, hb5⟩
      have P5 := Lib.hid (P4.out.keep hb5)
      obtain ⟨n0, n1, n2⟩ := P5.out
      have B5 := Lib.hid (B4.out.trans (hb5.mono (by omega)))
      have s5 := hb5.size
      clear hb5
      go_wp2_with (first
        | (go_at_call 23; refine (xIsDay_any _ _).mono ?_; rintro e w' ⟨rfl, rfl⟩; rw [HD.out])
        | fail)
      go_ret
      exact ⟨rfl, B5.out⟩
set_option maxRecDepth 100000 in
set_option maxHeartbeats 4000000 in
theorem RuleDeadlines_3c {sa : Option Addr} {sn sc : Nat} {l : List Hd} {G : World → Prop} (hw : Cw sa sn sc l G) (w : World) (g0 : G w) (day mo dy : Int) (wk : Bool)
    (cL : Hid (∀ W, G W → Calls Try.prog 33 #[.slice sa sn sc] W (Ret (.bool true) W)))
    (hs : wk = false ∨ (wk = true ∧ ¬ 60 < dy) ∨ (wk = true ∧ 60 < dy ∧ ¬ dy ≤ 2000)) (he : chE l = 0) (hd : inB day 0 200000 = true) (hp : pdE mo dy wk ≠ 0) :
    Calls Try.prog 10 #[.slice sa sn sc, .int .i64 day, .agg #[.int .i64 mo, .int .i64 dy, .bool wk]] w (RetB (.bool true) w) := by
  have CP := Lib.hid (fun W => CheckPeriod_any mo dy wk W)
  have XP := Lib.hid (fun W => xCheckPeriod_any mo dy wk W)
  have hX := Lib.hid hw.xchk
  have hD : dlE l day mo dy wk = pdE mo dy wk := by unfold dlE; rw [he, cdE_1 hd]; simp [feE, hp]
  have I1 := Lib.hid (fun W (hW : G W) => Deadline_err hw W hW day mo dy wk (by rw [hD]; exact hp))
  rw [hD] at I1
  rw [he] at hX
  have hb : (pdE mo dy wk != 0) = true := by simpa using hp
  have HD := Lib.hid hd
  clear hD he hd hp
  generalize pdE mo dy wk = Q at *
  rcases hs with rfl | ⟨rfl, h60⟩ | ⟨rfl, h60, h20⟩
  · go_enter Try.func10, Try.ntmps10
    go_wp2_with fail
    refine (awake_any _).mono ?_
    rintro e w1 ⟨rfl, hb1⟩
    have P1 := Lib.hid ((Per.new w mo dy false).keep hb1)
    obtain ⟨c0, c1, c2⟩ := P1.out
    have B1 := Lib.hid (((Below.refl _ w).alloc (Nat.le_refl _) _).trans (hb1.mono (by simp)))
    have G1 := Lib.hid (hw.below _ _ g0 B1.out)
    have s1 := hb1.size
    simp only [World.size_alloc] at s1
    clear hb1
    go_wp2_with (first
      | (go_at_call 33; refine (cL.out _ G1.out).mono ?_; rintro e w' ⟨rfl, rfl⟩)
      | fail)
    refine (I1.out _ G1.out).mono ?_
    rintro e w2 ⟨rfl, hb2⟩
    have P2 := Lib.hid (P1.out.keep hb2)
    obtain ⟨d0, d1, d2⟩ := P2.out
    have B2 := Lib.hid (B1.out.trans (hb2.mono (by omega)))
    have s2 := hb2.size
    clear hb2
    go_wp2_with fail
    go_region_held3 (fun w' => w'.cell? ⟨w.heap.size, 0, none⟩ = some (.int .i64 mo) ∧ w'.cell? ⟨w.heap.size, 1, none⟩ = some (.int .i64 dy) ∧ w'.cell? ⟨w.heap.size, 2, none⟩ = some (.bool false)) (first | exact ⟨d0, d1, d2⟩ | exact ⟨k0, k1, k2⟩ | exact ⟨j0, j1, j2⟩ | go_keep)
      (first
        | (go_at_call 47
           refine (CP.out _).mono ?_
           rintro e w3 ⟨rfl, hb3⟩
           have P3 : Hid (Per w3 w.heap.size mo dy false) := Lib.hid ((P2.out.keep (below_dr (Below.refl _ _))).keep hb3)
           obtain ⟨k0, k1, k2⟩ := P3.out
           have B3 : Hid (Below w.heap.size w w3) := Lib.hid ((below_dr B2.out).trans (hb3.mono (by simp; omega)))
           have s3 : w2.heap.size ≤ w3.heap.size := by have h3 := hb3.size; first | exact h3 | (simp at h3; omega))
        | (go_at_call 48
           refine (XP.out _).mono ?_
           rintro e w4 ⟨rfl, hb4⟩
           have P4 : Hid (Per w4 w.heap.size mo dy false) := Lib.hid (P3.out.keep hb4)
           obtain ⟨j0, j1, j2⟩ := P4.out
           have B4 : Hid (Below w.heap.size w w4) := Lib.hid (B3.out.trans (hb4.mono (by omega)))
           have s4 : w3.heap.size ≤ w4.heap.size := hb4.size))
    all_goals
      go_wp2_with fail
      refine (hX.out _ (hw.below _ _ g0 B4.out)).mono ?_
      rintro e w5 ⟨rfl, hb5⟩
      have P5 := Lib.hid (P4.out.keep hb5)
      obtain ⟨n0, n1, n2⟩ := P5.out
      have B5 := Lib.hid (B4.out.trans (hb5.mono (by omega)))
      have s5 := hb5.size
      clear hb5
      go_wp2_with (first
        | (go_at_call 23; refine (xIsDay_any _ _).mono ?_; rintro e w' ⟨rfl, rfl⟩; rw [HD.out])
        | fail)
      refine (XP.out _).mono ?_
      rintro e w6 ⟨rfl, hb6⟩
      have P6 := Lib.hid (P5.out.keep hb6)
      obtain ⟨p0, p1, p2⟩ := P6.out
      have B6 := Lib.hid (B5.out.trans (hb6.mono (by omega)))
      have s6 := hb6.size
      clear hb6
      go_wp2
      go_ret
      exact ⟨rfl, B6.out⟩
  · have g60 : decide (60 < dy) = false := by simpa using h60
    go_enter Try.func10, Try.ntmps10
    go_wp2_with fail
    refine (awake_any _).mono ?_
    rintro e w1 ⟨rfl, hb1⟩
    have P1 := Lib.hid ((Per.new w mo dy true).keep hb1)
    obtain ⟨c0, c1, c2⟩ := P1.out
    have B1 := Lib.hid (((Below.refl _ w).alloc (Nat.le_refl _) _).trans (hb1.mono (by simp)))
    have G1 := Lib.hid (hw.below _ _ g0 B1.out)
    have s1 := hb1.size
    simp only [World.size_alloc] at s1
    clear hb1
    go_wp2_with (first
      | (go_at_call 33; refine (cL.out _ G1.out).mono ?_; rintro e w' ⟨rfl, rfl⟩)
      | fail)
    refine (I1.out _ G1.out).mono ?_
    rintro e w2 ⟨rfl, hb2⟩
    have P2 := Lib.hid (P1.out.keep hb2)
    obtain ⟨d0, d1, d2⟩ := P2.out
    have B2 := Lib.hid (B1.out.trans (hb2.mono (by omega)))
    have s2 := hb2.size
    clear hb2
    go_wp2_with fail
    go_region_held3 (fun w' => w'.cell? ⟨w.heap.size, 0, none⟩ = some (.int .i64 mo) ∧ w'.cell? ⟨w.heap.size, 1, none⟩ = some (.int .i64 dy) ∧ w'.cell? ⟨w.heap.size, 2, none⟩ = some (.bool true)) (first | exact ⟨d0, d1, d2⟩ | exact ⟨k0, k1, k2⟩ | exact ⟨j0, j1, j2⟩ | go_keep)
      (first
        | (go_at_call 47
           refine (CP.out _).mono ?_
           rintro e w3 ⟨rfl, hb3⟩
           have P3 : Hid (Per w3 w.heap.size mo dy true) := Lib.hid ((P2.out.keep (below_dr (Below.refl _ _))).keep hb3)
           obtain ⟨k0, k1, k2⟩ := P3.out
           have B3 : Hid (Below w.heap.size w w3) := Lib.hid ((below_dr B2.out).trans (hb3.mono (by simp; omega)))
           have s3 : w2.heap.size ≤ w3.heap.size := by have h3 := hb3.size; first | exact h3 | (simp at h3; omega))
        | (go_at_call 48
           refine (XP.out _).mono ?_
           rintro e w4 ⟨rfl, hb4⟩
           have P4 : Hid (Per w4 w.heap.size mo dy true) := Lib.hid (P3.out.keep hb4)
           obtain ⟨j0, j1, j2⟩ := P4.out
           have B4 : Hid (Below w.heap.size w w4) := Lib.hid (B3.out.trans (hb4.mono (by omega)))
           have s4 : w3.heap.size ≤ w4.heap.size := hb4.size))
    all_goals
      go_wp2_with fail
      refine (hX.out _ (hw.below _ _ g0 B4.out)).mono ?_
      rintro e w5 ⟨rfl, hb5⟩
      have P5 := Lib.hid (P4.out.keep hb5)
      obtain ⟨n0, n1, n2⟩ := P5.out
      have B5 := Lib.hid (B4.out.trans (hb5.mono (by omega)))
      have s5 := hb5.size
      clear hb5
      go_wp2_with (first
        | (go_at_call 23; refine (xIsDay_any _ _).mono ?_; rintro e w' ⟨rfl, rfl⟩; rw [HD.out])
        | fail)
      refine (XP.out _).mono ?_
      rintro e w6 ⟨rfl, hb6⟩
      have P6 := Lib.hid (P5.out.keep hb6)
      obtain ⟨p0, p1, p2⟩ := P6.out
      have B6 := Lib.hid (B5.out.trans (hb6.mono (by omega)))
      have s6 := hb6.size
      clear hb6
      go_wp2
      go_ret
      exact ⟨rfl, B6.out⟩
  · have g20 : decide (dy ≤ 2000) = false := by simpa using h20
    go_enter Try.func10, Try.ntmps10
    go_wp2_with fail
    refine (awake_any _).mono ?_
    rintro e w1 ⟨rfl, hb1⟩
    have P1 := Lib.hid ((Per.new w mo dy true).keep hb1)
    obtain ⟨c0, c1, c2⟩ := P1.out
    have B1 := Lib.hid (((Below.refl _ w).alloc (Nat.le_refl _) _).trans (hb1.mono (by simp)))
    have G1 := Lib.hid (hw.below _ _ g0 B1.out)
    have s1 := hb1.size
    simp only [World.size_alloc] at s1
    clear hb1
    go_wp2_with (first
      | (go_at_call 33; refine (cL.out _ G1.out).mono ?_; rintro e w' ⟨rfl, rfl⟩)
      | fail)
    refine (I1.out _ G1.out).mono ?_
    rintro e w2 ⟨rfl, hb2⟩
    have P2 := Lib.hid (P1.out.keep hb2)
    obtain ⟨d0, d1, d2⟩ := P2.out
    have B2 := Lib.hid (B1.out.trans (hb2.mono (by omega)))
    have s2 := hb2.size
    clear hb2
    go_wp2_with fail
    go_region_held3 (fun w' => w'.cell? ⟨w.heap.size, 0, none⟩ = some (.int .i64 mo) ∧ w'.cell? ⟨w.heap.size, 1, none⟩ = some (.int .i64 dy) ∧ w'.cell? ⟨w.heap.size, 2, none⟩ = some (.bool true)) (first | exact ⟨d0, d1, d2⟩ | exact ⟨k0, k1, k2⟩ | exact ⟨j0, j1, j2⟩ | go_keep)
      (first
        | (go_at_call 47
           refine (CP.out _).mono ?_
           rintro e w3 ⟨rfl, hb3⟩
           have P3 : Hid (Per w3 w.heap.size mo dy true) := Lib.hid ((P2.out.keep (below_dr (Below.refl _ _))).keep hb3)
           obtain ⟨k0, k1, k2⟩ := P3.out
           have B3 : Hid (Below w.heap.size w w3) := Lib.hid ((below_dr B2.out).trans (hb3.mono (by simp; omega)))
           have s3 : w2.heap.size ≤ w3.heap.size := by have h3 := hb3.size; first | exact h3 | (simp at h3; omega))
        | (go_at_call 48
           refine (XP.out _).mono ?_
           rintro e w4 ⟨rfl, hb4⟩
           have P4 : Hid (Per w4 w.heap.size mo dy true) := Lib.hid (P3.out.keep hb4)
           obtain ⟨j0, j1, j2⟩ := P4.out
           have B4 : Hid (Below w.heap.size w w4) := Lib.hid (B3.out.trans (hb4.mono (by omega)))
           have s4 : w3.heap.size ≤ w4.heap.size := hb4.size))
    all_goals
      go_wp2_with fail
      refine (hX.out _ (hw.below _ _ g0 B4.out)).mono ?_
      rintro e w5 ⟨rfl, hb5⟩
      have P5 := Lib.hid (P4.out.keep hb5)
      obtain ⟨n0, n1, n2⟩ := P5.out
      have B5 := Lib.hid (B4.out.trans (hb5.mono (by omega)))
      have s5 := hb5.size
      clear hb5
      go_wp2_with (first
        | (go_at_call 23; refine (xIsDay_any _ _).mono ?_; rintro e w' ⟨rfl, rfl⟩; rw [HD.out])
        | fail)
      refine (XP.out _).mono ?_
      rintro e w6 ⟨rfl, hb6⟩
      have P6 := Lib.hid (P5.out.keep hb6)
      obtain ⟨p0, p1, p2⟩ := P6.out
      have B6 := Lib.hid (B5.out.trans (hb6.mono (by omega)))
      have s6 := hb6.size
      clear hb6
      go_wp2
      go_ret
      exact ⟨rfl, B6.out⟩
set_option maxRecDepth 100000 in
set_option maxHeartbeats 4000000 in
theorem RuleDeadlines_4 {sa : Option Addr} {sn sc : Nat} {l : List Hd} {G : World → Prop} (hw : Cw sa sn sc l G) (w : World) (g0 : G w) (day mo dy : Int) (wk : Bool)
    (cL : Hid (∀ W, G W → Calls Try.prog 33 #[.slice sa sn sc] W (Ret (.bool true) W)))
    (hs : wk = false ∨ (wk = true ∧ ¬ 60 < dy) ∨ (wk = true ∧ 60 < dy ∧ ¬ dy ≤ 2000)) (he : chE l = 0) (hd : inB day 0 200000 = true) (hp : pdE mo dy wk = 0) (hr : dlRes l day mo dy wk = none) :
    Calls Try.prog 10 #[.slice sa sn sc, .int .i64 day, .agg #[.int .i64 mo, .int .i64 dy, .bool wk]] w (RetB (.bool true) w) := by
  have CP := Lib.hid (fun W => CheckPeriod_any mo dy wk W)
  have XP := Lib.hid (fun W => xCheckPeriod_any mo dy wk W)
  have hX := Lib.hid hw.xchk
  have hD : dlE l day mo dy wk = 0 := by unfold dlE; rw [he, cdE_1 hd, hp]; rfl
  have I1 := Lib.hid (fun W (hW : G W) => Deadline_ok hw W hW day mo dy wk hD)
  have X1 := Lib.hid (fun W (hW : G W) => xDeadline_any hw W hW day mo dy wk hD)
  rw [hr] at I1 X1
  simp only [wres, xres] at I1 X1
  rw [he] at hX
  rw [hp] at CP XP
  have HD := Lib.hid hd
  clear hD he hd hp hr
  rcases hs with rfl | ⟨rfl, h60⟩ | ⟨rfl, h60, h20⟩
  · go_enter Try.func10, Try.ntmps10
    go_wp2_with fail
    refine (awake_any _).mono ?_
    rintro e w1 ⟨rfl, hb1⟩
    have P1 := Lib.hid ((Per.new w mo dy false).keep hb1)
    obtain ⟨c0, c1, c2⟩ := P1.out
    have B1 := Lib.hid (((Below.refl _ w).alloc (Nat.le_refl _) _).trans (hb1.mono (by simp)))
    have G1 := Lib.hid (hw.below _ _ g0 B1.out)
    have s1 := hb1.size
    simp only [World.size_alloc] at s1
    clear hb1
    go_wp2_with (first
      | (go_at_call 33; refine (cL.out _ G1.out).mono ?_; rintro e w' ⟨rfl, rfl⟩)
      | fail)
    refine (I1.out _ G1.out).mono ?_
    rintro e w2 ⟨rfl, hb2⟩
    have P2 := Lib.hid (P1.out.keep hb2)
    obtain ⟨d0, d1, d2⟩ := P2.out
    have B2 := Lib.hid (B1.out.trans (hb2.mono (by omega)))
    have s2 := hb2.size
    clear hb2
    go_wp2_with fail
    go_region_held3 (fun w' => w'.cell? ⟨w.heap.size, 0, none⟩ = some (.int .i64 mo) ∧ w'.cell? ⟨w.heap.size, 1, none⟩ = some (.int .i64 dy) ∧ w'.cell? ⟨w.heap.size, 2, none⟩ = some (.bool false)) (first | exact ⟨d0, d1, d2⟩ | exact ⟨k0, k1, k2⟩ | exact ⟨j0, j1, j2⟩ | go_keep)
      (first
        | (go_at_call 47
           refine (CP.out _).mono ?_
           rintro e w3 ⟨rfl, hb3⟩
           have P3 : Hid (Per w3 w.heap.size mo dy false) := Lib.hid ((P2.out.keep (below_dr (Below.refl _ _))).keep hb3)
           obtain ⟨k0, k1, k2⟩ := P3.out
           have B3 : Hid (Below w.heap.size w w3) := Lib.hid ((below_dr B2.out).trans (hb3.mono (by simp; omega)))
           have s3 : w2.heap.size ≤ w3.heap.size := by have h3 := hb3.size; first | exact h3 | (simp at h3; omega))
        | (go_at_call 48
           refine (XP.out _).mono ?_
           rintro e w4 ⟨rfl, hb4⟩
           have P4 : Hid (Per w4 w.heap.size mo dy false) := Lib.hid (P3.out.keep hb4)
           obtain ⟨j0, j1, j2⟩ := P4.out
           have B4 : Hid (Below w.heap.size w w4) := Lib.hid (B3.out.trans (hb4.mono (by omega)))
           have s4 : w3.heap.size ≤ w4.heap.size := hb4.size))
    all_goals
      go_wp2_with fail
      refine (hX.out _ (hw.below _ _ g0 B4.out)).mono ?_
      rintro e w5 ⟨rfl, hb5⟩
      have P5 := Lib.hid (P4.out.keep hb5)
      obtain ⟨n0, n1, n2⟩ := P5.out
      have B5 := Lib.hid (B4.out.trans (hb5.mono (by omega)))
      have s5 := hb5.size
      clear hb5
      go_wp2_with (first
        | (go_at_call 23; refine (xIsDay_any _ _).mono ?_; rintro e w' ⟨rfl, rfl⟩; rw [HD.out])
        | fail)
      refine (XP.out _).mono ?_
      rintro e w6 ⟨rfl, hb6⟩
      have P6 := Lib.hid (P5.out.keep hb6)
      obtain ⟨p0, p1, p2⟩ := P6.out
      have B6 := Lib.hid (B5.out.trans (hb6.mono (by omega)))
      have s6 := hb6.size
      clear hb6
      go_wp2_with fail
      refine (X1.out _ (hw.below _ _ g0 B6.out)).mono ?_
      rintro e w7 ⟨rfl, hb7⟩
      have B7 := Lib.hid (B6.out.trans (hb7.mono (by omega)))
      have s7 := hb7.size
      clear hb7
      go_wp2
      go_ret
      exact ⟨rfl, B7.out⟩
  · have g60 : decide (60 < dy) = false := by simpa using h60
    go_enter Try.func10, Try.ntmps10
    go_wp2_with fail
    refine (awake_any _).mono ?_
    rintro e w1 ⟨rfl, hb1⟩
    have P1 := Lib.hid ((Per.new w mo dy true).keep hb1)
    obtain ⟨c0, c1, c2⟩ := P1.out
    have B1 := Lib.hid (((Below.refl _ w).alloc (Nat.le_refl _) _).trans (hb1.mono (by simp)))
    have G1 := Lib.hid (hw.below _ _ g0 B1.out)
    have s1 := hb1.size
    simp only [World.size_alloc] at s1
    clear hb1
    go_wp2_with (first
      | (go_at_call 33; refine (cL.out _ G1.out).mono ?_; rintro e w' ⟨rfl, rfl⟩)
      | fail)
    refine (I1.out _ G1.out).mono ?_
    rintro e w2 ⟨rfl, hb2⟩
    have P2 := Lib.hid (P1.out.keep hb2)
    obtain ⟨d0, d1, d2⟩ := P2.out
    have B2 := Lib.hid (B1.out.trans (hb2.mono (by omega)))
    have s2 := hb2.size
    clear hb2
    go_wp2_with fail
    go_region_held3 (fun w' => w'.cell? ⟨w.heap.size, 0, none⟩ = some (.int .i64 mo) ∧ w'.cell? ⟨w.heap.size, 1, none⟩ = some (.int .i64 dy) ∧ w'.cell? ⟨w.heap.size, 2, none⟩ = some (.bool true)) (first | exact ⟨d0, d1, d2⟩ | exact ⟨k0, k1, k2⟩ | exact ⟨j0, j1, j2⟩ | go_keep)
      (first
        | (go_at_call 47
           refine (CP.out _).mono ?_
           rintro e w3 ⟨rfl, hb3⟩
           have P3 : Hid (Per w3 w.heap.size mo dy true) := Lib.hid ((P2.out.keep (below_dr (Below.refl _ _))).keep hb3)
           obtain ⟨k0, k1, k2⟩ := P3.out
           have B3 : Hid (Below w.heap.size w w3) := Lib.hid ((below_dr B2.out).trans (hb3.mono (by simp; omega)))
           have s3 : w2.heap.size ≤ w3.heap.size := by have h3 := hb3.size; first | exact h3 | (simp at h3; omega))
        | (go_at_call 48
           refine (XP.out _).mono ?_
           rintro e w4 ⟨rfl, hb4⟩
           have P4 : Hid (Per w4 w.heap.size mo dy true) := Lib.hid (P3.out.keep hb4)
           obtain ⟨j0, j1, j2⟩ := P4.out
           have B4 : Hid (Below w.heap.size w w4) := Lib.hid (B3.out.trans (hb4.mono (by omega)))
           have s4 : w3.heap.size ≤ w4.heap.size := hb4.size))
    all_goals
      go_wp2_with fail
      refine (hX.out _ (hw.below _ _ g0 B4.out)).mono ?_
      rintro e w5 ⟨rfl, hb5⟩
      have P5 := Lib.hid (P4.out.keep hb5)
      obtain ⟨n0, n1, n2⟩ := P5.out
      have B5 := Lib.hid (B4.out.trans (hb5.mono (by omega)))
      have s5 := hb5.size
      clear hb5
      go_wp2_with (first
        | (go_at_call 23; refine (xIsDay_any _ _).mono ?_; rintro e w' ⟨rfl, rfl⟩; rw [HD.out])
        | fail)
      refine (XP.out _).mono ?_
      rintro e w6 ⟨rfl, hb6⟩
      have P6 := Lib.hid (P5.out.keep hb6)
      obtain ⟨p0, p1, p2⟩ := P6.out
      have B6 := Lib.hid (B5.out.trans (hb6.mono (by omega)))
      have s6 := hb6.size
      clear hb6
      go_wp2_with fail
      refine (X1.out _ (hw.below _ _ g0 B6.out)).mono ?_
      rintro e w7 ⟨rfl, hb7⟩
      have B7 := Lib.hid (B6.out.trans (hb7.mono (by omega)))
      have s7 := hb7.size
      clear hb7
      go_wp2
      go_ret
      exact ⟨rfl, B7.out⟩
  · have g20 : decide (dy ≤ 2000) = false := by simpa using h20
    go_enter Try.func10, Try.ntmps10
    go_wp2_with fail
    refine (awake_any _).mono ?_
    rintro e w1 ⟨rfl, hb1⟩
    have P1 := Lib.hid ((Per.new w mo dy true).keep hb1)
    obtain ⟨c0, c1, c2⟩ := P1.out
    have B1 := Lib.hid (((Below.refl _ w).alloc (Nat.le_refl _) _).trans (hb1.mono (by simp)))
    have G1 := Lib.hid (hw.below _ _ g0 B1.out)
    have s1 := hb1.size
    simp only [World.size_alloc] at s1
    clear hb1
    go_wp2_with (first
      | (go_at_call 33; refine (cL.out _ G1.out).mono ?_; rintro e w' ⟨rfl, rfl⟩)
      | fail)
    refine (I1.out _ G1.out).mono ?_
    rintro e w2 ⟨rfl, hb2⟩
    have P2 := Lib.hid (P1.out.keep hb2)
    obtain ⟨d0, d1, d2⟩ := P2.out
    have B2 := Lib.hid (B1.out.trans (hb2.mono (by omega)))
    have s2 := hb2.size
    clear hb2
    go_wp2_with fail
    go_region_held3 (fun w' => w'.cell? ⟨w.heap.size, 0, none⟩ = some (.int .i64 mo) ∧ w'.cell? ⟨w.heap.size, 1, none⟩ = some (.int .i64 dy) ∧ w'.cell? ⟨w.heap.size, 2, none⟩ = some (.bool true)) (first | exact ⟨d0, d1, d2⟩ | exact ⟨k0, k1, k2⟩ | exact ⟨j0, j1, j2⟩ | go_keep)
      (first
        | (go_at_call 47
           refine (CP.out _).mono ?_
           rintro e w3 ⟨rfl, hb3⟩
           have P3 : Hid (Per w3 w.heap.size mo dy true) := Lib.hid ((P2.out.keep (below_dr (Below.refl _ _))).keep hb3)
           obtain ⟨k0, k1, k2⟩ := P3.out
           have B3 : Hid (Below w.heap.size w w3) := Lib.hid ((below_dr B2.out).trans (hb3.mono (by simp; omega)))
           have s3 : w2.heap.size ≤ w3.heap.size := by have h3 := hb3.size; first | exact h3 | (simp at h3; omega))
        | (go_at_call 48
           refine (XP.out _).mono ?_
           rintro e w4 ⟨rfl, hb4⟩
           have P4 : Hid (Per w4 w.heap.size mo dy true) := Lib.hid (P3.out.keep hb4)
           obtain ⟨j0, j1, j2⟩ := P4.out
           have B4 : Hid (Below w.heap.size w w4) := Lib.hid (B3.out.trans (hb4.mono (by omega)))
           have s4 : w3.heap.size ≤ w4.heap.size := hb4.size))
    all_goals
      go_wp2_with fail
      refine (hX.out _ (hw.below _ _ g0 B4.out)).mono ?_
      rintro e w5 ⟨rfl, hb5⟩
      have P5 := Lib.hid (P4.out.keep hb5)
      obtain ⟨n0, n1, n2⟩ := P5.out
      have B5 := Lib.hid (B4.out.trans (hb5.mono (by omega)))
      have s5 := hb5.size
      clear hb5
      go_wp2_with (first
        | (go_at_call 23; refine (xIsDay_any _ _).mono ?_; rintro e w' ⟨rfl, rfl⟩; rw [HD.out])
        | fail)
      refine (XP.out _).mono ?_
      rintro e w6 ⟨rfl, hb6⟩
      have P6 := Lib.hid (P5.out.keep hb6)
      obtain ⟨p0, p1, p2⟩ := P6.out
      have B6 := Lib.hid (B5.out.trans (hb6.mono (by omega)))
      have s6 := hb6.size
      clear hb6
      go_wp2_with fail
      refine (X1.out _ (hw.below _ _ g0 B6.out)).mono ?_
      rintro e w7 ⟨rfl, hb7⟩
      have B7 := Lib.hid (B6.out.trans (hb7.mono (by omega)))
      have s7 := hb7.size
      clear hb7
      go_wp2
      go_ret
      exact ⟨rfl, B7.out⟩
set_option maxRecDepth 100000 in
set_option maxHeartbeats 4000000 in
theorem RuleDeadlines_5 {sa : Option Addr} {sn sc : Nat} {l : List Hd} {G : World → Prop} (hw : Cw sa sn sc l G) (w : World) (g0 : G w) (day mo dy : Int) (wk : Bool)
    (cL : Hid (∀ W, G W → Calls Try.prog 33 #[.slice sa sn sc] W (Ret (.bool true) W)))
    (hs : wk = false ∨ (wk = true ∧ ¬ 60 < dy) ∨ (wk = true ∧ 60 < dy ∧ ¬ dy ≤ 2000)) (he : chE l = 0) (hd : inB day 0 200000 = true) (hp : pdE mo dy wk = 0) (x : Int) (hr : dlRes l day mo dy wk = some x) :
    Calls Try.prog 10 #[.slice sa sn sc, .int .i64 day, .agg #[.int .i64 mo, .int .i64 dy, .bool wk]] w (RetB (.bool true) w) := by
  have CP := Lib.hid (fun W => CheckPeriod_any mo dy wk W)
  have XP := Lib.hid (fun W => xCheckPeriod_any mo dy wk W)
  have hX := Lib.hid hw.xchk
  have hD : dlE l day mo dy wk = 0 := by unfold dlE; rw [he, cdE_1 hd, hp]; rfl
  have I1 := Lib.hid (fun W (hW : G W) => Deadline_ok hw W hW day mo dy wk hD)
  have X1 := Lib.hid (fun W (hW : G W) => xDeadline_any hw W hW day mo dy wk hD)
  rw [hr] at I1 X1
  simp only [wres, xres] at I1 X1
  obtain ⟨hx, hxw⟩ := dlRes_some hr
  have IW := Lib.hid (fun W (hW : G W) => IsWorking_ok hw W hW x (by unfold hdyE; rw [he, cdE_1 hx]; rfl))
  rw [hxw] at IW
  rw [he] at hX
  rw [hp] at CP XP
  have HD := Lib.hid hd
  clear hD he hd hp hr hx hxw
  rcases hs with rfl | ⟨rfl, h60⟩ | ⟨rfl, h60, h20⟩
  · go_enter Try.func10, Try.ntmps10
    go_wp2_with fail
    refine (awake_any _).mono ?_
    rintro e w1 ⟨rfl, hb1⟩
    have P1 := Lib.hid ((Per.new w mo dy false).keep hb1)
    obtain ⟨c0, c1, c2⟩ := P1.out
    have B1 := Lib.hid (((Below.refl _ w).alloc (Nat.le_refl _) _).trans (hb1.mono (by simp)))
    have G1 := Lib.hid (hw.below _ _ g0 B1.out)
    have s1 := hb1.size
    simp only [World.size_alloc] at s1
    clear hb1
    go_wp2_with (first
      | (go_at_call 33; refine (cL.out _ G1.out).mono ?_; rintro e w' ⟨rfl, rfl⟩)
      | fail)
    refine (I1.out _ G1.out).mono ?_
    rintro e w2 ⟨rfl, hb2⟩
    have P2 := Lib.hid (P1.out.keep hb2)
    obtain ⟨d0, d1, d2⟩ := P2.out
    have B2 := Lib.hid (B1.out.trans (hb2.mono (by omega)))
    have s2 := hb2.size
    clear hb2
    go_wp2_with fail
    go_region_held3 (fun w' => w'.cell? ⟨w.heap.size, 0, none⟩ = some (.int .i64 mo) ∧ w'.cell? ⟨w.heap.size, 1, none⟩ = some (.int .i64 dy) ∧ w'.cell? ⟨w.heap.size, 2, none⟩ = some (.bool false)) (first | exact ⟨d0, d1, d2⟩ | exact ⟨k0, k1, k2⟩ | exact ⟨j0, j1, j2⟩ | go_keep)
      (first
        | (go_at_call 47
           refine (CP.out _).mono ?_
           rintro e w3 ⟨rfl, hb3⟩
           have P3 : Hid (Per w3 w.heap.size mo dy false) := Lib.hid ((P2.out.keep (below_dr (Below.refl _ _))).keep hb3)
           obtain ⟨k0, k1, k2⟩ := P3.out
           have B3 : Hid (Below w.heap.size w w3) := Lib.hid ((below_dr B2.out).trans (hb3.mono (by simp; omega)))
           have s3 : w2.heap.size ≤ w3.heap.size := by have h3 := hb3.size; first | exact h3 | (simp at h3; omega))
        | (go_at_call 48
           refine (XP.out _).mono ?_
           rintro e w4 ⟨rfl, hb4⟩
           have P4 : Hid (Per w4 w.heap.size mo dy false) := Lib.hid (P3.out.keep hb4)
           obtain ⟨j0, j1, j2⟩ := P4.out
           have B4 : Hid (Below w.heap.size w w4) := Lib.hid (B3.out.trans (hb4.mono (by omega)))
           have s4 : w3.heap.size ≤ w4.heap.size := hb4.size))
    all_goals
      go_wp2_with fail
      refine (hX.out _ (hw.below _ _ g0 B4.out)).mono ?_
      rintro e w5 ⟨rfl, hb5⟩
      have P5 := Lib.hid (P4.out.keep hb5)
      obtain ⟨n0, n1, n2⟩ := P5.out
      have B5 := Lib.hid (B4.out.trans (hb5.mono (by omega)))
      have s5 := hb5.size
      clear hb5
      go_wp2_with (first
        | (go_at_call 23; refine (xIsDay_any _ _).mono ?_; rintro e w' ⟨rfl, rfl⟩; rw [HD.out])
        | fail)
      refine (XP.out _).mono ?_
      rintro e w6 ⟨rfl, hb6⟩
      have P6 := Lib.hid (P5.out.keep hb6)
      obtain ⟨p0, p1, p2⟩ := P6.out
      have B6 := Lib.hid (B5.out.trans (hb6.mono (by omega)))
      have s6 := hb6.size
      clear hb6
      go_wp2_with fail
      refine (X1.out _ (hw.below _ _ g0 B6.out)).mono ?_
      rintro e w7 ⟨rfl, hb7⟩
      have B7 := Lib.hid (B6.out.trans (hb7.mono (by omega)))
      have s7 := hb7.size
      clear hb7
      go_wp2_with fail
      refine (IW.out _ (hw.below _ _ g0 B7.out)).mono ?_
      rintro e w8 ⟨rfl, hb8⟩
      have B8 := Lib.hid (B7.out.trans (hb8.mono (by omega)))
      go_wp2
      go_ret
      exact ⟨rfl, B8.out⟩
  · have g60 : decide (60 < dy) = false := by simpa using h60
    go_enter Try.func10, Try.ntmps10
    go_wp2_with fail
    refine (awake_any _).mono ?_
    rintro e w1 ⟨rfl, hb1⟩
    have P1 := Lib.hid ((Per.new w mo dy true).keep hb1)
    obtain ⟨c0, c1, c2⟩ := P1.out
    have B1 := Lib.hid (((Below.refl _ w).alloc (Nat.le_refl _) _).trans (hb1.mono (by simp)))
    have G1 := Lib.hid (hw.below _ _ g0 B1.out)
    have s1 := hb1.size
    simp only [World.size_alloc] at s1
    clear hb1
    go_wp2_with (first
      | (go_at_call 33; refine (cL.out _ G1.out).mono ?_; rintro e w' ⟨rfl, rfl⟩)
      | fail)
    refine (I1.out _ G1.out).mono ?_
    rintro e w2 ⟨rfl, hb2⟩
    have P2 := Lib.hid (P1.out.keep hb2)
    obtain ⟨d0, d1, d2⟩ := P2.out
    have B2 := Lib.hid (B1.out.trans (hb2.mono (by omega)))
    have s2 := hb2.size
    clear hb2
    go_wp2_with fail
    go_region_held3 (fun w' => w'.cell? ⟨w.heap.size, 0, none⟩ = some (.int .i64 mo) ∧ w'.cell? ⟨w.heap.size, 1, none⟩ = some (.int .i64 dy) ∧ w'.cell? ⟨w.heap.size, 2, none⟩ = some (.bool true)) (first | exact ⟨d0, d1, d2⟩ | exact ⟨k0, k1, k2⟩ | exact ⟨j0, j1, j2⟩ | go_keep)
      (first
        | (go_at_call 47
           refine (CP.out _).mono ?_
           rintro e w3 ⟨rfl, hb3⟩
           have P3 : Hid (Per w3 w.heap.size mo dy true) := Lib.hid ((P2.out.keep (below_dr (Below.refl _ _))).keep hb3)
           obtain ⟨k0, k1, k2⟩ := P3.out
           have B3 : Hid (Below w.heap.size w w3) := Lib.hid ((below_dr B2.out).trans (hb3.mono (by simp; omega)))
           have s3 : w2.heap.size ≤ w3.heap.size := by have h3 := hb3.size; first | exact h3 | (simp at h3; omega))
        | (go_at_call 48
           refine (XP.out _).mono ?_
           rintro e w4 ⟨rfl, hb4⟩
           have P4 : Hid (Per w4 w.heap.size mo dy true) := Lib.hid (P3.out.keep hb4)
           obtain ⟨j0, j1, j2⟩ := P4.out
           have B4 : Hid (Below w.heap.size w w4) := Lib.hid (B3.out.trans (hb4.mono (by omega)))
           have s4 : w3.heap.size ≤ w4.heap.size := hb4.size))
    all_goals
      go_wp2_with fail
      refine (hX.out _ (hw.below _ _ g0 B4.out)).mono ?_
      rintro e w5 ⟨rfl, hb5⟩
      have P5 := Lib.hid (P4.out.keep hb5)
      obtain ⟨n0, n1, n2⟩ := P5.out
      have B5 := Lib.hid (B4.out.trans (hb5.mono (by omega)))
      have s5 := hb5.size
      clear hb5
      go_wp2_with (first
        | (go_at_call 23; refine (xIsDay_any _ _).mono ?_; rintro e w' ⟨rfl, rfl⟩; rw [HD.out])
        | fail)
      refine (XP.out _).mono ?_
      rintro e w6 ⟨rfl, hb6⟩
      have P6 := Lib.hid (P5.out.keep hb6)
      obtain ⟨p0, p1, p2⟩ := P6.out
      have B6 := Lib.hid (B5.out.trans (hb6.mono (by omega)))
      have s6 := hb6.size
      clear hb6
      go_wp2_with fail
      refine (X1.out _ (hw.below _ _ g0 B6.out)).mono ?_
      rintro e w7 ⟨rfl, hb7⟩
      have B7 := Lib.hid (B6.out.trans (hb7.mono (by omega)))
      have s7 := hb7.size
      clear hb7
      go_wp2_with fail
      refine (IW.out _ (hw.below _ _ g0 B7.out)).mono ?_
      rintro e w8 ⟨rfl, hb8⟩
      have B8 := Lib.hid (B7.out.trans (hb8.mono (by omega)))
      go_wp2
      go_ret
      exact ⟨rfl, B8.out⟩
  · have g20 : decide (dy ≤ 2000) = false := by simpa using h20
    go_enter Try.func10, Try.ntmps10
    go_wp2_with fail
    refine (awake_any _).mono ?_
    rintro e w1 ⟨rfl, hb1⟩
    have P1 := Lib.hid ((Per.new w mo dy true).keep hb1)
    obtain ⟨c0, c1, c2⟩ := P1.out
    have B1 := Lib.hid (((Below.refl _ w).alloc (Nat.le_refl _) _).trans (hb1.mono (by simp)))
    have G1 := Lib.hid (hw.below _ _ g0 B1.out)
    have s1 := hb1.size
    simp only [World.size_alloc] at s1
    clear hb1
    go_wp2_with (first
      | (go_at_call 33; refine (cL.out _ G1.out).mono ?_; rintro e w' ⟨rfl, rfl⟩)
      | fail)
    refine (I1.out _ G1.out).mono ?_
    rintro e w2 ⟨rfl, hb2⟩
    have P2 := Lib.hid (P1.out.keep hb2)
    obtain ⟨d0, d1, d2⟩ := P2.out
    have B2 := Lib.hid (B1.out.trans (hb2.mono (by omega)))
    have s2 := hb2.size
    clear hb2
    go_wp2_with fail
    go_region_held3 (fun w' => w'.cell? ⟨w.heap.size, 0, none⟩ = some (.int .i64 mo) ∧ w'.cell? ⟨w.heap.size, 1, none⟩ = some (.int .i64 dy) ∧ w'.cell? ⟨w.heap.size, 2, none⟩ = some (.bool true)) (first | exact ⟨d0, d1, d2⟩ | exact ⟨k0, k1, k2⟩ | exact ⟨j0, j1, j2⟩ | go_keep)
      (first
        | (go_at_call 47
           refine (CP.out _).mono ?_
           rintro e w3 ⟨rfl, hb3⟩
           have P3 : Hid (Per w3 w.heap.size mo dy true) := Lib.hid ((P2.out.keep (below_dr (Below.refl _ _))).keep hb3)
           obtain ⟨k0, k1, k2⟩ := P3.out
           have B3 : Hid (Below w.heap.size w w3) := Lib.hid ((below_dr B2.out).trans (hb3.mono (by simp; omega)))
           have s3 : w2.heap.size ≤ w3.heap.size := by have h3 := hb3.size; first | exact h3 | (simp at h3; omega))
        | (go_at_call 48
           refine (XP.out _).mono ?_
           rintro e w4 ⟨rfl, hb4⟩
           have P4 : Hid (Per w4 w.heap.size mo dy true) := Lib.hid (P3.out.keep hb4)
           obtain ⟨j0, j1, j2⟩ := P4.out
           have B4 : Hid (Below w.heap.size w w4) := Lib.hid (B3.out.trans (hb4.mono (by omega)))
           have s4 : w3.heap.size ≤ w4.heap.size := hb4.size))
    all_goals
      go_wp2_with fail
      refine (hX.out _ (hw.below _ _ g0 B4.out)).mono ?_
      rintro e w5 ⟨rfl, hb5⟩
      have P5 := Lib.hid (P4.out.keep hb5)
      obtain ⟨n0, n1, n2⟩ := P5.out
      have B5 := Lib.hid (B4.out.trans (hb5.mono (by omega)))
      have s5 := hb5.size
      clear hb5
      go_wp2_with (first
        | (go_at_call 23; refine (xIsDay_any _ _).mono ?_; rintro e w' ⟨rfl, rfl⟩; rw [HD.out])
        | fail)
      refine (XP.out _).mono ?_
      rintro e w6 ⟨rfl, hb6⟩
      have P6 := Lib.hid (P5.out.keep hb6)
      obtain ⟨p0, p1, p2⟩ := P6.out
      have B6 := Lib.hid (B5.out.trans (hb6.mono (by omega)))
      have s6 := hb6.size
      clear hb6
      go_wp2_with fail
      refine (X1.out _ (hw.below _ _ g0 B6.out)).mono ?_
      rintro e w7 ⟨rfl, hb7⟩
      have B7 := Lib.hid (B6.out.trans (hb7.mono (by omega)))
      have s7 := hb7.size
      clear hb7
      go_wp2_with fail
      refine (IW.out _ (hw.below _ _ g0 B7.out)).mono ?_
      rintro e w8 ⟨rfl, hb8⟩
      have B8 := Lib.hid (B7.out.trans (hb8.mono (by omega)))
      go_wp2
      go_ret
      exact ⟨rfl, B8.out⟩
theorem RuleDeadlines_cw {sa : Option Addr} {sn sc : Nat} {l : List Hd} {G : World → Prop} (hw : Cw sa sn sc l G) (w : World) (g0 : G w) (day mo dy : Int) (wk : Bool) (b : Bool)
    (cL : Hid (∀ W, G W → Calls Try.prog 33 #[.slice sa sn sc] W (Ret (.bool b) W))) :
    Calls Try.prog 10 #[.slice sa sn sc, .int .i64 day, .agg #[.int .i64 mo, .int .i64 dy, .bool wk]] w (RetB (.bool true) w) := by
  cases b
  · exact RuleDeadlines_1 hw w g0 day mo dy wk cL
  · by_cases hk : wk = true ∧ 60 < dy ∧ dy ≤ 2000
    · exact RuleDeadlines_2 hw w g0 day mo dy wk hk.1 hk.2.1 hk.2.2 cL
    · have hs : wk = false ∨ (wk = true ∧ ¬ 60 < dy) ∨ (wk = true ∧ 60 < dy ∧ ¬ dy ≤ 2000) := by
        cases wk
        · exact Or.inl rfl
        · by_cases h1 : 60 < dy
          · exact Or.inr (Or.inr ⟨rfl, h1, fun h2 => hk ⟨rfl, h1, h2⟩⟩)
          · exact Or.inr (Or.inl ⟨rfl, h1⟩)
      by_cases he : chE l = 0
      · cases hd : inB day 0 200000
        · exact RuleDeadlines_3b hw w g0 day mo dy wk cL hs he hd
        · by_cases hp : pdE mo dy wk = 0
          · cases hr : dlRes l day mo dy wk with
            | none => exact RuleDeadlines_4 hw w g0 day mo dy wk cL hs he hd hp hr
            | some x => exact RuleDeadlines_5 hw w g0 day mo dy wk cL hs he hd hp x hr
          · exact RuleDeadlines_3c hw w g0 day mo dy wk cL hs he hd hp
      · exact RuleDeadlines_3a hw w g0 day mo dy wk cL hs he
end Go.Proofs.Ytfphedcgmaakjaa
