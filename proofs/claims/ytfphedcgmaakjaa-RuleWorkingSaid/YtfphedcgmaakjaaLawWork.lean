/-
  RuleWorking returns true for every list of holidays, day and number, in every world in which the list lies: the walks.
-/
import Derived.Test.YtfphedcgmaakjaaRefW
import Derived.Test.YtfphedcgmaakjaaBelow
namespace Go.Proofs.Ytfphedcgmaakjaa
open Go.RowKit
attribute [local go_sem] set_drewN
theorem xAbs_any (n : Int) (h0 : -9223372036854775808 ≤ n) (h9 : n ≤ 9223372036854775807) : ∃ x : Int, ∀ w, Calls Try.prog 39 #[.int .i64 n] w (Ret (.int .i64 x) w) := by
  by_cases hm : n = -9223372036854775808
  · subst hm
    refine ⟨max (-9223372036854775808) (wrap64 9223372036854775808), fun w => ?_⟩
    go_enter Try.func39, Try.ntmps39
    go_wp2
    go_ret
    exact ⟨rfl, rfl⟩
  · refine ⟨max n (-n), fun w => ?_⟩
    go_enter Try.func39, Try.ntmps39
    go_wp2
    go_ret
    exact ⟨rfl, rfl⟩
set_option maxRecDepth 100000 in
set_option maxHeartbeats 4000000 in
theorem RuleWorking_1 {sa : Option Addr} {sn sc : Nat} {l : List Hd} {G : World → Prop} (hw : Cw sa sn sc l G) (w : World) (g0 : G w) (day n : Int)
    (cL : Hid (∀ W, G W → Calls Try.prog 33 #[.slice sa sn sc] W (Ret (.bool false) W))) :
    Calls Try.prog 8 #[.slice sa sn sc, .int .i64 day, .int .i64 n] w (RetB (.bool true) w) := by
  go_enter Try.func8, Try.ntmps8
  go_wp2_with fail
  refine (awake_any _).mono ?_
  rintro e w1 ⟨rfl, hb1⟩
  have G1 := hw.below _ _ g0 hb1
  have s1 := hb1.size
  go_wp2_with (first
    | (go_at_call 33; refine (cL.out _ G1).mono ?_; rintro e w' ⟨rfl, rfl⟩)
    | fail)
  go_ret
  exact ⟨rfl, hb1⟩
set_option maxRecDepth 100000 in
set_option maxHeartbeats 4000000 in
theorem RuleWorking_2 {sa : Option Addr} {sn sc : Nat} {l : List Hd} {G : World → Prop} (hw : Cw sa sn sc l G) (w : World) (g0 : G w) (day n : Int) (hn : inB n (-2000) 2000 = true)
    (cL : Hid (∀ W, G W → Calls Try.prog 33 #[.slice sa sn sc] W (Ret (.bool true) W)))
    (xa : Int) (hA : Hid (∀ W, Calls Try.prog 39 #[.int .i64 n] W (Ret (.int .i64 xa) W))) (hx : 60 < xa) :
    Calls Try.prog 8 #[.slice sa sn sc, .int .i64 day, .int .i64 n] w (RetB (.bool true) w) := by
  have HN := Lib.hid hn
  go_enter Try.func8, Try.ntmps8
  go_wp2_with fail
  refine (awake_any _).mono ?_
  rintro e w1 ⟨rfl, hb1⟩
  have G1 := hw.below _ _ g0 hb1
  have s1 := hb1.size
  go_wp2_with (first
    | (go_at_call 33; refine (cL.out _ G1).mono ?_; rintro e w' ⟨rfl, rfl⟩)
    | (go_at_call 39; refine (hA.out _).mono ?_; rintro e w' ⟨rfl, rfl⟩)
    | (go_at_call 21; refine (bWithin_any _ _ _ _).mono ?_; rintro e w' ⟨rfl, rfl⟩; rw [HN.out])
    | fail)
  go_ret
  exact ⟨rfl, hb1⟩
set_option maxRecDepth 100000 in
set_option maxHeartbeats 4000000 in
theorem RuleWorking_3a {sa : Option Addr} {sn sc : Nat} {l : List Hd} {G : World → Prop} (hw : Cw sa sn sc l G) (w : World) (g0 : G w) (day n : Int)
    (cL : Hid (∀ W, G W → Calls Try.prog 33 #[.slice sa sn sc] W (Ret (.bool true) W)))
    (xa : Int) (hA : Hid (∀ W, Calls Try.prog 39 #[.int .i64 n] W (Ret (.int .i64 xa) W)))
    (hs : xa ≤ 60 ∨ inB n (-2000) 2000 = false) (he : chE l ≠ 0) :
    Calls Try.prog 8 #[.slice sa sn sc, .int .i64 day, .int .i64 n] w (RetB (.bool true) w) := by
  have hX := Lib.hid hw.xchk
  have hD : hdyE l day = chE l := by unfold hdyE feE; rw [if_neg he]
  have hE : hdyE l day ≠ 0 := by rw [hD]; exact he
  have I1 := Lib.hid (fun W (hW : G W) => IsWorking_err hw W hW day hE)
  have I2 := Lib.hid (fun W (hW : G W) => AddWorking_err hw W hW day n hE)
  rw [hD] at I1 I2
  clear hD hE
  have hb : (chE l != 0) = true := by simpa using he
  have hb0 : (chE l == 0) = false := by simpa using he
  clear he
  generalize chE l = C at *
  by_cases hx : 60 < xa
  · have HN := Lib.hid (show inB n (-2000) 2000 = false from hs.resolve_left (by omega))
    clear hs
    go_enter Try.func8, Try.ntmps8
    go_wp2_with fail
    refine (awake_any _).mono ?_
    rintro e w1 ⟨rfl, hb1⟩
    have G1 := hw.below _ _ g0 hb1
    have s1 := hb1.size
    go_wp2_with (first
      | (go_at_call 33; refine (cL.out _ G1).mono ?_; rintro e w' ⟨rfl, rfl⟩)
      | (go_at_call 39; refine (hA.out _).mono ?_; rintro e w' ⟨rfl, rfl⟩)
      | (go_at_call 21; refine (bWithin_any _ _ _ _).mono ?_; rintro e w' ⟨rfl, rfl⟩; rw [HN.out])
      | fail)
    refine (I1.out _ G1).mono ?_
    rintro e w2 ⟨rfl, hb2⟩
    have G2 := hw.below _ _ G1 hb2
    have s2 := hb2.size
    go_wp2_with fail
    refine (I2.out _ G2).mono ?_
    rintro e w3 ⟨rfl, hb3⟩
    have G3 := hw.below _ _ G2 hb3
    have s3 := hb3.size
    go_wp2_with fail
    refine (hX.out _ G3).mono ?_
    rintro e w4 ⟨rfl, hb4⟩
    have G4 := hw.below _ _ G3 hb4
    have s4 := hb4.size
    go_wp2
    go_ret
    exact ⟨rfl, ((hb1.trans (hb2.mono (by omega))).trans (hb3.mono (by omega))).trans (hb4.mono (by omega))⟩
  · have hx' : decide (60 < xa) = false := by simpa using hx
    clear hs
    go_enter Try.func8, Try.ntmps8
    go_wp2_with fail
    refine (awake_any _).mono ?_
    rintro e w1 ⟨rfl, hb1⟩
    have G1 := hw.below _ _ g0 hb1
    have s1 := hb1.size
    go_wp2_with (first
      | (go_at_call 33; refine (cL.out _ G1).mono ?_; rintro e w' ⟨rfl, rfl⟩)
      | (go_at_call 39; refine (hA.out _).mono ?_; rintro e w' ⟨rfl, rfl⟩)
      | fail
      | fail)
    refine (I1.out _ G1).mono ?_
    rintro e w2 ⟨rfl, hb2⟩
    have G2 := hw.below _ _ G1 hb2
    have s2 := hb2.size
    go_wp2_with fail
    refine (I2.out _ G2).mono ?_
    rintro e w3 ⟨rfl, hb3⟩
    have G3 := hw.below _ _ G2 hb3
    have s3 := hb3.size
    go_wp2_with fail
    refine (hX.out _ G3).mono ?_
    rintro e w4 ⟨rfl, hb4⟩
    have G4 := hw.below _ _ G3 hb4
    have s4 := hb4.size
    go_wp2
    go_ret
    exact ⟨rfl, ((hb1.trans (hb2.mono (by omega))).trans (hb3.mono (by omega))).trans (hb4.mono (by omega))⟩
set_option maxRecDepth 100000 in
set_option maxHeartbeats 4000000 in
theorem RuleWorking_3b {sa : Option Addr} {sn sc : Nat} {l : List Hd} {G : World → Prop} (hw : Cw sa sn sc l G) (w : World) (g0 : G w) (day n : Int)
    (cL : Hid (∀ W, G W → Calls Try.prog 33 #[.slice sa sn sc] W (Ret (.bool true) W)))
    (xa : Int) (hA : Hid (∀ W, Calls Try.prog 39 #[.int .i64 n] W (Ret (.int .i64 xa) W)))
    (hs : xa ≤ 60 ∨ inB n (-2000) 2000 = false) (he : chE l = 0) (hd : inB day 0 200000 = false) :
    Calls Try.prog 8 #[.slice sa sn sc, .int .i64 day, .int .i64 n] w (RetB (.bool true) w) := by
  have hX := Lib.hid hw.xchk
  have hD : hdyE l day = 2 := by unfold hdyE; rw [he, cdE_1n hd]; rfl
  have hE : hdyE l day ≠ 0 := by rw [hD]; decide
  have I1 := Lib.hid (fun W (hW : G W) => IsWorking_err hw W hW day hE)
  have I2 := Lib.hid (fun W (hW : G W) => AddWorking_err hw W hW day n hE)
  rw [hD] at I1 I2
  rw [he] at hX
  have HD := Lib.hid hd
  clear hD hE he hd
  by_cases hx : 60 < xa
  · have HN := Lib.hid (show inB n (-2000) 2000 = false from hs.resolve_left (by omega))
    clear hs
    go_enter Try.func8, Try.ntmps8
    go_wp2_with fail
    refine (awake_any _).mono ?_
    rintro e w1 ⟨rfl, hb1⟩
    have G1 := hw.below _ _ g0 hb1
    have s1 := hb1.size
    go_wp2_with (first
      | (go_at_call 33; refine (cL.out _ G1).mono ?_; rintro e w' ⟨rfl, rfl⟩)
      | (go_at_call 39; refine (hA.out _).mono ?_; rintro e w' ⟨rfl, rfl⟩)
      | (go_at_call 21; refine (bWithin_any _ _ _ _).mono ?_; rintro e w' ⟨rfl, rfl⟩; rw [HN.out])
      | fail)
    refine (I1.out _ G1).mono ?_
    rintro e w2 ⟨rfl, hb2⟩
    have G2 := hw.below _ _ G1 hb2
    have s2 := hb2.size
    go_wp2_with fail
    refine (I2.out _ G2).mono ?_
    rintro e w3 ⟨rfl, hb3⟩
    have G3 := hw.below _ _ G2 hb3
    have s3 := hb3.size
    go_wp2_with fail
    refine (hX.out _ G3).mono ?_
    rintro e w4 ⟨rfl, hb4⟩
    have G4 := hw.below _ _ G3 hb4
    have s4 := hb4.size
    go_wp2_with (first
      | (go_at_call 23; refine (xIsDay_any _ _).mono ?_; rintro e w' ⟨rfl, rfl⟩; rw [HD.out])
      | fail)
    go_ret
    exact ⟨rfl, ((hb1.trans (hb2.mono (by omega))).trans (hb3.mono (by omega))).trans (hb4.mono (by omega))⟩
  · have hx' : decide (60 < xa) = false := by simpa using hx
    clear hs
    go_enter Try.func8, Try.ntmps8
    go_wp2_with fail
    refine (awake_any _).mono ?_
    rintro e w1 ⟨rfl, hb1⟩
    have G1 := hw.below _ _ g0 hb1
    have s1 := hb1.size
    go_wp2_with (first
      | (go_at_call 33; refine (cL.out _ G1).mono ?_; rintro e w' ⟨rfl, rfl⟩)
      | (go_at_call 39; refine (hA.out _).mono ?_; rintro e w' ⟨rfl, rfl⟩)
      | fail
      | fail)
    refine (I1.out _ G1).mono ?_
    rintro e w2 ⟨rfl, hb2⟩
    have G2 := hw.below _ _ G1 hb2
    have s2 := hb2.size
    go_wp2_with fail
    refine (I2.out _ G2).mono ?_
    rintro e w3 ⟨rfl, hb3⟩
    have G3 := hw.below _ _ G2 hb3
    have s3 := hb3.size
    go_wp2_with fail
    refine (hX.out _ G3).mono ?_
    rintro e w4 ⟨rfl, hb4⟩
    have G4 := hw.below _ _ G3 hb4
    have s4 := hb4.size
    go_wp2_with (first
      | (go_at_call 23; refine (xIsDay_any _ _).mono ?_; rintro e w' ⟨rfl, rfl⟩; rw [HD.out])
      | fail)
    go_ret
    exact ⟨rfl, ((hb1.trans (hb2.mono (by omega))).trans (hb3.mono (by omega))).trans (hb4.mono (by omega))⟩
set_option maxRecDepth 100000 in
set_option maxHeartbeats 4000000 in
theorem RuleWorking_4 {sa : Option Addr} {sn sc : Nat} {l : List Hd} {G : World → Prop} (hw : Cw sa sn sc l G) (w : World) (g0 : G w) (day n : Int)
    (cL : Hid (∀ W, G W → Calls Try.prog 33 #[.slice sa sn sc] W (Ret (.bool true) W)))
    (xa : Int) (hA : Hid (∀ W, Calls Try.prog 39 #[.int .i64 n] W (Ret (.int .i64 xa) W))) (he : chE l = 0) (hd : inB day 0 200000 = true) (hn : inB n (-2000) 2000 = false) :
    Calls Try.prog 8 #[.slice sa sn sc, .int .i64 day, .int .i64 n] w (RetB (.bool true) w) := by
  have hX := Lib.hid hw.xchk
  have hD : hdyE l day = 0 := by unfold hdyE; rw [he, cdE_1 hd]; rfl
  have I1 := Lib.hid (fun W (hW : G W) => IsWorking_ok hw W hW day hD)
  have I2 := Lib.hid (fun W (hW : G W) => AddWorking_no hw W hW day n hD hn)
  have X := Lib.hid (fun W (hW : G W) => xIsWorking_cal hw he W hW day hd)
  rw [he] at hX
  have HD := Lib.hid hd
  have HN := Lib.hid hn
  clear hD he hd hn
  generalize workB l day = q at *
  by_cases hx : 60 < xa
  · go_enter Try.func8, Try.ntmps8
    go_wp2_with fail
    refine (awake_any _).mono ?_
    rintro e w1 ⟨rfl, hb1⟩
    have G1 := hw.below _ _ g0 hb1
    have s1 := hb1.size
    go_wp2_with (first
      | (go_at_call 33; refine (cL.out _ G1).mono ?_; rintro e w' ⟨rfl, rfl⟩)
      | (go_at_call 39; refine (hA.out _).mono ?_; rintro e w' ⟨rfl, rfl⟩)
      | (go_at_call 21; refine (bWithin_any _ _ _ _).mono ?_; rintro e w' ⟨rfl, rfl⟩; rw [HN.out])
      | fail)
    refine (I1.out _ G1).mono ?_
    rintro e w2 ⟨rfl, hb2⟩
    have G2 := hw.below _ _ G1 hb2
    have s2 := hb2.size
    go_wp2_with fail
    refine (I2.out _ G2).mono ?_
    rintro e w3 ⟨rfl, hb3⟩
    have G3 := hw.below _ _ G2 hb3
    have s3 := hb3.size
    go_wp2_with fail
    refine (hX.out _ G3).mono ?_
    rintro e w4 ⟨rfl, hb4⟩
    have G4 := hw.below _ _ G3 hb4
    have s4 := hb4.size
    go_wp2_with (first
      | (go_at_call 23; refine (xIsDay_any _ _).mono ?_; rintro e w' ⟨rfl, rfl⟩; rw [HD.out])
      | fail)
    refine (X.out _ G4).mono ?_
    rintro e w5 ⟨rfl, hb5⟩
    have G5 := hw.below _ _ G4 hb5
    have s5 := hb5.size
    go_wp2_with (first
      | (go_at_call 21; refine (bWithin_any _ _ _ _).mono ?_; rintro e w' ⟨rfl, rfl⟩; rw [HN.out])
      | fail)
    go_ret
    exact ⟨rfl, (((hb1.trans (hb2.mono (by omega))).trans (hb3.mono (by omega))).trans (hb4.mono (by omega))).trans (hb5.mono (by omega))⟩
  · have hx' : decide (60 < xa) = false := by simpa using hx
    go_enter Try.func8, Try.ntmps8
    go_wp2_with fail
    refine (awake_any _).mono ?_
    rintro e w1 ⟨rfl, hb1⟩
    have G1 := hw.below _ _ g0 hb1
    have s1 := hb1.size
    go_wp2_with (first
      | (go_at_call 33; refine (cL.out _ G1).mono ?_; rintro e w' ⟨rfl, rfl⟩)
      | (go_at_call 39; refine (hA.out _).mono ?_; rintro e w' ⟨rfl, rfl⟩)
      | (go_at_call 21; refine (bWithin_any _ _ _ _).mono ?_; rintro e w' ⟨rfl, rfl⟩; rw [HN.out])
      | fail)
    refine (I1.out _ G1).mono ?_
    rintro e w2 ⟨rfl, hb2⟩
    have G2 := hw.below _ _ G1 hb2
    have s2 := hb2.size
    go_wp2_with fail
    refine (I2.out _ G2).mono ?_
    rintro e w3 ⟨rfl, hb3⟩
    have G3 := hw.below _ _ G2 hb3
    have s3 := hb3.size
    go_wp2_with fail
    refine (hX.out _ G3).mono ?_
    rintro e w4 ⟨rfl, hb4⟩
    have G4 := hw.below _ _ G3 hb4
    have s4 := hb4.size
    go_wp2_with (first
      | (go_at_call 23; refine (xIsDay_any _ _).mono ?_; rintro e w' ⟨rfl, rfl⟩; rw [HD.out])
      | fail)
    refine (X.out _ G4).mono ?_
    rintro e w5 ⟨rfl, hb5⟩
    have G5 := hw.below _ _ G4 hb5
    have s5 := hb5.size
    go_wp2_with (first
      | (go_at_call 21; refine (bWithin_any _ _ _ _).mono ?_; rintro e w' ⟨rfl, rfl⟩; rw [HN.out])
      | fail)
    go_ret
    exact ⟨rfl, (((hb1.trans (hb2.mono (by omega))).trans (hb3.mono (by omega))).trans (hb4.mono (by omega))).trans (hb5.mono (by omega))⟩
set_option maxRecDepth 100000 in
set_option maxHeartbeats 4000000 in
theorem RuleWorking_5 {sa : Option Addr} {sn sc : Nat} {l : List Hd} {G : World → Prop} (hw : Cw sa sn sc l G) (w : World) (g0 : G w) (day n : Int)
    (cL : Hid (∀ W, G W → Calls Try.prog 33 #[.slice sa sn sc] W (Ret (.bool true) W)))
    (xa : Int) (hA : Hid (∀ W, Calls Try.prog 39 #[.int .i64 n] W (Ret (.int .i64 xa) W))) (hx : xa ≤ 60) (he : chE l = 0) (hd : inB day 0 200000 = true) (hn : inB n (-2000) 2000 = true) :
    Calls Try.prog 8 #[.slice sa sn sc, .int .i64 day, .int .i64 n] w (RetB (.bool true) w) := by
  have hX := Lib.hid hw.xchk
  have hD : hdyE l day = 0 := by unfold hdyE; rw [he, cdE_1 hd]; rfl
  have I1 := Lib.hid (fun W (hW : G W) => IsWorking_ok hw W hW day hD)
  have I2 := Lib.hid (fun W (hW : G W) => AddWorking_ok hw W hW day n hD hn)
  have X := Lib.hid (fun W (hW : G W) => xIsWorking_cal hw he W hW day hd)
  have X2 := Lib.hid (fun W (hW : G W) => xAddWorking_cal hw he W hW day n hd hn)
  rw [he] at hX
  have HD := Lib.hid hd
  have HN := Lib.hid hn
  have hx' : decide (60 < xa) = false := by simp; omega
  clear hD he hd hn
  generalize workB l day = q at *
  generalize addRes l day n = r at *
  cases r
  all_goals
    simp only [wres, xres] at I2 X2
    go_enter Try.func8, Try.ntmps8
    go_wp2_with fail
    refine (awake_any _).mono ?_
    rintro e w1 ⟨rfl, hb1⟩
    have G1 := hw.below _ _ g0 hb1
    have s1 := hb1.size
    go_wp2_with (first
      | (go_at_call 33; refine (cL.out _ G1).mono ?_; rintro e w' ⟨rfl, rfl⟩)
      | (go_at_call 39; refine (hA.out _).mono ?_; rintro e w' ⟨rfl, rfl⟩)
      | fail
      | fail)
    refine (I1.out _ G1).mono ?_
    rintro e w2 ⟨rfl, hb2⟩
    have G2 := hw.below _ _ G1 hb2
    have s2 := hb2.size
    go_wp2_with fail
    refine (I2.out _ G2).mono ?_
    rintro e w3 ⟨rfl, hb3⟩
    have G3 := hw.below _ _ G2 hb3
    have s3 := hb3.size
    go_wp2_with fail
    refine (hX.out _ G3).mono ?_
    rintro e w4 ⟨rfl, hb4⟩
    have G4 := hw.below _ _ G3 hb4
    have s4 := hb4.size
    go_wp2_with (first
      | (go_at_call 23; refine (xIsDay_any _ _).mono ?_; rintro e w' ⟨rfl, rfl⟩; rw [HD.out])
      | fail)
    refine (X.out _ G4).mono ?_
    rintro e w5 ⟨rfl, hb5⟩
    have G5 := hw.below _ _ G4 hb5
    have s5 := hb5.size
    go_wp2_with (first
      | (go_at_call 21; refine (bWithin_any _ _ _ _).mono ?_; rintro e w' ⟨rfl, rfl⟩; rw [HN.out])
      | fail)
    refine (X2.out _ G5).mono ?_
    rintro e w6 ⟨rfl, hb6⟩
    go_wp2
    go_ret
    exact ⟨rfl, ((((hb1.trans (hb2.mono (by omega))).trans (hb3.mono (by omega))).trans (hb4.mono (by omega))).trans (hb5.mono (by omega))).trans (hb6.mono (by omega))⟩
theorem RuleWorking_cw {sa : Option Addr} {sn sc : Nat} {l : List Hd} {G : World → Prop} (hw : Cw sa sn sc l G) (w : World) (g0 : G w) (day n : Int) (hr : -9223372036854775808 ≤ n ∧ n ≤ 9223372036854775807) (b : Bool)
    (cL : Hid (∀ W, G W → Calls Try.prog 33 #[.slice sa sn sc] W (Ret (.bool b) W))) :
    Calls Try.prog 8 #[.slice sa sn sc, .int .i64 day, .int .i64 n] w (RetB (.bool true) w) := by
  cases b
  · exact RuleWorking_1 hw w g0 day n cL
  · obtain ⟨xa, hA⟩ := xAbs_any n hr.1 hr.2
    cases hn : inB n (-2000) 2000
    · by_cases he : chE l = 0
      · cases hd : inB day 0 200000
        · exact RuleWorking_3b hw w g0 day n cL xa (Lib.hid hA) (Or.inr hn) he hd
        · exact RuleWorking_4 hw w g0 day n cL xa (Lib.hid hA) he hd hn
      · exact RuleWorking_3a hw w g0 day n cL xa (Lib.hid hA) (Or.inr hn) he
    · by_cases hx : 60 < xa
      · exact RuleWorking_2 hw w g0 day n hn cL xa (Lib.hid hA) hx
      · by_cases he : chE l = 0
        · cases hd : inB day 0 200000
          · exact RuleWorking_3b hw w g0 day n cL xa (Lib.hid hA) (Or.inl (by omega)) he hd
          · exact RuleWorking_5 hw w g0 day n cL xa (Lib.hid hA) (by omega) he hd hn
        · exact RuleWorking_3a hw w g0 day n cL xa (Lib.hid hA) (Or.inl (by omega)) he
end Go.Proofs.Ytfphedcgmaakjaa
