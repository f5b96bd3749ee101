/-
  RuleSteps returns true for every list of holidays, day and steps, in every world in which the list lies: the walks.
-/
import Derived.Test.YtfphedcgmaakjabStepM
import Derived.Test.YtfphedcgmaakjabBet
import Derived.Test.YtfphedcgmaakjabBelow
namespace Go.Proofs.Ytfphedcgmaakjab
open Go.RowKit
attribute [local go_sem] set_drewN
theorem addRes_0c {l : List Hd} {L : Int} : addRes l L 0 = cont (workB l) 1 (L - 1) 1 := by
  unfold addRes cont
  rw [if_neg (by omega), if_neg (by omega), if_neg (by omega), show L - 1 + 1 = L from by omega]
theorem dl_far {l : List Hd} {L : Int} : (wg (workB l) 1 200001 L)[1 - 1]? = cont (workB l) 1 (L - 1) 1 := by
  unfold cont
  rw [if_neg (by omega), show L - 1 + 1 = L from by omega]
theorem dl_ex {l : List Hd} (hv : ∀ h ∈ l, hkE h = 0) (h8 : l.length ≤ 8) {day mo dy : Int} (wk : Bool) (d0 : 0 ≤ day) (d9 : day ≤ 196001) (m0 : 0 ≤ mo) (m9 : mo ≤ 60) (y0 : 0 ≤ dy) (y9 : dy ≤ 60) : ∃ x, dlRes l day mo dy wk = some x := by
  have a := mlt_lo (k := mo) d0 m0
  have b := mlt_up d0 m0 m9
  unfold dlRes
  rw [if_pos (inB_iff.2 ⟨by omega, by omega⟩)]
  cases wk
  · rw [if_neg (by simp), dl_far]
    exact cont_ex hv h8 (by omega) (by omega) (by omega)
  · rw [if_pos rfl]
    by_cases hz : dy = 0
    · subst hz; rw [addRes_0c]; exact cont_ex hv h8 (by omega) (by omega) (by omega)
    · rw [addRes_pos (by omega)]; exact cont_ex hv h8 (by omega) (by omega) (by omega)
theorem dl_le {l : List Hd} {day mo dy x x' : Int} {wk : Bool} (d0 : 0 ≤ day) (y0 : 0 ≤ dy) (h : dlRes l day mo dy wk = some x) (h' : dlRes l (day + 1) mo dy wk = some x') : x ≤ x' := by
  have a := mlt_next (k := mo) d0
  unfold dlRes at h h'
  split at h
  · split at h'
    · cases wk
      · rw [if_neg (by simp), dl_far] at h h'
        exact cont_mono (by omega) h h'
      · rw [if_pos rfl] at h h'
        by_cases hz : dy = 0
        · subst hz; rw [addRes_0c] at h h'; exact cont_mono (by omega) h h'
        · rw [addRes_pos (by omega)] at h h'; exact cont_mono a h h'
    · cases h'
  · cases h
/-- steps lie in block B -/
def Stp (W : World) (B : Nat) (f t mo dy : Int) (wk : Bool) : Prop := W.cell? ⟨B, 0, none⟩ = some (.int .i64 f) ∧ W.cell? ⟨B, 1, none⟩ = some (.int .i64 t) ∧ W.cell? ⟨B, 2, none⟩ = some (.int .i64 mo) ∧ W.cell? ⟨B, 3, none⟩ = some (.int .i64 dy) ∧ W.cell? ⟨B, 4, none⟩ = some (.bool wk)
theorem Stp.keep {W W' : World} {B : Nat} {f t mo dy : Int} {wk : Bool} (h : Stp W B f t mo dy wk) (hb : Below W.heap.size W W') : Stp W' B f t mo dy wk :=
  ⟨below_keep hb h.1, below_keep hb h.2.1, below_keep hb h.2.2.1, below_keep hb h.2.2.2.1, below_keep hb h.2.2.2.2⟩
theorem Stp.new (w : World) (f t mo dy : Int) (wk : Bool) : Stp (w.alloc (.cells #[.int .i64 f, .int .i64 t, .int .i64 mo, .int .i64 dy, .bool wk] 26)) w.heap.size f t mo dy wk := ⟨by simp [go_sem], by simp [go_sem], by simp [go_sem], by simp [go_sem], by simp [go_sem]⟩
set_option maxRecDepth 100000 in
set_option maxHeartbeats 4000000 in
theorem RuleSteps_1 {sa : Option Addr} {sn sc : Nat} {l : List Hd} {G : World → Prop} (hw : Cw sa sn sc l G) (w : World) (g0 : G w) (day f t mo dy : Int) (wk : Bool)
    (cL : Hid (∀ W, G W → Calls Try.prog 5 #[.slice sa sn sc] W (Ret (.bool false) W))) :
    Calls Try.prog 3 #[.slice sa sn sc, .int .i64 day, .agg #[.int .i64 f, .int .i64 t, .int .i64 mo, .int .i64 dy, .bool wk]] w (RetB (.bool true) w) := by
  go_enter Try.func3, Try.ntmps3
  go_wp2_with fail
  refine (awake_any _).mono ?_
  rintro e w1 ⟨rfl, hb1⟩
  have P1 := Lib.hid ((Stp.new w f t mo dy wk).keep hb1)
  have B1 := Lib.hid (((Below.refl _ w).alloc (Nat.le_refl _) _).trans (hb1.mono (by simp)))
  have G1 := Lib.hid (hw.below _ _ g0 B1.out)
  have s1 := hb1.size
  simp only [World.size_alloc] at s1
  clear hb1
  go_wp2_with (first
    | (go_at_call 5; refine (cL.out _ G1.out).mono ?_; rintro e w' ⟨rfl, rfl⟩)
    | fail)
  go_ret
  exact ⟨rfl, B1.out⟩
set_option maxRecDepth 100000 in
set_option maxHeartbeats 4000000 in
theorem RuleSteps_2 {sa : Option Addr} {sn sc : Nat} {l : List Hd} {G : World → Prop} (hw : Cw sa sn sc l G) (w : World) (g0 : G w) (day f t mo dy : Int) (wk : Bool)
    (cL : Hid (∀ W, G W → Calls Try.prog 5 #[.slice sa sn sc] W (Ret (.bool true) W))) (he : chE l ≠ 0) :
    Calls Try.prog 3 #[.slice sa sn sc, .int .i64 day, .agg #[.int .i64 f, .int .i64 t, .int .i64 mo, .int .i64 dy, .bool wk]] w (RetB (.bool true) w) := by
  have hX := Lib.hid hw.xchk
  have hb : (chE l != 0) = true := by simpa using he
  clear he
  generalize chE l = C at *
  go_enter Try.func3, Try.ntmps3
  go_wp2_with fail
  refine (awake_any _).mono ?_
  rintro e w1 ⟨rfl, hb1⟩
  have P1 := Lib.hid ((Stp.new w f t mo dy wk).keep hb1)
  have B1 := Lib.hid (((Below.refl _ w).alloc (Nat.le_refl _) _).trans (hb1.mono (by simp)))
  have G1 := Lib.hid (hw.below _ _ g0 B1.out)
  have s1 := hb1.size
  simp only [World.size_alloc] at s1
  clear hb1
  go_wp2_with (first
    | (go_at_call 5; refine (cL.out _ G1.out).mono ?_; rintro e w' ⟨rfl, rfl⟩)
    | fail)
  refine (hX.out _ G1.out).mono ?_
  rintro e w2 ⟨rfl, hb2⟩
  have P2 := Lib.hid (P1.out.keep hb2)
  obtain ⟨a0, a1, a2, a3, a4⟩ := P2.out
  have B2 := Lib.hid (B1.out.trans (hb2.mono (by omega)))
  have G2 := Lib.hid (hw.below _ _ g0 B2.out)
  have s2 := hb2.size
  clear hb2
  go_wp2
  go_ret
  exact ⟨rfl, B2.out⟩
set_option maxRecDepth 100000 in
set_option maxHeartbeats 4000000 in
theorem RuleSteps_3 {sa : Option Addr} {sn sc : Nat} {l : List Hd} {G : World → Prop} (hw : Cw sa sn sc l G) (w : World) (g0 : G w) (day f t mo dy : Int) (wk : Bool)
    (cL : Hid (∀ W, G W → Calls Try.prog 5 #[.slice sa sn sc] W (Ret (.bool true) W))) (he : chE l = 0) (hd : inB day 0 196000 = false) :
    Calls Try.prog 3 #[.slice sa sn sc, .int .i64 day, .agg #[.int .i64 f, .int .i64 t, .int .i64 mo, .int .i64 dy, .bool wk]] w (RetB (.bool true) w) := by
  have hX := Lib.hid hw.xchk
  rw [he] at hX
  have HD := Lib.hid hd
  clear hd
  go_enter Try.func3, Try.ntmps3
  go_wp2_with fail
  refine (awake_any _).mono ?_
  rintro e w1 ⟨rfl, hb1⟩
  have P1 := Lib.hid ((Stp.new w f t mo dy wk).keep hb1)
  have B1 := Lib.hid (((Below.refl _ w).alloc (Nat.le_refl _) _).trans (hb1.mono (by simp)))
  have G1 := Lib.hid (hw.below _ _ g0 B1.out)
  have s1 := hb1.size
  simp only [World.size_alloc] at s1
  clear hb1
  go_wp2_with (first
    | (go_at_call 5; refine (cL.out _ G1.out).mono ?_; rintro e w' ⟨rfl, rfl⟩)
    | fail)
  refine (hX.out _ G1.out).mono ?_
  rintro e w2 ⟨rfl, hb2⟩
  have P2 := Lib.hid (P1.out.keep hb2)
  obtain ⟨a0, a1, a2, a3, a4⟩ := P2.out
  have B2 := Lib.hid (B1.out.trans (hb2.mono (by omega)))
  have G2 := Lib.hid (hw.below _ _ g0 B2.out)
  have s2 := hb2.size
  clear hb2
  go_wp2_with (first
    | (go_at_call 7; refine (bWithin_any _ _ _ _).mono ?_; rintro e w' ⟨rfl, rfl⟩; rw [HD.out])
    | fail)
  go_ret
  exact ⟨rfl, B2.out⟩
set_option maxRecDepth 100000 in
set_option maxHeartbeats 4000000 in
theorem RuleSteps_4 {sa : Option Addr} {sn sc : Nat} {l : List Hd} {G : World → Prop} (hw : Cw sa sn sc l G) (w : World) (g0 : G w) (day f t mo dy : Int) (wk : Bool)
    (cL : Hid (∀ W, G W → Calls Try.prog 5 #[.slice sa sn sc] W (Ret (.bool true) W))) (he : chE l = 0) (hd : inB day 0 196000 = true) (hf : inB f 1 40 = false) :
    Calls Try.prog 3 #[.slice sa sn sc, .int .i64 day, .agg #[.int .i64 f, .int .i64 t, .int .i64 mo, .int .i64 dy, .bool wk]] w (RetB (.bool true) w) := by
  have hX := Lib.hid hw.xchk
  rw [he] at hX
  have HD := Lib.hid hd
  have HF := Lib.hid hf
  clear hd hf
  go_enter Try.func3, Try.ntmps3
  go_wp2_with fail
  refine (awake_any _).mono ?_
  rintro e w1 ⟨rfl, hb1⟩
  have P1 := Lib.hid ((Stp.new w f t mo dy wk).keep hb1)
  have B1 := Lib.hid (((Below.refl _ w).alloc (Nat.le_refl _) _).trans (hb1.mono (by simp)))
  have G1 := Lib.hid (hw.below _ _ g0 B1.out)
  have s1 := hb1.size
  simp only [World.size_alloc] at s1
  clear hb1
  go_wp2_with (first
    | (go_at_call 5; refine (cL.out _ G1.out).mono ?_; rintro e w' ⟨rfl, rfl⟩)
    | fail)
  refine (hX.out _ G1.out).mono ?_
  rintro e w2 ⟨rfl, hb2⟩
  have P2 := Lib.hid (P1.out.keep hb2)
  obtain ⟨a0, a1, a2, a3, a4⟩ := P2.out
  have B2 := Lib.hid (B1.out.trans (hb2.mono (by omega)))
  have G2 := Lib.hid (hw.below _ _ g0 B2.out)
  have s2 := hb2.size
  clear hb2
  go_wp2_with (first
    | (go_at_call 7; refine (bWithin_any _ _ _ _).mono ?_; rintro e w' ⟨rfl, rfl⟩; first | rw [HD.out] | rw [HF.out])
    | fail)
  go_ret
  exact ⟨rfl, B2.out⟩
set_option maxRecDepth 100000 in
set_option maxHeartbeats 4000000 in
theorem RuleSteps_5 {sa : Option Addr} {sn sc : Nat} {l : List Hd} {G : World → Prop} (hw : Cw sa sn sc l G) (w : World) (g0 : G w) (day f t mo dy : Int) (wk : Bool)
    (cL : Hid (∀ W, G W → Calls Try.prog 5 #[.slice sa sn sc] W (Ret (.bool true) W))) (he : chE l = 0) (hd : inB day 0 196000 = true) (hf : inB f 1 40 = true) (ht : inB t 1 40 = false) :
    Calls Try.prog 3 #[.slice sa sn sc, .int .i64 day, .agg #[.int .i64 f, .int .i64 t, .int .i64 mo, .int .i64 dy, .bool wk]] w (RetB (.bool true) w) := by
  have hX := Lib.hid hw.xchk
  rw [he] at hX
  have HD := Lib.hid hd
  have HF := Lib.hid hf
  have HT := Lib.hid ht
  clear hd hf ht
  go_enter Try.func3, Try.ntmps3
  go_wp2_with fail
  refine (awake_any _).mono ?_
  rintro e w1 ⟨rfl, hb1⟩
  have P1 := Lib.hid ((Stp.new w f t mo dy wk).keep hb1)
  have B1 := Lib.hid (((Below.refl _ w).alloc (Nat.le_refl _) _).trans (hb1.mono (by simp)))
  have G1 := Lib.hid (hw.below _ _ g0 B1.out)
  have s1 := hb1.size
  simp only [World.size_alloc] at s1
  clear hb1
  go_wp2_with (first
    | (go_at_call 5; refine (cL.out _ G1.out).mono ?_; rintro e w' ⟨rfl, rfl⟩)
    | fail)
  refine (hX.out _ G1.out).mono ?_
  rintro e w2 ⟨rfl, hb2⟩
  have P2 := Lib.hid (P1.out.keep hb2)
  obtain ⟨a0, a1, a2, a3, a4⟩ := P2.out
  have B2 := Lib.hid (B1.out.trans (hb2.mono (by omega)))
  have G2 := Lib.hid (hw.below _ _ g0 B2.out)
  have s2 := hb2.size
  clear hb2
  go_wp2_with (first
    | (go_at_call 7; refine (bWithin_any _ _ _ _).mono ?_; rintro e w' ⟨rfl, rfl⟩; first | rw [HD.out] | rw [HF.out] | rw [HT.out])
    | fail)
  go_ret
  exact ⟨rfl, B2.out⟩
set_option maxRecDepth 100000 in
set_option maxHeartbeats 4000000 in
theorem RuleSteps_6a {sa : Option Addr} {sn sc : Nat} {l : List Hd} {G : World → Prop} (hw : Cw sa sn sc l G) (w : World) (g0 : G w) (day f t mo dy : Int) (wk : Bool)
    (cL : Hid (∀ W, G W → Calls Try.prog 5 #[.slice sa sn sc] W (Ret (.bool true) W))) (he : chE l = 0) (hd : inB day 0 196000 = true) (hf : inB f 1 40 = true) (ht : inB t 1 40 = true) (a b : Int) (q : Bool) (N : Nat) (hN : q = true → (N : Int) = f) (N9 : N ≤ 200000)
    (I1 : Hid (∀ W, G W → Calls Try.prog 8 #[.slice sa sn sc, .int .i64 day, .int .i64 f] W (RetB (two (.int .i64 a) (.int .i64 0)) W)))
    (I2 : Hid (∀ W, G W → Calls Try.prog 8 #[.slice sa sn sc, .int .i64 a, .int .i64 t] W (RetB (two (.int .i64 b) (.int .i64 0)) W)))
    (I3 : Hid (∀ W, G W → Calls Try.prog 8 #[.slice sa sn sc, .int .i64 day, .int .i64 (f + t)] W (RetB (two (.int .i64 b) (.int .i64 0)) W)))
    (I4 : Hid (∀ W, G W → Calls Try.prog 9 #[.slice sa sn sc, .int .i64 day] W (RetB (two (.bool q) (.int .i64 0)) W)))
    (I5 : Hid (∀ W, G W → Calls Try.prog 10 #[.slice sa sn sc, .int .i64 day, .int .i64 a] W (RetB (two (.int .i64 (N : Int)) (.int .i64 0)) W))) (hp : pdE mo dy wk ≠ 0) :
    Calls Try.prog 3 #[.slice sa sn sc, .int .i64 day, .agg #[.int .i64 f, .int .i64 t, .int .i64 mo, .int .i64 dy, .bool wk]] w (RetB (.bool true) w) := by
  have hX := Lib.hid hw.xchk
  rw [he] at hX
  have HD := Lib.hid hd
  have HF := Lib.hid hf
  have HT := Lib.hid ht
  obtain ⟨d0, d9⟩ := inB_iff.1 hd
  obtain ⟨f0, f9⟩ := inB_iff.1 hf
  obtain ⟨t0, t9⟩ := inB_iff.1 ht
  have CP := Lib.hid (fun W => xCheckPeriod_any mo dy wk W)
  clear hd hf ht
  have hb : (pdE mo dy wk != 0) = true := by simpa using hp
  clear hp
  generalize pdE mo dy wk = Q at *
  cases q
  · clear hN
    go_enter Try.func3, Try.ntmps3
    go_wp2_with fail
    refine (awake_any _).mono ?_
    rintro e w1 ⟨rfl, hb1⟩
    have P1 := Lib.hid ((Stp.new w f t mo dy wk).keep hb1)
    have B1 := Lib.hid (((Below.refl _ w).alloc (Nat.le_refl _) _).trans (hb1.mono (by simp)))
    have G1 := Lib.hid (hw.below _ _ g0 B1.out)
    have s1 := hb1.size
    simp only [World.size_alloc] at s1
    clear hb1
    go_wp2_with (first
      | (go_at_call 5; refine (cL.out _ G1.out).mono ?_; rintro e w' ⟨rfl, rfl⟩)
      | fail)
    refine (hX.out _ G1.out).mono ?_
    rintro e w2 ⟨rfl, hb2⟩
    have P2 := Lib.hid (P1.out.keep hb2)
    obtain ⟨a0, a1, a2, a3, a4⟩ := P2.out
    have B2 := Lib.hid (B1.out.trans (hb2.mono (by omega)))
    have G2 := Lib.hid (hw.below _ _ g0 B2.out)
    have s2 := hb2.size
    clear hb2
    go_wp2_with (first
      | (go_at_call 7; refine (bWithin_any _ _ _ _).mono ?_; rintro e w' ⟨rfl, rfl⟩; first | rw [HD.out] | rw [HF.out] | rw [HT.out])
      | fail)
    refine (I1.out _ G2.out).mono ?_
    rintro e w3 ⟨rfl, hb3⟩
    have P3 := Lib.hid (P2.out.keep hb3)
    obtain ⟨a0, a1, a2, a3, a4⟩ := P3.out
    have B3 := Lib.hid (B2.out.trans (hb3.mono (by omega)))
    have G3 := Lib.hid (hw.below _ _ g0 B3.out)
    have s3 := hb3.size
    clear hb3
    go_wp2_with fail
    refine (I2.out _ G3.out).mono ?_
    rintro e w4 ⟨rfl, hb4⟩
    have P4 := Lib.hid (P3.out.keep hb4)
    obtain ⟨a0, a1, a2, a3, a4⟩ := P4.out
    have B4 := Lib.hid (B3.out.trans (hb4.mono (by omega)))
    have G4 := Lib.hid (hw.below _ _ g0 B4.out)
    have s4 := hb4.size
    clear hb4
    go_wp2_with fail
    refine (I3.out _ G4.out).mono ?_
    rintro e w5 ⟨rfl, hb5⟩
    have P5 := Lib.hid (P4.out.keep hb5)
    obtain ⟨a0, a1, a2, a3, a4⟩ := P5.out
    have B5 := Lib.hid (B4.out.trans (hb5.mono (by omega)))
    have G5 := Lib.hid (hw.below _ _ g0 B5.out)
    have s5 := hb5.size
    clear hb5
    go_wp2_with fail
    refine (I4.out _ G5.out).mono ?_
    rintro e w6 ⟨rfl, hb6⟩
    have P6 := Lib.hid (P5.out.keep hb6)
    obtain ⟨a0, a1, a2, a3, a4⟩ := P6.out
    have B6 := Lib.hid (B5.out.trans (hb6.mono (by omega)))
    have G6 := Lib.hid (hw.below _ _ g0 B6.out)
    have s6 := hb6.size
    clear hb6
    go_wp2_with fail
    refine (I5.out _ G6.out).mono ?_
    rintro e w7 ⟨rfl, hb7⟩
    have P7 := Lib.hid (P6.out.keep hb7)
    obtain ⟨a0, a1, a2, a3, a4⟩ := P7.out
    have B7 := Lib.hid (B6.out.trans (hb7.mono (by omega)))
    have G7 := Lib.hid (hw.below _ _ g0 B7.out)
    have s7 := hb7.size
    clear hb7
    go_wp2_with fail
    refine (CP.out _).mono ?_
    rintro e w8 ⟨rfl, hb8⟩
    have P8 := Lib.hid (P7.out.keep hb8)
    obtain ⟨a0, a1, a2, a3, a4⟩ := P8.out
    have B8 := Lib.hid (B7.out.trans (hb8.mono (by omega)))
    have G8 := Lib.hid (hw.below _ _ g0 B8.out)
    have s8 := hb8.size
    clear hb8
    go_wp2
    go_ret
    exact ⟨rfl, B8.out⟩
  · have hNf := hN rfl
    clear hN
    subst hNf
    go_enter Try.func3, Try.ntmps3
    go_wp2_with fail
    refine (awake_any _).mono ?_
    rintro e w1 ⟨rfl, hb1⟩
    have P1 := Lib.hid ((Stp.new w N t mo dy wk).keep hb1)
    have B1 := Lib.hid (((Below.refl _ w).alloc (Nat.le_refl _) _).trans (hb1.mono (by simp)))
    have G1 := Lib.hid (hw.below _ _ g0 B1.out)
    have s1 := hb1.size
    simp only [World.size_alloc] at s1
    clear hb1
    go_wp2_with (first
      | (go_at_call 5; refine (cL.out _ G1.out).mono ?_; rintro e w' ⟨rfl, rfl⟩)
      | fail)
    refine (hX.out _ G1.out).mono ?_
    rintro e w2 ⟨rfl, hb2⟩
    have P2 := Lib.hid (P1.out.keep hb2)
    obtain ⟨a0, a1, a2, a3, a4⟩ := P2.out
    have B2 := Lib.hid (B1.out.trans (hb2.mono (by omega)))
    have G2 := Lib.hid (hw.below _ _ g0 B2.out)
    have s2 := hb2.size
    clear hb2
    go_wp2_with (first
      | (go_at_call 7; refine (bWithin_any _ _ _ _).mono ?_; rintro e w' ⟨rfl, rfl⟩; first | rw [HD.out] | rw [HF.out] | rw [HT.out])
      | fail)
    refine (I1.out _ G2.out).mono ?_
    rintro e w3 ⟨rfl, hb3⟩
    have P3 := Lib.hid (P2.out.keep hb3)
    obtain ⟨a0, a1, a2, a3, a4⟩ := P3.out
    have B3 := Lib.hid (B2.out.trans (hb3.mono (by omega)))
    have G3 := Lib.hid (hw.below _ _ g0 B3.out)
    have s3 := hb3.size
    clear hb3
    go_wp2_with fail
    refine (I2.out _ G3.out).mono ?_
    rintro e w4 ⟨rfl, hb4⟩
    have P4 := Lib.hid (P3.out.keep hb4)
    obtain ⟨a0, a1, a2, a3, a4⟩ := P4.out
    have B4 := Lib.hid (B3.out.trans (hb4.mono (by omega)))
    have G4 := Lib.hid (hw.below _ _ g0 B4.out)
    have s4 := hb4.size
    clear hb4
    go_wp2_with fail
    refine (I3.out _ G4.out).mono ?_
    rintro e w5 ⟨rfl, hb5⟩
    have P5 := Lib.hid (P4.out.keep hb5)
    obtain ⟨a0, a1, a2, a3, a4⟩ := P5.out
    have B5 := Lib.hid (B4.out.trans (hb5.mono (by omega)))
    have G5 := Lib.hid (hw.below _ _ g0 B5.out)
    have s5 := hb5.size
    clear hb5
    go_wp2_with fail
    refine (I4.out _ G5.out).mono ?_
    rintro e w6 ⟨rfl, hb6⟩
    have P6 := Lib.hid (P5.out.keep hb6)
    obtain ⟨a0, a1, a2, a3, a4⟩ := P6.out
    have B6 := Lib.hid (B5.out.trans (hb6.mono (by omega)))
    have G6 := Lib.hid (hw.below _ _ g0 B6.out)
    have s6 := hb6.size
    clear hb6
    go_wp2_with fail
    refine (I5.out _ G6.out).mono ?_
    rintro e w7 ⟨rfl, hb7⟩
    have P7 := Lib.hid (P6.out.keep hb7)
    obtain ⟨a0, a1, a2, a3, a4⟩ := P7.out
    have B7 := Lib.hid (B6.out.trans (hb7.mono (by omega)))
    have G7 := Lib.hid (hw.below _ _ g0 B7.out)
    have s7 := hb7.size
    clear hb7
    go_wp2_with fail
    refine (CP.out _).mono ?_
    rintro e w8 ⟨rfl, hb8⟩
    have P8 := Lib.hid (P7.out.keep hb8)
    obtain ⟨a0, a1, a2, a3, a4⟩ := P8.out
    have B8 := Lib.hid (B7.out.trans (hb8.mono (by omega)))
    have G8 := Lib.hid (hw.below _ _ g0 B8.out)
    have s8 := hb8.size
    clear hb8
    go_wp2
    go_ret
    exact ⟨rfl, B8.out⟩
set_option maxRecDepth 100000 in
set_option maxHeartbeats 4000000 in
theorem RuleSteps_6b {sa : Option Addr} {sn sc : Nat} {l : List Hd} {G : World → Prop} (hw : Cw sa sn sc l G) (w : World) (g0 : G w) (day f t mo dy : Int) (wk : Bool)
    (cL : Hid (∀ W, G W → Calls Try.prog 5 #[.slice sa sn sc] W (Ret (.bool true) W))) (he : chE l = 0) (hd : inB day 0 196000 = true) (hf : inB f 1 40 = true) (ht : inB t 1 40 = true) (a b : Int) (q : Bool) (N : Nat) (hN : q = true → (N : Int) = f) (N9 : N ≤ 200000)
    (I1 : Hid (∀ W, G W → Calls Try.prog 8 #[.slice sa sn sc, .int .i64 day, .int .i64 f] W (RetB (two (.int .i64 a) (.int .i64 0)) W)))
    (I2 : Hid (∀ W, G W → Calls Try.prog 8 #[.slice sa sn sc, .int .i64 a, .int .i64 t] W (RetB (two (.int .i64 b) (.int .i64 0)) W)))
    (I3 : Hid (∀ W, G W → Calls Try.prog 8 #[.slice sa sn sc, .int .i64 day, .int .i64 (f + t)] W (RetB (two (.int .i64 b) (.int .i64 0)) W)))
    (I4 : Hid (∀ W, G W → Calls Try.prog 9 #[.slice sa sn sc, .int .i64 day] W (RetB (two (.bool q) (.int .i64 0)) W)))
    (I5 : Hid (∀ W, G W → Calls Try.prog 10 #[.slice sa sn sc, .int .i64 day, .int .i64 a] W (RetB (two (.int .i64 (N : Int)) (.int .i64 0)) W))) (hp : pdE mo dy wk = 0) (hy : 60 < dy) :
    Calls Try.prog 3 #[.slice sa sn sc, .int .i64 day, .agg #[.int .i64 f, .int .i64 t, .int .i64 mo, .int .i64 dy, .bool wk]] w (RetB (.bool true) w) := by
  have hX := Lib.hid hw.xchk
  rw [he] at hX
  have HD := Lib.hid hd
  have HF := Lib.hid hf
  have HT := Lib.hid ht
  obtain ⟨d0, d9⟩ := inB_iff.1 hd
  obtain ⟨f0, f9⟩ := inB_iff.1 hf
  obtain ⟨t0, t9⟩ := inB_iff.1 ht
  have CP := Lib.hid (fun W => xCheckPeriod_any mo dy wk W)
  clear hd hf ht
  rw [hp] at CP
  clear hp
  cases q
  · clear hN
    go_enter Try.func3, Try.ntmps3
    go_wp2_with fail
    refine (awake_any _).mono ?_
    rintro e w1 ⟨rfl, hb1⟩
    have P1 := Lib.hid ((Stp.new w f t mo dy wk).keep hb1)
    have B1 := Lib.hid (((Below.refl _ w).alloc (Nat.le_refl _) _).trans (hb1.mono (by simp)))
    have G1 := Lib.hid (hw.below _ _ g0 B1.out)
    have s1 := hb1.size
    simp only [World.size_alloc] at s1
    clear hb1
    go_wp2_with (first
      | (go_at_call 5; refine (cL.out _ G1.out).mono ?_; rintro e w' ⟨rfl, rfl⟩)
      | fail)
    refine (hX.out _ G1.out).mono ?_
    rintro e w2 ⟨rfl, hb2⟩
    have P2 := Lib.hid (P1.out.keep hb2)
    obtain ⟨a0, a1, a2, a3, a4⟩ := P2.out
    have B2 := Lib.hid (B1.out.trans (hb2.mono (by omega)))
    have G2 := Lib.hid (hw.below _ _ g0 B2.out)
    have s2 := hb2.size
    clear hb2
    go_wp2_with (first
      | (go_at_call 7; refine (bWithin_any _ _ _ _).mono ?_; rintro e w' ⟨rfl, rfl⟩; first | rw [HD.out] | rw [HF.out] | rw [HT.out])
      | fail)
    refine (I1.out _ G2.out).mono ?_
    rintro e w3 ⟨rfl, hb3⟩
    have P3 := Lib.hid (P2.out.keep hb3)
    obtain ⟨a0, a1, a2, a3, a4⟩ := P3.out
    have B3 := Lib.hid (B2.out.trans (hb3.mono (by omega)))
    have G3 := Lib.hid (hw.below _ _ g0 B3.out)
    have s3 := hb3.size
    clear hb3
    go_wp2_with fail
    refine (I2.out _ G3.out).mono ?_
    rintro e w4 ⟨rfl, hb4⟩
    have P4 := Lib.hid (P3.out.keep hb4)
    obtain ⟨a0, a1, a2, a3, a4⟩ := P4.out
    have B4 := Lib.hid (B3.out.trans (hb4.mono (by omega)))
    have G4 := Lib.hid (hw.below _ _ g0 B4.out)
    have s4 := hb4.size
    clear hb4
    go_wp2_with fail
    refine (I3.out _ G4.out).mono ?_
    rintro e w5 ⟨rfl, hb5⟩
    have P5 := Lib.hid (P4.out.keep hb5)
    obtain ⟨a0, a1, a2, a3, a4⟩ := P5.out
    have B5 := Lib.hid (B4.out.trans (hb5.mono (by omega)))
    have G5 := Lib.hid (hw.below _ _ g0 B5.out)
    have s5 := hb5.size
    clear hb5
    go_wp2_with fail
    refine (I4.out _ G5.out).mono ?_
    rintro e w6 ⟨rfl, hb6⟩
    have P6 := Lib.hid (P5.out.keep hb6)
    obtain ⟨a0, a1, a2, a3, a4⟩ := P6.out
    have B6 := Lib.hid (B5.out.trans (hb6.mono (by omega)))
    have G6 := Lib.hid (hw.below _ _ g0 B6.out)
    have s6 := hb6.size
    clear hb6
    go_wp2_with fail
    refine (I5.out _ G6.out).mono ?_
    rintro e w7 ⟨rfl, hb7⟩
    have P7 := Lib.hid (P6.out.keep hb7)
    obtain ⟨a0, a1, a2, a3, a4⟩ := P7.out
    have B7 := Lib.hid (B6.out.trans (hb7.mono (by omega)))
    have G7 := Lib.hid (hw.below _ _ g0 B7.out)
    have s7 := hb7.size
    clear hb7
    go_wp2_with fail
    refine (CP.out _).mono ?_
    rintro e w8 ⟨rfl, hb8⟩
    have P8 := Lib.hid (P7.out.keep hb8)
    obtain ⟨a0, a1, a2, a3, a4⟩ := P8.out
    have B8 := Lib.hid (B7.out.trans (hb8.mono (by omega)))
    have G8 := Lib.hid (hw.below _ _ g0 B8.out)
    have s8 := hb8.size
    clear hb8
    go_wp2
    go_ret
    exact ⟨rfl, B8.out⟩
  · have hNf := hN rfl
    clear hN
    subst hNf
    go_enter Try.func3, Try.ntmps3
    go_wp2_with fail
    refine (awake_any _).mono ?_
    rintro e w1 ⟨rfl, hb1⟩
    have P1 := Lib.hid ((Stp.new w N t mo dy wk).keep hb1)
    have B1 := Lib.hid (((Below.refl _ w).alloc (Nat.le_refl _) _).trans (hb1.mono (by simp)))
    have G1 := Lib.hid (hw.below _ _ g0 B1.out)
    have s1 := hb1.size
    simp only [World.size_alloc] at s1
    clear hb1
    go_wp2_with (first
      | (go_at_call 5; refine (cL.out _ G1.out).mono ?_; rintro e w' ⟨rfl, rfl⟩)
      | fail)
    refine (hX.out _ G1.out).mono ?_
    rintro e w2 ⟨rfl, hb2⟩
    have P2 := Lib.hid (P1.out.keep hb2)
    obtain ⟨a0, a1, a2, a3, a4⟩ := P2.out
    have B2 := Lib.hid (B1.out.trans (hb2.mono (by omega)))
    have G2 := Lib.hid (hw.below _ _ g0 B2.out)
    have s2 := hb2.size
    clear hb2
    go_wp2_with (first
      | (go_at_call 7; refine (bWithin_any _ _ _ _).mono ?_; rintro e w' ⟨rfl, rfl⟩; first | rw [HD.out] | rw [HF.out] | rw [HT.out])
      | fail)
    refine (I1.out _ G2.out).mono ?_
    rintro e w3 ⟨rfl, hb3⟩
    have P3 := Lib.hid (P2.out.keep hb3)
    obtain ⟨a0, a1, a2, a3, a4⟩ := P3.out
    have B3 := Lib.hid (B2.out.trans (hb3.mono (by omega)))
    have G3 := Lib.hid (hw.below _ _ g0 B3.out)
    have s3 := hb3.size
    clear hb3
    go_wp2_with fail
    refine (I2.out _ G3.out).mono ?_
    rintro e w4 ⟨rfl, hb4⟩
    have P4 := Lib.hid (P3.out.keep hb4)
    obtain ⟨a0, a1, a2, a3, a4⟩ := P4.out
    have B4 := Lib.hid (B3.out.trans (hb4.mono (by omega)))
    have G4 := Lib.hid (hw.below _ _ g0 B4.out)
    have s4 := hb4.size
    clear hb4
    go_wp2_with fail
    refine (I3.out _ G4.out).mono ?_
    rintro e w5 ⟨rfl, hb5⟩
    have P5 := Lib.hid (P4.out.keep hb5)
    obtain ⟨a0, a1, a2, a3, a4⟩ := P5.out
    have B5 := Lib.hid (B4.out.trans (hb5.mono (by omega)))
    have G5 := Lib.hid (hw.below _ _ g0 B5.out)
    have s5 := hb5.size
    clear hb5
    go_wp2_with fail
    refine (I4.out _ G5.out).mono ?_
    rintro e w6 ⟨rfl, hb6⟩
    have P6 := Lib.hid (P5.out.keep hb6)
    obtain ⟨a0, a1, a2, a3, a4⟩ := P6.out
    have B6 := Lib.hid (B5.out.trans (hb6.mono (by omega)))
    have G6 := Lib.hid (hw.below _ _ g0 B6.out)
    have s6 := hb6.size
    clear hb6
    go_wp2_with fail
    refine (I5.out _ G6.out).mono ?_
    rintro e w7 ⟨rfl, hb7⟩
    have P7 := Lib.hid (P6.out.keep hb7)
    obtain ⟨a0, a1, a2, a3, a4⟩ := P7.out
    have B7 := Lib.hid (B6.out.trans (hb7.mono (by omega)))
    have G7 := Lib.hid (hw.below _ _ g0 B7.out)
    have s7 := hb7.size
    clear hb7
    go_wp2_with fail
    refine (CP.out _).mono ?_
    rintro e w8 ⟨rfl, hb8⟩
    have P8 := Lib.hid (P7.out.keep hb8)
    obtain ⟨a0, a1, a2, a3, a4⟩ := P8.out
    have B8 := Lib.hid (B7.out.trans (hb8.mono (by omega)))
    have G8 := Lib.hid (hw.below _ _ g0 B8.out)
    have s8 := hb8.size
    clear hb8
    go_wp2
    go_ret
    exact ⟨rfl, B8.out⟩
set_option maxRecDepth 100000 in
set_option maxHeartbeats 4000000 in
theorem RuleSteps_6c {sa : Option Addr} {sn sc : Nat} {l : List Hd} {G : World → Prop} (hw : Cw sa sn sc l G) (w : World) (g0 : G w) (day f t mo dy : Int) (wk : Bool)
    (cL : Hid (∀ W, G W → Calls Try.prog 5 #[.slice sa sn sc] W (Ret (.bool true) W))) (he : chE l = 0) (hd : inB day 0 196000 = true) (hf : inB f 1 40 = true) (ht : inB t 1 40 = true) (a b : Int) (q : Bool) (N : Nat) (hN : q = true → (N : Int) = f) (N9 : N ≤ 200000)
    (I1 : Hid (∀ W, G W → Calls Try.prog 8 #[.slice sa sn sc, .int .i64 day, .int .i64 f] W (RetB (two (.int .i64 a) (.int .i64 0)) W)))
    (I2 : Hid (∀ W, G W → Calls Try.prog 8 #[.slice sa sn sc, .int .i64 a, .int .i64 t] W (RetB (two (.int .i64 b) (.int .i64 0)) W)))
    (I3 : Hid (∀ W, G W → Calls Try.prog 8 #[.slice sa sn sc, .int .i64 day, .int .i64 (f + t)] W (RetB (two (.int .i64 b) (.int .i64 0)) W)))
    (I4 : Hid (∀ W, G W → Calls Try.prog 9 #[.slice sa sn sc, .int .i64 day] W (RetB (two (.bool q) (.int .i64 0)) W)))
    (I5 : Hid (∀ W, G W → Calls Try.prog 10 #[.slice sa sn sc, .int .i64 day, .int .i64 a] W (RetB (two (.int .i64 (N : Int)) (.int .i64 0)) W))) (hp : pdE mo dy wk = 0) (hy : ¬ 60 < dy) (hm : 60 < mo) :
    Calls Try.prog 3 #[.slice sa sn sc, .int .i64 day, .agg #[.int .i64 f, .int .i64 t, .int .i64 mo, .int .i64 dy, .bool wk]] w (RetB (.bool true) w) := by
  have hX := Lib.hid hw.xchk
  rw [he] at hX
  have HD := Lib.hid hd
  have HF := Lib.hid hf
  have HT := Lib.hid ht
  obtain ⟨d0, d9⟩ := inB_iff.1 hd
  obtain ⟨f0, f9⟩ := inB_iff.1 hf
  obtain ⟨t0, t9⟩ := inB_iff.1 ht
  have CP := Lib.hid (fun W => xCheckPeriod_any mo dy wk W)
  clear hd hf ht
  have hy' : decide (60 < dy) = false := by simpa using hy
  rw [hp] at CP
  clear hp
  cases q
  · clear hN
    go_enter Try.func3, Try.ntmps3
    go_wp2_with fail
    refine (awake_any _).mono ?_
    rintro e w1 ⟨rfl, hb1⟩
    have P1 := Lib.hid ((Stp.new w f t mo dy wk).keep hb1)
    have B1 := Lib.hid (((Below.refl _ w).alloc (Nat.le_refl _) _).trans (hb1.mono (by simp)))
    have G1 := Lib.hid (hw.below _ _ g0 B1.out)
    have s1 := hb1.size
    simp only [World.size_alloc] at s1
    clear hb1
    go_wp2_with (first
      | (go_at_call 5; refine (cL.out _ G1.out).mono ?_; rintro e w' ⟨rfl, rfl⟩)
      | fail)
    refine (hX.out _ G1.out).mono ?_
    rintro e w2 ⟨rfl, hb2⟩
    have P2 := Lib.hid (P1.out.keep hb2)
    obtain ⟨a0, a1, a2, a3, a4⟩ := P2.out
    have B2 := Lib.hid (B1.out.trans (hb2.mono (by omega)))
    have G2 := Lib.hid (hw.below _ _ g0 B2.out)
    have s2 := hb2.size
    clear hb2
    go_wp2_with (first
      | (go_at_call 7; refine (bWithin_any _ _ _ _).mono ?_; rintro e w' ⟨rfl, rfl⟩; first | rw [HD.out] | rw [HF.out] | rw [HT.out])
      | fail)
    refine (I1.out _ G2.out).mono ?_
    rintro e w3 ⟨rfl, hb3⟩
    have P3 := Lib.hid (P2.out.keep hb3)
    obtain ⟨a0, a1, a2, a3, a4⟩ := P3.out
    have B3 := Lib.hid (B2.out.trans (hb3.mono (by omega)))
    have G3 := Lib.hid (hw.below _ _ g0 B3.out)
    have s3 := hb3.size
    clear hb3
    go_wp2_with fail
    refine (I2.out _ G3.out).mono ?_
    rintro e w4 ⟨rfl, hb4⟩
    have P4 := Lib.hid (P3.out.keep hb4)
    obtain ⟨a0, a1, a2, a3, a4⟩ := P4.out
    have B4 := Lib.hid (B3.out.trans (hb4.mono (by omega)))
    have G4 := Lib.hid (hw.below _ _ g0 B4.out)
    have s4 := hb4.size
    clear hb4
    go_wp2_with fail
    refine (I3.out _ G4.out).mono ?_
    rintro e w5 ⟨rfl, hb5⟩
    have P5 := Lib.hid (P4.out.keep hb5)
    obtain ⟨a0, a1, a2, a3, a4⟩ := P5.out
    have B5 := Lib.hid (B4.out.trans (hb5.mono (by omega)))
    have G5 := Lib.hid (hw.below _ _ g0 B5.out)
    have s5 := hb5.size
    clear hb5
    go_wp2_with fail
    refine (I4.out _ G5.out).mono ?_
    rintro e w6 ⟨rfl, hb6⟩
    have P6 := Lib.hid (P5.out.keep hb6)
    obtain ⟨a0, a1, a2, a3, a4⟩ := P6.out
    have B6 := Lib.hid (B5.out.trans (hb6.mono (by omega)))
    have G6 := Lib.hid (hw.below _ _ g0 B6.out)
    have s6 := hb6.size
    clear hb6
    go_wp2_with fail
    refine (I5.out _ G6.out).mono ?_
    rintro e w7 ⟨rfl, hb7⟩
    have P7 := Lib.hid (P6.out.keep hb7)
    obtain ⟨a0, a1, a2, a3, a4⟩ := P7.out
    have B7 := Lib.hid (B6.out.trans (hb7.mono (by omega)))
    have G7 := Lib.hid (hw.below _ _ g0 B7.out)
    have s7 := hb7.size
    clear hb7
    go_wp2_with fail
    refine (CP.out _).mono ?_
    rintro e w8 ⟨rfl, hb8⟩
    have P8 := Lib.hid (P7.out.keep hb8)
    obtain ⟨a0, a1, a2, a3, a4⟩ := P8.out
    have B8 := Lib.hid (B7.out.trans (hb8.mono (by omega)))
    have G8 := Lib.hid (hw.below _ _ g0 B8.out)
    have s8 := hb8.size
    clear hb8
    go_wp2
    go_ret
    exact ⟨rfl, B8.out⟩
  · have hNf := hN rfl
    clear hN
    subst hNf
    go_enter Try.func3, Try.ntmps3
    go_wp2_with fail
    refine (awake_any _).mono ?_
    rintro e w1 ⟨rfl, hb1⟩
    have P1 := Lib.hid ((Stp.new w N t mo dy wk).keep hb1)
    have B1 := Lib.hid (((Below.refl _ w).alloc (Nat.le_refl _) _).trans (hb1.mono (by simp)))
    have G1 := Lib.hid (hw.below _ _ g0 B1.out)
    have s1 := hb1.size
    simp only [World.size_alloc] at s1
    clear hb1
    go_wp2_with (first
      | (go_at_call 5; refine (cL.out _ G1.out).mono ?_; rintro e w' ⟨rfl, rfl⟩)
      | fail)
    refine (hX.out _ G1.out).mono ?_
    rintro e w2 ⟨rfl, hb2⟩
    have P2 := Lib.hid (P1.out.keep hb2)
    obtain ⟨a0, a1, a2, a3, a4⟩ := P2.out
    have B2 := Lib.hid (B1.out.trans (hb2.mono (by omega)))
    have G2 := Lib.hid (hw.below _ _ g0 B2.out)
    have s2 := hb2.size
    clear hb2
    go_wp2_with (first
      | (go_at_call 7; refine (bWithin_any _ _ _ _).mono ?_; rintro e w' ⟨rfl, rfl⟩; first | rw [HD.out] | rw [HF.out] | rw [HT.out])
      | fail)
    refine (I1.out _ G2.out).mono ?_
    rintro e w3 ⟨rfl, hb3⟩
    have P3 := Lib.hid (P2.out.keep hb3)
    obtain ⟨a0, a1, a2, a3, a4⟩ := P3.out
    have B3 := Lib.hid (B2.out.trans (hb3.mono (by omega)))
    have G3 := Lib.hid (hw.below _ _ g0 B3.out)
    have s3 := hb3.size
    clear hb3
    go_wp2_with fail
    refine (I2.out _ G3.out).mono ?_
    rintro e w4 ⟨rfl, hb4⟩
    have P4 := Lib.hid (P3.out.keep hb4)
    obtain ⟨a0, a1, a2, a3, a4⟩ := P4.out
    have B4 := Lib.hid (B3.out.trans (hb4.mono (by omega)))
    have G4 := Lib.hid (hw.below _ _ g0 B4.out)
    have s4 := hb4.size
    clear hb4
    go_wp2_with fail
    refine (I3.out _ G4.out).mono ?_
    rintro e w5 ⟨rfl, hb5⟩
    have P5 := Lib.hid (P4.out.keep hb5)
    obtain ⟨a0, a1, a2, a3, a4⟩ := P5.out
    have B5 := Lib.hid (B4.out.trans (hb5.mono (by omega)))
    have G5 := Lib.hid (hw.below _ _ g0 B5.out)
    have s5 := hb5.size
    clear hb5
    go_wp2_with fail
    refine (I4.out _ G5.out).mono ?_
    rintro e w6 ⟨rfl, hb6⟩
    have P6 := Lib.hid (P5.out.keep hb6)
    obtain ⟨a0, a1, a2, a3, a4⟩ := P6.out
    have B6 := Lib.hid (B5.out.trans (hb6.mono (by omega)))
    have G6 := Lib.hid (hw.below _ _ g0 B6.out)
    have s6 := hb6.size
    clear hb6
    go_wp2_with fail
    refine (I5.out _ G6.out).mono ?_
    rintro e w7 ⟨rfl, hb7⟩
    have P7 := Lib.hid (P6.out.keep hb7)
    obtain ⟨a0, a1, a2, a3, a4⟩ := P7.out
    have B7 := Lib.hid (B6.out.trans (hb7.mono (by omega)))
    have G7 := Lib.hid (hw.below _ _ g0 B7.out)
    have s7 := hb7.size
    clear hb7
    go_wp2_with fail
    refine (CP.out _).mono ?_
    rintro e w8 ⟨rfl, hb8⟩
    have P8 := Lib.hid (P7.out.keep hb8)
    obtain ⟨a0, a1, a2, a3, a4⟩ := P8.out
    have B8 := Lib.hid (B7.out.trans (hb8.mono (by omega)))
    have G8 := Lib.hid (hw.below _ _ g0 B8.out)
    have s8 := hb8.size
    clear hb8
    go_wp2
    go_ret
    exact ⟨rfl, B8.out⟩
set_option maxRecDepth 100000 in
set_option maxHeartbeats 4000000 in
theorem RuleSteps_7 {sa : Option Addr} {sn sc : Nat} {l : List Hd} {G : World → Prop} (hw : Cw sa sn sc l G) (w : World) (g0 : G w) (day f t mo dy : Int) (wk : Bool)
    (cL : Hid (∀ W, G W → Calls Try.prog 5 #[.slice sa sn sc] W (Ret (.bool true) W))) (he : chE l = 0) (hd : inB day 0 196000 = true) (hf : inB f 1 40 = true) (ht : inB t 1 40 = true) (a b : Int) (q : Bool) (N : Nat) (hN : q = true → (N : Int) = f) (N9 : N ≤ 200000)
    (I1 : Hid (∀ W, G W → Calls Try.prog 8 #[.slice sa sn sc, .int .i64 day, .int .i64 f] W (RetB (two (.int .i64 a) (.int .i64 0)) W)))
    (I2 : Hid (∀ W, G W → Calls Try.prog 8 #[.slice sa sn sc, .int .i64 a, .int .i64 t] W (RetB (two (.int .i64 b) (.int .i64 0)) W)))
    (I3 : Hid (∀ W, G W → Calls Try.prog 8 #[.slice sa sn sc, .int .i64 day, .int .i64 (f + t)] W (RetB (two (.int .i64 b) (.int .i64 0)) W)))
    (I4 : Hid (∀ W, G W → Calls Try.prog 9 #[.slice sa sn sc, .int .i64 day] W (RetB (two (.bool q) (.int .i64 0)) W)))
    (I5 : Hid (∀ W, G W → Calls Try.prog 10 #[.slice sa sn sc, .int .i64 day, .int .i64 a] W (RetB (two (.int .i64 (N : Int)) (.int .i64 0)) W))) (hp : pdE mo dy wk = 0) (hy : ¬ 60 < dy) (hm : ¬ 60 < mo) (x y : Int) (hxy : x ≤ y)
    (J1 : Hid (∀ W, G W → Calls Try.prog 12 #[.slice sa sn sc, .int .i64 day, .agg #[.int .i64 mo, .int .i64 dy, .bool wk]] W (RetB (two (.int .i64 x) (.int .i64 0)) W)))
    (J2 : Hid (∀ W, G W → Calls Try.prog 12 #[.slice sa sn sc, .int .i64 (day + 1), .agg #[.int .i64 mo, .int .i64 dy, .bool wk]] W (RetB (two (.int .i64 y) (.int .i64 0)) W))) :
    Calls Try.prog 3 #[.slice sa sn sc, .int .i64 day, .agg #[.int .i64 f, .int .i64 t, .int .i64 mo, .int .i64 dy, .bool wk]] w (RetB (.bool true) w) := by
  have hX := Lib.hid hw.xchk
  rw [he] at hX
  have HD := Lib.hid hd
  have HF := Lib.hid hf
  have HT := Lib.hid ht
  obtain ⟨d0, d9⟩ := inB_iff.1 hd
  obtain ⟨f0, f9⟩ := inB_iff.1 hf
  obtain ⟨t0, t9⟩ := inB_iff.1 ht
  have CP := Lib.hid (fun W => xCheckPeriod_any mo dy wk W)
  clear hd hf ht
  have hy' : decide (60 < dy) = false := by simpa using hy
  have hm' : decide (60 < mo) = false := by simpa using hm
  rw [hp] at CP
  clear hp
  cases q
  · clear hN
    go_enter Try.func3, Try.ntmps3
    go_wp2_with fail
    refine (awake_any _).mono ?_
    rintro e w1 ⟨rfl, hb1⟩
    have P1 := Lib.hid ((Stp.new w f t mo dy wk).keep hb1)
    have B1 := Lib.hid (((Below.refl _ w).alloc (Nat.le_refl _) _).trans (hb1.mono (by simp)))
    have G1 := Lib.hid (hw.below _ _ g0 B1.out)
    have s1 := hb1.size
    simp only [World.size_alloc] at s1
    clear hb1
    go_wp2_with (first
      | (go_at_call 5; refine (cL.out _ G1.out).mono ?_; rintro e w' ⟨rfl, rfl⟩)
      | fail)
    refine (hX.out _ G1.out).mono ?_
    rintro e w2 ⟨rfl, hb2⟩
    have P2 := Lib.hid (P1.out.keep hb2)
    obtain ⟨a0, a1, a2, a3, a4⟩ := P2.out
    have B2 := Lib.hid (B1.out.trans (hb2.mono (by omega)))
    have G2 := Lib.hid (hw.below _ _ g0 B2.out)
    have s2 := hb2.size
    clear hb2
    go_wp2_with (first
      | (go_at_call 7; refine (bWithin_any _ _ _ _).mono ?_; rintro e w' ⟨rfl, rfl⟩; first | rw [HD.out] | rw [HF.out] | rw [HT.out])
      | fail)
    refine (I1.out _ G2.out).mono ?_
    rintro e w3 ⟨rfl, hb3⟩
    have P3 := Lib.hid (P2.out.keep hb3)
    obtain ⟨a0, a1, a2, a3, a4⟩ := P3.out
    have B3 := Lib.hid (B2.out.trans (hb3.mono (by omega)))
    have G3 := Lib.hid (hw.below _ _ g0 B3.out)
    have s3 := hb3.size
    clear hb3
    go_wp2_with fail
    refine (I2.out _ G3.out).mono ?_
    rintro e w4 ⟨rfl, hb4⟩
    have P4 := Lib.hid (P3.out.keep hb4)
    obtain ⟨a0, a1, a2, a3, a4⟩ := P4.out
    have B4 := Lib.hid (B3.out.trans (hb4.mono (by omega)))
    have G4 := Lib.hid (hw.below _ _ g0 B4.out)
    have s4 := hb4.size
    clear hb4
    go_wp2_with fail
    refine (I3.out _ G4.out).mono ?_
    rintro e w5 ⟨rfl, hb5⟩
    have P5 := Lib.hid (P4.out.keep hb5)
    obtain ⟨a0, a1, a2, a3, a4⟩ := P5.out
    have B5 := Lib.hid (B4.out.trans (hb5.mono (by omega)))
    have G5 := Lib.hid (hw.below _ _ g0 B5.out)
    have s5 := hb5.size
    clear hb5
    go_wp2_with fail
    refine (I4.out _ G5.out).mono ?_
    rintro e w6 ⟨rfl, hb6⟩
    have P6 := Lib.hid (P5.out.keep hb6)
    obtain ⟨a0, a1, a2, a3, a4⟩ := P6.out
    have B6 := Lib.hid (B5.out.trans (hb6.mono (by omega)))
    have G6 := Lib.hid (hw.below _ _ g0 B6.out)
    have s6 := hb6.size
    clear hb6
    go_wp2_with fail
    refine (I5.out _ G6.out).mono ?_
    rintro e w7 ⟨rfl, hb7⟩
    have P7 := Lib.hid (P6.out.keep hb7)
    obtain ⟨a0, a1, a2, a3, a4⟩ := P7.out
    have B7 := Lib.hid (B6.out.trans (hb7.mono (by omega)))
    have G7 := Lib.hid (hw.below _ _ g0 B7.out)
    have s7 := hb7.size
    clear hb7
    go_wp2_with fail
    refine (CP.out _).mono ?_
    rintro e w8 ⟨rfl, hb8⟩
    have P8 := Lib.hid (P7.out.keep hb8)
    obtain ⟨a0, a1, a2, a3, a4⟩ := P8.out
    have B8 := Lib.hid (B7.out.trans (hb8.mono (by omega)))
    have G8 := Lib.hid (hw.below _ _ g0 B8.out)
    have s8 := hb8.size
    clear hb8
    go_wp2_with fail
    refine (J1.out _ G8.out).mono ?_
    rintro e w9 ⟨rfl, hb9⟩
    have P9 := Lib.hid (P8.out.keep hb9)
    obtain ⟨a0, a1, a2, a3, a4⟩ := P9.out
    have B9 := Lib.hid (B8.out.trans (hb9.mono (by omega)))
    have G9 := Lib.hid (hw.below _ _ g0 B9.out)
    have s9 := hb9.size
    clear hb9
    go_wp2_with fail
    refine (J2.out _ G9.out).mono ?_
    rintro e w10 ⟨rfl, hb10⟩
    have P10 := Lib.hid (P9.out.keep hb10)
    obtain ⟨a0, a1, a2, a3, a4⟩ := P10.out
    have B10 := Lib.hid (B9.out.trans (hb10.mono (by omega)))
    have G10 := Lib.hid (hw.below _ _ g0 B10.out)
    have s10 := hb10.size
    clear hb10
    go_wp2
    go_ret
    exact ⟨rfl, B10.out⟩
  · have hNf := hN rfl
    clear hN
    subst hNf
    go_enter Try.func3, Try.ntmps3
    go_wp2_with fail
    refine (awake_any _).mono ?_
    rintro e w1 ⟨rfl, hb1⟩
    have P1 := Lib.hid ((Stp.new w N t mo dy wk).keep hb1)
    have B1 := Lib.hid (((Below.refl _ w).alloc (Nat.le_refl _) _).trans (hb1.mono (by simp)))
    have G1 := Lib.hid (hw.below _ _ g0 B1.out)
    have s1 := hb1.size
    simp only [World.size_alloc] at s1
    clear hb1
    go_wp2_with (first
      | (go_at_call 5; refine (cL.out _ G1.out).mono ?_; rintro e w' ⟨rfl, rfl⟩)
      | fail)
    refine (hX.out _ G1.out).mono ?_
    rintro e w2 ⟨rfl, hb2⟩
    have P2 := Lib.hid (P1.out.keep hb2)
    obtain ⟨a0, a1, a2, a3, a4⟩ := P2.out
    have B2 := Lib.hid (B1.out.trans (hb2.mono (by omega)))
    have G2 := Lib.hid (hw.below _ _ g0 B2.out)
    have s2 := hb2.size
    clear hb2
    go_wp2_with (first
      | (go_at_call 7; refine (bWithin_any _ _ _ _).mono ?_; rintro e w' ⟨rfl, rfl⟩; first | rw [HD.out] | rw [HF.out] | rw [HT.out])
      | fail)
    refine (I1.out _ G2.out).mono ?_
    rintro e w3 ⟨rfl, hb3⟩
    have P3 := Lib.hid (P2.out.keep hb3)
    obtain ⟨a0, a1, a2, a3, a4⟩ := P3.out
    have B3 := Lib.hid (B2.out.trans (hb3.mono (by omega)))
    have G3 := Lib.hid (hw.below _ _ g0 B3.out)
    have s3 := hb3.size
    clear hb3
    go_wp2_with fail
    refine (I2.out _ G3.out).mono ?_
    rintro e w4 ⟨rfl, hb4⟩
    have P4 := Lib.hid (P3.out.keep hb4)
    obtain ⟨a0, a1, a2, a3, a4⟩ := P4.out
    have B4 := Lib.hid (B3.out.trans (hb4.mono (by omega)))
    have G4 := Lib.hid (hw.below _ _ g0 B4.out)
    have s4 := hb4.size
    clear hb4
    go_wp2_with fail
    refine (I3.out _ G4.out).mono ?_
    rintro e w5 ⟨rfl, hb5⟩
    have P5 := Lib.hid (P4.out.keep hb5)
    obtain ⟨a0, a1, a2, a3, a4⟩ := P5.out
    have B5 := Lib.hid (B4.out.trans (hb5.mono (by omega)))
    have G5 := Lib.hid (hw.below _ _ g0 B5.out)
    have s5 := hb5.size
    clear hb5
    go_wp2_with fail
    refine (I4.out _ G5.out).mono ?_
    rintro e w6 ⟨rfl, hb6⟩
    have P6 := Lib.hid (P5.out.keep hb6)
    obtain ⟨a0, a1, a2, a3, a4⟩ := P6.out
    have B6 := Lib.hid (B5.out.trans (hb6.mono (by omega)))
    have G6 := Lib.hid (hw.below _ _ g0 B6.out)
    have s6 := hb6.size
    clear hb6
    go_wp2_with fail
    refine (I5.out _ G6.out).mono ?_
    rintro e w7 ⟨rfl, hb7⟩
    have P7 := Lib.hid (P6.out.keep hb7)
    obtain ⟨a0, a1, a2, a3, a4⟩ := P7.out
    have B7 := Lib.hid (B6.out.trans (hb7.mono (by omega)))
    have G7 := Lib.hid (hw.below _ _ g0 B7.out)
    have s7 := hb7.size
    clear hb7
    go_wp2_with fail
    refine (CP.out _).mono ?_
    rintro e w8 ⟨rfl, hb8⟩
    have P8 := Lib.hid (P7.out.keep hb8)
    obtain ⟨a0, a1, a2, a3, a4⟩ := P8.out
    have B8 := Lib.hid (B7.out.trans (hb8.mono (by omega)))
    have G8 := Lib.hid (hw.below _ _ g0 B8.out)
    have s8 := hb8.size
    clear hb8
    go_wp2_with fail
    refine (J1.out _ G8.out).mono ?_
    rintro e w9 ⟨rfl, hb9⟩
    have P9 := Lib.hid (P8.out.keep hb9)
    obtain ⟨a0, a1, a2, a3, a4⟩ := P9.out
    have B9 := Lib.hid (B8.out.trans (hb9.mono (by omega)))
    have G9 := Lib.hid (hw.below _ _ g0 B9.out)
    have s9 := hb9.size
    clear hb9
    go_wp2_with fail
    refine (J2.out _ G9.out).mono ?_
    rintro e w10 ⟨rfl, hb10⟩
    have P10 := Lib.hid (P9.out.keep hb10)
    obtain ⟨a0, a1, a2, a3, a4⟩ := P10.out
    have B10 := Lib.hid (B9.out.trans (hb10.mono (by omega)))
    have G10 := Lib.hid (hw.below _ _ g0 B10.out)
    have s10 := hb10.size
    clear hb10
    go_wp2
    go_ret
    exact ⟨rfl, B10.out⟩
theorem RuleSteps_cw {sa : Option Addr} {sn sc : Nat} {l : List Hd} {G : World → Prop} (hw : Cw sa sn sc l G) (w : World) (g0 : G w) (day f t mo dy : Int) (wk : Bool) (b : Bool) (h8 : b = true → chE l = 0 → l.length ≤ 8)
    (cL : Hid (∀ W, G W → Calls Try.prog 5 #[.slice sa sn sc] W (Ret (.bool b) W))) :
    Calls Try.prog 3 #[.slice sa sn sc, .int .i64 day, .agg #[.int .i64 f, .int .i64 t, .int .i64 mo, .int .i64 dy, .bool wk]] w (RetB (.bool true) w) := by
  cases b
  · exact RuleSteps_1 hw w g0 day f t mo dy wk cL
  · by_cases he : chE l = 0
    · cases hd : inB day 0 196000
      · exact RuleSteps_3 hw w g0 day f t mo dy wk cL he hd
      · cases hf : inB f 1 40
        · exact RuleSteps_4 hw w g0 day f t mo dy wk cL he hd hf
        · cases ht : inB t 1 40
          · exact RuleSteps_5 hw w g0 day f t mo dy wk cL he hd hf ht
          · have hl8 := h8 rfl he
            obtain ⟨_, hv⟩ := chE_each he
            obtain ⟨d0, d9⟩ := inB_iff.1 hd
            obtain ⟨f0, f9⟩ := inB_iff.1 hf
            obtain ⟨t0, t9⟩ := inB_iff.1 ht
            have hd2 : inB day 0 200000 = true := inB_iff.2 ⟨by omega, by omega⟩
            obtain ⟨b, hb⟩ := cont_ex hv hl8 (d := day) (by omega) (by omega) (c := f.toNat + t.toNat) (by omega)
            obtain ⟨a, ha⟩ := cont_ex hv hl8 (d := day) (by omega) (by omega) (c := f.toNat) (by omega)
            have hab : cont (workB l) 1 a t.toNat = some b := (cont_add (Or.inl rfl) t.toNat _ day a f.toNat (Nat.le_refl _) ha).symm.trans hb
            obtain ⟨haw, had⟩ := cont_P (by omega) ha
            obtain ⟨le, cnt⟩ := cont_cnt _ day a f.toNat (Nat.le_refl _) ha
            obtain ⟨a0, a9⟩ := inB_iff.1 had
            have E0 : ∀ x, inB x 0 200000 = true → hdyE l x = 0 := fun x hx => by unfold hdyE; rw [he, cdE_1 hx]; rfl
            have I1 := Lib.hid (fun W (hW : G W) => by have := AddWorking_ok hw W hW day f (E0 _ hd2) (inB_iff.2 ⟨by omega, by omega⟩); rwa [addRes_pos (by omega), ha] at this)
            have I2 := Lib.hid (fun W (hW : G W) => by have := AddWorking_ok hw W hW a t (E0 _ had) (inB_iff.2 ⟨by omega, by omega⟩); rwa [addRes_pos (by omega), hab] at this)
            have I3 := Lib.hid (fun W (hW : G W) => by have := AddWorking_ok hw W hW day (f + t) (E0 _ hd2) (inB_iff.2 ⟨by omega, by omega⟩); rwa [addRes_pos (by omega), show (f + t).toNat = f.toNat + t.toNat from by omega, hb] at this)
            have I4 := Lib.hid (fun W (hW : G W) => IsWorking_ok hw W hW day (E0 _ hd2))
            have I5 := Lib.hid (fun W (hW : G W) => Between_ok hw W hW day a (by unfold btE; rw [he, cdE_2 hd2 had, show decide (a < day) = false from by simpa using le, eI_f]; rfl))
            have N9 := dl_len (workB l) day (a - day).toNat
            have hN : workB l day = true → (((dl (workB l) day (a - day).toNat).length : Nat) : Int) = f := by
              intro hq
              have hlt : day < a := by
                by_cases g : day = a
                · rw [g] at cnt; rw [show (a - a).toNat = 0 from by omega] at cnt; simp [dl] at cnt; omega
                · omega
              have e1 : dl (workB l) day (a - day).toNat = [day] ++ dl (workB l) (day + 1) (a - day - 1).toNat := by
                rw [show (a - day).toNat = (a - day - 1).toNat + 1 from by omega, dl_one, if_pos hq]
              have e2 : dl (workB l) (day + 1) (a - day).toNat = dl (workB l) (day + 1) (a - day - 1).toNat ++ [a] := by
                rw [show (a - day).toNat = (a - day - 1).toNat + 1 from by omega, dl, show day + 1 + ((a - day - 1).toNat : Int) = a from by omega, if_pos haw]
              rw [e2, List.length_append, List.length_singleton] at cnt
              rw [e1, List.length_append, List.length_singleton]
              omega
            by_cases hp : pdE mo dy wk = 0
            · by_cases hy : 60 < dy
              · exact RuleSteps_6b hw w g0 day f t mo dy wk cL he hd hf ht a b _ _ hN (by omega) I1 I2 I3 I4 I5 hp hy
              · by_cases hm : 60 < mo
                · exact RuleSteps_6c hw w g0 day f t mo dy wk cL he hd hf ht a b _ _ hN (by omega) I1 I2 I3 I4 I5 hp hy hm
                · obtain ⟨g1, g2⟩ := pdE_0 hp
                  have m0 := (inB_iff.1 g1).1
                  have y0 := (inB_iff.1 g2).1
                  obtain ⟨x, hx⟩ := dl_ex hv hl8 wk d0 (by omega) m0 (by omega) y0 (by omega)
                  obtain ⟨y, hy2⟩ := dl_ex hv hl8 wk (day := day + 1) (by omega) (by omega) m0 (by omega) y0 (by omega)
                  have D0 : ∀ z, inB z 0 200000 = true → dlE l z mo dy wk = 0 := fun z hz => by unfold dlE; rw [he, cdE_1 hz, hp]; rfl
                  refine RuleSteps_7 hw w g0 day f t mo dy wk cL he hd hf ht a b _ _ hN (by omega) I1 I2 I3 I4 I5 hp hy hm x y (dl_le d0 y0 hx hy2) (Lib.hid fun W hW => ?_) (Lib.hid fun W hW => ?_)
                  · have := Deadline_ok hw W hW day mo dy wk (D0 _ hd2)
                    rwa [hx] at this
                  · have := Deadline_ok hw W hW (day + 1) mo dy wk (D0 _ (inB_iff.2 ⟨by omega, by omega⟩))
                    rwa [hy2] at this
            · exact RuleSteps_6a hw w g0 day f t mo dy wk cL he hd hf ht a b _ _ hN (by omega) I1 I2 I3 I4 I5 hp
    · exact RuleSteps_2 hw w g0 day f t mo dy wk cL he
end Go.Proofs.Ytfphedcgmaakjab
