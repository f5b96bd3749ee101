/-
  What IsWorking and AddWorking of the specification of package rule return, in the worlds in which a list of holidays lies.
-/
import Derived.Test.YtfphedcgmaakjaaWork2
namespace Go.Proofs.Ytfphedcgmaakjaa
open Go.RowKit
attribute [local go_sem] set_drewN
theorem xIsWorking_cal {sa : Option Addr} {sn sc : Nat} {l : List Hd} {G : World → Prop} (hw : Cw sa sn sc l G) (he : chE l = 0) (w : World) (g0 : G w) (n : Int) (hn : inB n 0 200000 = true) :
    Calls Try.prog 42 #[.slice sa sn sc, .int .i64 n] w (RetB (.bool (workB l n)) w) := by
  obtain ⟨h0, h9⟩ := inB_iff.1 hn
  have hA := Lib.hid (hw.any he w n g0 h0 h9)
  cases h5 : decide ((n + 2) % 7 < 5)
  · have e : workB l n = false := by unfold workB; rw [h5]; rfl
    rw [e]
    clear e hw
    go_enter Try.func42, Try.ntmps42
    go_wp2_with (go_at_call 25; refine (xWeekday_any _ _ (by omega) (by omega)).mono ?_; rintro e w' ⟨rfl, rfl⟩)
    go_ret
    exact ⟨rfl, Below.refl _ _⟩
  · have e : workB l n = !anyB l n := by unfold workB; rw [h5]; simp
    rw [e]
    clear e hw
    generalize anyB l n = q at *
    cases q
    all_goals
      go_enter Try.func42, Try.ntmps42
      go_wp2_with (first
        | (go_at_call 25; refine (xWeekday_any _ _ (by omega) (by omega)).mono ?_; rintro e w' ⟨rfl, rfl⟩)
        | (go_at_call 83; refine hA.out.mono ?_; rintro e w1 ⟨rfl, hb1⟩))
      go_ret
      exact ⟨rfl, hb1⟩
/-- a day, or that there is none -/
def xres : Option Int → Value
  | some x => two (.int .i64 x) (.bool true)
  | none => two (.int .i64 0) (.bool false)
set_option maxRecDepth 100000 in
set_option maxHeartbeats 2000000 in
theorem xAddWorking_pos {sa : Option Addr} {sn sc : Nat} {l : List Hd} {G : World → Prop} (hw : Cw sa sn sc l G) (he : chE l = 0) (w : World) (g0 : G w) (day : Int) (n : Int) (hd : inB day 0 200000 = true) (hn : 0 < n) (hn2 : n ≤ 2000) :
    Calls Try.prog 43 #[.slice sa sn sc, .int .i64 day, .int .i64 n] w (RetB (xres (addRes l day n)) w) := by
  rw [addRes_pos hn]
  obtain ⟨k, rfl⟩ : ∃ k : Nat, n = k := ⟨n.toNat, by omega⟩
  rw [Int.toNat_natCast]
  obtain ⟨o, ho⟩ : ∃ o, cont (workB l) 1 day k = o := ⟨_, rfl⟩
  have HO := Lib.hid ho
  rw [ho]
  clear ho
  have q1 : decide ((k : Int) < 0) = false := by simp
  have q2 : ((k : Int) == 0) = false := by simp; omega
  have q3 : max (k : Int) 1 = k := by omega
  go_enter Try.func43, Try.ntmps43
  go_wp2
  go_loopw [1, 2] (fun dv nv wr => ∃ (d : Int) (c : Nat), dv = .int .i64 d ∧ nv = .int .i64 (c : Int) ∧ c ≤ 2000 ∧ inB d 0 200000 = true ∧ Hid (cont (workB l) 1 d c = o) ∧ Below w.heap.size w wr) (fun dv _ _ => rem 1 (intOf dv))
  case atStart => exact ⟨day, k, rfl, rfl, by omega, hd, HO, Below.refl _ _⟩
  case round =>
    obtain ⟨d, c, rfl, rfl, hc, hd, ho, hB⟩ := hrel
    obtain ⟨d0, d9⟩ := inB_iff.1 hd
    obtain ⟨r1, r2⟩ := rem_step (s := 1) (Or.inl rfl) hd
    have hs := hB.size
    by_cases hz : c = 0
    · subst hz
      have ho2 := ho.out
      unfold cont at ho2
      rw [if_pos rfl] at ho2
      subst ho2
      go_wp2
      go_ret2
      exact ⟨rfl, hB⟩
    · have hp : 0 < c := by omega
      have hpd : decide ((0 : Int) < c) = true := by simp; omega
      cases hin : inB (d + 1) 0 200000
      · have ho2 := ho.out
        rw [cont_out hp hin] at ho2
        subst ho2
        have HIN := Lib.hid hin
        clear hin
        go_wp2_with (go_at_call 23; refine (xIsDay_any _ _).mono ?_; rintro e w' ⟨rfl, rfl⟩; rw [HIN.out])
        go_ret2
        exact ⟨rfl, hB⟩
      · have IW := Lib.hid (fun W (hW : G W) => xIsWorking_cal hw he W hW (d + 1) hin)
        have HIN := Lib.hid hin
        cases hq : workB l (d + 1)
        · have H2 := Lib.hid ((cont_no (Or.inl rfl) hp hin hq).symm.trans ho.out)
          rw [hq] at IW
          clear hq hin
          go_wp2_with (first
            | (go_at_call 23; refine (xIsDay_any _ _).mono ?_; rintro e w' ⟨rfl, rfl⟩; rw [HIN.out])
            | (go_at_call 42; refine (IW.out _ (hw.below _ _ g0 hB)).mono ?_; rintro e w1 ⟨rfl, hb1⟩))
          go_roundw
          case rel => exact ⟨d + 1, c, by go_num, rfl, hc, HIN.out, H2, hB.trans (hb1.mono hs)⟩
          case measure => simp [intOf]; omega
        · have H2 := Lib.hid ((cont_yes (Or.inl rfl) hp hin hq).symm.trans ho.out)
          rw [hq] at IW
          clear hq hin
          go_wp2_with (first
            | (go_at_call 23; refine (xIsDay_any _ _).mono ?_; rintro e w' ⟨rfl, rfl⟩; rw [HIN.out])
            | (go_at_call 42; refine (IW.out _ (hw.below _ _ g0 hB)).mono ?_; rintro e w1 ⟨rfl, hb1⟩))
          go_roundw
          case rel => exact ⟨d + 1, c - 1, by go_num, by (congr 1; omega), by omega, HIN.out, H2, hB.trans (hb1.mono hs)⟩
          case measure => simp [intOf]; omega

set_option maxRecDepth 100000 in
set_option maxHeartbeats 2000000 in
theorem xAddWorking_neg {sa : Option Addr} {sn sc : Nat} {l : List Hd} {G : World → Prop} (hw : Cw sa sn sc l G) (he : chE l = 0) (w : World) (g0 : G w) (day : Int) (n : Int) (hd : inB day 0 200000 = true) (hn : n < 0) (hn2 : -2000 ≤ n) :
    Calls Try.prog 43 #[.slice sa sn sc, .int .i64 day, .int .i64 n] w (RetB (xres (addRes l day n)) w) := by
  rw [addRes_neg hn]
  obtain ⟨k, hk⟩ : ∃ k : Nat, -n = k := ⟨(-n).toNat, by omega⟩
  obtain rfl : n = -(k : Int) := by omega
  rw [show (- -(k : Int)).toNat = k from by omega]
  obtain ⟨o, ho⟩ : ∃ o, cont (workB l) (-1) day k = o := ⟨_, rfl⟩
  have HO := Lib.hid ho
  rw [ho]
  clear ho hk
  have q1 : decide (0 < k) = true := by simp; omega
  have q2 : ((k : Int) == 0) = false := by simp; omega
  have q3 : max (k : Int) 1 = k := by omega
  go_enter Try.func43, Try.ntmps43
  go_wp2
  go_loopw [1, 2] (fun dv nv wr => ∃ (d : Int) (c : Nat), dv = .int .i64 d ∧ nv = .int .i64 (c : Int) ∧ c ≤ 2000 ∧ inB d 0 200000 = true ∧ Hid (cont (workB l) (-1) d c = o) ∧ Below w.heap.size w wr) (fun dv _ _ => rem (-1) (intOf dv))
  case atStart => exact ⟨day, k, rfl, rfl, by omega, hd, HO, Below.refl _ _⟩
  case round =>
    obtain ⟨d, c, rfl, rfl, hc, hd, ho, hB⟩ := hrel
    obtain ⟨d0, d9⟩ := inB_iff.1 hd
    obtain ⟨r1, r2⟩ := rem_step (s := (-1)) (Or.inr rfl) hd
    have hs := hB.size
    by_cases hz : c = 0
    · subst hz
      have ho2 := ho.out
      unfold cont at ho2
      rw [if_pos rfl] at ho2
      subst ho2
      go_wp2
      go_ret2
      exact ⟨rfl, hB⟩
    · have hp : 0 < c := by omega
      have hpd : decide ((0 : Int) < c) = true := by simp; omega
      cases hin : inB (d + (-1)) 0 200000
      · have ho2 := ho.out
        rw [cont_out hp hin] at ho2
        subst ho2
        have HIN := Lib.hid hin
        clear hin
        go_wp2_with (go_at_call 23; refine (xIsDay_any _ _).mono ?_; rintro e w' ⟨rfl, rfl⟩; first | rw [HIN.out] | rw [show d - 1 = d + (-1) from rfl, HIN.out])
        go_ret2
        exact ⟨rfl, hB⟩
      · have IW := Lib.hid (fun W (hW : G W) => xIsWorking_cal hw he W hW (d + (-1)) hin)
        have HIN := Lib.hid hin
        cases hq : workB l (d + (-1))
        · have H2 := Lib.hid ((cont_no (Or.inr rfl) hp hin hq).symm.trans ho.out)
          rw [hq] at IW
          clear hq hin
          go_wp2_with (first
            | (go_at_call 23; refine (xIsDay_any _ _).mono ?_; rintro e w' ⟨rfl, rfl⟩; first | rw [HIN.out] | rw [show d - 1 = d + (-1) from rfl, HIN.out])
            | (go_at_call 42; refine (IW.out _ (hw.below _ _ g0 hB)).mono ?_; rintro e w1 ⟨rfl, hb1⟩))
          go_roundw
          case rel => exact ⟨d + (-1), c, by go_num, rfl, hc, HIN.out, H2, hB.trans (hb1.mono hs)⟩
          case measure => simp [intOf]; omega
        · have H2 := Lib.hid ((cont_yes (Or.inr rfl) hp hin hq).symm.trans ho.out)
          rw [hq] at IW
          clear hq hin
          go_wp2_with (first
            | (go_at_call 23; refine (xIsDay_any _ _).mono ?_; rintro e w' ⟨rfl, rfl⟩; first | rw [HIN.out] | rw [show d - 1 = d + (-1) from rfl, HIN.out])
            | (go_at_call 42; refine (IW.out _ (hw.below _ _ g0 hB)).mono ?_; rintro e w1 ⟨rfl, hb1⟩))
          go_roundw
          case rel => exact ⟨d + (-1), c - 1, by go_num, by (congr 1; omega), by omega, HIN.out, H2, hB.trans (hb1.mono hs)⟩
          case measure => simp [intOf]; omega

set_option maxRecDepth 100000 in
set_option maxHeartbeats 2000000 in
theorem xAddWorking_0y {sa : Option Addr} {sn sc : Nat} {l : List Hd} {G : World → Prop} (hw : Cw sa sn sc l G) (he : chE l = 0) (w : World) (g0 : G w) (day : Int) (hd : inB day 0 200000 = true) (hy : workB l day = true) :
    Calls Try.prog 43 #[.slice sa sn sc, .int .i64 day, .int .i64 0] w (RetB (xres (addRes l day 0)) w) := by
  rw [addRes_0_yes hd hy]
  have IW := Lib.hid (xIsWorking_cal hw he w g0 day hd)
  rw [hy] at IW
  clear hy
  go_enter Try.func43, Try.ntmps43
  go_wp2_with (go_at_call 42; refine IW.out.mono ?_; rintro e w1 ⟨rfl, hb1⟩)
  go_ret2
  exact ⟨rfl, hb1⟩
set_option maxRecDepth 100000 in
set_option maxHeartbeats 2000000 in
theorem xAddWorking_0n {sa : Option Addr} {sn sc : Nat} {l : List Hd} {G : World → Prop} (hw : Cw sa sn sc l G) (he : chE l = 0) (w : World) (g0 : G w) (day : Int) (hd : inB day 0 200000 = true) (hy : workB l day = false) :
    Calls Try.prog 43 #[.slice sa sn sc, .int .i64 day, .int .i64 0] w (RetB (xres (addRes l day 0)) w) := by
  rw [addRes_0_no hd hy]
  have IW0 := Lib.hid (xIsWorking_cal hw he w g0 day hd)
  rw [hy] at IW0
  clear hy
  obtain ⟨o, ho⟩ : ∃ o, cont (workB l) 1 day 1 = o := ⟨_, rfl⟩
  have HO := Lib.hid ho
  rw [ho]
  clear ho
  go_enter Try.func43, Try.ntmps43
  go_wp2_with (go_at_call 42; refine IW0.out.mono ?_; rintro e w0 ⟨rfl, hb0⟩)
  go_loopw [1, 2] (fun dv nv wr => ∃ (d : Int) (c : Nat), dv = .int .i64 d ∧ nv = .int .i64 (c : Int) ∧ c ≤ 2000 ∧ inB d 0 200000 = true ∧ Hid (cont (workB l) 1 d c = o) ∧ Below w.heap.size w wr) (fun dv _ _ => rem 1 (intOf dv))
  case atStart => exact ⟨day, 1, rfl, rfl, by omega, hd, HO, hb0⟩
  case round =>
    obtain ⟨d, c, rfl, rfl, hc, hd, ho, hB⟩ := hrel
    obtain ⟨d0, d9⟩ := inB_iff.1 hd
    obtain ⟨r1, r2⟩ := rem_step (s := 1) (Or.inl rfl) hd
    have hs := hB.size
    by_cases hz : c = 0
    · subst hz
      have ho2 := ho.out
      unfold cont at ho2
      rw [if_pos rfl] at ho2
      subst ho2
      go_wp2
      go_ret2
      exact ⟨rfl, hB⟩
    · have hp : 0 < c := by omega
      have hpd : decide ((0 : Int) < c) = true := by simp; omega
      cases hin : inB (d + 1) 0 200000
      · have ho2 := ho.out
        rw [cont_out hp hin] at ho2
        subst ho2
        have HIN := Lib.hid hin
        clear hin
        go_wp2_with (go_at_call 23; refine (xIsDay_any _ _).mono ?_; rintro e w' ⟨rfl, rfl⟩; rw [HIN.out])
        go_ret2
        exact ⟨rfl, hB⟩
      · have IW := Lib.hid (fun W (hW : G W) => xIsWorking_cal hw he W hW (d + 1) hin)
        have HIN := Lib.hid hin
        cases hq : workB l (d + 1)
        · have H2 := Lib.hid ((cont_no (Or.inl rfl) hp hin hq).symm.trans ho.out)
          rw [hq] at IW
          clear hq hin
          go_wp2_with (first
            | (go_at_call 23; refine (xIsDay_any _ _).mono ?_; rintro e w' ⟨rfl, rfl⟩; rw [HIN.out])
            | (go_at_call 42; refine (IW.out _ (hw.below _ _ g0 hB)).mono ?_; rintro e w1 ⟨rfl, hb1⟩))
          go_roundw
          case rel => exact ⟨d + 1, c, by go_num, rfl, hc, HIN.out, H2, hB.trans (hb1.mono hs)⟩
          case measure => simp [intOf]; omega
        · have H2 := Lib.hid ((cont_yes (Or.inl rfl) hp hin hq).symm.trans ho.out)
          rw [hq] at IW
          clear hq hin
          go_wp2_with (first
            | (go_at_call 23; refine (xIsDay_any _ _).mono ?_; rintro e w' ⟨rfl, rfl⟩; rw [HIN.out])
            | (go_at_call 42; refine (IW.out _ (hw.below _ _ g0 hB)).mono ?_; rintro e w1 ⟨rfl, hb1⟩))
          go_roundw
          case rel => exact ⟨d + 1, c - 1, by go_num, by (congr 1; omega), by omega, HIN.out, H2, hB.trans (hb1.mono hs)⟩
          case measure => simp [intOf]; omega

theorem xAddWorking_cal {sa : Option Addr} {sn sc : Nat} {l : List Hd} {G : World → Prop} (hw : Cw sa sn sc l G) (he : chE l = 0) (w : World) (g0 : G w) (day n : Int) (hd : inB day 0 200000 = true) (hn : inB n (-2000) 2000 = true) :
    Calls Try.prog 43 #[.slice sa sn sc, .int .i64 day, .int .i64 n] w (RetB (xres (addRes l day n)) w) := by
  obtain ⟨n0, n9⟩ := inB_iff.1 hn
  rcases Int.lt_trichotomy n 0 with g | g | g
  · exact xAddWorking_neg hw he w g0 day n hd g n0
  · subst g
    cases hy : workB l day
    · exact xAddWorking_0n hw he w g0 day hd hy
    · exact xAddWorking_0y hw he w g0 day hd hy
  · exact xAddWorking_pos hw he w g0 day n hd g n9
end Go.Proofs.Ytfphedcgmaakjaa
