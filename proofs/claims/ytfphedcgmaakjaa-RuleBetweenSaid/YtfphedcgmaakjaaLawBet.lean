/-
  RuleBetween returns true for every list of holidays and two days, in every world in which the list lies: the walks.
-/
import Derived.Test.YtfphedcgmaakjaaBet
import Derived.Test.YtfphedcgmaakjaaRefW
import Derived.Test.YtfphedcgmaakjaaBelow
namespace Go.Proofs.Ytfphedcgmaakjaa
open Go.RowKit
attribute [local go_sem] set_drewN
set_option maxRecDepth 100000 in
set_option maxHeartbeats 2000000 in
theorem xBetween_any {sa : Option Addr} {sn sc : Nat} {l : List Hd} {G : World → Prop} (hw : Cw sa sn sc l G) (he : chE l = 0) (w : World) (g0 : G w) (x y : Int) (hx : inB x 0 200000 = true) (hy : inB y 0 200000 = true) (hxy : x ≤ y) :
    Calls Try.prog 45 #[.slice sa sn sc, .int .i64 x, .int .i64 y] w (RetB (.int .i64 ((dl (workB l) x (y - x).toNat).length : Nat)) w) := by
  obtain ⟨x0, x9⟩ := inB_iff.1 hx
  obtain ⟨y0, y9⟩ := inB_iff.1 hy
  obtain ⟨N, rfl⟩ : ∃ N : Nat, y = x + N := ⟨(y - x).toNat, by omega⟩
  rw [show (x + (N : Int) - x).toNat = N from by omega]
  go_enter Try.func45, Try.ntmps45
  go_wp2
  go_loopw [7, 8] (fun cv dv wr => ∃ k : Nat, k ≤ N ∧ dv = .int .i64 (x + k) ∧ cv = .int .i64 ((dl (workB l) x k).length : Nat) ∧ Below w.heap.size w wr) (fun _ dv _ => (x + N - intOf dv).toNat)
  case atStart => exact ⟨0, Nat.zero_le _, by simp, rfl, Below.refl _ _⟩
  case round =>
    obtain ⟨k, hk, rfl, rfl, hB⟩ := hrel
    have hs := hB.size
    have fl := dl_len (workB l) x k
    by_cases hlt : k < N
    · have hlt' : decide (x + (k : Int) < x + N) = true := by simp; omega
      have IW := Lib.hid (fun W (hW : G W) => xIsWorking_cal hw he W hW (x + k) (inB_iff.2 ⟨by omega, by omega⟩))
      cases hq : workB l (x + k)
      · have SN := Lib.hid (show dl (workB l) x (k + 1) = dl (workB l) x k by rw [dl, hq]; simp)
        rw [hq] at IW
        clear hq
        go_wp2_with (go_at_call 42; refine (IW.out _ (hw.below _ _ g0 hB)).mono ?_; rintro e w1 ⟨rfl, hb1⟩)
        go_roundw
        case rel => exact ⟨k + 1, by omega, by go_num, by rw [SN.out], hB.trans (hb1.mono hs)⟩
        case measure => simp [intOf]; omega
      · have SN := Lib.hid (show dl (workB l) x (k + 1) = dl (workB l) x k ++ [x + k] by rw [dl, hq]; simp)
        rw [hq] at IW
        clear hq
        go_wp2_with (go_at_call 42; refine (IW.out _ (hw.below _ _ g0 hB)).mono ?_; rintro e w1 ⟨rfl, hb1⟩)
        go_roundw
        case rel => exact ⟨k + 1, by omega, by go_num, by rw [SN.out]; simp, hB.trans (hb1.mono hs)⟩
        case measure => simp [intOf]; omega
    · obtain rfl : k = N := by omega
      go_wp2
      go_ret
      exact ⟨rfl, hB⟩
set_option maxRecDepth 100000 in
set_option maxHeartbeats 4000000 in
theorem RuleBetween_1 {sa : Option Addr} {sn sc : Nat} {l : List Hd} {G : World → Prop} (hw : Cw sa sn sc l G) (w : World) (g0 : G w) (x y : Int)
    (cL : Hid (∀ W, G W → Calls Try.prog 33 #[.slice sa sn sc] W (Ret (.bool false) W))) :
    Calls Try.prog 9 #[.slice sa sn sc, .int .i64 x, .int .i64 y] w (RetB (.bool true) w) := by
  go_enter Try.func9, Try.ntmps9
  go_wp2_with fail
  refine (awake_any _).mono ?_
  rintro e w1 ⟨rfl, hb1⟩
  have G1 := hw.below _ _ g0 hb1
  have s1 := hb1.size
  go_wp2_with (first
    | (go_at_call 33; refine (cL.out _ G1).mono ?_; rintro e w' ⟨rfl, rfl⟩)
    | fail)
  go_ret
  exact ⟨rfl, hb1⟩
set_option maxRecDepth 100000 in
set_option maxHeartbeats 4000000 in
theorem RuleBetween_2 {sa : Option Addr} {sn sc : Nat} {l : List Hd} {G : World → Prop} (hw : Cw sa sn sc l G) (w : World) (g0 : G w) (x y : Int) (hx : inB x 0 200000 = true) (hy : inB y 0 200000 = true) (hl : 300 < y - x)
    (cL : Hid (∀ W, G W → Calls Try.prog 33 #[.slice sa sn sc] W (Ret (.bool true) W))) :
    Calls Try.prog 9 #[.slice sa sn sc, .int .i64 x, .int .i64 y] w (RetB (.bool true) w) := by
  have HX := Lib.hid hx
  have HY := Lib.hid hy
  obtain ⟨x0, x9⟩ := inB_iff.1 hx
  obtain ⟨y0, y9⟩ := inB_iff.1 hy
  clear hx hy
  go_enter Try.func9, Try.ntmps9
  go_wp2_with fail
  refine (awake_any _).mono ?_
  rintro e w1 ⟨rfl, hb1⟩
  have G1 := hw.below _ _ g0 hb1
  have s1 := hb1.size
  go_wp2_with (first
    | (go_at_call 33; refine (cL.out _ G1).mono ?_; rintro e w' ⟨rfl, rfl⟩)
    | (go_at_call 23; refine (xIsDay_any _ _).mono ?_; rintro e w' ⟨rfl, rfl⟩; first | rw [HX.out] | rw [HY.out])
    | fail)
  go_ret
  exact ⟨rfl, hb1⟩
set_option maxRecDepth 100000 in
set_option maxHeartbeats 4000000 in
theorem RuleBetween_3a {sa : Option Addr} {sn sc : Nat} {l : List Hd} {G : World → Prop} (hw : Cw sa sn sc l G) (w : World) (g0 : G w) (x y : Int)
    (cL : Hid (∀ W, G W → Calls Try.prog 33 #[.slice sa sn sc] W (Ret (.bool true) W))) (hx : inB x 0 200000 = false) (he : chE l ≠ 0) :
    Calls Try.prog 9 #[.slice sa sn sc, .int .i64 x, .int .i64 y] w (RetB (.bool true) w) := by
  have hX := Lib.hid hw.xchk
  have hD : btE l x y = chE l := by unfold btE feE; rw [if_neg he]
  have I1 := Lib.hid (fun W (hW : G W) => Between_err hw W hW x y (by rw [hD]; exact he))
  rw [hD] at I1
  clear hD
  have hb : (chE l != 0) = true := by simpa using he
  have hb0 : (chE l == 0) = false := by simpa using he
  clear he
  generalize chE l = C at *
  have HX := Lib.hid hx
  clear hx
  go_enter Try.func9, Try.ntmps9
  go_wp2_with fail
  refine (awake_any _).mono ?_
  rintro e w1 ⟨rfl, hb1⟩
  have G1 := hw.below _ _ g0 hb1
  have s1 := hb1.size
  go_wp2_with (first
    | (go_at_call 33; refine (cL.out _ G1).mono ?_; rintro e w' ⟨rfl, rfl⟩)
    | (go_at_call 23; refine (xIsDay_any _ _).mono ?_; rintro e w' ⟨rfl, rfl⟩; rw [HX.out])
    | fail)
  refine (I1.out _ G1).mono ?_
  rintro e w2 ⟨rfl, hb2⟩
  have G2 := hw.below _ _ G1 hb2
  have s2 := hb2.size
  go_wp2_with fail
  refine (hX.out _ G2).mono ?_
  rintro e w3 ⟨rfl, hb3⟩
  have G3 := hw.below _ _ G2 hb3
  have s3 := hb3.size
  go_wp2
  go_ret
  exact ⟨rfl, (hb1.trans (hb2.mono (by omega))).trans (hb3.mono (by omega))⟩
set_option maxRecDepth 100000 in
set_option maxHeartbeats 4000000 in
theorem RuleBetween_3b {sa : Option Addr} {sn sc : Nat} {l : List Hd} {G : World → Prop} (hw : Cw sa sn sc l G) (w : World) (g0 : G w) (x y : Int)
    (cL : Hid (∀ W, G W → Calls Try.prog 33 #[.slice sa sn sc] W (Ret (.bool true) W))) (hx : inB x 0 200000 = true) (hy : inB y 0 200000 = false) (he : chE l ≠ 0) :
    Calls Try.prog 9 #[.slice sa sn sc, .int .i64 x, .int .i64 y] w (RetB (.bool true) w) := by
  have hX := Lib.hid hw.xchk
  have hD : btE l x y = chE l := by unfold btE feE; rw [if_neg he]
  have I1 := Lib.hid (fun W (hW : G W) => Between_err hw W hW x y (by rw [hD]; exact he))
  rw [hD] at I1
  clear hD
  have hb : (chE l != 0) = true := by simpa using he
  have hb0 : (chE l == 0) = false := by simpa using he
  clear he
  generalize chE l = C at *
  have HX := Lib.hid hx
  have HY := Lib.hid hy
  clear hx hy
  go_enter Try.func9, Try.ntmps9
  go_wp2_with fail
  refine (awake_any _).mono ?_
  rintro e w1 ⟨rfl, hb1⟩
  have G1 := hw.below _ _ g0 hb1
  have s1 := hb1.size
  go_wp2_with (first
    | (go_at_call 33; refine (cL.out _ G1).mono ?_; rintro e w' ⟨rfl, rfl⟩)
    | (go_at_call 23; refine (xIsDay_any _ _).mono ?_; rintro e w' ⟨rfl, rfl⟩; first | rw [HX.out] | rw [HY.out])
    | fail)
  refine (I1.out _ G1).mono ?_
  rintro e w2 ⟨rfl, hb2⟩
  have G2 := hw.below _ _ G1 hb2
  have s2 := hb2.size
  go_wp2_with fail
  refine (hX.out _ G2).mono ?_
  rintro e w3 ⟨rfl, hb3⟩
  have G3 := hw.below _ _ G2 hb3
  have s3 := hb3.size
  go_wp2
  go_ret
  exact ⟨rfl, (hb1.trans (hb2.mono (by omega))).trans (hb3.mono (by omega))⟩
set_option maxRecDepth 100000 in
set_option maxHeartbeats 4000000 in
theorem RuleBetween_3c {sa : Option Addr} {sn sc : Nat} {l : List Hd} {G : World → Prop} (hw : Cw sa sn sc l G) (w : World) (g0 : G w) (x y : Int)
    (cL : Hid (∀ W, G W → Calls Try.prog 33 #[.slice sa sn sc] W (Ret (.bool true) W))) (hx : inB x 0 200000 = true) (hy : inB y 0 200000 = true) (hl : y - x ≤ 300) (he : chE l ≠ 0) :
    Calls Try.prog 9 #[.slice sa sn sc, .int .i64 x, .int .i64 y] w (RetB (.bool true) w) := by
  have hX := Lib.hid hw.xchk
  have hD : btE l x y = chE l := by unfold btE feE; rw [if_neg he]
  have I1 := Lib.hid (fun W (hW : G W) => Between_err hw W hW x y (by rw [hD]; exact he))
  rw [hD] at I1
  clear hD
  have hb : (chE l != 0) = true := by simpa using he
  have hb0 : (chE l == 0) = false := by simpa using he
  clear he
  generalize chE l = C at *
  have HX := Lib.hid hx
  have HY := Lib.hid hy
  obtain ⟨x0, x9⟩ := inB_iff.1 hx
  obtain ⟨y0, y9⟩ := inB_iff.1 hy
  have hl' : decide (300 < y - x) = false := by simp; omega
  clear hx hy
  go_enter Try.func9, Try.ntmps9
  go_wp2_with fail
  refine (awake_any _).mono ?_
  rintro e w1 ⟨rfl, hb1⟩
  have G1 := hw.below _ _ g0 hb1
  have s1 := hb1.size
  go_wp2_with (first
    | (go_at_call 33; refine (cL.out _ G1).mono ?_; rintro e w' ⟨rfl, rfl⟩)
    | (go_at_call 23; refine (xIsDay_any _ _).mono ?_; rintro e w' ⟨rfl, rfl⟩; first | rw [HX.out] | rw [HY.out])
    | fail)
  refine (I1.out _ G1).mono ?_
  rintro e w2 ⟨rfl, hb2⟩
  have G2 := hw.below _ _ G1 hb2
  have s2 := hb2.size
  go_wp2_with fail
  refine (hX.out _ G2).mono ?_
  rintro e w3 ⟨rfl, hb3⟩
  have G3 := hw.below _ _ G2 hb3
  have s3 := hb3.size
  go_wp2
  go_ret
  exact ⟨rfl, (hb1.trans (hb2.mono (by omega))).trans (hb3.mono (by omega))⟩
set_option maxRecDepth 100000 in
set_option maxHeartbeats 4000000 in
theorem RuleBetween_4a {sa : Option Addr} {sn sc : Nat} {l : List Hd} {G : World → Prop} (hw : Cw sa sn sc l G) (w : World) (g0 : G w) (x y : Int)
    (cL : Hid (∀ W, G W → Calls Try.prog 33 #[.slice sa sn sc] W (Ret (.bool true) W))) (hx : inB x 0 200000 = false) (he : chE l = 0) :
    Calls Try.prog 9 #[.slice sa sn sc, .int .i64 x, .int .i64 y] w (RetB (.bool true) w) := by
  have hX := Lib.hid hw.xchk
  have hD : btE l x y = 2 := by unfold btE; rw [he, cdE_2n (Or.inl hx)]; rfl
  have I1 := Lib.hid (fun W (hW : G W) => Between_err hw W hW x y (by rw [hD]; decide))
  rw [hD] at I1
  rw [he] at hX
  clear hD he
  have HX := Lib.hid hx
  clear hx
  go_enter Try.func9, Try.ntmps9
  go_wp2_with fail
  refine (awake_any _).mono ?_
  rintro e w1 ⟨rfl, hb1⟩
  have G1 := hw.below _ _ g0 hb1
  have s1 := hb1.size
  go_wp2_with (first
    | (go_at_call 33; refine (cL.out _ G1).mono ?_; rintro e w' ⟨rfl, rfl⟩)
    | (go_at_call 23; refine (xIsDay_any _ _).mono ?_; rintro e w' ⟨rfl, rfl⟩; rw [HX.out])
    | fail)
  refine (I1.out _ G1).mono ?_
  rintro e w2 ⟨rfl, hb2⟩
  have G2 := hw.below _ _ G1 hb2
  have s2 := hb2.size
  go_wp2_with fail
  refine (hX.out _ G2).mono ?_
  rintro e w3 ⟨rfl, hb3⟩
  have G3 := hw.below _ _ G2 hb3
  have s3 := hb3.size
  go_wp2_with (first
    | (go_at_call 23; refine (xIsDay_any _ _).mono ?_; rintro e w' ⟨rfl, rfl⟩; rw [HX.out])
    | fail)
  go_ret
  exact ⟨rfl, (hb1.trans (hb2.mono (by omega))).trans (hb3.mono (by omega))⟩
set_option maxRecDepth 100000 in
set_option maxHeartbeats 4000000 in
theorem RuleBetween_4b {sa : Option Addr} {sn sc : Nat} {l : List Hd} {G : World → Prop} (hw : Cw sa sn sc l G) (w : World) (g0 : G w) (x y : Int)
    (cL : Hid (∀ W, G W → Calls Try.prog 33 #[.slice sa sn sc] W (Ret (.bool true) W))) (hx : inB x 0 200000 = true) (hy : inB y 0 200000 = false) (he : chE l = 0) :
    Calls Try.prog 9 #[.slice sa sn sc, .int .i64 x, .int .i64 y] w (RetB (.bool true) w) := by
  have hX := Lib.hid hw.xchk
  have hD : btE l x y = 2 := by unfold btE; rw [he, cdE_2n (Or.inr hy)]; rfl
  have I1 := Lib.hid (fun W (hW : G W) => Between_err hw W hW x y (by rw [hD]; decide))
  rw [hD] at I1
  rw [he] at hX
  clear hD he
  have HX := Lib.hid hx
  have HY := Lib.hid hy
  clear hx hy
  go_enter Try.func9, Try.ntmps9
  go_wp2_with fail
  refine (awake_any _).mono ?_
  rintro e w1 ⟨rfl, hb1⟩
  have G1 := hw.below _ _ g0 hb1
  have s1 := hb1.size
  go_wp2_with (first
    | (go_at_call 33; refine (cL.out _ G1).mono ?_; rintro e w' ⟨rfl, rfl⟩)
    | (go_at_call 23; refine (xIsDay_any _ _).mono ?_; rintro e w' ⟨rfl, rfl⟩; first | rw [HX.out] | rw [HY.out])
    | fail)
  refine (I1.out _ G1).mono ?_
  rintro e w2 ⟨rfl, hb2⟩
  have G2 := hw.below _ _ G1 hb2
  have s2 := hb2.size
  go_wp2_with fail
  refine (hX.out _ G2).mono ?_
  rintro e w3 ⟨rfl, hb3⟩
  have G3 := hw.below _ _ G2 hb3
  have s3 := hb3.size
  go_wp2_with (first
    | (go_at_call 23; refine (xIsDay_any _ _).mono ?_; rintro e w' ⟨rfl, rfl⟩; first | rw [HX.out] | rw [HY.out])
    | fail)
  go_ret
  exact ⟨rfl, (hb1.trans (hb2.mono (by omega))).trans (hb3.mono (by omega))⟩
set_option maxRecDepth 100000 in
set_option maxHeartbeats 4000000 in
theorem RuleBetween_5 {sa : Option Addr} {sn sc : Nat} {l : List Hd} {G : World → Prop} (hw : Cw sa sn sc l G) (w : World) (g0 : G w) (x y : Int)
    (cL : Hid (∀ W, G W → Calls Try.prog 33 #[.slice sa sn sc] W (Ret (.bool true) W))) (hx : inB x 0 200000 = true) (hy : inB y 0 200000 = true) (hl : y - x ≤ 300) (he : chE l = 0) (hyx : y < x) :
    Calls Try.prog 9 #[.slice sa sn sc, .int .i64 x, .int .i64 y] w (RetB (.bool true) w) := by
  have hX := Lib.hid hw.xchk
  have hD : btE l x y = 9 := by unfold btE; rw [he, cdE_2 hx hy, show decide (y < x) = true from by simpa using hyx, eI_t]; rfl
  have I1 := Lib.hid (fun W (hW : G W) => Between_err hw W hW x y (by rw [hD]; decide))
  rw [hD] at I1
  rw [he] at hX
  clear hD he
  have HX := Lib.hid hx
  have HY := Lib.hid hy
  obtain ⟨x0, x9⟩ := inB_iff.1 hx
  obtain ⟨y0, y9⟩ := inB_iff.1 hy
  have hl' : decide (300 < y - x) = false := by simp; omega
  clear hx hy
  go_enter Try.func9, Try.ntmps9
  go_wp2_with fail
  refine (awake_any _).mono ?_
  rintro e w1 ⟨rfl, hb1⟩
  have G1 := hw.below _ _ g0 hb1
  have s1 := hb1.size
  go_wp2_with (first
    | (go_at_call 33; refine (cL.out _ G1).mono ?_; rintro e w' ⟨rfl, rfl⟩)
    | (go_at_call 23; refine (xIsDay_any _ _).mono ?_; rintro e w' ⟨rfl, rfl⟩; first | rw [HX.out] | rw [HY.out])
    | fail)
  refine (I1.out _ G1).mono ?_
  rintro e w2 ⟨rfl, hb2⟩
  have G2 := hw.below _ _ G1 hb2
  have s2 := hb2.size
  go_wp2_with fail
  refine (hX.out _ G2).mono ?_
  rintro e w3 ⟨rfl, hb3⟩
  have G3 := hw.below _ _ G2 hb3
  have s3 := hb3.size
  go_wp2_with (first
    | (go_at_call 23; refine (xIsDay_any _ _).mono ?_; rintro e w' ⟨rfl, rfl⟩; first | rw [HX.out] | rw [HY.out])
    | fail)
  go_ret
  exact ⟨rfl, (hb1.trans (hb2.mono (by omega))).trans (hb3.mono (by omega))⟩
set_option maxRecDepth 100000 in
set_option maxHeartbeats 4000000 in
theorem RuleBetween_6 {sa : Option Addr} {sn sc : Nat} {l : List Hd} {G : World → Prop} (hw : Cw sa sn sc l G) (w : World) (g0 : G w) (x y : Int)
    (cL : Hid (∀ W, G W → Calls Try.prog 33 #[.slice sa sn sc] W (Ret (.bool true) W))) (hx : inB x 0 200000 = true) (hy : inB y 0 200000 = true) (hl : y - x ≤ 300) (he : chE l = 0) (hxy : x ≤ y) :
    Calls Try.prog 9 #[.slice sa sn sc, .int .i64 x, .int .i64 y] w (RetB (.bool true) w) := by
  have hX := Lib.hid hw.xchk
  have hD : ∀ a b, inB a 0 200000 = true → inB b 0 200000 = true → a ≤ b → btE l a b = 0 := by
    intro a b ha hb hab
    unfold btE; rw [he, cdE_2 ha hb, show decide (b < a) = false from by simpa using hab, eI_f]; rfl
  obtain ⟨m, hm⟩ : ∃ m, (x + y) / 2 = m := ⟨_, rfl⟩
  have mb : x ≤ m ∧ m ≤ y := by
    have := inB_iff.1 hx; omega
  have hmm : inB m 0 200000 = true := by
    have := inB_iff.1 hx; have := inB_iff.1 hy
    exact inB_iff.2 ⟨by omega, by omega⟩
  have I1 := Lib.hid (fun W (hW : G W) => Between_ok hw W hW x y (hD x y hx hy hxy))
  have I2 := Lib.hid (fun W (hW : G W) => Between_ok hw W hW x m (hD x m hx hmm mb.1))
  have I3 := Lib.hid (fun W (hW : G W) => Between_ok hw W hW m y (hD m y hmm hy mb.2))
  have X := Lib.hid (fun W (hW : G W) => xBetween_any hw he W hW x y hx hy hxy)
  have add : (dl (workB l) x (y - x).toNat).length = (dl (workB l) x (m - x).toNat).length + (dl (workB l) m (y - m).toNat).length := by
    rw [show (y - x).toNat = (m - x).toNat + (y - m).toNat from by omega, dl_add, List.length_append, show x + ((m - x).toNat : Int) = m from by omega]
  have l1 := dl_len (workB l) x (m - x).toNat
  have l2 := dl_len (workB l) m (y - m).toNat
  rw [he] at hX
  rw [add] at I1 X
  have hyx' : decide (y < x) = false := by simpa using hxy
  generalize (dl (workB l) x (m - x).toNat).length = A at *
  generalize (dl (workB l) m (y - m).toNat).length = B at *
  have hm' := Lib.hid hm
  have HX := Lib.hid hx
  have HY := Lib.hid hy
  obtain ⟨x0, x9⟩ := inB_iff.1 hx
  obtain ⟨y0, y9⟩ := inB_iff.1 hy
  have hl' : decide (300 < y - x) = false := by simp; omega
  have A9 : A ≤ 200000 := by omega
  have B9 : B ≤ 200000 := by omega
  clear hD he hx hy hmm hm mb l1 l2 add
  go_enter Try.func9, Try.ntmps9
  go_wp2_with fail
  refine (awake_any _).mono ?_
  rintro e w1 ⟨rfl, hb1⟩
  have G1 := hw.below _ _ g0 hb1
  have s1 := hb1.size
  go_wp2_with (first
    | (go_at_call 33; refine (cL.out _ G1).mono ?_; rintro e w' ⟨rfl, rfl⟩)
    | (go_at_call 23; refine (xIsDay_any _ _).mono ?_; rintro e w' ⟨rfl, rfl⟩; first | rw [HX.out] | rw [HY.out])
    | fail)
  refine (I1.out _ G1).mono ?_
  rintro e w2 ⟨rfl, hb2⟩
  have G2 := hw.below _ _ G1 hb2
  have s2 := hb2.size
  go_wp2_with fail
  refine (hX.out _ G2).mono ?_
  rintro e w3 ⟨rfl, hb3⟩
  have G3 := hw.below _ _ G2 hb3
  have s3 := hb3.size
  go_wp2_with (first
    | (go_at_call 23; refine (xIsDay_any _ _).mono ?_; rintro e w' ⟨rfl, rfl⟩; first | rw [HX.out] | rw [HY.out])
    | fail)
  refine (X.out _ G3).mono ?_
  rintro e w4 ⟨rfl, hb4⟩
  have G4 := hw.below _ _ G3 hb4
  have s4 := hb4.size
  go_wp2_with fail
  rw [hm'.out]
  refine (I2.out _ G4).mono ?_
  rintro e w5 ⟨rfl, hb5⟩
  have G5 := hw.below _ _ G4 hb5
  have s5 := hb5.size
  go_wp2_with fail
  refine (I3.out _ G5).mono ?_
  rintro e w6 ⟨rfl, hb6⟩
  go_wp2
  go_ret
  exact ⟨rfl, ((((hb1.trans (hb2.mono (by omega))).trans (hb3.mono (by omega))).trans (hb4.mono (by omega))).trans (hb5.mono (by omega))).trans (hb6.mono (by omega))⟩
theorem RuleBetween_cw {sa : Option Addr} {sn sc : Nat} {l : List Hd} {G : World → Prop} (hw : Cw sa sn sc l G) (w : World) (g0 : G w) (x y : Int) (b : Bool)
    (cL : Hid (∀ W, G W → Calls Try.prog 33 #[.slice sa sn sc] W (Ret (.bool b) W))) :
    Calls Try.prog 9 #[.slice sa sn sc, .int .i64 x, .int .i64 y] w (RetB (.bool true) w) := by
  cases b
  · exact RuleBetween_1 hw w g0 x y cL
  · cases hx : inB x 0 200000
    · by_cases he : chE l = 0
      · exact RuleBetween_4a hw w g0 x y cL hx he
      · exact RuleBetween_3a hw w g0 x y cL hx he
    · cases hy : inB y 0 200000
      · by_cases he : chE l = 0
        · exact RuleBetween_4b hw w g0 x y cL hx hy he
        · exact RuleBetween_3b hw w g0 x y cL hx hy he
      · by_cases hl : 300 < y - x
        · exact RuleBetween_2 hw w g0 x y hx hy hl cL
        · by_cases he : chE l = 0
          · by_cases hyx : y < x
            · exact RuleBetween_5 hw w g0 x y cL hx hy (by omega) he hyx
            · exact RuleBetween_6 hw w g0 x y cL hx hy (by omega) he (by omega)
          · exact RuleBetween_3c hw w g0 x y cL hx hy (by omega) he
end Go.Proofs.Ytfphedcgmaakjaa
