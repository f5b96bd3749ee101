/-
  MoneyDues returns true.
-/
import Derived.Test.YtcimceepkjpggaaLdu
import Derived.Test.YtcimceepkjpggaaCpD
import Derived.Test.YtcimceepkjpggaaMnAw
namespace Go.Proofs.Ytcimceepkjpggaa
open Go.RowKit
attribute [local go_sem] set_drewN
theorem oE_A {t : Int} {D P : List Du} (h : duesE D ≠ 0) : oE t D P = duesE D ∧ cE D P = duesE D ∧ oX t D P = 0 ∧ oY t D P = 0 ∧ cL D P = [] := by
  have e1 : oE t D P = duesE D := by unfold oE feE; rw [if_neg h]
  have e2 : cE D P = duesE D := by unfold cE feE; rw [if_neg h]
  exact ⟨e1, e2, by unfold oX; rw [e1, if_neg h], by unfold oY; rw [e1, if_neg h], by unfold cL; rw [e2, if_neg h]⟩
theorem oE_B {t : Int} {D P : List Du} (h0 : duesE D = 0) (h : duesE P ≠ 0) : oE t D P = duesE P ∧ cE D P = duesE P ∧ oX t D P = 0 ∧ oY t D P = 0 ∧ cL D P = [] := by
  have e1 : oE t D P = duesE P := by unfold oE feE; rw [if_pos h0]; unfold feE; rw [if_neg h]
  have e2 : cE D P = duesE P := by unfold cE feE; rw [if_pos h0]; unfold feE; rw [if_neg h]
  exact ⟨e1, e2, by unfold oX; rw [e1, if_neg h], by unfold oY; rw [e1, if_neg h], by unfold cL; rw [e2, if_neg h]⟩
theorem cE_C {D P : List Du} (h0 : duesE D = 0) (h : duesE P = 0) : cE D P = 0 ∧ cL D P = coverM D P D.length ∧ (cL D P).length = D.length := by
  have e2 : cE D P = 0 := by unfold cE; rw [h0, h]; rfl
  have e3 : cL D P = coverM D P D.length := by unfold cL; rw [if_pos e2]
  exact ⟨e2, e3, by rw [e3, coverM_len]⟩
theorem oE_N {t : Int} {D P : List Du} (h0 : duesE D = 0) (h : duesE P = 0) (hd : inB t 0 200000 = false) : oE t D P = 2 ∧ oX t D P = 0 ∧ oY t D P = 0 := by
  have e1 : oE t D P = 2 := by unfold oE; rw [h0, h, cdE_eq, hd]; rfl
  exact ⟨e1, by unfold oX; rw [e1]; rfl, by unfold oY; rw [e1]; rfl⟩
theorem oE_D {t : Int} {D P : List Du} (h0 : duesE D = 0) (h : duesE P = 0) (hd : inB t 0 200000 = true) : oE t D P = 0 ∧ oX t D P = openM t D P ∧ oY t D P = leftM t D P := by
  have e1 : oE t D P = 0 := by unfold oE; rw [h0, h, cdE_eq, hd]; rfl
  exact ⟨e1, by unfold oX; rw [if_pos e1], by unfold oY; rw [if_pos e1]⟩
set_option maxRecDepth 100000 in
set_option maxHeartbeats 8000000 in
theorem law_dues (a a2 : Option Addr) (cp cp2 : Nat) (D P : List Du) (t : Int) (w : World) (h1 : LD w (.slice a D.length cp) D) (h2 : LD w (.slice a2 P.length cp2) P) (z1 : ∀ c, (Value.slice a D.length cp) = .slice none 0 c → c = 0) (z2 : ∀ c, (Value.slice a2 P.length cp2) = .slice none 0 c → c = 0) :
    Calls Try.prog 8 #[.slice a D.length cp, .slice a2 P.length cp2, .int .i64 t] w (RetB (.bool true) w) := by
  have K0 := Lib.hid (show KQ (fun W => LD W (.slice a D.length cp) D ∧ LD W (.slice a2 P.length cp2) P) w w from ⟨fun A B h hb => ⟨h.1.below hb, h.2.below hb⟩, ⟨h1, h2⟩, Below.refl _ _⟩)
  have Z1 := Lib.hid z1
  have Z2 := Lib.hid z2
  clear h1 h2 z1 z2
  go_enter Try.func8, Try.ntmps8
  go_wp2_with fail
  refine (awake_any _).mono ?_
  rintro e w1 ⟨rfl, hb1⟩
  have K1 := Lib.hid (K0.out.bl hb1)
  clear hb1
  go_wp2_with fail
  refine (sized_any D.length _).mono ?_
  rintro e w2 ⟨b, rfl, rfl, hs1⟩
  cases b
  · go_wp2
    go_ret
    exact ⟨rfl, K1.out.b⟩
  have HS1 := Lib.hid (hs1 rfl)
  clear hs1
  go_wp2_with fail
  refine (sized_any P.length _).mono ?_
  rintro e w3 ⟨b, rfl, rfl, hs2⟩
  cases b
  · go_wp2
    go_ret
    exact ⟨rfl, K1.out.b⟩
  have HS2 := Lib.hid (hs2 rfl)
  clear hs2
  have lD : D.length ≤ 1000 := by have := HS1.out; omega
  have lP : P.length ≤ 1000 := by have := HS2.out; omega
  have OA := Lib.hid (fun v1 v2 W h1 h2 => Open_all v1 v2 D P t W h1 h2 lD lP)
  have CA := Lib.hid (fun v1 v2 W h1 h2 => Cover_all v1 v2 D P W h1 h2 lD lP)
  have XA := Lib.hid (fun h => oE_A (t := t) (D := D) (P := P) h)
  have XB := Lib.hid (fun h1 h2 => oE_B (t := t) (D := D) (P := P) h1 h2)
  have XC := Lib.hid (fun h1 h2 => cE_C (D := D) (P := P) h1 h2)
  have XN := Lib.hid (fun h1 h2 hd => oE_N (t := t) (D := D) (P := P) h1 h2 hd)
  have XD := Lib.hid (fun h1 h2 h3 => oE_D (t := t) (D := D) (P := P) h1 h2 h3)
  have CD := Lib.hid (fun v W h => xCheckDues_any D v W (by omega) h)
  have CP := Lib.hid (fun v W h => xCheckDues_any P v W (by omega) h)
  have MD := Lib.hid (fun v W h => CheckDues_any D v W (by omega) h)
  have DD := Lib.hid (fun h => du_is (L := D) h)
  have DP := Lib.hid (fun h => du_is (L := P) h)
  generalize oE t D P = E at *
  generalize oX t D P = X at *
  generalize oY t D P = Y at *
  generalize cE D P = R at *
  generalize cL D P = CL at *
  generalize duesE D = A at *
  generalize duesE P = B at *
  go_wp2_with (at_builtin; refine wpList_copy _ rfl _ _ rfl rfl rfl (K1.out.q.1) lD Z1.out ?_)
  intro c1 w4 lc1 bw4
  have K4 := Lib.hid (K1.out.bl bw4)
  have L1 := Lib.hid lc1
  clear bw4 lc1
  go_wp2_with (at_builtin; refine wpList_copy _ rfl _ _ rfl rfl rfl (K4.out.q.2) lP Z2.out ?_)
  intro c2 w5 lc2 bw5
  have K5 := Lib.hid (K4.out.bl bw5)
  have L1 := Lib.hid (L1.out.below bw5)
  have L2 := Lib.hid lc2
  clear bw5 lc2
  go_wp2_with fail
  refine (OA.out _ _ _ L1.out L2.out).mono ?_
  rintro e w6 ⟨rfl, hb6⟩
  have K6 := Lib.hid (K5.out.bl hb6)
  clear hb6 L1 L2
  go_wp2_with (at_builtin; refine wpList_copy _ rfl _ _ rfl rfl rfl (K6.out.q.1) lD Z1.out ?_)
  intro c3 w7 lc3 bw7
  have K7 := Lib.hid (K6.out.bl bw7)
  have L1 := Lib.hid lc3
  clear bw7 lc3
  go_wp2_with (at_builtin; refine wpList_copy _ rfl _ _ rfl rfl rfl (K7.out.q.2) lP Z2.out ?_)
  intro c4 w8 lc4 bw8
  have K8 := Lib.hid (K7.out.bl bw8)
  have L1 := Lib.hid (L1.out.below bw8)
  have L2 := Lib.hid lc4
  clear bw8 lc4
  go_wp2_with fail
  refine (CA.out _ _ _ L1.out L2.out).mono ?_
  rintro e w9 ⟨vl, rfl, hl9, hb9⟩
  have K9 := Lib.hid (K8.out.bl hb9)
  have LL := Lib.hid hl9
  clear hb9 hl9 L1 L2
  go_wp2_with fail
  refine (CD.out _ _ K9.out.q.1).mono ?_
  rintro e w10 ⟨rfl, hb10⟩
  have K10 := Lib.hid (K9.out.bl hb10)
  have LL := Lib.hid (LL.out.below hb10)
  clear hb10
  go_wp2_with (at_builtin; refine wpList_copy _ rfl _ _ rfl rfl rfl (K10.out.q.1) lD Z1.out ?_)
  intro c5 w11 lc5 bw11
  have K11 := Lib.hid (K10.out.bl bw11)
  have LL := Lib.hid (LL.out.below bw11)
  have L1 := Lib.hid lc5
  clear bw11 lc5
  go_wp2_with fail
  refine (MD.out _ _ L1.out).mono ?_
  rintro e w12 ⟨rfl, hb12⟩
  have K12 := Lib.hid (K11.out.bl hb12)
  have LL := Lib.hid (LL.out.below hb12)
  clear hb12 L1
  have enA : (A != A) = false := by simp
  by_cases hA : A = 0
  · subst hA
    go_wp2_with fail
    refine (CP.out _ _ K12.out.q.2).mono ?_
    rintro e w13 ⟨rfl, hb13⟩
    have K13 := Lib.hid (K12.out.bl hb13)
    have LL := Lib.hid (LL.out.below hb13)
    clear hb13
    by_cases hB : B = 0
    · subst hB
      have lC : CL.length ≤ 1000 := by have := (XC.out (by simp) (by simp)).2.2; omega
      obtain ⟨hR, hCL, -⟩ := XC.out (by simp) (by simp)
      subst hR
      have HCL := Lib.hid hCL
      have KO := Lib.hid (xCover_any (.slice a D.length cp) (.slice a2 P.length cp2) D P w13 K13.out.q.1 K13.out.q.2 (DD.out (by simp)) (DP.out (by simp)))
      go_wp2_with fail
      refine KO.out.mono ?_
      rintro e w14 ⟨vr, rfl, hI⟩
      have K14 := Lib.hid (K13.out.bl hI.out.2)
      have LL := Lib.hid (LL.out.below hI.out.2)
      have LR := Lib.hid (hI.out.LI)
      clear hI KO
      go_wp2_with fail
      refine (ints_eq (L := CL) LL.out (by rw [HCL.out]; exact LR.out) lC).mono ?_
      rintro e w15 ⟨rfl, hb15⟩
      have K15 := Lib.hid (K14.out.bl hb15)
      clear hb15 LL LR
      cases hd : inB t 0 200000
      · obtain ⟨e1, e2, e3⟩ := XN.out (by simp) (by simp) hd
        subst e1 e2 e3
        have HD := Lib.hid hd
        clear hd
        go_wp2_with (go_at_call 41; refine (xIsDay_any _ _).mono ?_; rintro e w' ⟨rfl, rfl⟩; rw [HD.out])
        go_ret
        exact ⟨rfl, K15.out.b⟩
      · obtain ⟨e1, e2, e3⟩ := XD.out (by simp) (by simp) hd
        subst e1 e2 e3
        have HD := Lib.hid hd
        clear hd
        have XO := Lib.hid (xOpen_any (.slice a D.length cp) (.slice a2 P.length cp2) D P t w15 K15.out.q.1 K15.out.q.2 (DD.out (by simp)) (DP.out (by simp)))
        generalize openM t D P = OM at *
        generalize leftM t D P = LM at *
        have z1 : (OM == OM) = true := by simp
        have z2 : (LM == LM) = true := by simp
        go_wp2_with (go_at_call 41; refine (xIsDay_any _ _).mono ?_; rintro e w' ⟨rfl, rfl⟩; rw [HD.out])
        go_wp2_with fail
        refine XO.out.mono ?_
        rintro e w16 ⟨rfl, hb16⟩
        have K16 := Lib.hid (K15.out.bl hb16)
        clear hb16
        go_wp2
        go_ret
        exact ⟨by simp, K16.out.b⟩
    · have hBn : (B != 0) = true := by simpa using hB
      have hBe : (B == B) = true := by simp
      obtain ⟨e1, e2, e3, e4, e5⟩ := XB.out (by simp) hB
      subst e1 e2 e3 e4 e5
      obtain ⟨av, cv, rfl, -⟩ := LL.out
      go_wp2
      go_ret
      exact ⟨by simp, K13.out.b⟩
  · have hAn : (A != 0) = true := by simpa using hA
    have hAe : (A == 0) = false := by simpa using hA
    have hAs : (A == A) = true := by simp
    obtain ⟨e1, e2, e3, e4, e5⟩ := XA.out hA
    subst e1 e2 e3 e4 e5
    obtain ⟨av, cv, rfl, -⟩ := LL.out
    go_wp2
    go_ret
    exact ⟨by simp, K12.out.b⟩
end Go.Proofs.Ytcimceepkjpggaa
