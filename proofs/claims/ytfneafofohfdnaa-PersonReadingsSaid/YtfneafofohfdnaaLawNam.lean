/-
  PersonNames' law.
-/
import Derived.Test.YtfneafofohfdnaaLawTri
import Derived.Test.YtfneafofohfdnaaRdgP
namespace Go.Proofs.Ytfneafofohfdnaa
open Go.RowKit
theorem bt' {w0 W W' : World} (h : Below w0.heap.size w0 W) (h' : Below W.heap.size W W') : Below w0.heap.size w0 W' := h.trans (h'.mono h.size)
theorem CRow.ti {w0 W : World} {D : List (List UInt8)} {v : Value} (h : CRow w0 W D v) : TI W v D := h.texts
theorem rs_ti {W : World} {s : List UInt8} {M : List Nat} {a : Option Addr} {n : Nat} (hM : rdN s = some M) (h : ∀ M, rdN s = some M → n = M.length ∧ (M ≠ [] → ∃ g, a = some ⟨g, 0, none⟩ ∧ TxAt W g (M.map lets))) (hne : M ≠ []) :
    ∃ g, n = M.length ∧ a = some ⟨g, 0, none⟩ ∧ TxAt W g (M.map lets) := by
  obtain ⟨h1, h2⟩ := h M hM
  obtain ⟨g, h3, h4⟩ := h2 hne
  exact ⟨g, h1, h3, h4⟩
theorem tx_ti {W : World} {g c : Nat} {M : List Nat} (h : TxAt W g (M.map lets)) : TI W (.slice (some ⟨g, 0, none⟩) M.length c) (M.map lets) := ⟨_, c, by rw [List.length_map], fun _ => ⟨g, rfl, h⟩⟩
theorem gd_ne' {M : List Nat} (h : gdM M) : M ≠ [] := by intro e; have := h.1; rw [e] at this; simp at this
set_option maxRecDepth 100000 in
set_option maxHeartbeats 8000000 in
theorem nam_long (s : List UInt8) (w : World) (h : ¬ s.length ≤ 200) : Calls Try.prog 3 #[.string ⟨s.toArray⟩] w (RetB (.bool true) w) := by
  have A1 := Lib.hid (fun W => (decide_eq_false h : decide (s.length ≤ 200) = false) ▸ short_any s W)
  go_enter Try.func3, Try.ntmps3
  go_wp2_with (first
    | (go_at_call 8; refine (awake_any _).mono ?_; rintro e w1 ⟨rfl, hb1⟩)
    | (go_at_call 9; refine (A1.out _).mono ?_; rintro e w' ⟨rfl, rfl⟩))
  go_ret
  exact ⟨rfl, hb1⟩
set_option maxRecDepth 100000 in
set_option maxHeartbeats 8000000 in
theorem nam_bad (s : List UInt8) (w : World) (hl : s.length ≤ 200) (h : nmE s ≠ 0) : Calls Try.prog 3 #[.string ⟨s.toArray⟩] w (RetB (.bool true) w) := by
  have A1 := Lib.hid (fun W => (decide_eq_true hl : decide (s.length ≤ 200) = true) ▸ short_any s W)
  have hr : rdE s = nmE s := by unfold rdE; rw [cnT_bad h]; simp [feE, h]
  have S1 := Lib.hid (fun W => SignsP_bad s W (by omega) h)
  have C1 := Lib.hid (fun W => Count_any s W (by omega))
  have R1 := Lib.hid (fun W => Readings_bad s W (by omega) (by rw [hr]; exact h))
  have K1 := Lib.hid (fun W => xCheckName_any s W (by omega))
  have K2 := Lib.hid (fun W => checkName_any s W (by omega))
  rw [cnT_bad h] at C1
  rw [hr] at R1
  generalize nmE s = q at *
  have eq : (q != 0) = true := by simpa using h
  clear h hr
  go_enter Try.func3, Try.ntmps3
  go_wp2_with (first
    | (go_at_call 8; refine (awake_any _).mono ?_; rintro e w1 ⟨rfl, hb1⟩)
    | (go_at_call 9; refine (A1.out _).mono ?_; rintro e w' ⟨rfl, rfl⟩)
    | (go_at_call 10; refine (S1.out _).mono ?_; rintro e w2 ⟨rfl, hb2⟩)
    | (go_at_call 11; refine (C1.out _).mono ?_; rintro e w3 ⟨rfl, hb3⟩)
    | (go_at_call 12; refine (R1.out _).mono ?_; rintro e w4 ⟨rfl, hb4⟩)
    | (go_at_call 13; refine (K1.out _).mono ?_; rintro e w5 ⟨rfl, hb5⟩)
    | (go_at_call 14; refine (K2.out _).mono ?_; rintro e w6 ⟨rfl, hb6⟩))
  go_ret
  exact ⟨rfl, bt' (bt' (bt' (bt' (bt' hb1 hb2) hb3) hb4) hb5) hb6⟩
set_option maxRecDepth 100000 in
set_option maxHeartbeats 8000000 in
theorem nam_big (s : List UInt8) (M : List Nat) (w : World) (hl : s.length ≤ 200) (h : nmE s = 0) (gM : gdM M) (hM : rdN s = some M) (hc : 1000000 < ctM M) : Calls Try.prog 3 #[.string ⟨s.toArray⟩] w (RetB (.bool true) w) := by
  have A1 := Lib.hid (fun W => (decide_eq_true hl : decide (s.length ≤ 200) = true) ▸ short_any s W)
  have hcn : cnT s = (0, 8) := by rw [cnT_good h hM, if_pos hc]
  have hr : rdE s = 8 := by unfold rdE; rw [hcn]; rfl
  have S1 := Lib.hid (fun W => SignsP_good s M W (by omega) h gM hM)
  have C1 := Lib.hid (fun W => Count_any s W (by omega))
  have R1 := Lib.hid (fun W => Readings_bad s W (by omega) (by rw [hr]; decide))
  have K1 := Lib.hid (fun W => xCheckName_any s W (by omega))
  have K2 := Lib.hid (fun W => checkName_any s W (by omega))
  have S2 := Lib.hid (fun W => Signs_any s W (by omega))
  have D1 := Lib.hid (fun (W : World) (b c : Nat) => rCount_any W M b c gM.2.1)
  rw [hcn] at C1
  rw [hr] at R1
  rw [h] at K1 K2
  have HM := Lib.hid hM
  have NM := Lib.hid (gd_ne' gM)
  have lM := Lib.hid (show (M.map lets).length ≤ 1000 by rw [List.length_map]; have := gM.2.1; omega)
  generalize ctM M = C at *
  have hci : (1000000 : Int) < (C : Int) := by omega
  clear h hr hcn hM gM hc
  go_enter Try.func3, Try.ntmps3
  go_wp2_with (first
    | (go_at_call 8; refine (awake_any _).mono ?_; rintro e w1 ⟨rfl, hb1⟩)
    | (go_at_call 9; refine (A1.out _).mono ?_; rintro e w' ⟨rfl, rfl⟩)
    | (go_at_call 10; refine (S1.out _).mono ?_; rintro e w2 ⟨v2, rfl, hr2⟩; have hb2 := hr2.2; have T2 := Lib.hid hr2.ti; clear hr2)
    | (go_at_call 11; refine (C1.out _).mono ?_; rintro e w3 ⟨rfl, hb3⟩; have T3 := Lib.hid (T2.out.below hb3))
    | (go_at_call 12; refine (R1.out _).mono ?_; rintro e w4 ⟨rfl, hb4⟩; have T4 := Lib.hid (T3.out.below hb4))
    | (go_at_call 13; refine (K1.out _).mono ?_; rintro e w5 ⟨rfl, hb5⟩; have T5 := Lib.hid (T4.out.below hb5))
    | (go_at_call 14; refine (K2.out _).mono ?_; rintro e w6 ⟨rfl, hb6⟩; have T6 := Lib.hid (T5.out.below hb6))
    | (go_at_call 15; refine (S2.out _).mono ?_; rintro e w7 ⟨p2, n2, c2, rfl, hM2, hb7⟩; obtain ⟨g2, rfl, rfl, X2⟩ := rs_ti HM.out hM2 NM.out; have T7 := Lib.hid (T6.out.below hb7); have X7 := Lib.hid X2; clear hM2 X2)
    | (go_at_call 16; refine (texts_eq T7.out (tx_ti X7.out) lM.out).mono ?_; rintro e w8 ⟨rfl, hb8⟩; have X8 := Lib.hid (X7.out.below hb8))
    | (go_at_call 17; refine (D1.out _ _ _ X8.out).mono ?_; rintro e w9 ⟨rfl, hb9⟩))
  go_ret
  exact ⟨rfl, bt' (bt' (bt' (bt' (bt' (bt' (bt' (bt' hb1 hb2) hb3) hb4) hb5) hb6) hb7) hb8) hb9⟩
set_option maxRecDepth 100000 in
set_option maxHeartbeats 8000000 in
theorem nam_mid (s : List UInt8) (M : List Nat) (w : World) (hl : s.length ≤ 200) (h : nmE s = 0) (gM : gdM M) (hM : rdN s = some M) (hc : ctM M ≤ 1000000) (hd : 64 < ctM M) : Calls Try.prog 3 #[.string ⟨s.toArray⟩] w (RetB (.bool true) w) := by
  have A1 := Lib.hid (fun W => (decide_eq_true hl : decide (s.length ≤ 200) = true) ▸ short_any s W)
  have hcn : cnT s = (ctM M, 0) := by rw [cnT_good h hM, if_neg (by omega)]
  have hr : rdE s = 8 := by unfold rdE; rw [hcn]; simp only; rw [decide_eq_true hd]; rfl
  have S1 := Lib.hid (fun W => SignsP_good s M W (by omega) h gM hM)
  have C1 := Lib.hid (fun W => Count_any s W (by omega))
  have R1 := Lib.hid (fun W => Readings_bad s W (by omega) (by rw [hr]; decide))
  have K1 := Lib.hid (fun W => xCheckName_any s W (by omega))
  have K2 := Lib.hid (fun W => checkName_any s W (by omega))
  have S2 := Lib.hid (fun W => Signs_any s W (by omega))
  have D1 := Lib.hid (fun (W : World) (b c : Nat) => rCount_any W M b c gM.2.1)
  rw [hcn] at C1
  rw [hr] at R1
  rw [h] at K1 K2
  have HM := Lib.hid hM
  have NM := Lib.hid (gd_ne' gM)
  have lM := Lib.hid (show (M.map lets).length ≤ 1000 by rw [List.length_map]; have := gM.2.1; omega)
  generalize ctM M = C at *
  have hci : ¬ (1000000 : Int) < (C : Int) := by omega
  have hdi : (64 : Int) < (C : Int) := by omega
  clear h hr hcn hM gM hc hd
  go_enter Try.func3, Try.ntmps3
  go_wp2_with (first
    | (go_at_call 8; refine (awake_any _).mono ?_; rintro e w1 ⟨rfl, hb1⟩)
    | (go_at_call 9; refine (A1.out _).mono ?_; rintro e w' ⟨rfl, rfl⟩)
    | (go_at_call 10; refine (S1.out _).mono ?_; rintro e w2 ⟨v2, rfl, hr2⟩; have hb2 := hr2.2; have T2 := Lib.hid hr2.ti; clear hr2)
    | (go_at_call 11; refine (C1.out _).mono ?_; rintro e w3 ⟨rfl, hb3⟩; have T3 := Lib.hid (T2.out.below hb3))
    | (go_at_call 12; refine (R1.out _).mono ?_; rintro e w4 ⟨rfl, hb4⟩; have T4 := Lib.hid (T3.out.below hb4))
    | (go_at_call 13; refine (K1.out _).mono ?_; rintro e w5 ⟨rfl, hb5⟩; have T5 := Lib.hid (T4.out.below hb5))
    | (go_at_call 14; refine (K2.out _).mono ?_; rintro e w6 ⟨rfl, hb6⟩; have T6 := Lib.hid (T5.out.below hb6))
    | (go_at_call 15; refine (S2.out _).mono ?_; rintro e w7 ⟨p2, n2, c2, rfl, hM2, hb7⟩; obtain ⟨g2, rfl, rfl, X2⟩ := rs_ti HM.out hM2 NM.out; have T7 := Lib.hid (T6.out.below hb7); have X7 := Lib.hid X2; clear hM2 X2)
    | (go_at_call 16; refine (texts_eq T7.out (tx_ti X7.out) lM.out).mono ?_; rintro e w8 ⟨rfl, hb8⟩; have X8 := Lib.hid (X7.out.below hb8))
    | (go_at_call 17; refine (D1.out _ _ _ X8.out).mono ?_; rintro e w9 ⟨rfl, hb9⟩))
  go_ret
  exact ⟨rfl, bt' (bt' (bt' (bt' (bt' (bt' (bt' (bt' hb1 hb2) hb3) hb4) hb5) hb6) hb7) hb8) hb9⟩
set_option maxRecDepth 100000 in
set_option maxHeartbeats 8000000 in
theorem nam_good (s : List UInt8) (M : List Nat) (w : World) (hl : s.length ≤ 200) (h : nmE s = 0) (gM : gdM M) (hM : rdN s = some M) (hd : ctM M ≤ 64) : Calls Try.prog 3 #[.string ⟨s.toArray⟩] w (RetB (.bool true) w) := by
  have A1 := Lib.hid (fun W => (decide_eq_true hl : decide (s.length ≤ 200) = true) ▸ short_any s W)
  have hcn : cnT s = (ctM M, 0) := by rw [cnT_good h hM, if_neg (by omega)]
  have S1 := Lib.hid (fun W => SignsP_good s M W (by omega) h gM hM)
  have C1 := Lib.hid (fun W => Count_any s W (by omega))
  have R1 := Lib.hid (fun W => Readings_good s M W (by omega) h gM hM hd)
  have D2 := Lib.hid (fun (W : World) (b c : Nat) => rReadings_any W M b c gM.2.1 gM.2.2 hd)
  have lR := Lib.hid (show (rdgM M).length ≤ 1000 by rw [rdgM_len_le M (by omega) gM.2.2]; omega)
  have K1 := Lib.hid (fun W => xCheckName_any s W (by omega))
  have K2 := Lib.hid (fun W => checkName_any s W (by omega))
  have S2 := Lib.hid (fun W => Signs_any s W (by omega))
  have D1 := Lib.hid (fun (W : World) (b c : Nat) => rCount_any W M b c gM.2.1)
  rw [hcn] at C1
  rw [h] at K1 K2
  have HM := Lib.hid hM
  have NM := Lib.hid (gd_ne' gM)
  have lM := Lib.hid (show (M.map lets).length ≤ 1000 by rw [List.length_map]; have := gM.2.1; omega)
  generalize ctM M = C at *
  have hci : ¬ (1000000 : Int) < (C : Int) := by omega
  have hdi : ¬ (64 : Int) < (C : Int) := by omega
  clear h hcn hM gM hd
  go_enter Try.func3, Try.ntmps3
  go_wp2_with (first
    | (go_at_call 8; refine (awake_any _).mono ?_; rintro e w1 ⟨rfl, hb1⟩)
    | (go_at_call 9; refine (A1.out _).mono ?_; rintro e w' ⟨rfl, rfl⟩)
    | (go_at_call 10; refine (S1.out _).mono ?_; rintro e w2 ⟨v2, rfl, hr2⟩; have hb2 := hr2.2; have T2 := Lib.hid hr2.ti; clear hr2)
    | (go_at_call 11; refine (C1.out _).mono ?_; rintro e w3 ⟨rfl, hb3⟩; have T3 := Lib.hid (T2.out.below hb3))
    | (go_at_call 12; refine (R1.out _).mono ?_; rintro e w4 ⟨v4, rfl, hr4⟩; have hb4 := hr4.2; have T4 := Lib.hid (T3.out.below hb4); have Z4 := Lib.hid hr4.ti; clear hr4)
    | (go_at_call 13; refine (K1.out _).mono ?_; rintro e w5 ⟨rfl, hb5⟩; have T5 := Lib.hid (T4.out.below hb5); have Z5 := Lib.hid (Z4.out.below hb5))
    | (go_at_call 14; refine (K2.out _).mono ?_; rintro e w6 ⟨rfl, hb6⟩; have T6 := Lib.hid (T5.out.below hb6); have Z6 := Lib.hid (Z5.out.below hb6))
    | (go_at_call 15; refine (S2.out _).mono ?_; rintro e w7 ⟨p2, n2, c2, rfl, hM2, hb7⟩; obtain ⟨g2, rfl, rfl, X2⟩ := rs_ti HM.out hM2 NM.out; have T7 := Lib.hid (T6.out.below hb7); have Z7 := Lib.hid (Z6.out.below hb7); have X7 := Lib.hid X2; clear hM2 X2)
    | (go_at_call 16; first | ((with_reducible refine (texts_eq T7.out (tx_ti X7.out) lM.out).mono ?_); rintro e w8 ⟨rfl, hb8⟩; have X8 := Lib.hid (X7.out.below hb8); have Z8 := Lib.hid (Z7.out.below hb8)) | (refine (texts_eq Z10.out Y10.out lR.out).mono ?_; rintro e w11 ⟨rfl, hb11⟩))
    | (go_at_call 17; refine (D1.out _ _ _ X8.out).mono ?_; rintro e w9 ⟨rfl, hb9⟩; have X9 := Lib.hid (X8.out.below hb9); have Z9 := Lib.hid (Z8.out.below hb9))
    | (go_at_call 18; refine (D2.out _ _ _ X9.out).mono ?_; rintro e w10 ⟨v10, rfl, hr10⟩; have hb10 := hr10.2; have Z10 := Lib.hid (Z9.out.below hb10); have Y10 := Lib.hid hr10.ti; clear hr10))
  go_ret
  exact ⟨rfl, bt' (bt' (bt' (bt' (bt' (bt' (bt' (bt' (bt' (bt' hb1 hb2) hb3) hb4) hb5) hb6) hb7) hb8) hb9) hb10) hb11⟩
theorem nam_any (s : List UInt8) (w : World) : Calls Try.prog 3 #[.string ⟨s.toArray⟩] w (RetB (.bool true) w) := by
  by_cases hl : s.length ≤ 200
  · by_cases h : nmE s = 0
    · obtain ⟨M, gM, hM, -⟩ := gd_nmE h
      by_cases c1 : 1000000 < ctM M
      · exact nam_big s M w hl h gM hM c1
      · by_cases c2 : 64 < ctM M
        · exact nam_mid s M w hl h gM hM (by omega) c2
        · exact nam_good s M w hl h gM hM (by omega)
    · exact nam_bad s w hl h
  · exact nam_long s w hl
end Go.Proofs.Ytfneafofohfdnaa
