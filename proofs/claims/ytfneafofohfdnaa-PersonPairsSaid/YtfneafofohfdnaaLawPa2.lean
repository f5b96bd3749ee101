/-
  PersonPairs' law: two right names.
-/
import Derived.Test.YtfneafofohfdnaaLawPai
namespace Go.Proofs.Ytfneafofohfdnaa
open Go.RowKit
theorem rCommon_gen (w : World) (x y : List Nat) (b1 c1 b2 c2 : Nat) (lx : x.length ≤ 24) (hx : ∀ m ∈ x, okM m) (h1 : TxAt w b1 (x.map lets)) (h2 : TxAt w b2 (y.map lets)) :
    Calls Try.prog 21 #[.slice (some ⟨b1, 0, none⟩) x.length c1, .slice (some ⟨b2, 0, none⟩) y.length c2] w (rcPost x y w) := by
  by_cases e : x.length = y.length
  · exact rCommon_any w x y b1 c1 b2 c2 lx hx e h1 h2
  · exact rCommon_no w x y _ _ c1 c2 e
theorem rCommon_none {w : World} {x y : List Nat} {b1 c1 b2 c2 : Nat} (lx : x.length ≤ 24) (hx : ∀ m ∈ x, okM m) (hn : cmM x y = none) (h1 : TxAt w b1 (x.map lets)) (h2 : TxAt w b2 (y.map lets)) :
    Calls Try.prog 21 #[.slice (some ⟨b1, 0, none⟩) x.length c1, .slice (some ⟨b2, 0, none⟩) y.length c2] w (RetB (two (.slice none 0 0) (.bool false)) w) := by
  refine (rCommon_gen w x y b1 c1 b2 c2 lx hx h1 h2).mono ?_
  rintro e w' ⟨hb, ⟨R, v, hR, _⟩ | ⟨_, rfl⟩⟩
  · rw [hn] at hR; cases hR
  · exact ⟨rfl, hb⟩
theorem rCommon_some {w : World} {x y R : List Nat} {b1 c1 b2 c2 : Nat} (gx : gdM x) (hs : cmM x y = some R) (h1 : TxAt w b1 (x.map lets)) (h2 : TxAt w b2 (y.map lets)) :
    Calls Try.prog 21 #[.slice (some ⟨b1, 0, none⟩) x.length c1, .slice (some ⟨b2, 0, none⟩) y.length c2] w (fun e w' => ∃ g c, e = .returned (two (.slice (some ⟨g, 0, none⟩) R.length c) (.bool true)) ∧ TxAt w' g (R.map lets) ∧ Below w.heap.size w w') := by
  refine (rCommon_gen w x y b1 c1 b2 c2 gx.2.1 gx.2.2 h1 h2).mono ?_
  rintro e w' ⟨hb, ⟨R', v, hR, rfl, hv⟩ | ⟨hn, _⟩⟩
  · rw [hs] at hR
    obtain rfl := Option.some.inj hR
    have hg := (cmM_gd gx hs).1
    obtain ⟨g, c, rfl, _, ht⟩ := hv.closed (by intro e; rw [List.map_eq_nil_iff] at e; rw [e] at hg; simp at hg)
    rw [List.length_map]
    exact ⟨g, c, rfl, ht, hb⟩
  · rw [hs] at hn; cases hn
theorem bt {w0 W W' : World} (h : Below w0.heap.size w0 W) (h' : Below W.heap.size W W') : Below w0.heap.size w0 W' := h.trans (h'.mono h.size)
theorem cmT_some {a b : List UInt8} {x y R : List Nat} (h1 : nmE a = 0) (h2 : nmE b = 0) (hx : rdN a = some x) (hy : rdN b = some y) (hs : cmM x y = some R) : cmT a b = (nmT R, 0) := by rw [cmT_good h1 h2 hx hy, hs]
theorem gd_ne {M : List Nat} (h : gdM M) : M ≠ [] := by intro e; have := h.1; rw [e] at this; simp at this
set_option maxRecDepth 100000 in
set_option maxHeartbeats 8000000 in
theorem pai_none (a b : List UInt8) (x y : List Nat) (w : World) (la : a.length ≤ 200) (lb : b.length ≤ 200) (h1 : nmE a = 0) (h2 : nmE b = 0) (gx : gdM x) (gy : gdM y) (hx : rdN a = some x) (hy : rdN b = some y) (hn : cmM x y = none) :
    Calls Try.prog 4 #[.string ⟨a.toArray⟩, .string ⟨b.toArray⟩] w (RetB (.bool true) w) := by
  have A1 := Lib.hid (fun W => (decide_eq_true la : decide (a.length ≤ 200) = true) ▸ short_any a W)
  have A2 := Lib.hid (fun W => (decide_eq_true lb : decide (b.length ≤ 200) = true) ▸ short_any b W)
  have C1 := Lib.hid (fun W => Common_any a b W (by omega) (by omega))
  have C2 := Lib.hid (fun W => Common_any b a W (by omega) (by omega))
  have D1 := Lib.hid (fun W => Distance_good a b x y W (by omega) (by omega) h1 h2 hx hy)
  have D2 := Lib.hid (fun W => Distance_good b a y x W (by omega) (by omega) h2 h1 hy hx)
  have K1 := Lib.hid (fun W => xCheckName_any a W (by omega))
  have K2 := Lib.hid (fun W => xCheckName_any b W (by omega))
  have S1 := Lib.hid (fun W => Signs_any a W (by omega))
  have S2 := Lib.hid (fun W => Signs_any b W (by omega))
  have E1 := Lib.hid (fun (W : World) (b1 c1 b2 c2 : Nat) => rDist_any W x y b1 c1 b2 c2 gx.2.1 gy.2.1 (fun m hm => (gx.2.2 m hm).2))
  have Q1 := Lib.hid (fun (W : World) (b1 c1 b2 c2 : Nat) => rCommon_none (w := W) (b1 := b1) (c1 := c1) (b2 := b2) (c2 := c2) gx.2.1 gx.2.2 hn)
  rw [cmT_good h1 h2 hx hy, hn] at C1
  rw [cmT_good h2 h1 hy hx, cmM_comm, hn] at C2
  rw [ds_sym x y] at D2
  rw [h1] at K1
  rw [h2] at K2
  have hd : diM (cM x y) x.length y.length ≠ 0 := fun e => (ds_zero x y).1 e hn
  generalize diM (cM x y) x.length y.length = d at *
  have hdb : ((d : Int) == 0) = false := by simpa using hd
  have HX := Lib.hid hx
  have HY := Lib.hid hy
  have NX := Lib.hid (gd_ne gx)
  have NY := Lib.hid (gd_ne gy)
  clear h1 h2 gx gy hx hy hn hd
  go_enter Try.func4, Try.ntmps4
  go_wp2_with (first
    | (go_at_call 8; refine (awake_any _).mono ?_; rintro e w1 ⟨rfl, hb1⟩)
    | (go_at_call 9; first | (with_reducible refine (A1.out _).mono ?_; rintro e w' ⟨rfl, rfl⟩) | (with_reducible refine (A2.out _).mono ?_; rintro e w' ⟨rfl, rfl⟩))
    | (go_at_call 19; first | (with_reducible refine (C1.out _).mono ?_; rintro e w2 ⟨rfl, hb2⟩) | ((with_reducible refine (C2.out _).mono ?_); rintro e w12 ⟨rfl, hb12⟩; have TW1 := Lib.hid (TV1.out.below hb12); have TW2 := Lib.hid (TV2.out.below hb12)))
    | (go_at_call 20; first | (with_reducible refine (D1.out _).mono ?_; rintro e w3 ⟨rfl, hb3⟩) | ((with_reducible refine (D2.out _).mono ?_); rintro e w13 ⟨rfl, hb13⟩; have TX1 := Lib.hid (TW1.out.below hb13); have TX2 := Lib.hid (TW2.out.below hb13)))
    | (go_at_call 13; first | (with_reducible refine (K1.out _).mono ?_; rintro e w6 ⟨rfl, hb6⟩) | (with_reducible refine (K2.out _).mono ?_; rintro e w7 ⟨rfl, hb7⟩))
    | (go_at_call 15; first | ((with_reducible refine (S1.out _).mono ?_); rintro e w8 ⟨p1, n1, c1, rfl, hM1, hb8⟩; obtain ⟨rfl, hT1⟩ := hM1 x HX.out; obtain ⟨g1, rfl, T1⟩ := hT1 NX.out; have TT1 := Lib.hid T1; clear hM1 hT1 T1) | ((with_reducible refine (S2.out _).mono ?_); rintro e w9 ⟨p2, n2, c2, rfl, hM2, hb9⟩; obtain ⟨rfl, hT2⟩ := hM2 y HY.out; obtain ⟨g2, rfl, T2⟩ := hT2 NY.out; have TT2 := Lib.hid T2; have TU1 := Lib.hid (TT1.out.below hb9); clear hM2 hT2 T2))
    | (go_at_call 21; refine (Q1.out _ _ _ _ _ TU1.out TT2.out).mono ?_; rintro e w10 ⟨rfl, hb10⟩; have TV1 := Lib.hid (TU1.out.below hb10); have TV2 := Lib.hid (TT2.out.below hb10))
    | (go_at_call 23; refine (E1.out _ _ _ _ _ TX1.out TX2.out).mono ?_; rintro e w14 ⟨rfl, hb14⟩))
  go_ret
  exact ⟨rfl, bt (bt (bt (bt (bt (bt (bt (bt (bt (bt hb1 hb2) hb3) hb6) hb7) hb8) hb9) hb10) hb12) hb13) hb14⟩
set_option maxRecDepth 100000 in
set_option maxHeartbeats 8000000 in
theorem pai_some (a b : List UInt8) (x y R : List Nat) (w : World) (la : a.length ≤ 200) (lb : b.length ≤ 200) (h1 : nmE a = 0) (h2 : nmE b = 0) (gx : gdM x) (gy : gdM y) (hx : rdN a = some x) (hy : rdN b = some y) (hn : cmM x y = some R) :
    Calls Try.prog 4 #[.string ⟨a.toArray⟩, .string ⟨b.toArray⟩] w (RetB (.bool true) w) := by
  have A1 := Lib.hid (fun W => (decide_eq_true la : decide (a.length ≤ 200) = true) ▸ short_any a W)
  have A2 := Lib.hid (fun W => (decide_eq_true lb : decide (b.length ≤ 200) = true) ▸ short_any b W)
  have C1 := Lib.hid (fun W => Common_any a b W (by omega) (by omega))
  have C2 := Lib.hid (fun W => Common_any b a W (by omega) (by omega))
  have D1 := Lib.hid (fun W => Distance_good a b x y W (by omega) (by omega) h1 h2 hx hy)
  have D2 := Lib.hid (fun W => Distance_good b a y x W (by omega) (by omega) h2 h1 hy hx)
  have K1 := Lib.hid (fun W => xCheckName_any a W (by omega))
  have K2 := Lib.hid (fun W => xCheckName_any b W (by omega))
  have S1 := Lib.hid (fun W => Signs_any a W (by omega))
  have S2 := Lib.hid (fun W => Signs_any b W (by omega))
  have E1 := Lib.hid (fun (W : World) (b1 c1 b2 c2 : Nat) => rDist_any W x y b1 c1 b2 c2 gx.2.1 gy.2.1 (fun m hm => (gx.2.2 m hm).2))
  have Q1 := Lib.hid (fun (W : World) (b1 c1 b2 c2 : Nat) => rCommon_some (w := W) (b1 := b1) (c1 := c1) (b2 := b2) (c2 := c2) gx hn)
  rw [cmT_some h1 h2 hx hy hn] at C1
  rw [cmT_some h2 h1 hy hx (by rw [cmM_comm]; exact hn)] at C2
  rw [ds_sym x y] at D2
  rw [h1] at K1
  rw [h2] at K2
  have hd : diM (cM x y) x.length y.length = 0 := (ds_zero x y).2 (by rw [hn]; simp)
  have gR := cmM_gd gx hn
  have X1 := Lib.hid (fun (W : World) (b c : Nat) => RText_any W R b c gR.2.1 gR.2.2)
  rw [hd] at D1 D2 E1
  generalize nmT R = Z at *
  have HX := Lib.hid hx
  have HY := Lib.hid hy
  have NX := Lib.hid (gd_ne gx)
  have NY := Lib.hid (gd_ne gy)
  clear h1 h2 gx gy hx hy hn hd gR
  go_enter Try.func4, Try.ntmps4
  go_wp2_with (first
    | (go_at_call 8; refine (awake_any _).mono ?_; rintro e w1 ⟨rfl, hb1⟩)
    | (go_at_call 9; first | (with_reducible refine (A1.out _).mono ?_; rintro e w' ⟨rfl, rfl⟩) | (with_reducible refine (A2.out _).mono ?_; rintro e w' ⟨rfl, rfl⟩))
    | (go_at_call 19; first | (with_reducible refine (C1.out _).mono ?_; rintro e w2 ⟨rfl, hb2⟩) | ((with_reducible refine (C2.out _).mono ?_); rintro e w12 ⟨rfl, hb12⟩; have TW1 := Lib.hid (TY1.out.below hb12); have TW2 := Lib.hid (TY2.out.below hb12)))
    | (go_at_call 20; first | (with_reducible refine (D1.out _).mono ?_; rintro e w3 ⟨rfl, hb3⟩) | ((with_reducible refine (D2.out _).mono ?_); rintro e w13 ⟨rfl, hb13⟩; have TX1 := Lib.hid (TW1.out.below hb13); have TX2 := Lib.hid (TW2.out.below hb13)))
    | (go_at_call 13; first | (with_reducible refine (K1.out _).mono ?_; rintro e w6 ⟨rfl, hb6⟩) | (with_reducible refine (K2.out _).mono ?_; rintro e w7 ⟨rfl, hb7⟩))
    | (go_at_call 15; first | ((with_reducible refine (S1.out _).mono ?_); rintro e w8 ⟨p1, n1, c1, rfl, hM1, hb8⟩; obtain ⟨rfl, hT1⟩ := hM1 x HX.out; obtain ⟨g1, rfl, T1⟩ := hT1 NX.out; have TT1 := Lib.hid T1; clear hM1 hT1 T1) | ((with_reducible refine (S2.out _).mono ?_); rintro e w9 ⟨p2, n2, c2, rfl, hM2, hb9⟩; obtain ⟨rfl, hT2⟩ := hM2 y HY.out; obtain ⟨g2, rfl, T2⟩ := hT2 NY.out; have TT2 := Lib.hid T2; have TU1 := Lib.hid (TT1.out.below hb9); clear hM2 hT2 T2))
    | (go_at_call 21; refine (Q1.out _ _ _ _ _ TU1.out TT2.out).mono ?_; rintro e w10 ⟨g3, c3, rfl, T3, hb10⟩; have TT3 := Lib.hid T3; clear T3; have TV1 := Lib.hid (TU1.out.below hb10); have TV2 := Lib.hid (TT2.out.below hb10))
    | (go_at_call 23; refine (E1.out _ _ _ _ _ TX1.out TX2.out).mono ?_; rintro e w14 ⟨rfl, hb14⟩)
    | (go_at_call 22; refine (X1.out _ _ _ TT3.out).mono ?_; rintro e w11 ⟨rfl, hb11⟩; have TY1 := Lib.hid (TV1.out.below hb11); have TY2 := Lib.hid (TV2.out.below hb11)))
  go_ret
  exact ⟨rfl, bt (bt (bt (bt (bt (bt (bt (bt (bt (bt (bt hb1 hb2) hb3) hb6) hb7) hb8) hb9) hb10) hb11) hb12) hb13) hb14⟩
theorem pai_any (a b : List UInt8) (w : World) : Calls Try.prog 4 #[.string ⟨a.toArray⟩, .string ⟨b.toArray⟩] w (RetB (.bool true) w) := by
  by_cases h : a.length ≤ 200 ∧ b.length ≤ 200
  · obtain ⟨la, lb⟩ := h
    by_cases h0 : feE [nmE a, nmE b] = 0
    · obtain ⟨h1, h2⟩ := feE_2 h0
      obtain ⟨x, gx, hx, -⟩ := gd_nmE h1
      obtain ⟨y, gy, hy, -⟩ := gd_nmE h2
      cases hc : cmM x y with
      | none => exact pai_none a b x y w la lb h1 h2 gx gy hx hy hc
      | some R => exact pai_some a b x y R w la lb h1 h2 gx gy hx hy hc
    · exact pai_bad a b w la lb h0
  · exact pai_long a b w h
end Go.Proofs.Ytfneafofohfdnaa
