/-
  PersonTriangle's law.
-/
import Derived.Test.YtfneafofohfdnaaTri
import Derived.Test.YtfneafofohfdnaaAwk
import Derived.Test.YtfneafofohfdnaaSigns
namespace Go.Proofs.Ytfneafofohfdnaa
open Go.RowKit
theorem short_any (s : List UInt8) (w : World) : Calls Try.prog 9 #[.string ⟨s.toArray⟩] w (Ret (.bool (decide (s.length ≤ 200))) w) := by
  by_cases h : s.length ≤ 200
  · have e : decide (s.length ≤ 200) = true := decide_eq_true h
    have e2 : decide ((s.length : Int) ≤ 200) = true := decide_eq_true (by omega)
    rw [e]
    go_enter Try.func9, Try.ntmps9
    go_wp2
    go_ret
    exact ⟨rfl, rfl⟩
  · have e : decide (s.length ≤ 200) = false := decide_eq_false h
    have e2 : decide ((s.length : Int) ≤ 200) = false := decide_eq_false (by omega)
    rw [e]
    go_enter Try.func9, Try.ntmps9
    go_wp2
    go_ret
    exact ⟨rfl, rfl⟩
theorem dsT_good {s t : List UInt8} (hs : nmE s = 0) (ht : nmE t = 0) : dsT s t = ((dsT s t).1, 0) := by
  obtain ⟨x, _, hx, -⟩ := gd_nmE hs
  obtain ⟨y, _, hy, -⟩ := gd_nmE ht
  unfold dsT
  rw [if_neg (by simp [feE, hs, ht]), hx, hy]
theorem dsT_bad {s t : List UInt8} (h : feE [nmE s, nmE t] ≠ 0) : dsT s t = (0, feE [nmE s, nmE t]) := by unfold dsT; rw [if_pos h]
theorem cnT_zero {s : List UInt8} (h : cnT s = (1, 0)) : nmE s = 0 := by
  by_cases c : nmE s = 0
  · exact c
  · rw [cnT_bad c] at h; cases h
set_option maxRecDepth 100000 in
set_option maxHeartbeats 8000000 in
theorem tri_long (a b c : List UInt8) (w : World) (h : ¬ (a.length ≤ 200 ∧ b.length ≤ 200 ∧ c.length ≤ 200)) : Calls Try.prog 6 #[.string ⟨a.toArray⟩, .string ⟨b.toArray⟩, .string ⟨c.toArray⟩] w (RetB (.bool true) w) := by
  by_cases ha : a.length ≤ 200
  · have ea : decide (a.length ≤ 200) = true := decide_eq_true ha
    by_cases hb : b.length ≤ 200
    · have eb : decide (b.length ≤ 200) = true := decide_eq_true hb
      have ec : decide (c.length ≤ 200) = false := decide_eq_false (fun hc => h ⟨ha, hb, hc⟩)
      have A1 := Lib.hid (fun W => ea ▸ short_any a W)
      have A2 := Lib.hid (fun W => eb ▸ short_any b W)
      have A3 := Lib.hid (fun W => ec ▸ short_any c W)
      go_enter Try.func6, Try.ntmps6
      go_wp2_with (first
        | (go_at_call 8; refine (awake_any _).mono ?_; rintro e w1 ⟨rfl, hb1⟩)
        | (go_at_call 9; first | (with_reducible refine (A1.out _).mono ?_; rintro e w' ⟨rfl, rfl⟩) | (with_reducible refine (A2.out _).mono ?_; rintro e w' ⟨rfl, rfl⟩) | (with_reducible refine (A3.out _).mono ?_; rintro e w' ⟨rfl, rfl⟩)))
      go_ret
      exact ⟨rfl, hb1⟩
    · have eb : decide (b.length ≤ 200) = false := decide_eq_false hb
      have A1 := Lib.hid (fun W => ea ▸ short_any a W)
      have A2 := Lib.hid (fun W => eb ▸ short_any b W)
      go_enter Try.func6, Try.ntmps6
      go_wp2_with (first
        | (go_at_call 8; refine (awake_any _).mono ?_; rintro e w1 ⟨rfl, hb1⟩)
        | (go_at_call 9; first | (with_reducible refine (A1.out _).mono ?_; rintro e w' ⟨rfl, rfl⟩) | (with_reducible refine (A2.out _).mono ?_; rintro e w' ⟨rfl, rfl⟩)))
      go_ret
      exact ⟨rfl, hb1⟩
  · have ea : decide (a.length ≤ 200) = false := decide_eq_false ha
    have A1 := Lib.hid (fun W => ea ▸ short_any a W)
    go_enter Try.func6, Try.ntmps6
    go_wp2_with (first
        | (go_at_call 8; refine (awake_any _).mono ?_; rintro e w1 ⟨rfl, hb1⟩)
        | (go_at_call 9; refine (A1.out _).mono ?_; rintro e w' ⟨rfl, rfl⟩))
    go_ret
    exact ⟨rfl, hb1⟩
theorem TriB {w w1 w2 w3 w4 w5 w6 : World} (h1 : Below w.heap.size w w1) (h2 : Below w1.heap.size w1 w2) (h3 : Below w2.heap.size w2 w3) (h4 : Below w3.heap.size w3 w4) (h5 : Below w4.heap.size w4 w5) (h6 : Below w5.heap.size w5 w6) : Below w.heap.size w w6 := by
  have a2 := h1.trans (h2.mono h1.size)
  have a3 := a2.trans (h3.mono a2.size)
  have a4 := a3.trans (h4.mono a3.size)
  have a5 := a4.trans (h5.mono a4.size)
  exact a5.trans (h6.mono a5.size)
theorem dsT_le (s t : List UInt8) : (dsT s t).1 ≤ 48 := by
  by_cases h0 : feE [nmE s, nmE t] = 0
  · obtain ⟨h1, h2⟩ := feE_2 h0
    obtain ⟨x, gx, hx, -⟩ := gd_nmE h1
    obtain ⟨y, gy, hy, -⟩ := gd_nmE h2
    have lx := gx.2.1
    have ly := gy.2.1
    have := diM_le (c := cM x y) x.length y.length
    unfold dsT
    rw [if_neg (by simpa using h0), hx, hy]
    simp only
    omega
  · rw [dsT_bad h0]; exact Nat.zero_le _
set_option maxRecDepth 100000 in
set_option maxHeartbeats 8000000 in
theorem tri_good (a b c : List UInt8) (w : World) (la : a.length ≤ 200) (lb : b.length ≤ 200) (lc : c.length ≤ 200) (ha : nmE a = 0) (hb : nmE b = 0) (h1 : cnT c = (1, 0)) : Calls Try.prog 6 #[.string ⟨a.toArray⟩, .string ⟨b.toArray⟩, .string ⟨c.toArray⟩] w (RetB (.bool true) w) := by
  have hc := cnT_zero h1
  obtain ⟨t1, t2, t3⟩ := tri_all ha hb hc h1
  have A1 := Lib.hid (fun W => (decide_eq_true la : decide (a.length ≤ 200) = true) ▸ short_any a W)
  have A2 := Lib.hid (fun W => (decide_eq_true lb : decide (b.length ≤ 200) = true) ▸ short_any b W)
  have A3 := Lib.hid (fun W => (decide_eq_true lc : decide (c.length ≤ 200) = true) ▸ short_any c W)
  have C1 := Lib.hid (fun W => Count_any c W (by omega))
  have D1 := Lib.hid (fun W => Distance_any a b W (by omega) (by omega))
  have D2 := Lib.hid (fun W => Distance_any a c W (by omega) (by omega))
  have D3 := Lib.hid (fun W => Distance_any c b W (by omega) (by omega))
  have D4 := Lib.hid (fun W => Distance_any (a ++ [120]) b W (by simp; omega) (by omega))
  have hcat : (⟨(a ++ [120]).toArray⟩ : ByteArray) = (⟨a.toArray⟩ : ByteArray) ++ (⟨#[120]⟩ : ByteArray) := by rw [bapp]; simp
  rw [hcat] at D4
  have l1 := dsT_le a b
  have l2 := dsT_le a c
  have l3 := dsT_le c b
  have l4 := dsT_le (a ++ [120]) b
  rw [h1] at C1
  rw [dsT_good ha hb] at D1
  rw [dsT_good ha hc] at D2
  rw [dsT_good hc hb] at D3
  generalize (dsT a b).1 = X at *
  generalize (dsT a c).1 = Y at *
  generalize (dsT c b).1 = Z at *
  have d1 : decide ((X : Int) ≤ (Y : Int) + (Z : Int)) = true := decide_eq_true (by omega)
  have n1 : ¬ 9223372036854775807 < a.length + 1 := by omega
  rcases Classical.em (nmE (a ++ [120]) = 0) with hx | hx
  · rw [dsT_good hx hb] at D4
    obtain ⟨t4, t5⟩ := t2 hx
    generalize (dsT (a ++ [120]) b).1 = V at *
    have d2 : decide ((V : Int) ≤ (X : Int) + 1) = true := decide_eq_true (by omega)
    have d3 : decide ((X : Int) - 1 ≤ (V : Int)) = true := decide_eq_true (by omega)
    clear t1 t2 t3 hx ha hb hc h1
    go_enter Try.func6, Try.ntmps6
    go_wp2_with (first
        | (go_at_call 8; refine (awake_any _).mono ?_; rintro e w1 ⟨rfl, hb1⟩)
        | (go_at_call 9; first | (with_reducible refine (A1.out _).mono ?_; rintro e w' ⟨rfl, rfl⟩) | (with_reducible refine (A2.out _).mono ?_; rintro e w' ⟨rfl, rfl⟩) | (with_reducible refine (A3.out _).mono ?_; rintro e w' ⟨rfl, rfl⟩))
        | (go_at_call 11; refine (C1.out _).mono ?_; rintro e w2 ⟨rfl, hb2⟩)
        | (go_at_call 20; first | (with_reducible refine (D1.out _).mono ?_; rintro e w3 ⟨rfl, hb3⟩) | (with_reducible refine (D2.out _).mono ?_; rintro e w4 ⟨rfl, hb4⟩) | (with_reducible refine (D3.out _).mono ?_; rintro e w5 ⟨rfl, hb5⟩) | (with_reducible refine (D4.out _).mono ?_; rintro e w6 ⟨rfl, hb6⟩)))
    go_ret
    exact ⟨rfl, TriB hb1 hb2 hb3 hb4 hb5 hb6⟩
  · have h8 : nmE (a ++ [120]) = 8 := t3.resolve_left hx
    have h9 : feE [nmE (a ++ [120]), nmE b] = 8 := by simp [feE, h8]
    rw [dsT_bad (by rw [h9]; decide), h9] at D4
    clear t1 t2 t3 hx ha hb hc h1 h8 h9
    go_enter Try.func6, Try.ntmps6
    go_wp2_with (first
        | (go_at_call 8; refine (awake_any _).mono ?_; rintro e w1 ⟨rfl, hb1⟩)
        | (go_at_call 9; first | (with_reducible refine (A1.out _).mono ?_; rintro e w' ⟨rfl, rfl⟩) | (with_reducible refine (A2.out _).mono ?_; rintro e w' ⟨rfl, rfl⟩) | (with_reducible refine (A3.out _).mono ?_; rintro e w' ⟨rfl, rfl⟩))
        | (go_at_call 11; refine (C1.out _).mono ?_; rintro e w2 ⟨rfl, hb2⟩)
        | (go_at_call 20; first | (with_reducible refine (D1.out _).mono ?_; rintro e w3 ⟨rfl, hb3⟩) | (with_reducible refine (D2.out _).mono ?_; rintro e w4 ⟨rfl, hb4⟩) | (with_reducible refine (D3.out _).mono ?_; rintro e w5 ⟨rfl, hb5⟩) | (with_reducible refine (D4.out _).mono ?_; rintro e w6 ⟨rfl, hb6⟩)))
    go_ret
    exact ⟨rfl, TriB hb1 hb2 hb3 hb4 hb5 hb6⟩
set_option maxRecDepth 100000 in
set_option maxHeartbeats 8000000 in
theorem tri_count (a b c : List UInt8) (w : World) (la : a.length ≤ 200) (lb : b.length ≤ 200) (lc : c.length ≤ 200) (h1 : cnT c ≠ (1, 0)) : Calls Try.prog 6 #[.string ⟨a.toArray⟩, .string ⟨b.toArray⟩, .string ⟨c.toArray⟩] w (RetB (.bool true) w) := by
  have A1 := Lib.hid (fun W => (decide_eq_true la : decide (a.length ≤ 200) = true) ▸ short_any a W)
  have A2 := Lib.hid (fun W => (decide_eq_true lb : decide (b.length ≤ 200) = true) ▸ short_any b W)
  have A3 := Lib.hid (fun W => (decide_eq_true lc : decide (c.length ≤ 200) = true) ▸ short_any c W)
  have C1 := Lib.hid (fun W => Count_any c W (by omega))
  generalize cnT c = p at *
  obtain ⟨n, e0⟩ := p
  by_cases he : e0 = 0
  · have hn : n ≠ 1 := fun h => h1 (by rw [h, he])
    have eb : (e0 != 0) = false := by simp [he]
    have nb : ((n : Int) != 1) = true := by simp; omega
    clear h1
    go_enter Try.func6, Try.ntmps6
    go_wp2_with (first
    | (go_at_call 8; refine (awake_any _).mono ?_; rintro e w1 ⟨rfl, hb1⟩)
    | (go_at_call 9; first | (with_reducible refine (A1.out _).mono ?_; rintro e w' ⟨rfl, rfl⟩) | (with_reducible refine (A2.out _).mono ?_; rintro e w' ⟨rfl, rfl⟩) | (with_reducible refine (A3.out _).mono ?_; rintro e w' ⟨rfl, rfl⟩))
    | (go_at_call 11; refine (C1.out _).mono ?_; rintro e w2 ⟨rfl, hb2⟩))
    go_ret
    exact ⟨rfl, hb1.trans (hb2.mono hb1.size)⟩
  · have eb : (e0 != 0) = true := by simpa using he
    clear h1
    go_enter Try.func6, Try.ntmps6
    go_wp2_with (first
    | (go_at_call 8; refine (awake_any _).mono ?_; rintro e w1 ⟨rfl, hb1⟩)
    | (go_at_call 9; first | (with_reducible refine (A1.out _).mono ?_; rintro e w' ⟨rfl, rfl⟩) | (with_reducible refine (A2.out _).mono ?_; rintro e w' ⟨rfl, rfl⟩) | (with_reducible refine (A3.out _).mono ?_; rintro e w' ⟨rfl, rfl⟩))
    | (go_at_call 11; refine (C1.out _).mono ?_; rintro e w2 ⟨rfl, hb2⟩))
    go_ret
    exact ⟨rfl, hb1.trans (hb2.mono hb1.size)⟩
set_option maxRecDepth 100000 in
set_option maxHeartbeats 8000000 in
theorem tri_bad (a b c : List UInt8) (w : World) (la : a.length ≤ 200) (lb : b.length ≤ 200) (lc : c.length ≤ 200) (h1 : cnT c = (1, 0)) (h : ¬ (nmE a = 0 ∧ nmE b = 0)) : Calls Try.prog 6 #[.string ⟨a.toArray⟩, .string ⟨b.toArray⟩, .string ⟨c.toArray⟩] w (RetB (.bool true) w) := by
  have A1 := Lib.hid (fun W => (decide_eq_true la : decide (a.length ≤ 200) = true) ▸ short_any a W)
  have A2 := Lib.hid (fun W => (decide_eq_true lb : decide (b.length ≤ 200) = true) ▸ short_any b W)
  have A3 := Lib.hid (fun W => (decide_eq_true lc : decide (c.length ≤ 200) = true) ▸ short_any c W)
  have C1 := Lib.hid (fun W => Count_any c W (by omega))
  have D1 := Lib.hid (fun W => Distance_any a b W (by omega) (by omega))
  have D2 := Lib.hid (fun W => Distance_any a c W (by omega) (by omega))
  have D3 := Lib.hid (fun W => Distance_any c b W (by omega) (by omega))
  have K1 := Lib.hid (fun W => xCheckName_any a W (by omega))
  have K2 := Lib.hid (fun W => xCheckName_any b W (by omega))
  have hE : feE [nmE a, nmE b] ≠ 0 := fun e => h (feE_2 e)
  rw [h1] at C1
  rw [dsT_bad hE] at D1
  generalize feE [nmE a, nmE b] = E at *
  generalize dsT a c = p2 at *
  generalize dsT c b = p3 at *
  obtain ⟨Y, f2⟩ := p2
  obtain ⟨Z, f3⟩ := p3
  have eE : (E != 0) = true := by simpa using hE
  by_cases ha : nmE a = 0
  · have hb : nmE b ≠ 0 := fun e => h ⟨ha, e⟩
    rw [ha] at K1
    generalize nmE b = q at *
    have eq : (q != 0) = true := by simpa using hb
    clear h h1 hE hb ha
    go_enter Try.func6, Try.ntmps6
    go_wp2_with (first
    | (go_at_call 8; refine (awake_any _).mono ?_; rintro e w1 ⟨rfl, hb1⟩)
    | (go_at_call 9; first | (with_reducible refine (A1.out _).mono ?_; rintro e w' ⟨rfl, rfl⟩) | (with_reducible refine (A2.out _).mono ?_; rintro e w' ⟨rfl, rfl⟩) | (with_reducible refine (A3.out _).mono ?_; rintro e w' ⟨rfl, rfl⟩))
    | (go_at_call 11; refine (C1.out _).mono ?_; rintro e w2 ⟨rfl, hb2⟩)
    | (go_at_call 20; first | (with_reducible refine (D1.out _).mono ?_; rintro e w3 ⟨rfl, hb3⟩) | (with_reducible refine (D2.out _).mono ?_; rintro e w4 ⟨rfl, hb4⟩) | (with_reducible refine (D3.out _).mono ?_; rintro e w5 ⟨rfl, hb5⟩))
    | (go_at_call 13; first | (with_reducible refine (K1.out _).mono ?_; rintro e w6 ⟨rfl, hb6⟩) | (with_reducible refine (K2.out _).mono ?_; rintro e w7 ⟨rfl, hb7⟩)))
    go_ret
    exact ⟨rfl, TriB hb1 hb2 hb3 hb4 hb5 (hb6.trans (hb7.mono hb6.size))⟩
  · generalize nmE a = q at *
    have eq : (q != 0) = true := by simpa using ha
    clear h h1 hE ha
    go_enter Try.func6, Try.ntmps6
    go_wp2_with (first
    | (go_at_call 8; refine (awake_any _).mono ?_; rintro e w1 ⟨rfl, hb1⟩)
    | (go_at_call 9; first | (with_reducible refine (A1.out _).mono ?_; rintro e w' ⟨rfl, rfl⟩) | (with_reducible refine (A2.out _).mono ?_; rintro e w' ⟨rfl, rfl⟩) | (with_reducible refine (A3.out _).mono ?_; rintro e w' ⟨rfl, rfl⟩))
    | (go_at_call 11; refine (C1.out _).mono ?_; rintro e w2 ⟨rfl, hb2⟩)
    | (go_at_call 20; first | (with_reducible refine (D1.out _).mono ?_; rintro e w3 ⟨rfl, hb3⟩) | (with_reducible refine (D2.out _).mono ?_; rintro e w4 ⟨rfl, hb4⟩) | (with_reducible refine (D3.out _).mono ?_; rintro e w5 ⟨rfl, hb5⟩))
    | (go_at_call 13; first | (with_reducible refine (K1.out _).mono ?_; rintro e w6 ⟨rfl, hb6⟩) | (with_reducible refine (K2.out _).mono ?_; rintro e w7 ⟨rfl, hb7⟩)))
    go_ret
    exact ⟨rfl, TriB hb1 hb2 hb3 hb4 hb5 hb6⟩
theorem tri_any (a b c : List UInt8) (w : World) : Calls Try.prog 6 #[.string ⟨a.toArray⟩, .string ⟨b.toArray⟩, .string ⟨c.toArray⟩] w (RetB (.bool true) w) := by
  by_cases h : a.length ≤ 200 ∧ b.length ≤ 200 ∧ c.length ≤ 200
  · obtain ⟨la, lb, lc⟩ := h
    by_cases h1 : cnT c = (1, 0)
    · by_cases h2 : nmE a = 0 ∧ nmE b = 0
      · exact tri_good a b c w la lb lc h2.1 h2.2 h1
      · exact tri_bad a b c w la lb lc h1 h2
    · exact tri_count a b c w la lb lc h1
  · exact tri_long a b c w h
end Go.Proofs.Ytfneafofohfdnaa
