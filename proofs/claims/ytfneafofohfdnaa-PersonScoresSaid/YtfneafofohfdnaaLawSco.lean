/-
  PersonScores' law.
-/
import Derived.Test.YtfneafofohfdnaaFew
import Derived.Test.YtfneafofohfdnaaSco2
import Derived.Test.YtfneafofohfdnaaAwk
import Derived.ChangeKeysEq
import Derived.Test.YtfneafofohfdnaaPaiM2
namespace Go.Proofs.Ytfneafofohfdnaa
open Go.RowKit
attribute [local go_sem] set_drewN
/-- two entries in boxes -/
def B2x (w : World) (p q : Nt) (W : World) : Prop :=
  (W.cell? ⟨w.heap.size, 0, none⟩ = some (.string ⟨p.nm.toArray⟩) ∧ W.cell? ⟨w.heap.size, 1, none⟩ = some (.int .i64 p.bf) ∧ W.cell? ⟨w.heap.size, 2, none⟩ = some (.int .i64 p.bt) ∧ W.cell? ⟨w.heap.size, 3, none⟩ = some (.int .i64 p.df) ∧ W.cell? ⟨w.heap.size, 4, none⟩ = some (.int .i64 p.dt)) ∧
  (W.cell? ⟨w.heap.size + 1, 0, none⟩ = some (.string ⟨q.nm.toArray⟩) ∧ W.cell? ⟨w.heap.size + 1, 1, none⟩ = some (.int .i64 q.bf) ∧ W.cell? ⟨w.heap.size + 1, 2, none⟩ = some (.int .i64 q.bt) ∧ W.cell? ⟨w.heap.size + 1, 3, none⟩ = some (.int .i64 q.df) ∧ W.cell? ⟨w.heap.size + 1, 4, none⟩ = some (.int .i64 q.dt)) ∧ Below w.heap.size w W
theorem B2x.below {w W W' : World} {p q : Nt} (h : B2x w p q W) (hb : Below W.heap.size W W') : B2x w p q W' := by
  obtain ⟨⟨c0, c1, c2, c3, c4⟩, ⟨d0, d1, d2, d3, d4⟩, B⟩ := h
  exact ⟨⟨below_keep hb c0, below_keep hb c1, below_keep hb c2, below_keep hb c3, below_keep hb c4⟩, ⟨below_keep hb d0, below_keep hb d1, below_keep hb d2, below_keep hb d3, below_keep hb d4⟩, B.trans (hb.mono B.size)⟩
theorem b2x (w : World) (p q : Nt) (t : TypeId) : B2x w p q ((w.alloc (.cells #[.string ⟨p.nm.toArray⟩, .int .i64 p.bf, .int .i64 p.bt, .int .i64 p.df, .int .i64 p.dt] t)).alloc (.cells #[.string ⟨q.nm.toArray⟩, .int .i64 q.bf, .int .i64 q.bt, .int .i64 q.df, .int .i64 q.dt] t)) :=
  ⟨⟨by simp [go_sem], by simp [go_sem], by simp [go_sem], by simp [go_sem], by simp [go_sem]⟩, ⟨by simp [go_sem], by simp [go_sem], by simp [go_sem], by simp [go_sem], by simp [go_sem]⟩, ((Below.refl _ _).alloc (Nat.le_refl _) _).alloc (by simp) _⟩
/-- three numbers in a box -/
def A3 (B : Nat) (x y z : Int) (W : World) : Prop := W.cell? ⟨B, 0, none⟩ = some (.int .i64 x) ∧ W.cell? ⟨B, 1, none⟩ = some (.int .i64 y) ∧ W.cell? ⟨B, 2, none⟩ = some (.int .i64 z)
theorem A3.below {B : Nat} {x y z : Int} {W W' : World} (h : A3 B x y z W) (hb : Below W.heap.size W W') : A3 B x y z W' := ⟨below_keep hb h.1, below_keep hb h.2.1, below_keep hb h.2.2⟩
theorem A3.new (w : World) (x y z : Int) (t : TypeId) : A3 w.heap.size x y z (w.alloc (.cells #[.int .i64 x, .int .i64 y, .int .i64 z] t)) := ⟨by simp [go_sem], by simp [go_sem], by simp [go_sem]⟩
theorem NtsAt.lit' (w : World) (p : Nt) (t : TypeId) (B : Nat) (hB : w.heap.size = B) : NtsAt (w.alloc (.cells #[.string ⟨p.nm.toArray⟩, .int .i64 p.bf, .int .i64 p.bt, .int .i64 p.df, .int .i64 p.dt] t)) B 0 [p] := by
  subst hB
  exact NtsAt.lit w p t
theorem cells_i : Try.prog.cellsOf 3 = 1 := by kernel_rfl
theorem eq3 (x y z : Int) (W : World) : (Op.equalIn 10000 52 (a3 x y z) (a3 x y z)).run Try.prog W = .ok true W := by
  obtain ⟨i0, hi, -⟩ := info_parts infoI64
  rw [run_equalIn_array W 9999 _ _ Try.underlying52 hi, cells_i]
  simp [Op.eqItems, List.range_succ, go_sem]
theorem up1 (w : World) (o : Obj) : Below w.heap.size w (w.alloc o) := (Below.refl _ w).alloc (Nat.le_refl _) o
set_option maxRecDepth 100000 in
set_option maxHeartbeats 8000000 in
theorem sco_few (l : List Nt) (v : Value) (p q : Nt) (w : World) (hl : l.length ≤ maxLen) (hv : NLie w v l) (h : fewB l = false) :
    Calls Try.prog 7 #[v, p.val, q.val] w (RetB (.bool true) w) := by
  obtain ⟨a, cap, rfl, hc⟩ := hv
  have N0 := Lib.hid (b2x w p q 50)
  have HF := Lib.hid (fun (W : World) (hb : Below w.heap.size w W) => h ▸ few_any l a cap W hl (fun hn => by obtain ⟨b, o, e, h⟩ := hc hn; exact ⟨b, o, e, h.below hb⟩))
  clear hc h
  go_enter Try.func7, Try.ntmps7
  go_wp2_with fail
  refine (awake_any _).mono ?_
  rintro e w1 ⟨rfl, hb1⟩
  have N1 := Lib.hid (N0.out.below hb1)
  clear hb1
  go_wp2_with fail
  refine (HF.out _ N1.out.2.2).mono ?_
  rintro e w2 ⟨rfl, hb2⟩
  have N2 := Lib.hid (N1.out.below hb2)
  clear hb2
  go_wp2
  go_ret
  exact ⟨rfl, N2.out.2.2⟩
set_option maxRecDepth 100000 in
set_option maxHeartbeats 8000000 in
theorem sco_long (l : List Nt) (v : Value) (p q : Nt) (w : World) (hl : l.length ≤ maxLen) (hv : NLie w v l) (h : fewB l = true) (hs : ¬ (p.nm.length ≤ 200 ∧ q.nm.length ≤ 200)) :
    Calls Try.prog 7 #[v, p.val, q.val] w (RetB (.bool true) w) := by
  obtain ⟨a, cap, rfl, hc⟩ := hv
  have N0 := Lib.hid (b2x w p q 50)
  have HF := Lib.hid (fun (W : World) (hb : Below w.heap.size w W) => h ▸ few_any l a cap W hl (fun hn => by obtain ⟨b, o, e, h⟩ := hc hn; exact ⟨b, o, e, h.below hb⟩))
  clear hc h
  by_cases hp : p.nm.length ≤ 200
  · have hq : ¬ q.nm.length ≤ 200 := fun h => hs ⟨hp, h⟩
    have A1 := Lib.hid (fun W => (decide_eq_true hp) ▸ shS_any p.nm W)
    have A2 := Lib.hid (fun W => (decide_eq_false hq) ▸ shS_any q.nm W)
    clear hp hq hs
    go_enter Try.func7, Try.ntmps7
    go_wp2_with fail
    refine (awake_any _).mono ?_
    rintro e w1 ⟨rfl, hb1⟩
    have N1 := Lib.hid (N0.out.below hb1)
    clear hb1
    go_wp2_with fail
    refine (HF.out _ N1.out.2.2).mono ?_
    rintro e w2 ⟨rfl, hb2⟩
    have N2 := Lib.hid (N1.out.below hb2)
    clear hb2
    obtain ⟨⟨c0, c1, c2, c3, c4⟩, ⟨d0, d1, d2, d3, d4⟩, -⟩ := N2.out
    go_wp2_with (first
      | (go_at_call 9; first | (with_reducible refine (A1.out _).mono ?_; rintro e w' ⟨rfl, rfl⟩) | (with_reducible refine (A2.out _).mono ?_; rintro e w' ⟨rfl, rfl⟩)))
    go_ret
    exact ⟨rfl, N2.out.2.2⟩
  · have A1 := Lib.hid (fun W => (decide_eq_false hp) ▸ shS_any p.nm W)
    clear hp hs
    go_enter Try.func7, Try.ntmps7
    go_wp2_with fail
    refine (awake_any _).mono ?_
    rintro e w1 ⟨rfl, hb1⟩
    have N1 := Lib.hid (N0.out.below hb1)
    clear hb1
    go_wp2_with fail
    refine (HF.out _ N1.out.2.2).mono ?_
    rintro e w2 ⟨rfl, hb2⟩
    have N2 := Lib.hid (N1.out.below hb2)
    clear hb2
    obtain ⟨⟨c0, c1, c2, c3, c4⟩, ⟨d0, d1, d2, d3, d4⟩, -⟩ := N2.out
    go_wp2_with (go_at_call 9; refine (A1.out _).mono ?_; rintro e w' ⟨rfl, rfl⟩)
    go_ret
    exact ⟨rfl, N2.out.2.2⟩
theorem few_bd {l : List Nt} (h : fewB l = true) : l.length ≤ 1000 ∧ ∀ x ∈ l, x.nm.length ≤ 2000000 := by
  unfold fewB cntB at h
  simp only [Bool.and_eq_true, Bool.or_eq_true, decide_eq_true_eq] at h
  exact ⟨by omega, fun x hx => Nat.le_trans (h.1 x hx) (by omega)⟩
set_option maxRecDepth 100000 in
set_option maxHeartbeats 8000000 in
theorem sco_bad1 (l : List Nt) (v : Value) (p q : Nt) (w : World) (hl : l.length ≤ maxLen) (hv : NLie w v l) (h : fewB l = true) (hp : p.nm.length ≤ 200) (hq : q.nm.length ≤ 200) (hc1 : cn p ≠ 0) :
    Calls Try.prog 7 #[v, p.val, q.val] w (RetB (.bool true) w) := by
  have hv0 := Lib.hid hv
  obtain ⟨a, cap, rfl, hc⟩ := hv
  have N0 := Lib.hid (b2x w p q 50)
  have HF := Lib.hid (fun (W : World) (hb : Below w.heap.size w W) => h ▸ few_any l a cap W hl (fun hn => by obtain ⟨b, o, e, h⟩ := hc hn; exact ⟨b, o, e, h.below hb⟩))
  have A1 := Lib.hid (fun W => (decide_eq_true hp) ▸ shS_any p.nm W)
  have A2 := Lib.hid (fun W => (decide_eq_true hq) ▸ shS_any q.nm W)
  have hb : l.length ≤ 1000 ∧ ∀ x ∈ l, x.nm.length ≤ 2000000 := few_bd h
  have G1 := Lib.hid (fun (W : World) (u : Value) => CheckNotes_lie l u W hb.1 hb.2)
  have G2 := Lib.hid (fun (W : World) (u : Value) => xCheckNotes_lie l u W hb.1 hb.2)
  have G3 := Lib.hid (fun (W : World) (u : Value) => copied_any l u W hb.1)
  have X1 := Lib.hid (fun (W : World) (b c : Nat) (hc : NtsAt W b 0 [p]) => xCheckNotes_any [p] b 0 c W (by simp) (by simpa using (show p.nm.length ≤ 2000000 by omega)) hc)
  have X2 := Lib.hid (fun (W : World) (b c : Nat) (hc : NtsAt W b 0 [q]) => xCheckNotes_any [q] b 0 c W (by simp) (by simpa using (show q.nm.length ≤ 2000000 by omega)) hc)
  rw [cns_one] at X1 X2
  have S1 := Lib.hid (fun W => Score_bad p q W (by omega) (by omega) (cn p) (by simp [feE, hc1]) hc1)
  generalize cn p = E at *
  generalize cnsE l = F at *
  have e1 : (E == 0) = false := by simpa using hc1
  have e2 : (E != 0) = true := by simpa using hc1
  clear hc h hp hq hb hc1
  have EQ := eq3 0 0 0
  go_enter Try.func7, Try.ntmps7
  go_wp2_with fail
  refine (awake_any _).mono ?_
  rintro e w1 ⟨rfl, hb1⟩
  have N1 := Lib.hid (N0.out.below hb1)
  clear hb1
  go_wp2_with fail
  refine (HF.out _ N1.out.2.2).mono ?_
  rintro e w2 ⟨rfl, hb2⟩
  have N2 := Lib.hid (N1.out.below hb2)
  clear hb2
  obtain ⟨⟨c0, c1, c2, c3, c4⟩, ⟨d0, d1, d2, d3, d4⟩, -⟩ := N2.out
  go_wp2_with (first
      | (go_at_call 9; first | (with_reducible refine (A1.out _).mono ?_; rintro e w' ⟨rfl, rfl⟩) | (with_reducible refine (A2.out _).mono ?_; rintro e w' ⟨rfl, rfl⟩)))
  refine (S1.out _).mono ?_
  rintro e w3 ⟨rfl, hb3⟩
  have N3 := Lib.hid ((N2.out.below hb3).below (up1 w3 (.cells #[.int .i64 0, .int .i64 0, .int .i64 0] 52)))
  have P3 := Lib.hid (A3.new w3 0 0 0 52)
  clear c0 c1 c2 c3 c4 d0 d1 d2 d3 d4
  clear hb3
  obtain ⟨⟨c0, c1, c2, c3, c4⟩, ⟨d0, d1, d2, d3, d4⟩, -⟩ := N3.out
  go_wp2_with fail
  refine (X1.out _ _ _ (NtsAt.lit' _ p _ (w3.heap.size + 1) (by simp))).mono ?_
  rintro e w4 ⟨rfl, hb4⟩
  have N4 := Lib.hid ((N3.out.below (up1 _ _)).below hb4)
  have P4 := Lib.hid ((P3.out.below (up1 _ _)).below hb4)
  clear c0 c1 c2 c3 c4 d0 d1 d2 d3 d4
  clear hb4
  go_wp2_with fail
  refine (G3.out _ _ (hv0.out.below N4.out.2.2)).mono ?_
  rintro e w6 ⟨v6, rfl, hv6, hb6⟩
  have V6 := Lib.hid hv6
  have N6 := Lib.hid (N4.out.below hb6)
  have P6 := Lib.hid (P4.out.below hb6)
  clear hv6 hb6
  go_wp2_with fail
  refine (G1.out _ _ V6.out).mono ?_
  rintro e w7 ⟨rfl, hb7⟩
  have N7 := Lib.hid (N6.out.below hb7)
  have P7 := Lib.hid (P6.out.below hb7)
  clear hb7
  go_wp2_with fail
  refine (G2.out _ _ (hv0.out.below N7.out.2.2)).mono ?_
  rintro e w8 ⟨rfl, hb8⟩
  have N8 := Lib.hid (N7.out.below hb8)
  obtain ⟨p0, p1, p2⟩ := P7.out.below hb8
  clear hb8
  go_wp2
  go_ret
  exact ⟨rfl, N8.out.2.2⟩
set_option maxRecDepth 100000 in
set_option maxHeartbeats 8000000 in
theorem sco_bad2 (l : List Nt) (v : Value) (p q : Nt) (w : World) (hl : l.length ≤ maxLen) (hv : NLie w v l) (h : fewB l = true) (hp : p.nm.length ≤ 200) (hq : q.nm.length ≤ 200) (hc1 : cn p = 0) (hc2 : cn q ≠ 0) :
    Calls Try.prog 7 #[v, p.val, q.val] w (RetB (.bool true) w) := by
  have hv0 := Lib.hid hv
  obtain ⟨a, cap, rfl, hc⟩ := hv
  have N0 := Lib.hid (b2x w p q 50)
  have HF := Lib.hid (fun (W : World) (hb : Below w.heap.size w W) => h ▸ few_any l a cap W hl (fun hn => by obtain ⟨b, o, e, h⟩ := hc hn; exact ⟨b, o, e, h.below hb⟩))
  have A1 := Lib.hid (fun W => (decide_eq_true hp) ▸ shS_any p.nm W)
  have A2 := Lib.hid (fun W => (decide_eq_true hq) ▸ shS_any q.nm W)
  have hb : l.length ≤ 1000 ∧ ∀ x ∈ l, x.nm.length ≤ 2000000 := few_bd h
  have G1 := Lib.hid (fun (W : World) (u : Value) => CheckNotes_lie l u W hb.1 hb.2)
  have G2 := Lib.hid (fun (W : World) (u : Value) => xCheckNotes_lie l u W hb.1 hb.2)
  have G3 := Lib.hid (fun (W : World) (u : Value) => copied_any l u W hb.1)
  have X1 := Lib.hid (fun (W : World) (b c : Nat) (hc : NtsAt W b 0 [p]) => xCheckNotes_any [p] b 0 c W (by simp) (by simpa using (show p.nm.length ≤ 2000000 by omega)) hc)
  have X2 := Lib.hid (fun (W : World) (b c : Nat) (hc : NtsAt W b 0 [q]) => xCheckNotes_any [q] b 0 c W (by simp) (by simpa using (show q.nm.length ≤ 2000000 by omega)) hc)
  rw [cns_one] at X1 X2
  have S1 := Lib.hid (fun W => Score_bad p q W (by omega) (by omega) (cn q) (by simp [feE, hc1]; intro e; exact e.symm) hc2)
  rw [hc1] at X1
  generalize cn q = E at *
  generalize cnsE l = F at *
  have e2 : (E != 0) = true := by simpa using hc2
  clear hc h hp hq hb hc1 hc2
  have EQ := eq3 0 0 0
  go_enter Try.func7, Try.ntmps7
  go_wp2_with fail
  refine (awake_any _).mono ?_
  rintro e w1 ⟨rfl, hb1⟩
  have N1 := Lib.hid (N0.out.below hb1)
  clear hb1
  go_wp2_with fail
  refine (HF.out _ N1.out.2.2).mono ?_
  rintro e w2 ⟨rfl, hb2⟩
  have N2 := Lib.hid (N1.out.below hb2)
  clear hb2
  obtain ⟨⟨c0, c1, c2, c3, c4⟩, ⟨d0, d1, d2, d3, d4⟩, -⟩ := N2.out
  go_wp2_with (first
      | (go_at_call 9; first | (with_reducible refine (A1.out _).mono ?_; rintro e w' ⟨rfl, rfl⟩) | (with_reducible refine (A2.out _).mono ?_; rintro e w' ⟨rfl, rfl⟩)))
  refine (S1.out _).mono ?_
  rintro e w3 ⟨rfl, hb3⟩
  have N3 := Lib.hid ((N2.out.below hb3).below (up1 w3 (.cells #[.int .i64 0, .int .i64 0, .int .i64 0] 52)))
  have P3 := Lib.hid (A3.new w3 0 0 0 52)
  clear c0 c1 c2 c3 c4 d0 d1 d2 d3 d4
  clear hb3
  obtain ⟨⟨c0, c1, c2, c3, c4⟩, ⟨d0, d1, d2, d3, d4⟩, -⟩ := N3.out
  go_wp2_with fail
  refine (X1.out _ _ _ (NtsAt.lit' _ p _ (w3.heap.size + 1) (by simp))).mono ?_
  rintro e w4 ⟨rfl, hb4⟩
  have N4 := Lib.hid ((N3.out.below (up1 _ _)).below hb4)
  have P4 := Lib.hid ((P3.out.below (up1 _ _)).below hb4)
  clear c0 c1 c2 c3 c4 d0 d1 d2 d3 d4
  clear hb4
  obtain ⟨⟨c0, c1, c2, c3, c4⟩, ⟨d0, d1, d2, d3, d4⟩, -⟩ := N4.out
  go_wp2_with fail
  refine (X2.out _ _ _ (NtsAt.lit w4 q _)).mono ?_
  rintro e w5 ⟨rfl, hb5⟩
  have N5 := Lib.hid ((N4.out.below (up1 _ _)).below hb5)
  have P5 := Lib.hid ((P4.out.below (up1 _ _)).below hb5)
  clear c0 c1 c2 c3 c4 d0 d1 d2 d3 d4
  clear hb5
  go_wp2_with fail
  refine (G3.out _ _ (hv0.out.below N5.out.2.2)).mono ?_
  rintro e w6 ⟨v6, rfl, hv6, hb6⟩
  have V6 := Lib.hid hv6
  have N6 := Lib.hid (N5.out.below hb6)
  have P6 := Lib.hid (P5.out.below hb6)
  clear hv6 hb6
  go_wp2_with fail
  refine (G1.out _ _ V6.out).mono ?_
  rintro e w7 ⟨rfl, hb7⟩
  have N7 := Lib.hid (N6.out.below hb7)
  have P7 := Lib.hid (P6.out.below hb7)
  clear hb7
  go_wp2_with fail
  refine (G2.out _ _ (hv0.out.below N7.out.2.2)).mono ?_
  rintro e w8 ⟨rfl, hb8⟩
  have N8 := Lib.hid (N7.out.below hb8)
  obtain ⟨p0, p1, p2⟩ := P7.out.below hb8
  clear hb8
  go_wp2
  go_ret
  exact ⟨rfl, N8.out.2.2⟩
set_option maxRecDepth 100000 in
set_option maxHeartbeats 8000000 in
theorem sco_good (l : List Nt) (v : Value) (p q : Nt) (w : World) (hl : l.length ≤ maxLen) (hv : NLie w v l) (h : fewB l = true) (hp : p.nm.length ≤ 200) (hq : q.nm.length ≤ 200) (hc1 : cn p = 0) (hc2 : cn q = 0) :
    Calls Try.prog 7 #[v, p.val, q.val] w (RetB (.bool true) w) := by
  have hv0 := Lib.hid hv
  obtain ⟨a, cap, rfl, hc⟩ := hv
  have N0 := Lib.hid (b2x w p q 50)
  have HF := Lib.hid (fun (W : World) (hb : Below w.heap.size w W) => h ▸ few_any l a cap W hl (fun hn => by obtain ⟨b, o, e, h⟩ := hc hn; exact ⟨b, o, e, h.below hb⟩))
  have A1 := Lib.hid (fun W => (decide_eq_true hp) ▸ shS_any p.nm W)
  have A2 := Lib.hid (fun W => (decide_eq_true hq) ▸ shS_any q.nm W)
  have hb : l.length ≤ 1000 ∧ ∀ x ∈ l, x.nm.length ≤ 2000000 := few_bd h
  have G1 := Lib.hid (fun (W : World) (u : Value) => CheckNotes_lie l u W hb.1 hb.2)
  have G2 := Lib.hid (fun (W : World) (u : Value) => xCheckNotes_lie l u W hb.1 hb.2)
  have G3 := Lib.hid (fun (W : World) (u : Value) => copied_any l u W hb.1)
  have X1 := Lib.hid (fun (W : World) (b c : Nat) (hc : NtsAt W b 0 [p]) => xCheckNotes_any [p] b 0 c W (by simp) (by simpa using (show p.nm.length ≤ 2000000 by omega)) hc)
  have X2 := Lib.hid (fun (W : World) (b c : Nat) (hc : NtsAt W b 0 [q]) => xCheckNotes_any [q] b 0 c W (by simp) (by simpa using (show q.nm.length ≤ 2000000 by omega)) hc)
  rw [cns_one] at X1 X2
  have op := cn_ok hc1
  have oq := cn_ok hc2
  obtain ⟨x, gx, hx, -⟩ := gd_nmE op.1
  obtain ⟨y, gy, hy, -⟩ := gd_nmE oq.1
  have hdl : diM (cM x y) x.length y.length ≤ 1000 := Nat.le_trans (diM_le _ _) (by have := gx.2.1; have := gy.2.1; omega)
  have d1 : dsT p.nm q.nm = (diM (cM x y) x.length y.length, 0) := by unfold dsT; rw [if_neg (by simp [feE, op.1, oq.1]), hx, hy]
  have d2 : dsT q.nm p.nm = (diM (cM x y) x.length y.length, 0) := by unfold dsT; rw [if_neg (by simp [feE, op.1, oq.1]), hx, hy, ← ds_sym]
  obtain ⟨d, hd⟩ : ∃ d, diM (cM x y) x.length y.length = d := ⟨_, rfl⟩
  have XS := Lib.hid (fun W => xScore_any p q x y W op oq (by omega) (by omega) gx gy hx hy d hd (by omega))
  rw [hd] at d1 d2 hdl
  have S1 := Lib.hid (fun W => Score_good p q W (by omega) (by omega) hc1 hc2 d d1 hdl)
  have S2 := Lib.hid (fun W => Score_good q p W (by omega) (by omega) hc2 hc1 d d2 hdl)
  rw [dtM_comm q.bf q.bt p.bf p.bt, dtM_comm q.df q.dt p.df p.dt] at S2
  have b1 := dtM_bd p.bf p.bt q.bf q.bt
  have b2 := dtM_bd p.df p.dt q.df q.dt
  generalize dtM p.bf p.bt q.bf q.bt = D1 at *
  generalize dtM p.df p.dt q.df q.dt = D2 at *
  have q1 : -1000000 ≤ 60 - 20 * (d : Int) ∧ 60 - 20 * (d : Int) ≤ 1000000 := by omega
  generalize 60 - 20 * (d : Int) = D0 at *
  have SU := Lib.hid (fun W => Sum_any D0 D1 D2 W q1 (by omega) (by omega))
  rw [hc1] at X1
  rw [hc2] at X2
  generalize hT : D0 + D1 + D2 = T at *
  generalize cnsE l = F at *
  clear hc h hp hq hb hc1 hc2 op oq gx gy hx hy hd d1 d2 hdl b1 b2 q1 hT
  have EQ := eq3 D0 D1 D2
  go_enter Try.func7, Try.ntmps7
  go_wp2_with fail
  refine (awake_any _).mono ?_
  rintro e w1 ⟨rfl, hb1⟩
  have N1 := Lib.hid (N0.out.below hb1)
  clear hb1
  go_wp2_with fail
  refine (HF.out _ N1.out.2.2).mono ?_
  rintro e w2 ⟨rfl, hb2⟩
  have N2 := Lib.hid (N1.out.below hb2)
  clear hb2
  obtain ⟨⟨c0, c1, c2, c3, c4⟩, ⟨d0, d1, d2, d3, d4⟩, -⟩ := N2.out
  go_wp2_with (first
      | (go_at_call 9; first | (with_reducible refine (A1.out _).mono ?_; rintro e w' ⟨rfl, rfl⟩) | (with_reducible refine (A2.out _).mono ?_; rintro e w' ⟨rfl, rfl⟩)))
  refine (S1.out _).mono ?_
  rintro e w3 ⟨rfl, hb3⟩
  have N3 := Lib.hid ((N2.out.below hb3).below (up1 w3 (.cells #[.int .i64 D0, .int .i64 D1, .int .i64 D2] 52)))
  have P3 := Lib.hid (A3.new w3 D0 D1 D2 52)
  clear c0 c1 c2 c3 c4 d0 d1 d2 d3 d4
  clear hb3
  obtain ⟨⟨c0, c1, c2, c3, c4⟩, ⟨d0, d1, d2, d3, d4⟩, -⟩ := N3.out
  go_wp2_with fail
  refine (X1.out _ _ _ (NtsAt.lit' _ p _ (w3.heap.size + 1) (by simp))).mono ?_
  rintro e w4 ⟨rfl, hb4⟩
  have N4 := Lib.hid ((N3.out.below (up1 _ _)).below hb4)
  have P4 := Lib.hid ((P3.out.below (up1 _ _)).below hb4)
  clear c0 c1 c2 c3 c4 d0 d1 d2 d3 d4
  clear hb4
  obtain ⟨⟨c0, c1, c2, c3, c4⟩, ⟨d0, d1, d2, d3, d4⟩, -⟩ := N4.out
  go_wp2_with fail
  refine (X2.out _ _ _ (NtsAt.lit w4 q _)).mono ?_
  rintro e w5 ⟨rfl, hb5⟩
  have N5 := Lib.hid ((N4.out.below (up1 _ _)).below hb5)
  have P5 := Lib.hid ((P4.out.below (up1 _ _)).below hb5)
  clear c0 c1 c2 c3 c4 d0 d1 d2 d3 d4
  clear hb5
  go_wp2_with fail
  refine (G3.out _ _ (hv0.out.below N5.out.2.2)).mono ?_
  rintro e w6 ⟨v6, rfl, hv6, hb6⟩
  have V6 := Lib.hid hv6
  have N6 := Lib.hid (N5.out.below hb6)
  have P6 := Lib.hid (P5.out.below hb6)
  clear hv6 hb6
  go_wp2_with fail
  refine (G1.out _ _ V6.out).mono ?_
  rintro e w7 ⟨rfl, hb7⟩
  have N7 := Lib.hid (N6.out.below hb7)
  have P7 := Lib.hid (P6.out.below hb7)
  clear hb7
  go_wp2_with fail
  refine (G2.out _ _ (hv0.out.below N7.out.2.2)).mono ?_
  rintro e w8 ⟨rfl, hb8⟩
  have N8 := Lib.hid (N7.out.below hb8)
  obtain ⟨p0, p1, p2⟩ := P7.out.below hb8
  clear hb8
  have P8 := Lib.hid (show A3 _ D0 D1 D2 w8 from ⟨p0, p1, p2⟩)
  clear p0 p1 p2
  obtain ⟨⟨c0, c1, c2, c3, c4⟩, ⟨d0, d1, d2, d3, d4⟩, -⟩ := N8.out
  go_wp2_with fail
  refine (S2.out _).mono ?_
  rintro e w9 ⟨rfl, hb9⟩
  have N9 := Lib.hid ((N8.out.below hb9).below (up1 w9 (.cells #[.int .i64 D0, .int .i64 D1, .int .i64 D2] 52)))
  have P9 := Lib.hid ((P8.out.below hb9).below (up1 w9 (.cells #[.int .i64 D0, .int .i64 D1, .int .i64 D2] 52)))
  have Q9 := Lib.hid (A3.new w9 D0 D1 D2 52)
  clear c0 c1 c2 c3 c4 d0 d1 d2 d3 d4
  clear hb9
  obtain ⟨⟨c0, c1, c2, c3, c4⟩, ⟨d0, d1, d2, d3, d4⟩, -⟩ := N9.out
  go_wp2_with fail
  refine (XS.out _).mono ?_
  rintro e w10 ⟨rfl, hb10⟩
  have N10 := Lib.hid ((N9.out.below hb10).below (up1 w10 (.cells #[.int .i64 D0, .int .i64 D1, .int .i64 D2] 52)))
  have P10 := Lib.hid ((P9.out.below hb10).below (up1 w10 (.cells #[.int .i64 D0, .int .i64 D1, .int .i64 D2] 52)))
  have Q10 := Lib.hid ((Q9.out.below hb10).below (up1 w10 (.cells #[.int .i64 D0, .int .i64 D1, .int .i64 D2] 52)))
  have R10 := Lib.hid (A3.new w10 D0 D1 D2 52)
  clear c0 c1 c2 c3 c4 d0 d1 d2 d3 d4
  clear hb10
  obtain ⟨p0, p1, p2⟩ := P10.out
  obtain ⟨r0, r1, r2⟩ := R10.out
  go_wp2_with fail
  refine (SU.out _).mono ?_
  rintro e w11 ⟨rfl, hb11⟩
  have N11 := Lib.hid (N10.out.below hb11)
  obtain ⟨p0, p1, p2⟩ := P10.out.below hb11
  obtain ⟨s0, s1, s2⟩ := Q10.out.below hb11
  obtain ⟨r0, r1, r2⟩ := R10.out.below hb11
  clear hb11
  go_wp2
  go_ret
  exact ⟨rfl, N11.out.2.2⟩
theorem sco_any (l : List Nt) (v : Value) (p q : Nt) (w : World) (hl : l.length ≤ maxLen) (hv : NLie w v l) : Calls Try.prog 7 #[v, p.val, q.val] w (RetB (.bool true) w) := by
  cases h : fewB l
  · exact sco_few l v p q w hl hv h
  · by_cases hs : p.nm.length ≤ 200 ∧ q.nm.length ≤ 200
    · by_cases h1 : cn p = 0
      · by_cases h2 : cn q = 0
        · exact sco_good l v p q w hl hv h hs.1 hs.2 h1 h2
        · exact sco_bad2 l v p q w hl hv h hs.1 hs.2 h1 h2
      · exact sco_bad1 l v p q w hl hv h hs.1 hs.2 h1
    · exact sco_long l v p q w hl hv h hs
end Go.Proofs.Ytfneafofohfdnaa
