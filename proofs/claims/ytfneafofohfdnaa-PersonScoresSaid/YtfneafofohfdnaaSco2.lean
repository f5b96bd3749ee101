/-
  Score of the reference and of package person: contracts.
-/
import Derived.Test.YtfneafofohfdnaaNote
import Derived.Test.YtfneafofohfdnaaNts
import Derived.Test.YtfneafofohfdnaaDbd
import Derived.Test.YtfneafofohfdnaaRDst
namespace Go.Proofs.Ytfneafofohfdnaa
open Go.RowKit
/-- the part of a score for two ranges -/
def dtM (a b c d : Int) : Int := if a ≤ d ∧ c ≤ b then (if b - a + 1 ≤ 400 ∧ d - c + 1 ≤ 400 then 30 else 10) else max (-100) (-20 - max (c - b) (a - d) / 365)
/-- right days -/
def okS (a b : Int) : Prop := 0 ≤ a ∧ a ≤ b ∧ b ≤ 200000
theorem gap_eq {a b c d : Int} (h1 : okS a b) (h2 : okS c d) (h : ¬ (a ≤ d ∧ c ≤ b)) : max a c - min b d = max (c - b) (a - d) ∧ 0 < max a c - min b d ∧ max a c - min b d ≤ 200000 ∧ ¬ max a c ≤ min b d := by
  unfold okS at *
  omega
theorem met_eq {a b c d : Int} (h1 : okS a b) (h2 : okS c d) (h : a ≤ d ∧ c ≤ b) : max a c ≤ min b d := by
  unfold okS at *
  omega
/-- two ranges in boxes, and what lay before is as it was -/
def Bx2 (w : World) (a b c d : Int) (W : World) : Prop := (W.cell? ⟨w.heap.size, 0, none⟩ = some (.int .i64 a) ∧ W.cell? ⟨w.heap.size, 1, none⟩ = some (.int .i64 b) ∧ W.cell? ⟨w.heap.size + 1, 0, none⟩ = some (.int .i64 c) ∧ W.cell? ⟨w.heap.size + 1, 1, none⟩ = some (.int .i64 d)) ∧ Below w.heap.size w W
theorem Bx2.below {w W W' : World} {a b c d : Int} (h : Bx2 w a b c d W) (hb : Below W.heap.size W W') : Bx2 w a b c d W' := by
  obtain ⟨⟨h1, h2, h3, h4⟩, h5⟩ := h
  exact ⟨⟨below_keep hb h1, below_keep hb h2, below_keep hb h3, below_keep hb h4⟩, h5.trans (hb.mono h5.size)⟩
theorem box2 (w : World) (a b c d : Int) (t : TypeId) : Bx2 w a b c d ((w.alloc (.cells #[.int .i64 a, .int .i64 b] t)).alloc (.cells #[.int .i64 c, .int .i64 d] t)) :=
  ⟨⟨by simp [go_sem], by simp [go_sem], by simp [go_sem], by simp [go_sem]⟩, ((Below.refl _ _).alloc (Nat.le_refl _) _).alloc (by simp) _⟩
theorem isShort_any (a b : Int) (w : World) (h : okS a b) : Calls Try.prog 75 #[spV a b] w (RetB (.bool (decide (b - a < 400))) w) := by
  unfold okS at h
  go_enter Try.func75, Try.ntmps75
  go_wp2
  go_ret
  exact ⟨rfl, (Below.refl _ _).alloc (Nat.le_refl _) _⟩
set_option maxRecDepth 100000 in
set_option maxHeartbeats 4000000 in
theorem rangeScore_met (a b c d X Y : Int) (s1 s2 : Bool) (w : World) (HO : Hid (∀ w, Calls Try.prog 74 #[spV a b, spV c d] w (RetB (spV X Y) w))) (HA : Hid (∀ w, Calls Try.prog 62 #[spV X Y] w (RetB (.bool true) w)))
    (HS1 : Hid (∀ w, Calls Try.prog 75 #[spV a b] w (RetB (.bool s1) w))) (HS2 : Hid (∀ w, Calls Try.prog 75 #[spV c d] w (RetB (.bool s2) w))) :
    Calls Try.prog 63 #[spV a b, spV c d] w (RetB (.int .i64 (if s1 && s2 then 30 else 10)) w) := by
  have W0 := Lib.hid (box2 w a b c d 48)
  cases s1
  · go_enter Try.func63, Try.ntmps63
    go_wp2_with fail
    refine (HO.out _).mono ?_
    rintro e w1 ⟨rfl, hb1⟩
    have W1 := Lib.hid ((W0.out.below hb1).below ((Below.refl _ w1).alloc (Nat.le_refl _) (.cells #[.int .i64 X, .int .i64 Y] 48)))
    go_wp2_with fail
    refine (HA.out _).mono ?_
    rintro e w2 ⟨rfl, hb2⟩
    obtain ⟨⟨c0, c1, c2, c3⟩, B2⟩ := W1.out.below hb2
    have hs2 := B2.size
    go_wp2_with (go_at_call 75; refine (HS1.out _).mono ?_; rintro e w3 ⟨rfl, hb3⟩)
    go_ret
    exact ⟨rfl, B2.trans (hb3.mono hs2)⟩
  · cases s2
    all_goals
      go_enter Try.func63, Try.ntmps63
      go_wp2_with fail
      refine (HO.out _).mono ?_
      rintro e w1 ⟨rfl, hb1⟩
      have W1 := Lib.hid ((W0.out.below hb1).below ((Below.refl _ w1).alloc (Nat.le_refl _) (.cells #[.int .i64 X, .int .i64 Y] 48)))
      go_wp2_with fail
      refine (HA.out _).mono ?_
      rintro e w2 ⟨rfl, hb2⟩
      have W2 := Lib.hid (W1.out.below hb2)
      obtain ⟨⟨c0, c1, c2, c3⟩, -⟩ := W2.out
      go_wp2_with fail
      refine (HS1.out _).mono ?_
      rintro e w3 ⟨rfl, hb3⟩
      obtain ⟨⟨d0, d1, d2, d3⟩, B3⟩ := W2.out.below hb3
      clear c0 c1 c2 c3
      have hs3 := B3.size
      go_wp2_with (go_at_call 75; refine (HS2.out _).mono ?_; rintro e w4 ⟨rfl, hb4⟩)
      go_ret
      exact ⟨rfl, B3.trans (hb4.mono hs3)⟩
set_option maxRecDepth 100000 in
set_option maxHeartbeats 4000000 in
theorem rangeScore_far (a b c d X Y G : Int) (w : World) (HO : Hid (∀ w, Calls Try.prog 74 #[spV a b, spV c d] w (RetB (spV X Y) w))) (HA : Hid (∀ w, Calls Try.prog 62 #[spV X Y] w (RetB (.bool false) w)))
    (hG : X - Y = G) (h1 : 0 < G) (h2 : G ≤ 200000) :
    Calls Try.prog 63 #[spV a b, spV c d] w (RetB (.int .i64 (max (-100) (-20 - G / 365))) w) := by
  have W0 := Lib.hid (box2 w a b c d 48)
  go_enter Try.func63, Try.ntmps63
  go_wp2_with fail
  refine (HO.out _).mono ?_
  rintro e w1 ⟨rfl, hb1⟩
  have W1 := Lib.hid (W0.out.below hb1)
  have K1 := Lib.hid (show (w1.alloc (.cells #[.int .i64 X, .int .i64 Y] 48)).cell? ⟨w1.heap.size, 0, none⟩ = some (.int .i64 X) ∧ (w1.alloc (.cells #[.int .i64 X, .int .i64 Y] 48)).cell? ⟨w1.heap.size, 1, none⟩ = some (.int .i64 Y) from ⟨by simp [go_sem], by simp [go_sem]⟩)
  go_wp2_with fail
  refine (HA.out _).mono ?_
  rintro e w2 ⟨rfl, hb2⟩
  have k0 := below_keep hb2 K1.out.1
  have k1 := below_keep hb2 K1.out.2
  have B2 := Lib.hid ((W1.out.2.alloc W1.out.2.size _).trans (hb2.mono (by have := W1.out.2.size; simp; omega)))
  clear hb2
  go_wp2
  go_ret
  exact ⟨ret_i (Int.max_comm _ _), B2.out⟩
theorem rangeScore_any (a b c d : Int) (w : World) (h1 : okS a b) (h2 : okS c d) : Calls Try.prog 63 #[spV a b, spV c d] w (RetB (.int .i64 (dtM a b c d)) w) := by
  have HO := Lib.hid (fun w => overlap_any a b c d w)
  by_cases h : a ≤ d ∧ c ≤ b
  · have HA := Lib.hid (fun w => (decide_eq_true (met_eq h1 h2 h)) ▸ ascends_any (max a c) (min b d) w)
    have := rangeScore_met a b c d _ _ _ _ w HO HA (Lib.hid (fun w => isShort_any a b w h1)) (Lib.hid (fun w => isShort_any c d w h2))
    have e : dtM a b c d = if (decide (b - a < 400) && decide (d - c < 400)) = true then 30 else 10 := by
      unfold dtM
      rw [if_pos h]
      by_cases g1 : b - a < 400 <;> by_cases g2 : d - c < 400
      · rw [if_pos (by omega), if_pos (by simp [g1, g2])]
      · rw [if_neg (by omega), if_neg (by simp [g2])]
      · rw [if_neg (by omega), if_neg (by simp [g1])]
      · rw [if_neg (by omega), if_neg (by simp [g1])]
    rw [e]
    exact this
  · obtain ⟨g1, g2, g3, g4⟩ := gap_eq h1 h2 h
    have HA := Lib.hid (fun w => (decide_eq_false g4) ▸ ascends_any (max a c) (min b d) w)
    have e : dtM a b c d = max (-100) (-20 - max (c - b) (a - d) / 365) := by unfold dtM; rw [if_neg h]
    rw [e, ← g1]
    exact rangeScore_far a b c d _ _ _ w HO HA rfl g2 g3
set_option maxRecDepth 100000 in
set_option maxHeartbeats 4000000 in
theorem dates_any (a b c d : Int) (w : World) (h1 : okS a b) (h2 : okS c d) : Calls Try.prog 51 #[spV a b, spV c d] w (RetB (.int .i64 (dtM a b c d)) w) := by
  have B2 := Lib.hid (box2 w a b c d 48).2
  unfold okS at *
  obtain ⟨p1, p2, p3⟩ := h1
  obtain ⟨q1, q2, q3⟩ := h2
  by_cases h : a ≤ d
  · by_cases h' : c ≤ b
    · by_cases s1 : b - a + 1 ≤ 400
      · by_cases s2 : d - c + 1 ≤ 400
        · have e : dtM a b c d = 30 := by unfold dtM; rw [if_pos ⟨h, h'⟩, if_pos ⟨s1, s2⟩]
          rw [e]
          clear e
          go_enter Try.func51, Try.ntmps51
          go_wp2
          go_ret
          exact ⟨rfl, B2.out⟩
        · have e : dtM a b c d = 10 := by unfold dtM; rw [if_pos ⟨h, h'⟩, if_neg (fun x => s2 x.2)]
          have f2 := decide_eq_false s2
          rw [e]
          clear e
          go_enter Try.func51, Try.ntmps51
          go_wp2
          go_ret
          exact ⟨rfl, B2.out⟩
      · have e : dtM a b c d = 10 := by unfold dtM; rw [if_pos ⟨h, h'⟩, if_neg (fun x => s1 x.1)]
        have f1 := decide_eq_false s1
        rw [e]
        clear e
        go_enter Try.func51, Try.ntmps51
        go_wp2
        go_ret
        exact ⟨rfl, B2.out⟩
    · have e : dtM a b c d = max (-100) (-20 - max (c - b) (a - d) / 365) := by unfold dtM; rw [if_neg (fun x => h' x.2)]
      obtain ⟨G, hG⟩ : ∃ G, max (c - b) (a - d) = G := ⟨_, rfl⟩
      have g1 : 0 ≤ G ∧ G ≤ 200000 := by omega
      obtain ⟨g2, g3⟩ := g1
      have f1 := decide_eq_false h'
      rw [e, hG]
      clear e
      go_enter Try.func51, Try.ntmps51
      go_wp2
      go_ret
      exact ⟨rfl, B2.out⟩
  · have e : dtM a b c d = max (-100) (-20 - max (c - b) (a - d) / 365) := by unfold dtM; rw [if_neg (fun x => h x.1)]
    obtain ⟨G, hG⟩ : ∃ G, max (c - b) (a - d) = G := ⟨_, rfl⟩
    have g1 : 0 ≤ G ∧ G ≤ 200000 := by omega
    obtain ⟨g2, g3⟩ := g1
    have f1 := decide_eq_false h
    rw [e, hG]
    clear e
    go_enter Try.func51, Try.ntmps51
    go_wp2
    go_ret
    exact ⟨rfl, B2.out⟩
theorem dtM_bd (a b c d : Int) : -100 ≤ dtM a b c d ∧ dtM a b c d ≤ 30 := by
  unfold dtM
  split
  · split <;> omega
  · have : 0 ≤ max (c - b) (a - d) / 365 := Int.ediv_nonneg (by omega) (by omega)
    omega
theorem dtM_comm (a b c d : Int) : dtM a b c d = dtM c d a b := by
  unfold dtM
  have e1 : (a ≤ d ∧ c ≤ b) ↔ (c ≤ b ∧ a ≤ d) := And.comm
  have e2 : (b - a + 1 ≤ 400 ∧ d - c + 1 ≤ 400) ↔ (d - c + 1 ≤ 400 ∧ b - a + 1 ≤ 400) := And.comm
  rw [Int.max_comm (c - b) (a - d)]
  simp only [e1, e2]
end Go.Proofs.Ytfneafofohfdnaa
namespace Go.Proofs.Ytfneafofohfdnaa
open Go.RowKit
attribute [local go_sem] set_drewN
/-- three numbers as an array -/
abbrev a3 (x y z : Int) : Value := .agg #[.int .i64 x, .int .i64 y, .int .i64 z]
/-- a right entry -/
def okN (p : Nt) : Prop := nmE p.nm = 0 ∧ okS p.bf p.bt ∧ okS p.df p.dt
theorem cn_ok {p : Nt} (h : cn p = 0) : okN p := by
  unfold cn at h
  have h0 : nmE p.nm = 0 := by
    apply Classical.byContradiction
    intro c
    rw [cn_name c] at h
    exact c h
  rw [cn_rest h0] at h
  have e1 : (inB p.bf 0 200000 && inB p.bt 0 200000) = true := by
    cases c : (inB p.bf 0 200000 && inB p.bt 0 200000)
    · rw [c] at h; simp [feE, eI] at h
    · rfl
  have e2 : (inB p.df 0 200000 && inB p.dt 0 200000) = true := by
    cases c : (inB p.df 0 200000 && inB p.dt 0 200000)
    · rw [e1, c] at h; simp [feE, eI] at h
    · rfl
  have e3 : (decide (p.bt < p.bf) || decide (p.dt < p.df)) = false := by
    cases c : (decide (p.bt < p.bf) || decide (p.dt < p.df))
    · rfl
    · rw [e1, e2, c] at h; simp [feE, eI] at h
  rw [Bool.and_eq_true, inB_iff, inB_iff] at e1 e2
  rw [Bool.or_eq_false_iff, decide_eq_false_iff_not, decide_eq_false_iff_not] at e3
  exact ⟨h0, ⟨e1.1.1, by omega, e1.2.2⟩, ⟨e2.1.1, by omega, e2.2.2⟩⟩
/-- two entries in boxes, and an array -/
def Bx5 (w : World) (p q : Nt) (W : World) : Prop :=
  (W.cell? ⟨w.heap.size, 0, none⟩ = some (.string ⟨p.nm.toArray⟩) ∧ W.cell? ⟨w.heap.size, 1, none⟩ = some (.int .i64 p.bf) ∧ W.cell? ⟨w.heap.size, 2, none⟩ = some (.int .i64 p.bt) ∧ W.cell? ⟨w.heap.size, 3, none⟩ = some (.int .i64 p.df) ∧ W.cell? ⟨w.heap.size, 4, none⟩ = some (.int .i64 p.dt)) ∧
  (W.cell? ⟨w.heap.size + 1, 0, none⟩ = some (.string ⟨q.nm.toArray⟩) ∧ W.cell? ⟨w.heap.size + 1, 1, none⟩ = some (.int .i64 q.bf) ∧ W.cell? ⟨w.heap.size + 1, 2, none⟩ = some (.int .i64 q.bt) ∧ W.cell? ⟨w.heap.size + 1, 3, none⟩ = some (.int .i64 q.df) ∧ W.cell? ⟨w.heap.size + 1, 4, none⟩ = some (.int .i64 q.dt)) ∧
  (W.frozen? ⟨w.heap.size + 1 + 1, 0, none⟩ = false ∧ W.frozen? ⟨w.heap.size + 1 + 1, 1, none⟩ = false ∧ W.frozen? ⟨w.heap.size + 1 + 1, 2, none⟩ = false ∧ W.cell? ⟨w.heap.size + 1 + 1, 0, none⟩ = some (.int .i64 0) ∧ W.cell? ⟨w.heap.size + 1 + 1, 1, none⟩ = some (.int .i64 0) ∧ W.cell? ⟨w.heap.size + 1 + 1, 2, none⟩ = some (.int .i64 0)) ∧ Below w.heap.size w W ∧ w.heap.size + 1 + 1 < W.heap.size
set_option maxRecDepth 100000 in
theorem Bx5.below {w W W' : World} {p q : Nt} (h : Bx5 w p q W) (hb : Below W.heap.size W W') : Bx5 w p q W' := by
  obtain ⟨⟨c0, c1, c2, c3, c4⟩, ⟨d0, d1, d2, d3, d4⟩, ⟨r0, r1, r2, t0, t1, t2⟩, B, hl⟩ := h
  exact ⟨⟨below_keep hb c0, below_keep hb c1, below_keep hb c2, below_keep hb c3, below_keep hb c4⟩, ⟨below_keep hb d0, below_keep hb d1, below_keep hb d2, below_keep hb d3, below_keep hb d4⟩,
    ⟨(hb.frozen hl).trans r0, (hb.frozen hl).trans r1, (hb.frozen hl).trans r2, below_keep hb t0, below_keep hb t1, below_keep hb t2⟩, B.trans (hb.mono B.size), Nat.lt_of_lt_of_le hl hb.size⟩
theorem Bx5.inner {w W : World} {p q : Nt} (h : Bx5 w p q W) : (W.cell? ⟨w.heap.size, 1, none⟩ = some (.int .i64 p.bf) ∧ W.cell? ⟨w.heap.size, 2, none⟩ = some (.int .i64 p.bt) ∧ W.cell? ⟨w.heap.size, 3, none⟩ = some (.int .i64 p.df) ∧ W.cell? ⟨w.heap.size, 4, none⟩ = some (.int .i64 p.dt)) ∧ (W.cell? ⟨w.heap.size + 1, 1, none⟩ = some (.int .i64 q.bf) ∧ W.cell? ⟨w.heap.size + 1, 2, none⟩ = some (.int .i64 q.bt) ∧ W.cell? ⟨w.heap.size + 1, 3, none⟩ = some (.int .i64 q.df) ∧ W.cell? ⟨w.heap.size + 1, 4, none⟩ = some (.int .i64 q.dt)) := ⟨h.1.2, h.2.1.2⟩
theorem far3 {W : World} {B b j : Nat} {v : Value} (x y z : Value) (hn : B ≠ b) (h : W.cell? ⟨b, j, none⟩ = some v) : (((W.setCell ⟨B, 0, none⟩ x).setCell ⟨B, 1, none⟩ y).setCell ⟨B, 2, none⟩ z).cell? ⟨b, j, none⟩ = some v := by
  have o : ∀ (W : World) (i : Nat) (u : Value), W.cell? ⟨b, j, none⟩ = some v → (W.setCell ⟨B, i, none⟩ u).cell? ⟨b, j, none⟩ = some v := fun W i u h => (World.cell?_setCell_other _ _ _ _ (fun e => hn (by injection e))).trans h
  exact o _ _ _ (o _ _ _ (o _ _ _ h))
theorem own3 {W : World} {B : Nat} {v0 v1 v2 : Value} (x y z : Value) (h0 : W.cell? ⟨B, 0, none⟩ = some v0) (h1 : W.cell? ⟨B, 1, none⟩ = some v1) (h2 : W.cell? ⟨B, 2, none⟩ = some v2) :
    (((W.setCell ⟨B, 0, none⟩ x).setCell ⟨B, 1, none⟩ y).setCell ⟨B, 2, none⟩ z).cell? ⟨B, 0, none⟩ = some x ∧ (((W.setCell ⟨B, 0, none⟩ x).setCell ⟨B, 1, none⟩ y).setCell ⟨B, 2, none⟩ z).cell? ⟨B, 1, none⟩ = some y ∧ (((W.setCell ⟨B, 0, none⟩ x).setCell ⟨B, 1, none⟩ y).setCell ⟨B, 2, none⟩ z).cell? ⟨B, 2, none⟩ = some z := by
  have o : ∀ (W : World) (i j : Nat) (u v : Value), i ≠ j → W.cell? ⟨B, j, none⟩ = some v → (W.setCell ⟨B, i, none⟩ u).cell? ⟨B, j, none⟩ = some v := fun W i j u v hn h => (World.cell?_setCell_other _ _ _ _ (fun e => hn (by injection e))).trans h
  exact ⟨o _ 2 0 _ _ (by decide) (o _ 1 0 _ _ (by decide) (World.cell?_setCell_same _ _ _ h0)), o _ 2 1 _ _ (by decide) (World.cell?_setCell_same _ _ _ (o _ 0 1 _ _ (by decide) h1)), World.cell?_setCell_same _ _ _ (o _ 1 2 _ _ (by decide) (o _ 0 2 _ _ (by decide) h2))⟩
theorem Bx5.inner3 {w W : World} {p q : Nt} (h : Bx5 w p q W) (x y z : Value) : ((((W.setCell ⟨w.heap.size + 1 + 1, 0, none⟩ x).setCell ⟨w.heap.size + 1 + 1, 1, none⟩ y).setCell ⟨w.heap.size + 1 + 1, 2, none⟩ z).cell? ⟨w.heap.size, 1, none⟩ = some (.int .i64 p.bf) ∧ (((W.setCell ⟨w.heap.size + 1 + 1, 0, none⟩ x).setCell ⟨w.heap.size + 1 + 1, 1, none⟩ y).setCell ⟨w.heap.size + 1 + 1, 2, none⟩ z).cell? ⟨w.heap.size, 2, none⟩ = some (.int .i64 p.bt) ∧ (((W.setCell ⟨w.heap.size + 1 + 1, 0, none⟩ x).setCell ⟨w.heap.size + 1 + 1, 1, none⟩ y).setCell ⟨w.heap.size + 1 + 1, 2, none⟩ z).cell? ⟨w.heap.size, 3, none⟩ = some (.int .i64 p.df) ∧ (((W.setCell ⟨w.heap.size + 1 + 1, 0, none⟩ x).setCell ⟨w.heap.size + 1 + 1, 1, none⟩ y).setCell ⟨w.heap.size + 1 + 1, 2, none⟩ z).cell? ⟨w.heap.size, 4, none⟩ = some (.int .i64 p.dt)) ∧ ((((W.setCell ⟨w.heap.size + 1 + 1, 0, none⟩ x).setCell ⟨w.heap.size + 1 + 1, 1, none⟩ y).setCell ⟨w.heap.size + 1 + 1, 2, none⟩ z).cell? ⟨w.heap.size + 1, 1, none⟩ = some (.int .i64 q.bf) ∧ (((W.setCell ⟨w.heap.size + 1 + 1, 0, none⟩ x).setCell ⟨w.heap.size + 1 + 1, 1, none⟩ y).setCell ⟨w.heap.size + 1 + 1, 2, none⟩ z).cell? ⟨w.heap.size + 1, 2, none⟩ = some (.int .i64 q.bt) ∧ (((W.setCell ⟨w.heap.size + 1 + 1, 0, none⟩ x).setCell ⟨w.heap.size + 1 + 1, 1, none⟩ y).setCell ⟨w.heap.size + 1 + 1, 2, none⟩ z).cell? ⟨w.heap.size + 1, 3, none⟩ = some (.int .i64 q.df) ∧ (((W.setCell ⟨w.heap.size + 1 + 1, 0, none⟩ x).setCell ⟨w.heap.size + 1 + 1, 1, none⟩ y).setCell ⟨w.heap.size + 1 + 1, 2, none⟩ z).cell? ⟨w.heap.size + 1, 4, none⟩ = some (.int .i64 q.dt)) := by
  obtain ⟨⟨c1, c2, c3, c4⟩, ⟨d1, d2, d3, d4⟩⟩ := h.inner
  have n1 : w.heap.size + 1 + 1 ≠ w.heap.size := by omega
  have n2 : w.heap.size + 1 + 1 ≠ w.heap.size + 1 := by omega
  exact ⟨⟨far3 x y z n1 c1, far3 x y z n1 c2, far3 x y z n1 c3, far3 x y z n1 c4⟩, ⟨far3 x y z n2 d1, far3 x y z n2 d2, far3 x y z n2 d3, far3 x y z n2 d4⟩⟩
set_option maxRecDepth 100000 in
theorem box55 (w : World) (p q : Nt) (t t' : TypeId) : Bx5 w p q (((w.alloc (.cells #[.string ⟨p.nm.toArray⟩, .int .i64 p.bf, .int .i64 p.bt, .int .i64 p.df, .int .i64 p.dt] t)).alloc (.cells #[.string ⟨q.nm.toArray⟩, .int .i64 q.bf, .int .i64 q.bt, .int .i64 q.df, .int .i64 q.dt] t)).alloc (.cells #[.int .i64 0, .int .i64 0, .int .i64 0] t')) :=
  ⟨⟨by simp [go_sem], by simp [go_sem], by simp [go_sem], by simp [go_sem], by simp [go_sem]⟩, ⟨by simp [go_sem], by simp [go_sem], by simp [go_sem], by simp [go_sem], by simp [go_sem]⟩, ⟨by simp [go_sem], by simp [go_sem], by simp [go_sem], by simp [go_sem], by simp [go_sem], by simp [go_sem]⟩, (((Below.refl _ _).alloc (Nat.le_refl _) _).alloc (by simp) _).alloc (by simp; omega) _, by simp⟩
set_option maxRecDepth 100000 in
set_option maxHeartbeats 2000000 in
theorem sum3_any (b c : Nat) (x y z : Int) (w : World) (hx : -1000000 ≤ x ∧ x ≤ 1000000) (hy : -1000000 ≤ y ∧ y ≤ 1000000) (hz : -1000000 ≤ z ∧ z ≤ 1000000) (h0 : w.cell? ⟨b, 0, none⟩ = some (.int .i64 x)) (h1 : w.cell? ⟨b, 1, none⟩ = some (.int .i64 y)) (h2 : w.cell? ⟨b, 2, none⟩ = some (.int .i64 z)) :
    Calls Try.prog 49 #[.slice (some ⟨b, 0, none⟩) 3 c] w (Ret (.int .i64 (x + y + z)) w) := by
  go_enter Try.func49, Try.ntmps49
  go_wp2
  go_loop [3, 8] (fun tv iv => ∃ k : Nat, k ≤ 3 ∧ iv = .int .i64 k ∧ tv = .int .i64 (if k = 0 then 0 else if k = 1 then x else if k = 2 then x + y else x + y + z)) (fun _ iv => 3 - (intOf iv).toNat)
  case atStart => exact ⟨0, Nat.zero_le _, rfl, rfl⟩
  case round =>
    obtain ⟨k, hk, rfl, rfl⟩ := hrel
    obtain ⟨x0, x1⟩ := hx
    obtain ⟨y0, y1⟩ := hy
    obtain ⟨z0, z1⟩ := hz
    have hk' : k = 0 ∨ k = 1 ∨ k = 2 ∨ k = 3 := by omega
    rcases hk' with rfl | rfl | rfl | rfl
    · go_wp2
      go_round
      case rel => exact ⟨1, by omega, rfl, rfl⟩
      case measure => simp [intOf]
    · go_wp2
      go_round
      case rel => exact ⟨2, by omega, rfl, rfl⟩
      case measure => simp [intOf]
    · go_wp2
      go_round
      case rel => exact ⟨3, by omega, rfl, rfl⟩
      case measure => simp [intOf]
    · go_wp2
      go_ret
      exact ⟨rfl, rfl⟩
set_option maxRecDepth 100000 in
set_option maxHeartbeats 8000000 in
theorem parts_any (p q : Nt) (d : Nat) (w : World) (hp : okN p) (hq : okN q) (hl : p.nm.length ≤ 2000000) (hl2 : q.nm.length ≤ 2000000) (hd : dsT p.nm q.nm = (d, 0)) (hd2 : d ≤ 1000) :
    Calls Try.prog 48 #[p.val, q.val] w (RetB (a3 (60 - 20 * (d : Int)) (dtM p.bf p.bt q.bf q.bt) (dtM p.df p.dt q.df q.dt)) w) := by
  have HD := Lib.hid (fun w => Distance_any p.nm q.nm w (by omega) (by omega))
  rw [hd] at HD
  have H1 := Lib.hid (fun w => rangeScore_any p.bf p.bt q.bf q.bt w hp.2.1 hq.2.1)
  have H2 := Lib.hid (fun w => rangeScore_any p.df p.dt q.df q.dt w hp.2.2 hq.2.2)
  obtain ⟨pn, p1, p2, p3, p4⟩ := p
  obtain ⟨qn, q1, q2, q3, q4⟩ := q
  simp only at HD H1 H2 ⊢
  generalize dtM p1 p2 q1 q2 = D1 at *
  generalize dtM p3 p4 q3 q4 = D2 at *
  clear hp hq hd
  go_enter Try.func48, Try.ntmps48
  go_wp2_with fail
  have N0 := Lib.hid (box55 w ⟨pn, p1, p2, p3, p4⟩ ⟨qn, q1, q2, q3, q4⟩ 50 52)
  refine (HD.out _).mono ?_
  rintro e w1 ⟨rfl, hb1⟩
  have N1 := Lib.hid (N0.out.below hb1)
  obtain ⟨⟨c0, c1, c2, c3, c4⟩, ⟨d0, d1, d2, d3, d4⟩, ⟨r0, r1, r2, -⟩, B1⟩ := N1.out
  clear hb1
  have hw1 : IntKind.i64.wrap (20 * (d : Int)) = 20 * (d : Int) := by rw [IntKind.wrap_i64]; omega
  have hw2 : IntKind.i64.wrap (60 - 20 * (d : Int)) = 60 - 20 * (d : Int) := by rw [IntKind.wrap_i64]; omega
  have N1d := Lib.hid (show Bx5 w _ _ w1.drew from N1.out.below (below_n (Below.refl _ w1) 1))
  go_wp2
  go_region_held3 (fun w' => (w'.cell? ⟨w.heap.size, 1, none⟩ = some (.int .i64 p1) ∧ w'.cell? ⟨w.heap.size, 2, none⟩ = some (.int .i64 p2) ∧ w'.cell? ⟨w.heap.size, 3, none⟩ = some (.int .i64 p3) ∧ w'.cell? ⟨w.heap.size, 4, none⟩ = some (.int .i64 p4)) ∧ (w'.cell? ⟨w.heap.size + 1, 1, none⟩ = some (.int .i64 q1) ∧ w'.cell? ⟨w.heap.size + 1, 2, none⟩ = some (.int .i64 q2) ∧ w'.cell? ⟨w.heap.size + 1, 3, none⟩ = some (.int .i64 q3) ∧ w'.cell? ⟨w.heap.size + 1, 4, none⟩ = some (.int .i64 q4)))
    (first | exact ⟨⟨c1, c2, c3, c4⟩, ⟨d1, d2, d3, d4⟩⟩ | exact N2.out.inner | exact N3.out.inner | exact N3.out.inner3 _ _ _ | go_keep)
    (first
      | (go_at_call 63; (with_reducible refine (H1.out _).mono ?_); rintro e w2 ⟨rfl, hb2⟩; have N2 := Lib.hid (N1d.out.below hb2))
      | (go_at_call 63; (with_reducible refine (H2.out _).mono ?_); rintro e w3 ⟨rfl, hb3⟩; have N3 := Lib.hid (N2.out.below hb3); obtain ⟨s0, s1, s2, t0, t1, t2⟩ := N3.out.2.2.1))
  have hs3 := N3.out.2.2.2.1.size
  have B4 := Lib.hid (((N3.out.2.2.2.1.setCell (p := ⟨w.heap.size + 1 + 1, 0, none⟩) (by simp only; omega) (.int .i64 (60 - 20 * (d : Int)))).setCell (p := ⟨w.heap.size + 1 + 1, 1, none⟩) (by simp only; omega) (.int .i64 D1)).setCell (p := ⟨w.heap.size + 1 + 1, 2, none⟩) (by simp only; omega) (.int .i64 D2))
  obtain ⟨f0, f1, f2⟩ := own3 (.int .i64 (60 - 20 * (d : Int))) (.int .i64 D1) (.int .i64 D2) t0 t1 t2
  generalize hW4 : ((w3.setCell ⟨w.heap.size + 1 + 1, 0, none⟩ (.int .i64 (60 - 20 * (d : Int)))).setCell ⟨w.heap.size + 1 + 1, 1, none⟩ (.int .i64 D1)).setCell ⟨w.heap.size + 1 + 1, 2, none⟩ (.int .i64 D2) = W4 at *
  clear hW4
  go_wp2
  refine bodyPost_ret (v := a3 (60 - 20 * (d : Int)) D1 D2) (by simp [results, Try.results48, go_sem, f0, f1, f2]) rfl ⟨rfl, B4.out⟩
end Go.Proofs.Ytfneafofohfdnaa
namespace Go.Proofs.Ytfneafofohfdnaa
open Go.RowKit
attribute [local go_sem] set_drewN
set_option maxRecDepth 100000 in
set_option maxHeartbeats 8000000 in
theorem xScore_any (p q : Nt) (x y : List Nat) (w : World) (hp : okN p) (hq : okN q) (hl : p.nm.length ≤ 2000000) (hl2 : q.nm.length ≤ 2000000) (gx : gdM x) (gy : gdM y) (hx : rdN p.nm = some x) (hy : rdN q.nm = some y) (d : Nat) (hd : diM (cM x y) x.length y.length = d) (hd2 : d ≤ 1000) :
    Calls Try.prog 30 #[p.val, q.val] w (RetB (a3 (60 - 20 * (d : Int)) (dtM p.bf p.bt q.bf q.bt) (dtM p.df p.dt q.df q.dt)) w) := by
  have HS1 := Lib.hid (fun w => Signs_any p.nm w (by omega))
  have HS2 := Lib.hid (fun w => Signs_any q.nm w (by omega))
  have HD := Lib.hid (fun (W : World) (b1 c1 b2 c2 : Nat) => rDist_any W x y b1 c1 b2 c2 gx.2.1 gy.2.1 (fun m hm => (gx.2.2 m hm).2))
  rw [hd] at HD
  have H1 := Lib.hid (fun w => dates_any p.bf p.bt q.bf q.bt w hp.2.1 hq.2.1)
  have H2 := Lib.hid (fun w => dates_any p.df p.dt q.df q.dt w hp.2.2 hq.2.2)
  have HX := Lib.hid hx
  have HY := Lib.hid hy
  have NX := Lib.hid (show x ≠ [] by intro e; have := gx.1; rw [e] at this; simp at this)
  have NY := Lib.hid (show y ≠ [] by intro e; have := gy.1; rw [e] at this; simp at this)
  have N0 := Lib.hid (box55 w p q 50 52)
  obtain ⟨pn, p1, p2, p3, p4⟩ := p
  obtain ⟨qn, q1, q2, q3, q4⟩ := q
  simp only at HS1 HS2 H1 H2 HX HY N0 ⊢
  generalize dtM p1 p2 q1 q2 = D1 at *
  generalize dtM p3 p4 q3 q4 = D2 at *
  clear hp hq hd gx gy hx hy
  go_enter Try.func30, Try.ntmps30
  go_wp2_with fail
  refine (HS1.out _).mono ?_
  rintro e w1 ⟨a1, n1, c1, rfl, hM1, hb1⟩
  obtain ⟨rfl, hT1⟩ := hM1 x HX.out
  obtain ⟨g1, rfl, T1⟩ := hT1 NX.out
  have TT1 := Lib.hid T1
  have N1 := Lib.hid (N0.out.below hb1)
  obtain ⟨-, ⟨d0, -⟩, -⟩ := N1.out
  clear hM1 hT1 T1 hb1
  go_wp2_with fail
  refine (HS2.out _).mono ?_
  rintro e w2 ⟨a2, n2, c2, rfl, hM2, hb2⟩
  obtain ⟨rfl, hT2⟩ := hM2 y HY.out
  obtain ⟨g2, rfl, T2⟩ := hT2 NY.out
  have TT2 := Lib.hid T2
  have TU1 := Lib.hid (TT1.out.below hb2)
  have N2 := Lib.hid (N1.out.below hb2)
  clear hM2 hT2 T2 hb2 d0
  obtain ⟨⟨c1', c2', c3', c4'⟩, ⟨d1, d2, d3, d4⟩⟩ := N2.out.inner
  have hw1 : IntKind.i64.wrap (20 * (d : Int)) = 20 * (d : Int) := by rw [IntKind.wrap_i64]; omega
  have hw2 : IntKind.i64.wrap (60 - 20 * (d : Int)) = 60 - 20 * (d : Int) := by rw [IntKind.wrap_i64]; omega
  have N2d := Lib.hid (show Bx5 w _ _ w2.drew from N2.out.below (below_n (Below.refl _ w2) 1))
  have TV1 := Lib.hid (show TxAt w2.drew g1 _ from TU1.out.below (below_n (Below.refl _ w2) 1))
  have TV2 := Lib.hid (show TxAt w2.drew g2 _ from TT2.out.below (below_n (Below.refl _ w2) 1))
  go_wp2
  go_region_held3 (fun w' => (w'.cell? ⟨w.heap.size, 1, none⟩ = some (.int .i64 p1) ∧ w'.cell? ⟨w.heap.size, 2, none⟩ = some (.int .i64 p2) ∧ w'.cell? ⟨w.heap.size, 3, none⟩ = some (.int .i64 p3) ∧ w'.cell? ⟨w.heap.size, 4, none⟩ = some (.int .i64 p4)) ∧ (w'.cell? ⟨w.heap.size + 1, 1, none⟩ = some (.int .i64 q1) ∧ w'.cell? ⟨w.heap.size + 1, 2, none⟩ = some (.int .i64 q2) ∧ w'.cell? ⟨w.heap.size + 1, 3, none⟩ = some (.int .i64 q3) ∧ w'.cell? ⟨w.heap.size + 1, 4, none⟩ = some (.int .i64 q4)))
    (first | exact ⟨⟨c1', c2', c3', c4'⟩, ⟨d1, d2, d3, d4⟩⟩ | exact N3.out.inner | exact N4.out.inner | exact N5.out.inner | exact N5.out.inner3 _ _ _ | go_keep)
    (first
      | (go_at_call 23; refine (HD.out _ _ _ _ _ TV1.out TV2.out).mono ?_; rintro e w3 ⟨rfl, hb3⟩; have N3 := Lib.hid (N2d.out.below hb3))
      | (go_at_call 51; (with_reducible refine (H1.out _).mono ?_); rintro e w4 ⟨rfl, hb4⟩; have N4 := Lib.hid (N3.out.below hb4))
      | (go_at_call 51; (with_reducible refine (H2.out _).mono ?_); rintro e w5 ⟨rfl, hb5⟩; have N5 := Lib.hid (N4.out.below hb5); obtain ⟨s0, s1, s2, t0, t1, t2⟩ := N5.out.2.2.1))
  have hs3 := N5.out.2.2.2.1.size
  have B4 := Lib.hid (((N5.out.2.2.2.1.setCell (p := ⟨w.heap.size + 1 + 1, 0, none⟩) (by simp only; omega) (.int .i64 (60 - 20 * (d : Int)))).setCell (p := ⟨w.heap.size + 1 + 1, 1, none⟩) (by simp only; omega) (.int .i64 D1)).setCell (p := ⟨w.heap.size + 1 + 1, 2, none⟩) (by simp only; omega) (.int .i64 D2))
  obtain ⟨f0, f1, f2⟩ := own3 (.int .i64 (60 - 20 * (d : Int))) (.int .i64 D1) (.int .i64 D2) t0 t1 t2
  generalize hW4 : ((w5.setCell ⟨w.heap.size + 1 + 1, 0, none⟩ (.int .i64 (60 - 20 * (d : Int)))).setCell ⟨w.heap.size + 1 + 1, 1, none⟩ (.int .i64 D1)).setCell ⟨w.heap.size + 1 + 1, 2, none⟩ (.int .i64 D2) = W4 at *
  clear hW4
  go_wp2
  refine bodyPost_ret (v := a3 (60 - 20 * (d : Int)) D1 D2) (by simp [results, Try.results30, go_sem, f0, f1, f2]) rfl ⟨rfl, B4.out⟩
set_option maxRecDepth 100000 in
set_option maxHeartbeats 4000000 in
theorem Sum_any (x y z : Int) (w : World) (hx : -1000000 ≤ x ∧ x ≤ 1000000) (hy : -1000000 ≤ y ∧ y ≤ 1000000) (hz : -1000000 ≤ z ∧ z ≤ 1000000) : Calls Try.prog 31 #[a3 x y z] w (RetB (.int .i64 (x + y + z)) w) := by
  obtain ⟨x0, x1⟩ := hx
  obtain ⟨y0, y1⟩ := hy
  obtain ⟨z0, z1⟩ := hz
  go_enter Try.func31, Try.ntmps31
  go_wp2
  go_ret
  exact ⟨rfl, (Below.refl _ _).alloc (Nat.le_refl _) _⟩
theorem Bx5.outer {w W : World} {p q : Nt} (h : Bx5 w p q W) : (W.cell? ⟨w.heap.size, 0, none⟩ = some (.string ⟨p.nm.toArray⟩) ∧ W.cell? ⟨w.heap.size, 1, none⟩ = some (.int .i64 p.bf) ∧ W.cell? ⟨w.heap.size, 2, none⟩ = some (.int .i64 p.bt) ∧ W.cell? ⟨w.heap.size, 3, none⟩ = some (.int .i64 p.df) ∧ W.cell? ⟨w.heap.size, 4, none⟩ = some (.int .i64 p.dt)) ∧ (W.cell? ⟨w.heap.size + 1, 0, none⟩ = some (.string ⟨q.nm.toArray⟩) ∧ W.cell? ⟨w.heap.size + 1, 1, none⟩ = some (.int .i64 q.bf) ∧ W.cell? ⟨w.heap.size + 1, 2, none⟩ = some (.int .i64 q.bt) ∧ W.cell? ⟨w.heap.size + 1, 3, none⟩ = some (.int .i64 q.df) ∧ W.cell? ⟨w.heap.size + 1, 4, none⟩ = some (.int .i64 q.dt)) := ⟨h.1, h.2.1⟩
set_option maxRecDepth 100000 in
set_option maxHeartbeats 4000000 in
theorem Score_bad (p q : Nt) (w : World) (hl : p.nm.length ≤ 2000000) (hl2 : q.nm.length ≤ 2000000) (E : Int) (hE : feE [cn p, cn q] = E) (h : E ≠ 0) : Calls Try.prog 26 #[p.val, q.val] w (RetB (three (.int .i64 0) (a3 0 0 0) (.int .i64 E)) w) := by
  have K1 := Lib.hid (fun w => checkNote_any p.nm p.bf p.bt p.df p.dt w (by omega))
  have K2 := Lib.hid (fun w => checkNote_any q.nm q.bf q.bt q.df q.dt w (by omega))
  have hb : (E != 0) = true := by simpa using h
  have HE := Lib.hid hE
  have N0 := Lib.hid (box55 w p q 50 52)
  have K1 : Hid (∀ w, Calls Try.prog 47 #[p.val] w (RetB (.int .i64 (cn p)) w)) := K1
  have K2 : Hid (∀ w, Calls Try.prog 47 #[q.val] w (RetB (.int .i64 (cn q)) w)) := K2
  generalize cn p = e1 at *
  generalize cn q = e2 at *
  clear hE h
  go_enter Try.func26, Try.ntmps26
  go_wp2
  have N0d := Lib.hid (show Bx5 w p q (World.drew _) from N0.out.below (below_n (Below.refl _ _) 1))
  obtain ⟨⟨c0, c1, c2, c3, c4⟩, ⟨d0, d1, d2, d3, d4⟩⟩ := N0.out.outer
  go_region_held3 (fun w' => (w'.cell? ⟨w.heap.size, 0, none⟩ = some (.string ⟨p.nm.toArray⟩) ∧ w'.cell? ⟨w.heap.size, 1, none⟩ = some (.int .i64 p.bf) ∧ w'.cell? ⟨w.heap.size, 2, none⟩ = some (.int .i64 p.bt) ∧ w'.cell? ⟨w.heap.size, 3, none⟩ = some (.int .i64 p.df) ∧ w'.cell? ⟨w.heap.size, 4, none⟩ = some (.int .i64 p.dt)) ∧ (w'.cell? ⟨w.heap.size + 1, 0, none⟩ = some (.string ⟨q.nm.toArray⟩) ∧ w'.cell? ⟨w.heap.size + 1, 1, none⟩ = some (.int .i64 q.bf) ∧ w'.cell? ⟨w.heap.size + 1, 2, none⟩ = some (.int .i64 q.bt) ∧ w'.cell? ⟨w.heap.size + 1, 3, none⟩ = some (.int .i64 q.df) ∧ w'.cell? ⟨w.heap.size + 1, 4, none⟩ = some (.int .i64 q.dt)))
    (first | exact ⟨⟨c0, c1, c2, c3, c4⟩, ⟨d0, d1, d2, d3, d4⟩⟩ | exact N1.out.outer | exact N2.out.outer | exact (N2.out.below ((Below.refl _ _).alloc (Nat.le_refl _) _)).outer | go_keep)
    (first
      | (go_at_call 47; (with_reducible refine (K1.out _).mono ?_); rintro e w1 ⟨rfl, hb1⟩; have N1 := Lib.hid (N0d.out.below hb1))
      | (go_at_call 47; (with_reducible refine (K2.out _).mono ?_); rintro e w2 ⟨rfl, hb2⟩; have N2 := Lib.hid (N1.out.below hb2))
      | (go_at_call 37; refine (firstError_2 e1 e2 E HE.out _ 2 _ (IntsAt.cons (by simp [go_sem]) (IntsAt.one (by simp [go_sem])))).mono ?_; rintro e w' ⟨rfl, rfl⟩))
  have N3 := Lib.hid (N2.out.below ((Below.refl _ _).alloc (Nat.le_refl _) (.cells #[.int .i64 e1, .int .i64 e2] 25)))
  generalize hW3 : w2.alloc (.cells #[.int .i64 e1, .int .i64 e2] 25) = W3 at *
  obtain ⟨⟨k0, k1, k2, k3, k4⟩, ⟨l0, l1, l2, l3, l4⟩, ⟨s0, s1, s2, t0, t1, t2⟩, B3, hl3⟩ := N3.out
  clear hW3 c0 c1 c2 c3 c4 d0 d1 d2 d3 d4
  have hs3 := B3.size
  go_wp2
  have B4 := Lib.hid (((B3.setCell (p := ⟨w.heap.size + 1 + 1, 0, none⟩) (by simp only; omega) (.int .i64 0)).setCell (p := ⟨w.heap.size + 1 + 1, 1, none⟩) (by simp only; omega) (.int .i64 0)).setCell (p := ⟨w.heap.size + 1 + 1, 2, none⟩) (by simp only; omega) (.int .i64 0))
  obtain ⟨f0, f1, f2⟩ := own3 (.int .i64 0) (.int .i64 0) (.int .i64 0) t0 t1 t2
  generalize hW4 : ((W3.setCell ⟨w.heap.size + 1 + 1, 0, none⟩ (.int .i64 0)).setCell ⟨w.heap.size + 1 + 1, 1, none⟩ (.int .i64 0)).setCell ⟨w.heap.size + 1 + 1, 2, none⟩ (.int .i64 0) = W4 at *
  clear hW4
  refine bodyPost_ret (v := three (.int .i64 0) (a3 0 0 0) (.int .i64 E)) (by simp [results, Try.results26, go_sem, f0, f1, f2]) rfl ⟨rfl, B4.out⟩
set_option maxRecDepth 100000 in
set_option maxHeartbeats 4000000 in
theorem Score_good (p q : Nt) (w : World) (hl : p.nm.length ≤ 2000000) (hl2 : q.nm.length ≤ 2000000) (h1 : cn p = 0) (h2 : cn q = 0) (d : Nat) (hd : dsT p.nm q.nm = (d, 0)) (hd2 : d ≤ 1000) : Calls Try.prog 26 #[p.val, q.val] w (RetB (three (.int .i64 (60 - 20 * (d : Int) + dtM p.bf p.bt q.bf q.bt + dtM p.df p.dt q.df q.dt)) (a3 (60 - 20 * (d : Int)) (dtM p.bf p.bt q.bf q.bt) (dtM p.df p.dt q.df q.dt)) (.int .i64 0)) w) := by
  have K1 := Lib.hid (fun w => checkNote_any p.nm p.bf p.bt p.df p.dt w (by omega))
  have K2 := Lib.hid (fun w => checkNote_any q.nm q.bf q.bt q.df q.dt w (by omega))
  have HP := Lib.hid (fun w => parts_any p q d w (cn_ok h1) (cn_ok h2) hl hl2 hd hd2)
  have b1 := dtM_bd p.bf p.bt q.bf q.bt
  have b2 := dtM_bd p.df p.dt q.df q.dt
  generalize dtM p.bf p.bt q.bf q.bt = D1 at *
  generalize dtM p.df p.dt q.df q.dt = D2 at *
  have N0 := Lib.hid (box55 w p q 50 52)
  have K1 : Hid (∀ w, Calls Try.prog 47 #[p.val] w (RetB (.int .i64 (cn p)) w)) := K1
  have K2 : Hid (∀ w, Calls Try.prog 47 #[q.val] w (RetB (.int .i64 (cn q)) w)) := K2
  rw [h1] at K1
  rw [h2] at K2
  clear h1 h2 hd
  have q1 : -1000000 ≤ 60 - 20 * (d : Int) ∧ 60 - 20 * (d : Int) ≤ 1000000 := by omega
  generalize 60 - 20 * (d : Int) = D0 at *
  have HM := Lib.hid (fun (W : World) (b c : Nat) => sum3_any b c D0 D1 D2 W q1 (by omega) (by omega))
  go_enter Try.func26, Try.ntmps26
  go_wp2
  have N0d := Lib.hid (show Bx5 w p q (World.drew _) from N0.out.below (below_n (Below.refl _ _) 1))
  obtain ⟨⟨c0, c1, c2, c3, c4⟩, ⟨d0, d1, d2, d3, d4⟩⟩ := N0.out.outer
  go_region_held3 (fun w' => (w'.cell? ⟨w.heap.size, 0, none⟩ = some (.string ⟨p.nm.toArray⟩) ∧ w'.cell? ⟨w.heap.size, 1, none⟩ = some (.int .i64 p.bf) ∧ w'.cell? ⟨w.heap.size, 2, none⟩ = some (.int .i64 p.bt) ∧ w'.cell? ⟨w.heap.size, 3, none⟩ = some (.int .i64 p.df) ∧ w'.cell? ⟨w.heap.size, 4, none⟩ = some (.int .i64 p.dt)) ∧ (w'.cell? ⟨w.heap.size + 1, 0, none⟩ = some (.string ⟨q.nm.toArray⟩) ∧ w'.cell? ⟨w.heap.size + 1, 1, none⟩ = some (.int .i64 q.bf) ∧ w'.cell? ⟨w.heap.size + 1, 2, none⟩ = some (.int .i64 q.bt) ∧ w'.cell? ⟨w.heap.size + 1, 3, none⟩ = some (.int .i64 q.df) ∧ w'.cell? ⟨w.heap.size + 1, 4, none⟩ = some (.int .i64 q.dt)))
    (first | exact ⟨⟨c0, c1, c2, c3, c4⟩, ⟨d0, d1, d2, d3, d4⟩⟩ | exact N1.out.outer | exact N2.out.outer | exact (N2.out.below ((Below.refl _ _).alloc (Nat.le_refl _) _)).outer | go_keep)
    (first
      | (go_at_call 47; (with_reducible refine (K1.out _).mono ?_); rintro e w1 ⟨rfl, hb1⟩; have N1 := Lib.hid (N0d.out.below hb1))
      | (go_at_call 47; (with_reducible refine (K2.out _).mono ?_); rintro e w2 ⟨rfl, hb2⟩; have N2 := Lib.hid (N1.out.below hb2))
      | (go_at_call 37; refine (firstError_2 0 0 0 rfl _ 2 _ (IntsAt.cons (by simp [go_sem]) (IntsAt.one (by simp [go_sem])))).mono ?_; rintro e w' ⟨rfl, rfl⟩))
  have N3 := Lib.hid (N2.out.below ((Below.refl _ _).alloc (Nat.le_refl _) (.cells #[.int .i64 0, .int .i64 0] 25)))
  generalize hW3 : w2.alloc (.cells #[.int .i64 0, .int .i64 0] 25) = W3 at *
  obtain ⟨⟨k0, k1, k2, k3, k4⟩, ⟨l0, l1, l2, l3, l4⟩, ⟨s0, s1, s2, t0, t1, t2⟩, B3, hl3⟩ := N3.out
  clear hW3 c0 c1 c2 c3 c4 d0 d1 d2 d3 d4
  have hs3 := B3.size
  go_wp2_with fail
  refine (HP.out _).mono ?_
  rintro e w4 ⟨rfl, hb4⟩
  have N4 := Lib.hid (N3.out.below hb4)
  clear k0 k1 k2 k3 k4 l0 l1 l2 l3 l4 s0 s1 s2 t0 t1 t2 hl3
  go_wp2
  have N5 := Lib.hid (N4.out.below ((Below.refl _ w4).alloc (Nat.le_refl _) (.cells #[.int .i64 D0, .int .i64 D1, .int .i64 D2] 52)))
  have M5 := Lib.hid (show (w4.alloc (.cells #[.int .i64 D0, .int .i64 D1, .int .i64 D2] 52)).cell? ⟨w4.heap.size, 0, none⟩ = some (.int .i64 D0) ∧ (w4.alloc (.cells #[.int .i64 D0, .int .i64 D1, .int .i64 D2] 52)).cell? ⟨w4.heap.size, 1, none⟩ = some (.int .i64 D1) ∧ (w4.alloc (.cells #[.int .i64 D0, .int .i64 D1, .int .i64 D2] 52)).cell? ⟨w4.heap.size, 2, none⟩ = some (.int .i64 D2) from ⟨by simp [go_sem], by simp [go_sem], by simp [go_sem]⟩)
  have hl4 := N4.out.2.2.2.2
  generalize hW5 : w4.alloc (.cells #[.int .i64 D0, .int .i64 D1, .int .i64 D2] 52) = W5 at *
  clear hW5
  obtain ⟨p0, p1, p2⟩ := M5.out
  have NE : w.heap.size + 1 + 1 ≠ w4.heap.size := by omega
  have N5d := Lib.hid (show Bx5 w p q W5.drew from N5.out.below (below_n (Below.refl _ W5) 1))
  obtain ⟨-, -, ⟨s0, s1, s2, t0, t1, t2⟩, -⟩ := N5.out
  obtain ⟨-, -, -, B5, hl5⟩ := N5d.out
  go_region_held3 (fun w' => w'.cell? ⟨w4.heap.size, 0, none⟩ = some (.int .i64 D0) ∧ w'.cell? ⟨w4.heap.size, 1, none⟩ = some (.int .i64 D1) ∧ w'.cell? ⟨w4.heap.size, 2, none⟩ = some (.int .i64 D2))
    (first | exact ⟨p0, p1, p2⟩ | exact ⟨far3 _ _ _ NE p0, far3 _ _ _ NE p1, far3 _ _ _ NE p2⟩ | go_keep)
    (first
      | (go_at_call 49; refine (HM.out W5.drew _ _ p0 p1 p2).mono ?_; rintro e w' ⟨rfl, rfl⟩))
  have hs5 := N5.out.2.2.2.1.size
  have B6 := Lib.hid (below_n (((N5.out.2.2.2.1.setCell (p := ⟨w.heap.size + 1 + 1, 0, none⟩) (by simp only; omega) (.int .i64 D0)).setCell (p := ⟨w.heap.size + 1 + 1, 1, none⟩) (by simp only; omega) (.int .i64 D1)).setCell (p := ⟨w.heap.size + 1 + 1, 2, none⟩) (by simp only; omega) (.int .i64 D2)) 1)
  obtain ⟨f0, f1, f2⟩ := own3 (.int .i64 D0) (.int .i64 D1) (.int .i64 D2) t0 t1 t2
  generalize hW6 : ((W5.setCell ⟨w.heap.size + 1 + 1, 0, none⟩ (.int .i64 D0)).setCell ⟨w.heap.size + 1 + 1, 1, none⟩ (.int .i64 D1)).setCell ⟨w.heap.size + 1 + 1, 2, none⟩ (.int .i64 D2) = W6 at *
  clear hW6
  go_wp2
  refine bodyPost_ret (v := three (.int .i64 (D0 + D1 + D2)) (a3 D0 D1 D2) (.int .i64 0)) (by simp [results, Try.results26, go_sem, f0, f1, f2]) rfl ⟨rfl, B6.out⟩
end Go.Proofs.Ytfneafofohfdnaa
