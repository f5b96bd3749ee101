/-
  RuleMonths returns true for every day and every number of months, in every world.
-/
import Derived.Test.YtfphedcgmaakjaaBelow
namespace Go.Proofs.Ytfphedcgmaakjaa
open Go.RowKit
attribute [local go_sem] set_drewN
/-- the day so many months later, and its error -/
noncomputable def amE (n k : Int) : Int := if inB n 0 200000 && inB k (-12000) 12000 && inB (mlt n k) 0 200000 then 0 else 2
noncomputable def amN (n k : Int) : Int := if inB n 0 200000 && inB k (-12000) 12000 && inB (mlt n k) 0 200000 then mlt n k else 0
theorem AddMonths_any (n k : Int) (w : World) : Calls Try.prog 26 #[.int .i64 n, .int .i64 k] w (RetB (two (.int .i64 (amN n k)) (.int .i64 (amE n k))) w) := by
  cases h : inB n 0 200000 && inB k (-12000) 12000 && inB (mlt n k) 0 200000
  · have e1 : amE n k = 2 := by simp [amE, h]
    have e2 : amN n k = 0 := by unfold amN; rw [h]; rfl
    rw [e1, e2]
    refine addMonths_no n k w ?_
    cases h1 : inB n 0 200000
    · exact Or.inl rfl
    · cases h2 : inB k (-12000) 12000
      · exact Or.inr (Or.inl rfl)
      · rw [h1, h2] at h; exact Or.inr (Or.inr (by simpa using h))
  · have e1 : amE n k = 0 := by simp [amE, h]
    have e2 : amN n k = mlt n k := by unfold amN; rw [h]; rfl
    rw [e1, e2]
    simp only [Bool.and_eq_true] at h
    obtain ⟨⟨h1, h2⟩, h3⟩ := h
    obtain ⟨a, b⟩ := inB_iff.1 h1
    obtain ⟨c, d⟩ := inB_iff.1 h2
    exact addMonths_yes n k w a b c d h3
theorem am_no {n k : Int} (h : inB n 0 200000 = false ∨ inB k (-12000) 12000 = false ∨ inB (mlt n k) 0 200000 = false) : amE n k = 2 ∧ amN n k = 0 := by
  rcases h with h | h | h <;> simp [amE, amN, h]
theorem am_yes {n k : Int} (h1 : inB n 0 200000 = true) (h2 : inB k (-12000) 12000 = true) (h3 : inB (mlt n k) 0 200000 = true) : amE n k = 0 ∧ amN n k = mlt n k := by
  simp [amE, amN, h1, h2, h3]
theorem mlt_year {n k : Int} (h0 : 0 ≤ n) (hy : inB ((mnum n + k) / 12) 1800 2347 = false) : inB (mlt n k) 0 200000 = false := by
  have hd := (Cal.date_spec n h0).2.1.2.2.1
  rcases inB_iff'.1 hy with h | h
  · exact inB_no (Or.inl (Cal.lt_neg _ _ hd (by omega)))
  · exact inB_no (Or.inr (Cal.lt_big _ _ hd (by omega)))
theorem mlt_4800 {n : Int} (h0 : 0 ≤ n) : mlt n 4800 = n + 146097 := by
  obtain ⟨_, hk, hn⟩ := Cal.date_spec n h0
  have := Cal.later_4800 _ _ _ hk
  rw [hn] at this
  exact this
/-- what the specification's AddMonths returns -/
noncomputable def xaB (n k : Int) : Bool := inB ((mnum n + k) / 12) 1800 2347 && inB (mlt n k) 0 200000
noncomputable def xaN (n k : Int) : Int := if inB ((mnum n + k) / 12) 1800 2347 then mlt n k else 0
theorem xAddMonths_any (n k : Int) (w : World) (h0 : 0 ≤ n) (h9 : n ≤ 1000000) (hk1 : -21000 ≤ k) (hk2 : k ≤ 21000) :
    Calls Try.prog 27 #[.int .i64 n, .int .i64 k] w (RetB (two (.int .i64 (xaN n k)) (.bool (xaB n k))) w) := by
  cases h : inB ((mnum n + k) / 12) 1800 2347
  · have e1 : xaB n k = false := by simp [xaB, h]
    have e2 : xaN n k = 0 := by unfold xaN; rw [h]; rfl
    rw [e1, e2]; exact xAddMonths_no n k w h0 h9 hk1 hk2 h
  · have e1 : xaB n k = inB (mlt n k) 0 200000 := by simp [xaB, h]
    have e2 : xaN n k = mlt n k := by unfold xaN; rw [h]; rfl
    rw [e1, e2]; exact xAddMonths_yes n k w h0 h9 hk1 hk2 h
theorem xa_eq {n k : Int} (h0 : 0 ≤ n) : xaB n k = inB (mlt n k) 0 200000 := by
  unfold xaB
  cases h : inB ((mnum n + k) / 12) 1800 2347
  · rw [mlt_year h0 h]; rfl
  · rfl
theorem xa_yes {n k : Int} (h0 : 0 ≤ n) (h : inB (mlt n k) 0 200000 = true) : xaN n k = mlt n k := by
  unfold xaN
  cases hy : inB ((mnum n + k) / 12) 1800 2347
  · rw [mlt_year h0 hy] at h; cases h
  · rfl
set_option maxRecDepth 100000 in
set_option maxHeartbeats 1000000 in
theorem RuleMonths_1 (n k : Int) (w : World) (h : inB n 0 200000 = false) : Calls Try.prog 4 #[.int .i64 n, .int .i64 k] w (RetB (.bool true) w) := by
  obtain ⟨e1, e2⟩ := am_no (k := k) (Or.inl h)
  go_enter Try.func4, Try.ntmps4
  go_wp2_with (first
    | (go_at_call 14; refine (awake_any _).mono ?_; rintro e w1 ⟨rfl, hb1⟩)
    | (go_at_call 26; refine (AddMonths_any _ _ _).mono ?_; rintro e w2 ⟨rfl, hb2⟩)
    | (go_at_call 23; refine (xIsDay_any _ _).mono ?_; rintro e w' ⟨rfl, rfl⟩))
  go_ret
  exact ⟨rfl, hb1.trans (hb2.mono hb1.size)⟩
set_option maxRecDepth 100000 in
set_option maxHeartbeats 1000000 in
theorem RuleMonths_2 (n k : Int) (w : World) (h1 : inB n 0 200000 = true) (h : inB k (-12000) 12000 = false) : Calls Try.prog 4 #[.int .i64 n, .int .i64 k] w (RetB (.bool true) w) := by
  obtain ⟨e1, e2⟩ := am_no (n := n) (Or.inr (Or.inl h))
  go_enter Try.func4, Try.ntmps4
  go_wp2_with (first
    | (go_at_call 14; refine (awake_any _).mono ?_; rintro e w1 ⟨rfl, hb1⟩)
    | (go_at_call 26; refine (AddMonths_any _ _ _).mono ?_; rintro e w2 ⟨rfl, hb2⟩)
    | (go_at_call 21; refine (bWithin_any _ _ _ _).mono ?_; rintro e w' ⟨rfl, rfl⟩)
    | (go_at_call 23; refine (xIsDay_any _ _).mono ?_; rintro e w' ⟨rfl, rfl⟩))
  go_ret
  exact ⟨rfl, hb1.trans (hb2.mono hb1.size)⟩
set_option maxRecDepth 100000 in
set_option maxHeartbeats 2000000 in
theorem RuleMonths_3 (n k : Int) (w : World) (h1 : inB n 0 200000 = true) (h2 : inB k (-12000) 12000 = true) : Calls Try.prog 4 #[.int .i64 n, .int .i64 k] w (RetB (.bool true) w) := by
  obtain ⟨n0, n9⟩ := inB_iff.1 h1
  obtain ⟨k0, k9⟩ := inB_iff.1 h2
  have hA : (amE n k = 0 ∧ amN n k = xaN n k ∧ xaB n k = true) ∨ (amE n k = 2 ∧ amN n k = 0 ∧ xaB n k = false) := by
    have xe := xa_eq (k := k) n0
    cases h3 : inB (mlt n k) 0 200000
    · obtain ⟨e1, e2⟩ := am_no (n := n) (k := k) (Or.inr (Or.inr h3))
      exact Or.inr ⟨e1, e2, by rw [xe, h3]⟩
    · obtain ⟨e1, e2⟩ := am_yes h1 h2 h3
      exact Or.inl ⟨e1, by rw [e2, xa_yes n0 h3], by rw [xe, h3]⟩
  have hB : (200000 < n + 146097 ∧ amE n 4800 = 2) ∨ (¬ 200000 < n + 146097 ∧ amE n 4800 = 0 ∧ amN n 4800 = n + 146097) := by
    have m48 := mlt_4800 n0
    by_cases h4 : 200000 < n + 146097
    · exact Or.inl ⟨h4, (am_no (n := n) (k := 4800) (Or.inr (Or.inr (by rw [m48]; exact inB_no (Or.inr h4))))).1⟩
    · obtain ⟨g1, g2⟩ := am_yes (n := n) (k := 4800) h1 (by decide) (by rw [m48]; exact inB_yes (by omega) (by omega))
      exact Or.inr ⟨h4, g1, by rw [g2, m48]⟩
  have am48 := fun w => AddMonths_any n 4800 w
  have amk := fun w => AddMonths_any n k w
  have xk := fun w => xAddMonths_any n k w n0 (by omega) (by omega) (by omega)
  have HX := Lib.hid xk
  have HA := Lib.hid amk
  have HB := Lib.hid am48
  clear xk amk am48
  have tok1 : True := trivial
  rcases hA with ⟨e1, e2, e3⟩ | ⟨e1, e2, e3⟩
  all_goals rcases hB with ⟨h4, g1⟩ | ⟨h4, g1, g2⟩
  all_goals
    go_enter Try.func4, Try.ntmps4
    go_wp2_with (first
      | (go_at_call 14; refine (awake_any _).mono ?_; rintro e w1 ⟨rfl, hb1⟩)
      | (go_at_call 26; have _t := tok1; refine (HA.out _).mono ?_; rintro e w2 ⟨rfl, hb2⟩; clear _t tok1)
      | (go_at_call 26; refine (HB.out _).mono ?_; rintro e w4 ⟨rfl, hb4⟩)
      | (go_at_call 27; refine (HX.out _).mono ?_; rintro e w3 ⟨rfl, hb3⟩)
      | (go_at_call 21; refine (bWithin_any _ _ _ _).mono ?_; rintro e w' ⟨rfl, rfl⟩)
      | (go_at_call 23; refine (xIsDay_any _ _).mono ?_; rintro e w' ⟨rfl, rfl⟩))
    go_ret
    have s1 := hb1.size; have s2 := hb2.size; have s3 := hb3.size
    exact ⟨rfl, ((hb1.trans (hb2.mono s1)).trans (hb3.mono (by omega))).trans (hb4.mono (by omega))⟩
theorem RuleMonths_any (n k : Int) (w : World) : Calls Try.prog 4 #[.int .i64 n, .int .i64 k] w (RetB (.bool true) w) := by
  cases h1 : inB n 0 200000
  · exact RuleMonths_1 n k w h1
  · cases h2 : inB k (-12000) 12000
    · exact RuleMonths_2 n k w h1 h2
    · exact RuleMonths_3 n k w h1 h2
end Go.Proofs.Ytfphedcgmaakjaa
