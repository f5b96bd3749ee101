/-
  RuleSources returns true for every list of provisions, name and pair of days, in every world in which the list lies: the walks.
-/
import Derived.Test.YtfphedcgmaakjaaLawSources
namespace Go.Proofs.Ytfphedcgmaakjaa
open Go.RowKit
attribute [local go_sem] set_drewN
/-- a pair of days lies in block B -/
def At2 (W : World) (B : Nat) (a0 a1 : Int) : Prop := B < W.heap.size ∧ W.cell? ⟨B, 0, none⟩ = some (.int .i64 a0) ∧ W.cell? ⟨B, 1, none⟩ = some (.int .i64 a1)
theorem At2.below {W W' : World} {B : Nat} {a0 a1 : Int} (h : At2 W B a0 a1) (hb : Below W.heap.size W W') : At2 W' B a0 a1 := by
  obtain ⟨hl, a, b⟩ := h
  exact ⟨Nat.lt_of_lt_of_le hl hb.size, (hb.cell hl).trans a, (hb.cell hl).trans b⟩
theorem At2.new (W : World) (a0 a1 : Int) : At2 (W.alloc (.cells #[.int .i64 a0, .int .i64 a1] 80)) W.heap.size a0 a1 := ⟨by simp, by simp [go_sem], by simp [go_sem]⟩
set_option maxRecDepth 100000 in
set_option maxHeartbeats 2000000 in
theorem RuleSources_1 (G : World → Prop) (hG : ∀ W W', G W → Below W.heap.size W W' → G W') (sv : Value) (nm : ByteArray) (a0 a1 : Int) (w : World) (g0 : G w) (cL : Hid (∀ W, G W → Calls Try.prog 50 #[sv] W (Ret (.bool false) W))) :
    Calls Try.prog 12 #[sv, .string nm, .agg #[.int .i64 a0, .int .i64 a1]] w (RetB (.bool true) w) := by
  go_enter Try.func12, Try.ntmps12
  go_wp2_with fail
  refine (awake_any _).mono ?_
  rintro e w1 ⟨rfl, hb1⟩
  have G1 := hG _ _ (hG _ _ g0 ((Below.refl _ _).alloc (Nat.le_refl _) _)) hb1
  have A1 := Lib.hid ((At2.new w a0 a1).below hb1)
  obtain ⟨al1, a10, a11⟩ := A1.out
  have q1 := hb1.size
  simp only [World.size_alloc] at q1
  go_wp2_with fail
  refine (cL.out _ G1).mono ?_
  rintro e w' ⟨rfl, rfl⟩
  go_wp2
  go_ret
  exact ⟨rfl, ((Below.refl _ _).alloc (Nat.le_refl _) _).trans (hb1.mono (by simp))⟩
set_option maxRecDepth 100000 in
set_option maxHeartbeats 2000000 in
theorem RuleSources_2 (G : World → Prop) (hG : ∀ W W', G W → Below W.heap.size W W' → G W') (sv : Value) (nm : ByteArray) (a0 a1 : Int) (w : World) (g0 : G w) (hm : nm.size ≤ maxLen) (hn : 30 < nm.size) (cL : Hid (∀ W, G W → Calls Try.prog 50 #[sv] W (Ret (.bool true) W))) :
    Calls Try.prog 12 #[sv, .string nm, .agg #[.int .i64 a0, .int .i64 a1]] w (RetB (.bool true) w) := by
  unfold maxLen at hm
  go_enter Try.func12, Try.ntmps12
  go_wp2_with fail
  refine (awake_any _).mono ?_
  rintro e w1 ⟨rfl, hb1⟩
  have G1 := hG _ _ (hG _ _ g0 ((Below.refl _ _).alloc (Nat.le_refl _) _)) hb1
  have A1 := Lib.hid ((At2.new w a0 a1).below hb1)
  obtain ⟨al1, a10, a11⟩ := A1.out
  have q1 := hb1.size
  simp only [World.size_alloc] at q1
  go_wp2_with fail
  refine (cL.out _ G1).mono ?_
  rintro e w' ⟨rfl, rfl⟩
  go_wp2
  go_ret
  exact ⟨rfl, ((Below.refl _ _).alloc (Nat.le_refl _) _).trans (hb1.mono (by simp))⟩
set_option maxRecDepth 100000 in
set_option maxHeartbeats 2000000 in
theorem RuleSources_3 (G : World → Prop) (hG : ∀ W W', G W → Below W.heap.size W W' → G W') (sv : Value) (nm : ByteArray) (a0 a1 : Int) (w : World) (g0 : G w) (E : Int) (hE : (E != 0) = true) (hm : nm.size ≤ maxLen) (hn : nm.size ≤ 30) (cL : Hid (∀ W, G W → Calls Try.prog 50 #[sv] W (Ret (.bool true) W))) (cS : Hid (∀ W, G W → Calls Try.prog 56 #[sv, .string nm, .agg #[.int .i64 a0, .int .i64 a1]] W (RetB (two (.int .i64 0) (.int .i64 E)) W))) (cV : Hid (∀ W, G W → Calls Try.prog 57 #[sv, .string nm, .agg #[.int .i64 a0, .int .i64 a1]] W (RetB (two (.int .i64 0) (.int .i64 E)) W))) (cA : Hid (∀ W, G W → Calls Try.prog 58 #[sv, .agg #[.int .i64 a0, .int .i64 a1]] W (RetB (.int .i64 E) W))) :
    Calls Try.prog 12 #[sv, .string nm, .agg #[.int .i64 a0, .int .i64 a1]] w (RetB (.bool true) w) := by
  unfold maxLen at hm
  have hn' : ¬ 30 < nm.size := by omega
  go_enter Try.func12, Try.ntmps12
  go_wp2_with fail
  refine (awake_any _).mono ?_
  rintro e w1 ⟨rfl, hb1⟩
  have G1 := hG _ _ (hG _ _ g0 ((Below.refl _ _).alloc (Nat.le_refl _) _)) hb1
  have A1 := Lib.hid ((At2.new w a0 a1).below hb1)
  obtain ⟨al1, a10, a11⟩ := A1.out
  have q1 := hb1.size
  simp only [World.size_alloc] at q1
  go_wp2_with fail
  refine (cL.out _ G1).mono ?_
  rintro e w' ⟨rfl, rfl⟩
  go_wp2_with fail
  refine (cS.out _ G1).mono ?_
  rintro e w2 ⟨rfl, hb2⟩
  have G2 := hG _ _ G1 hb2
  have A2 := Lib.hid (A1.out.below hb2)
  obtain ⟨al2, a20, a21⟩ := A2.out
  go_wp2_with fail
  refine (cV.out _ G2).mono ?_
  rintro e w3 ⟨rfl, hb3⟩
  have G3 := hG _ _ G2 hb3
  have A3 := Lib.hid (A2.out.below hb3)
  obtain ⟨al3, a30, a31⟩ := A3.out
  go_wp2_with fail
  refine (cA.out _ G3).mono ?_
  rintro e w4 ⟨rfl, hb4⟩
  have G4 := hG _ _ G3 hb4
  have A4 := Lib.hid (A3.out.below hb4)
  obtain ⟨al4, a40, a41⟩ := A4.out
  have q2 := hb2.size; have q3 := hb3.size; have q4 := hb4.size
  have BB : Below w.heap.size w w4 := ((((Below.refl _ _).alloc (Nat.le_refl _) _).trans (hb1.mono (by simp))).trans (hb2.mono (by omega))).trans (hb3.mono (by omega)) |>.trans (hb4.mono (by omega))
  go_wp2
  go_ret
  exact ⟨rfl, BB⟩
set_option maxRecDepth 100000 in
set_option maxHeartbeats 2000000 in
theorem RuleSources_4 (G : World → Prop) (hG : ∀ W W', G W → Below W.heap.size W W' → G W') (sv : Value) (nm : ByteArray) (a0 a1 : Int) (w : World) (g0 : G w) (hm : nm.size ≤ maxLen) (hn : nm.size ≤ 30) (cL : Hid (∀ W, G W → Calls Try.prog 50 #[sv] W (Ret (.bool true) W))) (cS : Hid (∀ W, G W → Calls Try.prog 56 #[sv, .string nm, .agg #[.int .i64 a0, .int .i64 a1]] W (RetB (two (.int .i64 0) (.int .i64 6)) W))) (cV : Hid (∀ W, G W → Calls Try.prog 57 #[sv, .string nm, .agg #[.int .i64 a0, .int .i64 a1]] W (RetB (two (.int .i64 0) (.int .i64 6)) W))) (cA : Hid (∀ W, G W → Calls Try.prog 58 #[sv, .agg #[.int .i64 a0, .int .i64 a1]] W (RetB (.int .i64 0) W))) (cX : Hid (∀ W, G W → Calls Try.prog 59 #[sv, .string nm, .agg #[.int .i64 a0, .int .i64 a1]] W (RetB (.int .i64 (-1)) W))) :
    Calls Try.prog 12 #[sv, .string nm, .agg #[.int .i64 a0, .int .i64 a1]] w (RetB (.bool true) w) := by
  unfold maxLen at hm
  have hn' : ¬ 30 < nm.size := by omega
  go_enter Try.func12, Try.ntmps12
  go_wp2_with fail
  refine (awake_any _).mono ?_
  rintro e w1 ⟨rfl, hb1⟩
  have G1 := hG _ _ (hG _ _ g0 ((Below.refl _ _).alloc (Nat.le_refl _) _)) hb1
  have A1 := Lib.hid ((At2.new w a0 a1).below hb1)
  obtain ⟨al1, a10, a11⟩ := A1.out
  have q1 := hb1.size
  simp only [World.size_alloc] at q1
  go_wp2_with fail
  refine (cL.out _ G1).mono ?_
  rintro e w' ⟨rfl, rfl⟩
  go_wp2_with fail
  refine (cS.out _ G1).mono ?_
  rintro e w2 ⟨rfl, hb2⟩
  have G2 := hG _ _ G1 hb2
  have A2 := Lib.hid (A1.out.below hb2)
  obtain ⟨al2, a20, a21⟩ := A2.out
  go_wp2_with fail
  refine (cV.out _ G2).mono ?_
  rintro e w3 ⟨rfl, hb3⟩
  have G3 := hG _ _ G2 hb3
  have A3 := Lib.hid (A2.out.below hb3)
  obtain ⟨al3, a30, a31⟩ := A3.out
  go_wp2_with fail
  refine (cA.out _ G3).mono ?_
  rintro e w4 ⟨rfl, hb4⟩
  have G4 := hG _ _ G3 hb4
  have A4 := Lib.hid (A3.out.below hb4)
  obtain ⟨al4, a40, a41⟩ := A4.out
  have q2 := hb2.size; have q3 := hb3.size; have q4 := hb4.size
  have BB : Below w.heap.size w w4 := ((((Below.refl _ _).alloc (Nat.le_refl _) _).trans (hb1.mono (by simp))).trans (hb2.mono (by omega))).trans (hb3.mono (by omega)) |>.trans (hb4.mono (by omega))
  go_wp2_with fail
  refine (cX.out _ G4).mono ?_
  rintro e w5 ⟨rfl, hb5⟩
  have q5 := hb5.size
  go_wp2
  go_ret
  exact ⟨rfl, BB.trans (hb5.mono (by omega))⟩
set_option maxRecDepth 100000 in
set_option maxHeartbeats 2000000 in
theorem RuleSources_5 (l : List Pv) (b o cap : Nat) (nm : ByteArray) (a0 a1 : Int) (w : World) (g0 : PvsAt w b o l) (i : Nat) (p : Pv) (hil : i < l.length) (hp : l[i] = p) (hrep : p.repeal = true) (hm : nm.size ≤ maxLen) (hn : nm.size ≤ 30) (cL : Hid (∀ W, PvsAt W b o l → Calls Try.prog 50 #[.slice (some ⟨b, o, none⟩) l.length cap] W (Ret (.bool true) W))) (cS : Hid (∀ W, PvsAt W b o l → Calls Try.prog 56 #[.slice (some ⟨b, o, none⟩) l.length cap, .string nm, .agg #[.int .i64 a0, .int .i64 a1]] W (RetB (two (.int .i64 i) (.int .i64 0)) W))) (cV : Hid (∀ W, PvsAt W b o l → Calls Try.prog 57 #[.slice (some ⟨b, o, none⟩) l.length cap, .string nm, .agg #[.int .i64 a0, .int .i64 a1]] W (RetB (two (.int .i64 0) (.int .i64 12)) W))) (cA : Hid (∀ W, PvsAt W b o l → Calls Try.prog 58 #[.slice (some ⟨b, o, none⟩) l.length cap, .agg #[.int .i64 a0, .int .i64 a1]] W (RetB (.int .i64 0) W))) (cX : Hid (∀ W, PvsAt W b o l → Calls Try.prog 59 #[.slice (some ⟨b, o, none⟩) l.length cap, .string nm, .agg #[.int .i64 a0, .int .i64 a1]] W (RetB (.int .i64 i) W))) :
    Calls Try.prog 12 #[.slice (some ⟨b, o, none⟩) l.length cap, .string nm, .agg #[.int .i64 a0, .int .i64 a1]] w (RetB (.bool true) w) := by
  unfold maxLen at hm
  have hn' : ¬ 30 < nm.size := by omega
  have HG0 := Lib.hid g0
  clear g0
  have HP := Lib.hid hp
  clear hp
  go_enter Try.func12, Try.ntmps12
  go_wp2_with fail
  refine (awake_any _).mono ?_
  rintro e w1 ⟨rfl, hb1⟩
  have G1 := Lib.hid ((HG0.out.below ((Below.refl _ _).alloc (Nat.le_refl _) _)).below hb1)
  have A1 := Lib.hid ((At2.new w a0 a1).below hb1)
  obtain ⟨al1, a10, a11⟩ := A1.out
  have q1 := hb1.size
  simp only [World.size_alloc] at q1
  go_wp2_with fail
  refine (cL.out _ G1.out).mono ?_
  rintro e w' ⟨rfl, rfl⟩
  go_wp2_with fail
  refine (cS.out _ G1.out).mono ?_
  rintro e w2 ⟨rfl, hb2⟩
  have G2 := Lib.hid (G1.out.below hb2)
  have A2 := Lib.hid (A1.out.below hb2)
  obtain ⟨al2, a20, a21⟩ := A2.out
  go_wp2_with fail
  refine (cV.out _ G2.out).mono ?_
  rintro e w3 ⟨rfl, hb3⟩
  have G3 := Lib.hid (G2.out.below hb3)
  have A3 := Lib.hid (A2.out.below hb3)
  obtain ⟨al3, a30, a31⟩ := A3.out
  go_wp2_with fail
  refine (cA.out _ G3.out).mono ?_
  rintro e w4 ⟨rfl, hb4⟩
  have G4 := Lib.hid (G3.out.below hb4)
  have A4 := Lib.hid (A3.out.below hb4)
  obtain ⟨al4, a40, a41⟩ := A4.out
  have q2 := hb2.size; have q3 := hb3.size; have q4 := hb4.size
  have BB : Below w.heap.size w w4 := ((((Below.refl _ _).alloc (Nat.le_refl _) _).trans (hb1.mono (by simp))).trans (hb2.mono (by omega))).trans (hb3.mono (by omega)) |>.trans (hb4.mono (by omega))
  go_wp2_with fail
  refine (cX.out _ G4.out).mono ?_
  rintro e w5 ⟨rfl, hb5⟩
  have q5 := hb5.size
  obtain ⟨⟨_, _, _, _, c4⟩, _⟩ := (G4.out.below hb5).2 i hil
  rw [HP.out] at c4
  rw [hrep] at c4
  have hi0 : decide ((i : Int) < 0) = false := by simp
  go_wp2
  go_ret
  exact ⟨rfl, BB.trans (hb5.mono (by omega))⟩
set_option maxRecDepth 100000 in
set_option maxHeartbeats 2000000 in
theorem RuleSources_6 (l : List Pv) (b o cap : Nat) (nm : ByteArray) (a0 a1 : Int) (w : World) (g0 : PvsAt w b o l) (i : Nat) (p : Pv) (hil : i < l.length) (hp : l[i] = p) (hrep : p.repeal = false) (hm : nm.size ≤ maxLen) (hn : nm.size ≤ 30) (cL : Hid (∀ W, PvsAt W b o l → Calls Try.prog 50 #[.slice (some ⟨b, o, none⟩) l.length cap] W (Ret (.bool true) W))) (cS : Hid (∀ W, PvsAt W b o l → Calls Try.prog 56 #[.slice (some ⟨b, o, none⟩) l.length cap, .string nm, .agg #[.int .i64 a0, .int .i64 a1]] W (RetB (two (.int .i64 i) (.int .i64 0)) W))) (cV : Hid (∀ W, PvsAt W b o l → Calls Try.prog 57 #[.slice (some ⟨b, o, none⟩) l.length cap, .string nm, .agg #[.int .i64 a0, .int .i64 a1]] W (RetB (two (.int .i64 p.value) (.int .i64 0)) W))) (cA : Hid (∀ W, PvsAt W b o l → Calls Try.prog 58 #[.slice (some ⟨b, o, none⟩) l.length cap, .agg #[.int .i64 a0, .int .i64 a1]] W (RetB (.int .i64 0) W))) (cX : Hid (∀ W, PvsAt W b o l → Calls Try.prog 59 #[.slice (some ⟨b, o, none⟩) l.length cap, .string nm, .agg #[.int .i64 a0, .int .i64 a1]] W (RetB (.int .i64 i) W))) :
    Calls Try.prog 12 #[.slice (some ⟨b, o, none⟩) l.length cap, .string nm, .agg #[.int .i64 a0, .int .i64 a1]] w (RetB (.bool true) w) := by
  unfold maxLen at hm
  have hn' : ¬ 30 < nm.size := by omega
  have HG0 := Lib.hid g0
  clear g0
  have HP := Lib.hid hp
  clear hp
  go_enter Try.func12, Try.ntmps12
  go_wp2_with fail
  refine (awake_any _).mono ?_
  rintro e w1 ⟨rfl, hb1⟩
  have G1 := Lib.hid ((HG0.out.below ((Below.refl _ _).alloc (Nat.le_refl _) _)).below hb1)
  have A1 := Lib.hid ((At2.new w a0 a1).below hb1)
  obtain ⟨al1, a10, a11⟩ := A1.out
  have q1 := hb1.size
  simp only [World.size_alloc] at q1
  go_wp2_with fail
  refine (cL.out _ G1.out).mono ?_
  rintro e w' ⟨rfl, rfl⟩
  go_wp2_with fail
  refine (cS.out _ G1.out).mono ?_
  rintro e w2 ⟨rfl, hb2⟩
  have G2 := Lib.hid (G1.out.below hb2)
  have A2 := Lib.hid (A1.out.below hb2)
  obtain ⟨al2, a20, a21⟩ := A2.out
  go_wp2_with fail
  refine (cV.out _ G2.out).mono ?_
  rintro e w3 ⟨rfl, hb3⟩
  have G3 := Lib.hid (G2.out.below hb3)
  have A3 := Lib.hid (A2.out.below hb3)
  obtain ⟨al3, a30, a31⟩ := A3.out
  go_wp2_with fail
  refine (cA.out _ G3.out).mono ?_
  rintro e w4 ⟨rfl, hb4⟩
  have G4 := Lib.hid (G3.out.below hb4)
  have A4 := Lib.hid (A3.out.below hb4)
  obtain ⟨al4, a40, a41⟩ := A4.out
  have q2 := hb2.size; have q3 := hb3.size; have q4 := hb4.size
  have BB : Below w.heap.size w w4 := ((((Below.refl _ _).alloc (Nat.le_refl _) _).trans (hb1.mono (by simp))).trans (hb2.mono (by omega))).trans (hb3.mono (by omega)) |>.trans (hb4.mono (by omega))
  go_wp2_with fail
  refine (cX.out _ G4.out).mono ?_
  rintro e w5 ⟨rfl, hb5⟩
  have q5 := hb5.size
  obtain ⟨⟨_, c1, _, _, c4⟩, _⟩ := (G4.out.below hb5).2 i hil
  rw [HP.out] at c1 c4
  rw [hrep] at c4
  have hi0 : decide ((i : Int) < 0) = false := by simp
  go_wp2
  go_ret
  exact ⟨rfl, BB.trans (hb5.mono (by omega))⟩
theorem cpE_pv {l : List Pv} (h : cpE l = 0) {i : Nat} (hi : i < l.length) : pvE l[i] = 0 := by
  by_cases h2 : 200 < l.length
  · unfold cpE at h; rw [if_pos h2] at h; cases h
  · by_cases hz : pvE l[i] = 0
    · exact hz
    · exfalso
      have hb := bE_bad hi rfl hz
      -- the first place with an error
      have key : ∀ n, n ≤ l.length → (∀ j, j < n → bE l j = 0) ∨ cpE l ≠ 0 := by
        intro n
        induction n with
        | zero => intro _; exact Or.inl (fun j hj => absurd hj (by omega))
        | succ n ih =>
          intro hn
          rcases ih (by omega) with ih | ih
          · by_cases hb0 : bE l n = 0
            · refine Or.inl (fun j hj => ?_)
              by_cases e : j = n
              · subst e; exact hb0
              · exact ih j (by omega)
            · exact Or.inr (by rw [cpE_no h2 (by omega) ih hb0]; exact hb0)
          · exact Or.inr ih
      rcases key l.length (Nat.le_refl _) with k | k
      · have := k i hi; rw [hb] at this; exact hz this
      · exact k h
theorem srcE_cp {l : List Pv} {a0 a1 : Int} (h : srcE l a0 a1 = 0) : cpE l = 0 := by
  by_cases e : cpE l = 0
  · exact e
  · rw [srcE_1 e] at h; exact h
theorem pv_value {p : Pv} (h : pvE p = 0) (hr : p.repeal = true) : p.value = 0 := by
  by_cases hv : p.value = 0
  · exact hv
  · exfalso
    cases h1 : nameB p.name
    · rw [pvE_1 h1] at h; cases h
    · cases h2 : inB p.value (-1000000000) 1000000000
      · rw [pvE_2 h1 (Or.inl h2)] at h; cases h
      · cases h3 : inB p.from' 0 200000
        · rw [pvE_2 h1 (Or.inr (Or.inl h3))] at h; cases h
        · cases h4 : inB p.entered 0 200000
          · rw [pvE_2 h1 (Or.inr (Or.inr h4))] at h; cases h
          · rw [pvE_3 h1 h2 h3 h4, hr] at h
            have : (true && p.value != 0) = true := by simpa using hv
            rw [this, eI_t] at h; cases h
theorem RuleSources_list (l : List Pv) (b o cap : Nat) (nm : ByteArray) (a0 a1 : Int) (w : World) (hl : l.length ≤ maxLen) (hm : nm.size ≤ maxLen) (hc : PvsAt w b o l) :
    Calls Try.prog 12 #[.slice (some ⟨b, o, none⟩) l.length cap, .string nm, .agg #[.int .i64 a0, .int .i64 a1]] w (RetB (.bool true) w) := by
  cases hB : lawB l
  · exact RuleSources_1 (fun W => PvsAt W b o l) (fun _ _ h k => h.below k) _ nm a0 a1 w hc (Lib.hid fun W hW => by have := Laws_any l b o cap W hl hW; rwa [hB] at this)
  · have hl2 : l.length ≤ 1000000 := by have := lawB_le hB; omega
    have cL : Hid (∀ W, PvsAt W b o l → Calls Try.prog 50 #[.slice (some ⟨b, o, none⟩) l.length cap] W (Ret (.bool true) W)) := Lib.hid fun W hW => by have := Laws_any l b o cap W hl hW; rwa [hB] at this
    by_cases hn : 30 < nm.size
    · exact RuleSources_2 (fun W => PvsAt W b o l) (fun _ _ h k => h.below k) _ nm a0 a1 w hc hm hn cL
    · by_cases he : srcE l a0 a1 = 0
      · have cA := Lib.hid (fun W (hW : PvsAt W b o l) => by have := atErr_any l a0 a1 b o cap W hl2 hW; rwa [he] at this)
        cases hd : dec l a0 a1 nm l.length with
        | none =>
          exact RuleSources_4 (fun W => PvsAt W b o l) (fun _ _ h k => h.below k) _ nm a0 a1 w hc hm (by omega) cL
            (Lib.hid fun W hW => Source_none l nm a0 a1 b o cap W hl2 hm hW he hd) (Lib.hid fun W hW => Value_none l nm a0 a1 b o cap W hl2 hm hW he hd) cA
            (Lib.hid fun W hW => by have := xSource_any l nm a0 a1 b o cap W hl2 hW; rwa [hd] at this)
        | some i =>
          obtain ⟨_, hil⟩ := dec_lt l a0 a1 nm l.length i hd
          have hpe := cpE_pv (srcE_cp he) hil
          have cX := Lib.hid (fun W (hW : PvsAt W b o l) => by have := xSource_any l nm a0 a1 b o cap W hl2 hW; rwa [hd] at this)
          have cS := Lib.hid (fun W (hW : PvsAt W b o l) => Source_some l nm a0 a1 b o cap W hl2 hm hW he i hd)
          have cV := fun W (hW : PvsAt W b o l) => Value_some l nm a0 a1 b o cap W hl2 hm hW he i l[i] hd (List.getElem?_eq_getElem hil)
          cases hr : l[i].repeal
          · refine RuleSources_6 l b o cap nm a0 a1 w hc i l[i] hil rfl hr hm (by omega) cL cS (Lib.hid fun W hW => ?_) cA cX
            have := cV W hW
            rwa [hr] at this
          · refine RuleSources_5 l b o cap nm a0 a1 w hc i l[i] hil rfl hr hm (by omega) cL cS (Lib.hid fun W hW => ?_) cA cX
            have := cV W hW
            rwa [hr, pv_value hpe hr] at this
      · exact RuleSources_3 (fun W => PvsAt W b o l) (fun _ _ h k => h.below k) _ nm a0 a1 w hc (srcE l a0 a1) (by simpa using he) hm (by omega) cL
          (Lib.hid fun W hW => Source_err l nm a0 a1 b o cap W hl2 hW he) (Lib.hid fun W hW => Value_err l nm a0 a1 b o cap W hl2 hW he) (Lib.hid fun W hW => atErr_any l a0 a1 b o cap W hl2 hW)
theorem RuleSources_nil (a : Option Addr) (cap : Nat) (nm : ByteArray) (a0 a1 : Int) (w : World) (hm : nm.size ≤ maxLen) :
    Calls Try.prog 12 #[.slice a 0 cap, .string nm, .agg #[.int .i64 a0, .int .i64 a1]] w (RetB (.bool true) w) := by
  have cL : Hid (∀ W, True → Calls Try.prog 50 #[.slice a 0 cap] W (Ret (.bool true) W)) := Lib.hid fun W _ => Laws_0 a cap W
  by_cases hn : 30 < nm.size
  · exact RuleSources_2 (fun _ => True) (fun _ _ _ _ => trivial) _ nm a0 a1 w trivial hm hn cL
  · by_cases he : srcE [] a0 a1 = 0
    · have cA := Lib.hid (fun W (_ : True) => by have := atErr_any_0 a0 a1 a cap W; rwa [he] at this)
      exact RuleSources_4 (fun _ => True) (fun _ _ _ _ => trivial) _ nm a0 a1 w trivial hm (by omega) cL
        (Lib.hid fun W _ => Source_none_0 nm a0 a1 a cap W hm he rfl) (Lib.hid fun W _ => Value_none_0 nm a0 a1 a cap W hm he rfl) cA (Lib.hid fun W _ => xSource_0 a nm a0 a1 cap W)
    · exact RuleSources_3 (fun _ => True) (fun _ _ _ _ => trivial) _ nm a0 a1 w trivial (srcE [] a0 a1) (by simpa using he) hm (by omega) cL
        (Lib.hid fun W _ => Source_err_0 nm a0 a1 a cap W he) (Lib.hid fun W _ => Value_err_0 nm a0 a1 a cap W he) (Lib.hid fun W _ => atErr_any_0 a0 a1 a cap W)
end Go.Proofs.Ytfphedcgmaakjaa
