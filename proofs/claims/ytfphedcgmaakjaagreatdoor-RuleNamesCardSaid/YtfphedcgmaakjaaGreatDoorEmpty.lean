/-
  What the functions on provisions return where the list is empty: contracts, each for all worlds.
-/
import Derived.Test.YtfphedcgmaakjaaGreatDoorRefSrc2
namespace Go.Proofs.YtfphedcgmaakjaaGreatDoor
open Go.RowKit Go.WideMaps Go.Maps
attribute [local go_sem] set_drewN
theorem cpE_nil : cpE [] = 0 := rfl
theorem CheckProvisions_0 (a : Option Addr) (cap : Nat) (w : World) : Calls Tryz.prog 18 #[.slice a 0 cap] w (RetB (.int .i64 (cpE [])) w) := by
  rw [cpE_nil]
  go_enter Tryz.func18, Tryz.ntmps18
  go_wp2
  go_loop [11] (fun i => i = .int .i64 0) (fun _ => 0)
  case atStart => exact rfl
  case round =>
    obtain rfl := hrel
    go_wp2
    go_ret
    exact ⟨rfl, Below.refl _ _⟩
theorem xCheckProvisions_0 (a : Option Addr) (cap : Nat) (w : World) : Calls Tryz.prog 24 #[.slice a 0 cap] w (RetB (.int .i64 (cpE [])) w) := by
  rw [cpE_nil]
  go_enter Tryz.func24, Tryz.ntmps24
  go_wp2
  go_loop [3] (fun i => i = .int .i64 0) (fun _ => 0)
  case atStart => exact rfl
  case round =>
    obtain rfl := hrel
    go_wp2
    go_ret
    exact ⟨rfl, Below.refl _ _⟩
theorem deciding_0 (a : Option Addr) (a0 a1 : Int) (cap : Nat) (w : World) :
    Calls Tryz.prog 20 #[.slice a 0 cap, .agg #[.int .i64 a0, .int .i64 a1]] w
      fun e w' => e = .returned (.map (some (w.heap.size + 1))) ∧ (∃ D, w'.ownsMap Tryz.prog 9 (plainElem Tryz.prog 3) (w.heap.size + 1) 0 D ∧ DecD [] a0 a1 0 D) ∧ Below w.heap.size w w' := by
  have hmm := @run_makeMap Tryz.prog
  go_enter Tryz.func20, Tryz.ntmps20
  go_wp2
  go_loop [13] (fun i => i = .int .i64 0) (fun _ => 0)
  case atStart => exact rfl
  case round =>
    obtain rfl := hrel
    go_wp2
    go_ret
    exact ⟨rfl, ⟨_, by have := World.ownsMap_made (H := Unit) (w.alloc (.cells #[.int .i64 a0, .int .i64 a1] 23)) Tryz.prog 9 (plainElem Tryz.prog 3); simpa using this, DecD_0 [] a0 a1⟩, ((Below.refl _ _).alloc (Nat.le_refl _) _).alloc (by simp) _⟩
theorem xSource_0 (a : Option Addr) (nm : ByteArray) (a0 a1 : Int) (cap : Nat) (w : World) :
    Calls Tryz.prog 46 #[.slice a 0 cap, .string nm, .agg #[.int .i64 a0, .int .i64 a1]] w (RetB (.int .i64 (srcI (dec [] a0 a1 nm 0))) w) := by
  have e : srcI (dec [] a0 a1 nm 0) = -1 := rfl
  rw [e]
  clear e
  go_enter Tryz.func46, Tryz.ntmps46
  go_wp2
  go_loop [7, 8] (fun b i => b = .int .i64 (-1) ∧ i = .int .i64 0) (fun _ _ => 0)
  case atStart => exact ⟨rfl, rfl⟩
  case round =>
    obtain ⟨rfl, rfl⟩ := hrel
    go_wp2
    go_ret
    exact ⟨rfl, (Below.refl _ _).alloc (Nat.le_refl _) _⟩
set_option maxRecDepth 100000 in
set_option maxHeartbeats 1000000 in
theorem Source_err_0 (nm : ByteArray) (a0 a1 : Int) (a : Option Addr) (cap : Nat) (w : World) (he : srcE [] a0 a1 ≠ 0) :
    Calls Tryz.prog 37 #[.slice a 0 cap, .string nm, .agg #[.int .i64 a0, .int .i64 a1]] w (RetB (two (.int .i64 0) (.int .i64 (srcE [] a0 a1))) w) := by
  generalize hr : srcE [] a0 a1 = r at *
  have hrb : (r != 0) = true := by simpa using he
  unfold srcE at hr
  have HR := Lib.hid hr
  clear hr he
  go_enter Tryz.func37, Tryz.ntmps37
  go_wp2
  go_region_held3 (fun w' => w'.cell? ⟨w.heap.size, 0, none⟩ = some (.int .i64 a0) ∧ w'.cell? ⟨w.heap.size, 1, none⟩ = some (.int .i64 a1)) (go_keep)
    (first
      | (go_at_call 18; refine (CheckProvisions_0 a cap _).mono ?_; rintro e w1 ⟨rfl, hb1⟩; have k0 : w1.cell? ⟨w.heap.size, 0, none⟩ = some (.int .i64 a0) := (hb1.cell (p := ⟨w.heap.size, 0, none⟩) (by simp)).trans (by simp [go_sem]); have k1 : w1.cell? ⟨w.heap.size, 1, none⟩ = some (.int .i64 a1) := (hb1.cell (p := ⟨w.heap.size, 1, none⟩) (by simp)).trans (by simp [go_sem]))
      | (go_at_call 19; refine (check2 a0 a1 _ _ _ (by assumption) (by assumption)).mono ?_; rintro e w' ⟨rfl, rfl⟩)
      | (go_at_call 17; refine (firstError_any [cpE [], cdE [a0, a1]] _ 0 2 _ (by simp) (IntsAt.cons (by simp [go_sem]) (IntsAt.one (by simp [go_sem])))).mono ?_; rintro e w' ⟨rfl, rfl⟩))
  all_goals
    rw [HR.out]
    go_wp2
    go_ret2
    exact ⟨rfl, ((below_dr ((Below.refl _ _).alloc (Nat.le_refl _) _)).trans (hb1.mono (by simp))).alloc (by have := hb1.size; simp at this; omega) _⟩
set_option maxRecDepth 100000 in
set_option maxHeartbeats 1000000 in
theorem Source_none_0 (nm : ByteArray) (a0 a1 : Int) (a : Option Addr) (cap : Nat) (w : World) (hs : nm.size ≤ maxLen) (he : srcE [] a0 a1 = 0) (hd : dec [] a0 a1 nm 0 = none) :
    Calls Tryz.prog 37 #[.slice a 0 cap, .string nm, .agg #[.int .i64 a0, .int .i64 a1]] w (RetB (two (.int .i64 0) (.int .i64 6)) w) := by
  unfold srcE at he
  have HR := Lib.hid he
  have HD0 := Lib.hid hd
  have hkey : keyOf Tryz.prog 9 (.string nm) = some (keyL nm) := keyOf_string_mk Tryz.underlying9 hs
  have e6 := eI_t 6
  have e0 := eI_f 6
  clear he hd
  go_enter Tryz.func37, Tryz.ntmps37
  go_wp2
  go_region_held3 (fun w' => w'.cell? ⟨w.heap.size, 0, none⟩ = some (.int .i64 a0) ∧ w'.cell? ⟨w.heap.size, 1, none⟩ = some (.int .i64 a1)) (go_keep)
    (first
      | (go_at_call 18; refine (CheckProvisions_0 a cap _).mono ?_; rintro e w1 ⟨rfl, hb1⟩; have k0 : w1.cell? ⟨w.heap.size, 0, none⟩ = some (.int .i64 a0) := (hb1.cell (p := ⟨w.heap.size, 0, none⟩) (by simp)).trans (by simp [go_sem]); have k1 : w1.cell? ⟨w.heap.size, 1, none⟩ = some (.int .i64 a1) := (hb1.cell (p := ⟨w.heap.size, 1, none⟩) (by simp)).trans (by simp [go_sem]))
      | (go_at_call 19; refine (check2 a0 a1 _ _ _ (by assumption) (by assumption)).mono ?_; rintro e w' ⟨rfl, rfl⟩)
      | (go_at_call 17; refine (firstError_any [cpE [], cdE [a0, a1]] _ 0 2 _ (by simp) (IntsAt.cons (by simp [go_sem]) (IntsAt.one (by simp [go_sem])))).mono ?_; rintro e w' ⟨rfl, rfl⟩))
  all_goals
    rw [HR.out]
    have HB1 := Lib.hid hb1
    have hz1 := hb1.size
    go_wp2_with (first
      | (go_at_call 20; refine (deciding_0 a a0 a1 cap _).mono ?_; rintro e w2 ⟨rfl, ⟨D, hown, hD⟩, hb2⟩; rw [World.size_alloc] at hown; have HD := Lib.hid hD; clear hD; have hh : Maps.has D (keyL nm) = false := by (rw [(HD.out.2 nm).1, HD0.out]; rfl))
      | (at_lookup; refine wpList_lookup_own_ok_int _ rfl _ _ 51 rfl 9 3 .i64 lawS Tryz.underlying51 Tryz.underlying3 (zeroInt _) (w1.heap.size + 1 + 1) 0 D rfl hown _ _ rfl hkey ?_; intro c hat hwc; obtain rfl : c = (0 : Int) := by (have h0 := atKey_of_not_has hh (.lit (.int .i64 0)); rw [h0] at hat; injection hat with h1; injection h1 with _ h2; exact h2.symm))
      | (go_at_call 38; refine (errorIf_any _ _ _).mono ?_; rintro e w' ⟨rfl, rfl⟩))
    go_ret2
    exact ⟨rfl, (((below_dr ((Below.refl _ _).alloc (Nat.le_refl _) _)).trans (hb1.mono (by simp))).alloc (by simp at hz1; omega) _).trans (hb2.mono (by simp at hz1 ⊢; omega))⟩
set_option maxRecDepth 100000 in
set_option maxHeartbeats 1000000 in
theorem Value_err_0 (nm : ByteArray) (a0 a1 : Int) (a : Option Addr) (cap : Nat) (w : World) (he : srcE [] a0 a1 ≠ 0) :
    Calls Tryz.prog 15 #[.slice a 0 cap, .string nm, .agg #[.int .i64 a0, .int .i64 a1]] w (RetB (two (.int .i64 0) (.int .i64 (srcE [] a0 a1))) w) := by
  have hs := Source_err_0 nm a0 a1 a cap (w.alloc (.cells #[.int .i64 a0, .int .i64 a1] 23)) he
  generalize hr : srcE [] a0 a1 = r at *
  have hrb : (r != 0) = true := by simpa using he
  have HS := Lib.hid hs
  clear hr he hs
  go_enter Tryz.func15, Tryz.ntmps15
  go_wp2_with (go_at_call 37; refine (HS.out).mono ?_; rintro e w1 ⟨rfl, hb1⟩)
  go_ret2
  exact ⟨rfl, ((Below.refl _ _).alloc (Nat.le_refl _) _).trans (hb1.mono (by simp))⟩
set_option maxRecDepth 100000 in
set_option maxHeartbeats 1000000 in
theorem Value_none_0 (nm : ByteArray) (a0 a1 : Int) (a : Option Addr) (cap : Nat) (w : World) (hsz : nm.size ≤ maxLen) (he : srcE [] a0 a1 = 0) (hd : dec [] a0 a1 nm 0 = none) :
    Calls Tryz.prog 15 #[.slice a 0 cap, .string nm, .agg #[.int .i64 a0, .int .i64 a1]] w (RetB (two (.int .i64 0) (.int .i64 6)) w) := by
  have hs := Source_none_0 nm a0 a1 a cap (w.alloc (.cells #[.int .i64 a0, .int .i64 a1] 23)) hsz he hd
  have HS := Lib.hid hs
  clear he hs hd
  go_enter Tryz.func15, Tryz.ntmps15
  go_wp2_with (go_at_call 37; refine (HS.out).mono ?_; rintro e w1 ⟨rfl, hb1⟩)
  go_ret2
  exact ⟨rfl, ((Below.refl _ _).alloc (Nat.le_refl _) _).trans (hb1.mono (by simp))⟩
set_option maxRecDepth 100000 in
set_option maxHeartbeats 1000000 in
theorem atErr_any_0 (a0 a1 : Int) (a : Option Addr) (cap : Nat) (w : World) :
    Calls Tryz.prog 8 #[.slice a 0 cap, .agg #[.int .i64 a0, .int .i64 a1]] w (RetB (.int .i64 (srcE [] a0 a1)) w) := by
  have HX := Lib.hid (xCheckProvisions_0 a cap (w.alloc (.cells #[.int .i64 a0, .int .i64 a1] 23)))
  by_cases hz : cpE [] = 0
  · rw [srcE_2 hz]
    rw [hz] at HX
    have HX := HX
    clear hz
    cases h0 : inB a0 0 200000
    · rw [cdE_2n (Or.inl h0)]
      go_enter Tryz.func8, Tryz.ntmps8
      go_wp2_with (first
        | (go_at_call 24; refine (HX.out).mono ?_; rintro e w1 ⟨rfl, hb1⟩; obtain ⟨hc1, hf1⟩ := bcell hb1)
        | (go_at_call 25; refine (xIsDay_any _ _).mono ?_; rintro e w' ⟨rfl, rfl⟩))
      go_ret
      exact ⟨rfl, ((Below.refl _ _).alloc (Nat.le_refl _) _).trans (hb1.mono (by simp))⟩
    · cases h1 : inB a1 0 200000
      · rw [cdE_2n (Or.inr h1)]
        go_enter Tryz.func8, Tryz.ntmps8
        go_wp2_with (first
          | (go_at_call 24; refine (HX.out).mono ?_; rintro e w1 ⟨rfl, hb1⟩; obtain ⟨hc1, hf1⟩ := bcell hb1)
          | (go_at_call 25; refine (xIsDay_any _ _).mono ?_; rintro e w' ⟨rfl, rfl⟩))
        go_ret
        exact ⟨rfl, ((Below.refl _ _).alloc (Nat.le_refl _) _).trans (hb1.mono (by simp))⟩
      · rw [cdE_2 h0 h1]
        go_enter Tryz.func8, Tryz.ntmps8
        go_wp2_with (first
          | (go_at_call 24; refine (HX.out).mono ?_; rintro e w1 ⟨rfl, hb1⟩; obtain ⟨hc1, hf1⟩ := bcell hb1)
          | (go_at_call 25; refine (xIsDay_any _ _).mono ?_; rintro e w' ⟨rfl, rfl⟩))
        go_ret
        exact ⟨rfl, ((Below.refl _ _).alloc (Nat.le_refl _) _).trans (hb1.mono (by simp))⟩
  · rw [srcE_1 hz]
    generalize cpE [] = r at *
    have hrb : (r != 0) = true := by simpa using hz
    clear hz
    go_enter Tryz.func8, Tryz.ntmps8
    go_wp2_with (go_at_call 24; refine (HX.out).mono ?_; rintro e w1 ⟨rfl, hb1⟩)
    go_ret
    exact ⟨rfl, ((Below.refl _ _).alloc (Nat.le_refl _) _).trans (hb1.mono (by simp))⟩
end Go.Proofs.YtfphedcgmaakjaaGreatDoor
