/-
  What the functions on provisions return where the list is empty: contracts, each for all worlds.
-/
import Derived.Test.YtpfekgmimfkjcaaGreatDoorRefSrc2
namespace Go.Proofs.YtpfekgmimfkjcaaGreatDoor
open Go.RowKit Go.WideMaps Go.Maps
attribute [local go_sem] set_drewN
theorem cpE_nil : cpE [] = 0 := rfl
theorem CheckProvisions_0 (a : Option Addr) (cap : Nat) (w : World) : Calls Tryz.prog 33 #[.slice a 0 cap] w (RetB (.int .i64 (cpE [])) w) := by
  rw [cpE_nil]
  go_enter Tryz.func33, Tryz.ntmps33
  go_wp2
  go_loop [11] (fun i => i = .int .i64 0) (fun _ => 0)
  case atStart => exact rfl
  case round =>
    obtain rfl := hrel
    go_wp2
    go_ret
    exact ⟨rfl, Below.refl _ _⟩
theorem xCheckProvisions_0 (a : Option Addr) (cap : Nat) (w : World) : Calls Tryz.prog 16 #[.slice a 0 cap] w (RetB (.int .i64 (cpE [])) w) := by
  rw [cpE_nil]
  go_enter Tryz.func16, Tryz.ntmps16
  go_wp2
  go_loop [3] (fun i => i = .int .i64 0) (fun _ => 0)
  case atStart => exact rfl
  case round =>
    obtain rfl := hrel
    go_wp2
    go_ret
    exact ⟨rfl, Below.refl _ _⟩
theorem deciding_0 (a : Option Addr) (a0 a1 : Int) (cap : Nat) (w : World) :
    Calls Tryz.prog 62 #[.slice a 0 cap, .agg #[.int .i64 a0, .int .i64 a1]] w
      fun e w' => e = .returned (.map (some (w.heap.size + 1))) ∧ (∃ D, w'.ownsMap Tryz.prog 9 (plainElem Tryz.prog 3) (w.heap.size + 1) 0 D ∧ DecD [] a0 a1 0 D) ∧ Below w.heap.size w w' := by
  have hmm := @run_makeMap Tryz.prog
  go_enter Tryz.func62, Tryz.ntmps62
  go_wp2
  go_loop [13] (fun i => i = .int .i64 0) (fun _ => 0)
  case atStart => exact rfl
  case round =>
    obtain rfl := hrel
    go_wp2
    go_ret
    exact ⟨rfl, ⟨_, by have := World.ownsMap_made (H := Unit) (w.alloc (.cells #[.int .i64 a0, .int .i64 a1] 53)) Tryz.prog 9 (plainElem Tryz.prog 3); simpa using this, DecD_0 [] a0 a1⟩, ((Below.refl _ _).alloc (Nat.le_refl _) _).alloc (by simp) _⟩
set_option maxRecDepth 100000 in
set_option maxHeartbeats 1000000 in
theorem Source_err_0 (nm : ByteArray) (a0 a1 : Int) (a : Option Addr) (cap : Nat) (w : World) (he : srcE [] a0 a1 ≠ 0) :
    Calls Tryz.prog 45 #[.slice a 0 cap, .string nm, .agg #[.int .i64 a0, .int .i64 a1]] w (RetB (two (.int .i64 0) (.int .i64 (srcE [] a0 a1))) w) := by
  generalize hr : srcE [] a0 a1 = r at *
  have hrb : (r != 0) = true := by simpa using he
  unfold srcE at hr
  have HR := Lib.hid hr
  clear hr he
  go_enter Tryz.func45, Tryz.ntmps45
  go_wp2
  go_region_held3 (fun w' => w'.cell? ⟨w.heap.size, 0, none⟩ = some (.int .i64 a0) ∧ w'.cell? ⟨w.heap.size, 1, none⟩ = some (.int .i64 a1)) (go_keep)
    (first
      | (go_at_call 33; refine (CheckProvisions_0 a cap _).mono ?_; rintro e w1 ⟨rfl, hb1⟩; have k0 : w1.cell? ⟨w.heap.size, 0, none⟩ = some (.int .i64 a0) := (hb1.cell (p := ⟨w.heap.size, 0, none⟩) (by simp)).trans (by simp [go_sem]); have k1 : w1.cell? ⟨w.heap.size, 1, none⟩ = some (.int .i64 a1) := (hb1.cell (p := ⟨w.heap.size, 1, none⟩) (by simp)).trans (by simp [go_sem]))
      | (go_at_call 43; refine (check2 a0 a1 _ _ _ (by assumption) (by assumption)).mono ?_; rintro e w' ⟨rfl, rfl⟩)
      | (go_at_call 24; refine (firstError_any [cpE [], cdE [a0, a1]] _ 0 2 _ (by simp) (IntsAt.cons (by simp [go_sem]) (IntsAt.one (by simp [go_sem])))).mono ?_; rintro e w' ⟨rfl, rfl⟩))
  all_goals
    rw [HR.out]
    go_wp2
    go_ret2
    exact ⟨rfl, ((below_dr ((Below.refl _ _).alloc (Nat.le_refl _) _)).trans (hb1.mono (by simp))).alloc (by have := hb1.size; simp at this; omega) _⟩
set_option maxRecDepth 100000 in
set_option maxHeartbeats 1000000 in
theorem Source_none_0 (nm : ByteArray) (a0 a1 : Int) (a : Option Addr) (cap : Nat) (w : World) (hs : nm.size ≤ maxLen) (he : srcE [] a0 a1 = 0) (hd : dec [] a0 a1 nm 0 = none) :
    Calls Tryz.prog 45 #[.slice a 0 cap, .string nm, .agg #[.int .i64 a0, .int .i64 a1]] w (RetB (two (.int .i64 0) (.int .i64 6)) w) := by
  unfold srcE at he
  have HR := Lib.hid he
  have HD0 := Lib.hid hd
  have hkey : keyOf Tryz.prog 9 (.string nm) = some (keyL nm) := keyOf_string_mk Tryz.underlying9 hs
  have e6 := eI_t 6
  have e0 := eI_f 6
  clear he hd
  go_enter Tryz.func45, Tryz.ntmps45
  go_wp2
  go_region_held3 (fun w' => w'.cell? ⟨w.heap.size, 0, none⟩ = some (.int .i64 a0) ∧ w'.cell? ⟨w.heap.size, 1, none⟩ = some (.int .i64 a1)) (go_keep)
    (first
      | (go_at_call 33; refine (CheckProvisions_0 a cap _).mono ?_; rintro e w1 ⟨rfl, hb1⟩; have k0 : w1.cell? ⟨w.heap.size, 0, none⟩ = some (.int .i64 a0) := (hb1.cell (p := ⟨w.heap.size, 0, none⟩) (by simp)).trans (by simp [go_sem]); have k1 : w1.cell? ⟨w.heap.size, 1, none⟩ = some (.int .i64 a1) := (hb1.cell (p := ⟨w.heap.size, 1, none⟩) (by simp)).trans (by simp [go_sem]))
      | (go_at_call 43; refine (check2 a0 a1 _ _ _ (by assumption) (by assumption)).mono ?_; rintro e w' ⟨rfl, rfl⟩)
      | (go_at_call 24; refine (firstError_any [cpE [], cdE [a0, a1]] _ 0 2 _ (by simp) (IntsAt.cons (by simp [go_sem]) (IntsAt.one (by simp [go_sem])))).mono ?_; rintro e w' ⟨rfl, rfl⟩))
  all_goals
    rw [HR.out]
    have HB1 := Lib.hid hb1
    have hz1 := hb1.size
    go_wp2_with (first
      | (go_at_call 62; refine (deciding_0 a a0 a1 cap _).mono ?_; rintro e w2 ⟨rfl, ⟨D, hown, hD⟩, hb2⟩; rw [World.size_alloc] at hown; have HD := Lib.hid hD; clear hD; have hh : Maps.has D (keyL nm) = false := by (rw [(HD.out.2 nm).1, HD0.out]; rfl))
      | (at_lookup; refine wpList_lookup_own_ok_int _ rfl _ _ 92 rfl 9 3 .i64 lawS Tryz.underlying92 Tryz.underlying3 (zeroInt _) (w1.heap.size + 1 + 1) 0 D rfl hown _ _ rfl hkey ?_; intro c hat hwc; obtain rfl : c = (0 : Int) := by (have h0 := atKey_of_not_has hh (.lit (.int .i64 0)); rw [h0] at hat; injection hat with h1; injection h1 with _ h2; exact h2.symm))
      | (go_at_call 46; refine (errorIf_any _ _ _).mono ?_; rintro e w' ⟨rfl, rfl⟩))
    go_ret2
    exact ⟨rfl, (((below_dr ((Below.refl _ _).alloc (Nat.le_refl _) _)).trans (hb1.mono (by simp))).alloc (by simp at hz1; omega) _).trans (hb2.mono (by simp at hz1 ⊢; omega))⟩
set_option maxRecDepth 100000 in
set_option maxHeartbeats 1000000 in
theorem Value_err_0 (nm : ByteArray) (a0 a1 : Int) (a : Option Addr) (cap : Nat) (w : World) (he : srcE [] a0 a1 ≠ 0) :
    Calls Tryz.prog 21 #[.slice a 0 cap, .string nm, .agg #[.int .i64 a0, .int .i64 a1]] w (RetB (two (.int .i64 0) (.int .i64 (srcE [] a0 a1))) w) := by
  have hs := Source_err_0 nm a0 a1 a cap (w.alloc (.cells #[.int .i64 a0, .int .i64 a1] 53)) he
  generalize hr : srcE [] a0 a1 = r at *
  have hrb : (r != 0) = true := by simpa using he
  have HS := Lib.hid hs
  clear hr he hs
  go_enter Tryz.func21, Tryz.ntmps21
  go_wp2_with (go_at_call 45; refine (HS.out).mono ?_; rintro e w1 ⟨rfl, hb1⟩)
  go_ret2
  exact ⟨rfl, ((Below.refl _ _).alloc (Nat.le_refl _) _).trans (hb1.mono (by simp))⟩
set_option maxRecDepth 100000 in
set_option maxHeartbeats 1000000 in
theorem Value_none_0 (nm : ByteArray) (a0 a1 : Int) (a : Option Addr) (cap : Nat) (w : World) (hsz : nm.size ≤ maxLen) (he : srcE [] a0 a1 = 0) (hd : dec [] a0 a1 nm 0 = none) :
    Calls Tryz.prog 21 #[.slice a 0 cap, .string nm, .agg #[.int .i64 a0, .int .i64 a1]] w (RetB (two (.int .i64 0) (.int .i64 6)) w) := by
  have hs := Source_none_0 nm a0 a1 a cap (w.alloc (.cells #[.int .i64 a0, .int .i64 a1] 53)) hsz he hd
  have HS := Lib.hid hs
  clear he hs hd
  go_enter Tryz.func21, Tryz.ntmps21
  go_wp2_with (go_at_call 45; refine (HS.out).mono ?_; rintro e w1 ⟨rfl, hb1⟩)
  go_ret2
  exact ⟨rfl, ((Below.refl _ _).alloc (Nat.le_refl _) _).trans (hb1.mono (by simp))⟩
end Go.Proofs.YtpfekgmimfkjcaaGreatDoor
