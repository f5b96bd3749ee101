/-
  What Source and Value of package rule return: contracts, each for all worlds in which the list lies in one block.
-/
import Derived.Test.YtpfekgmimfkjcaaGreatDoorDecide
namespace Go.Proofs.YtpfekgmimfkjcaaGreatDoor
open Go.RowKit Go.WideMaps Go.Maps
attribute [local go_sem] set_drewN
theorem below_dr {B : Nat} {a w : World} (h : Below B a w) : Below B a w.drew := ⟨h.os, h.tape, h.output, h.size, h.block⟩
/-- the error of a list and a pair of days -/
def srcE (l : List Pv) (a0 a1 : Int) : Int := feE [cpE l, cdE [a0, a1]]
set_option maxRecDepth 100000 in
set_option maxHeartbeats 1000000 in
theorem Source_err (l : List Pv) (nm : ByteArray) (a0 a1 : Int) (b o cap : Nat) (w : World) (hl : l.length ≤ 1000000) (hc : PvsAt w b o l) (he : srcE l a0 a1 ≠ 0) :
    Calls Tryz.prog 45 #[.slice (some ⟨b, o, none⟩) l.length cap, .string nm, .agg #[.int .i64 a0, .int .i64 a1]] w (RetB (two (.int .i64 0) (.int .i64 (srcE l a0 a1))) w) := by
  generalize hr : srcE l a0 a1 = r at *
  have hrb : (r != 0) = true := by simpa using he
  unfold srcE at hr
  have HR := Lib.hid hr
  have HC := Lib.hid hc
  clear hc hr he
  go_enter Tryz.func45, Tryz.ntmps45
  go_wp2
  go_region_held3 (fun w' => w'.cell? ⟨w.heap.size, 0, none⟩ = some (.int .i64 a0) ∧ w'.cell? ⟨w.heap.size, 1, none⟩ = some (.int .i64 a1)) (go_keep)
    (first
      | (go_at_call 33; refine (CheckProvisions_any l b o cap _ hl (by exact HC.out.below (below_dr ((Below.refl _ _).alloc (Nat.le_refl _) _)))).mono ?_; rintro e w1 ⟨rfl, hb1⟩; have k0 : w1.cell? ⟨w.heap.size, 0, none⟩ = some (.int .i64 a0) := (hb1.cell (p := ⟨w.heap.size, 0, none⟩) (by simp)).trans (by simp [go_sem]); have k1 : w1.cell? ⟨w.heap.size, 1, none⟩ = some (.int .i64 a1) := (hb1.cell (p := ⟨w.heap.size, 1, none⟩) (by simp)).trans (by simp [go_sem]))
      | (go_at_call 43; refine (check2 a0 a1 _ _ _ (by assumption) (by assumption)).mono ?_; rintro e w' ⟨rfl, rfl⟩)
      | (go_at_call 24; refine (firstError_any [cpE l, cdE [a0, a1]] _ 0 2 _ (by simp) (IntsAt.cons (by simp [go_sem]) (IntsAt.one (by simp [go_sem])))).mono ?_; rintro e w' ⟨rfl, rfl⟩))
  all_goals
    rw [HR.out]
    go_wp2
    go_ret2
    exact ⟨rfl, ((below_dr ((Below.refl _ _).alloc (Nat.le_refl _) _)).trans (hb1.mono (by simp))).alloc (by have := hb1.size; simp at this; omega) _⟩
set_option maxRecDepth 100000 in
set_option maxHeartbeats 1000000 in
theorem Source_none (l : List Pv) (nm : ByteArray) (a0 a1 : Int) (b o cap : Nat) (w : World) (hl : l.length ≤ 1000000) (hs : nm.size ≤ maxLen) (hc : PvsAt w b o l) (he : srcE l a0 a1 = 0) (hd : dec l a0 a1 nm l.length = none) :
    Calls Tryz.prog 45 #[.slice (some ⟨b, o, none⟩) l.length cap, .string nm, .agg #[.int .i64 a0, .int .i64 a1]] w (RetB (two (.int .i64 0) (.int .i64 6)) w) := by
  unfold srcE at he
  have HR := Lib.hid he
  have HC := Lib.hid hc
  have HD0 := Lib.hid hd
  have hkey : keyOf Tryz.prog 9 (.string nm) = some (keyL nm) := keyOf_string_mk Tryz.underlying9 hs
  have e6 := eI_t 6
  have e0 := eI_f 6
  clear hc he hd
  go_enter Tryz.func45, Tryz.ntmps45
  go_wp2
  go_region_held3 (fun w' => w'.cell? ⟨w.heap.size, 0, none⟩ = some (.int .i64 a0) ∧ w'.cell? ⟨w.heap.size, 1, none⟩ = some (.int .i64 a1)) (go_keep)
    (first
      | (go_at_call 33; refine (CheckProvisions_any l b o cap _ hl (by exact HC.out.below (below_dr ((Below.refl _ _).alloc (Nat.le_refl _) _)))).mono ?_; rintro e w1 ⟨rfl, hb1⟩; have k0 : w1.cell? ⟨w.heap.size, 0, none⟩ = some (.int .i64 a0) := (hb1.cell (p := ⟨w.heap.size, 0, none⟩) (by simp)).trans (by simp [go_sem]); have k1 : w1.cell? ⟨w.heap.size, 1, none⟩ = some (.int .i64 a1) := (hb1.cell (p := ⟨w.heap.size, 1, none⟩) (by simp)).trans (by simp [go_sem]))
      | (go_at_call 43; refine (check2 a0 a1 _ _ _ (by assumption) (by assumption)).mono ?_; rintro e w' ⟨rfl, rfl⟩)
      | (go_at_call 24; refine (firstError_any [cpE l, cdE [a0, a1]] _ 0 2 _ (by simp) (IntsAt.cons (by simp [go_sem]) (IntsAt.one (by simp [go_sem])))).mono ?_; rintro e w' ⟨rfl, rfl⟩))
  all_goals
    rw [HR.out]
    have HB1 := Lib.hid hb1
    have hz1 := hb1.size
    go_wp2_with (first
      | (go_at_call 62; refine (deciding_any l a0 a1 b o cap _ hl (by exact (HC.out.below ((below_dr ((Below.refl _ _).alloc (Nat.le_refl _) _)).trans (hb1.mono (by simp)))).below ((Below.refl _ _).alloc (Nat.le_refl _) _))).mono ?_; rintro e w2 ⟨rfl, ⟨D, hown, hD⟩, hb2⟩; rw [World.size_alloc] at hown; have HD := Lib.hid hD; clear hD; have hh : Maps.has D (keyL nm) = false := by (rw [(HD.out.2 nm).1, HD0.out]; rfl))
      | (at_lookup; refine wpList_lookup_own_ok_int _ rfl _ _ 92 rfl 9 3 .i64 lawS Tryz.underlying92 Tryz.underlying3 (zeroInt _) (w1.heap.size + 1 + 1) l.length D rfl hown _ _ rfl hkey ?_; intro c hat hwc; obtain rfl : c = (0 : Int) := by (have h0 := atKey_of_not_has hh (.lit (.int .i64 0)); rw [h0] at hat; injection hat with h1; injection h1 with _ h2; exact h2.symm))
      | (go_at_call 46; refine (errorIf_any _ _ _).mono ?_; rintro e w' ⟨rfl, rfl⟩))
    go_ret2
    exact ⟨rfl, (((below_dr ((Below.refl _ _).alloc (Nat.le_refl _) _)).trans (hb1.mono (by simp))).alloc (by simp at hz1; omega) _).trans (hb2.mono (by simp at hz1 ⊢; omega))⟩
set_option maxRecDepth 100000 in
set_option maxHeartbeats 1000000 in
theorem Source_some (l : List Pv) (nm : ByteArray) (a0 a1 : Int) (b o cap : Nat) (w : World) (hl : l.length ≤ 1000000) (hs : nm.size ≤ maxLen) (hc : PvsAt w b o l) (he : srcE l a0 a1 = 0) (i : Nat) (hd : dec l a0 a1 nm l.length = some i) :
    Calls Tryz.prog 45 #[.slice (some ⟨b, o, none⟩) l.length cap, .string nm, .agg #[.int .i64 a0, .int .i64 a1]] w (RetB (two (.int .i64 i) (.int .i64 0)) w) := by
  unfold srcE at he
  have HR := Lib.hid he
  have HC := Lib.hid hc
  have HD0 := Lib.hid hd
  have hkey : keyOf Tryz.prog 9 (.string nm) = some (keyL nm) := keyOf_string_mk Tryz.underlying9 hs
  have e6 := eI_t 6
  have e0 := eI_f 6
  clear hc he hd
  go_enter Tryz.func45, Tryz.ntmps45
  go_wp2
  go_region_held3 (fun w' => w'.cell? ⟨w.heap.size, 0, none⟩ = some (.int .i64 a0) ∧ w'.cell? ⟨w.heap.size, 1, none⟩ = some (.int .i64 a1)) (go_keep)
    (first
      | (go_at_call 33; refine (CheckProvisions_any l b o cap _ hl (by exact HC.out.below (below_dr ((Below.refl _ _).alloc (Nat.le_refl _) _)))).mono ?_; rintro e w1 ⟨rfl, hb1⟩; have k0 : w1.cell? ⟨w.heap.size, 0, none⟩ = some (.int .i64 a0) := (hb1.cell (p := ⟨w.heap.size, 0, none⟩) (by simp)).trans (by simp [go_sem]); have k1 : w1.cell? ⟨w.heap.size, 1, none⟩ = some (.int .i64 a1) := (hb1.cell (p := ⟨w.heap.size, 1, none⟩) (by simp)).trans (by simp [go_sem]))
      | (go_at_call 43; refine (check2 a0 a1 _ _ _ (by assumption) (by assumption)).mono ?_; rintro e w' ⟨rfl, rfl⟩)
      | (go_at_call 24; refine (firstError_any [cpE l, cdE [a0, a1]] _ 0 2 _ (by simp) (IntsAt.cons (by simp [go_sem]) (IntsAt.one (by simp [go_sem])))).mono ?_; rintro e w' ⟨rfl, rfl⟩))
  all_goals
    rw [HR.out]
    have HB1 := Lib.hid hb1
    have hz1 := hb1.size
    go_wp2_with (first
      | (go_at_call 62; refine (deciding_any l a0 a1 b o cap _ hl (by exact (HC.out.below ((below_dr ((Below.refl _ _).alloc (Nat.le_refl _) _)).trans (hb1.mono (by simp)))).below ((Below.refl _ _).alloc (Nat.le_refl _) _))).mono ?_; rintro e w2 ⟨rfl, ⟨D, hown, hD⟩, hb2⟩; rw [World.size_alloc] at hown; have HD := Lib.hid hD; clear hD; have hh : Maps.has D (keyL nm) = true := by (rw [(HD.out.2 nm).1, HD0.out]; rfl))
      | (at_lookup; refine wpList_lookup_own_ok_int _ rfl _ _ 92 rfl 9 3 .i64 lawS Tryz.underlying92 Tryz.underlying3 (zeroInt _) (w1.heap.size + 1 + 1) l.length D rfl hown _ _ rfl hkey ?_; intro c hat hwc; obtain rfl : c = (i : Int) := by (rw [(HD.out.2 nm).2 i HD0.out] at hat; injection hat with h1; injection h1 with _ h2; exact h2.symm))
      | (go_at_call 46; refine (errorIf_any _ _ _).mono ?_; rintro e w' ⟨rfl, rfl⟩))
    go_ret2
    exact ⟨rfl, (((below_dr ((Below.refl _ _).alloc (Nat.le_refl _) _)).trans (hb1.mono (by simp))).alloc (by simp at hz1; omega) _).trans (hb2.mono (by simp at hz1 ⊢; omega))⟩
end Go.Proofs.YtpfekgmimfkjcaaGreatDoor
