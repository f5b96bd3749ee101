/-
  What heldBy and Has return where the list is empty: contracts for all worlds.
-/
import Derived.Test.YtfphedcgmaakjabGreatDoorRefSrc2
import Derived.Test.YtfphedcgmaakjabGreatDoorHeld
import Derived.Test.YtfphedcgmaakjabGreatDoorEmpty
namespace Go.Proofs.YtfphedcgmaakjabGreatDoor
open Go.RowKit
attribute [local go_sem] set_drewN
end Go.Proofs.YtfphedcgmaakjabGreatDoor
namespace Go.Proofs.YtfphedcgmaakjabGreatDoor
open Go.RowKit Go.WideMaps Go.Maps
attribute [local go_sem] set_drewN
set_option maxRecDepth 100000 in
set_option maxHeartbeats 1000000 in
theorem heldBy_none_0 (nm : ByteArray) (a0 a1 : Int) (a : Option Addr) (cap : Nat) (w : World) (hs : nm.size ≤ maxLen) :
    Calls Tryz.prog 43 #[.slice a 0 cap, .string nm, .agg #[.int .i64 a0, .int .i64 a1]] w (RetB (.agg #[.int .i64 0, .bool false]) w) := by
  have hkey : keyOf Tryz.prog 9 (.string nm) = some (keyL nm) := keyOf_string_mk Tryz.underlying9 hs
  have HD0 : Hid (dec [] a0 a1 nm 0 = none) := Lib.hid rfl
  go_enter Tryz.func43, Tryz.ntmps43
  go_wp2_with fail
  refine (deciding_0 a a0 a1 cap _).mono ?_
  rintro e w1 ⟨rfl, ⟨D, hown, hD⟩, hb1⟩
  simp only [World.size_alloc] at hown
  have HD := Lib.hid hD; clear hD
  have hh : Maps.has D (keyL nm) = false := by (rw [(HD.out.2 nm).1, HD0.out]; rfl)
  have z0 : w1.cell? ⟨w.heap.size + 1, 0, none⟩ = some (.int .i64 0) := (hb1.cell (p := ⟨w.heap.size + 1, 0, none⟩) (by simp)).trans (by simp [go_sem])
  have z1 : w1.cell? ⟨w.heap.size + 1, 1, none⟩ = some (.bool false) := (hb1.cell (p := ⟨w.heap.size + 1, 1, none⟩) (by simp)).trans (by simp [go_sem])
  have y0 : w1.frozen? ⟨w.heap.size + 1, 0, none⟩ = false := (hb1.frozen (p := ⟨w.heap.size + 1, 0, none⟩) (by simp)).trans (by simp [go_sem])
  have y1 : w1.frozen? ⟨w.heap.size + 1, 1, none⟩ = false := (hb1.frozen (p := ⟨w.heap.size + 1, 1, none⟩) (by simp)).trans (by simp [go_sem])
  go_wp2_with (at_lookup; refine wpList_lookup_own_ok_int _ rfl _ _ 89 rfl 9 3 .i64 lawS Tryz.underlying89 Tryz.underlying3 (zeroInt _) (w.heap.size + 1 + 1 + 1) 0 D rfl hown _ _ rfl hkey ?_; intro c hat hwc; obtain rfl : c = (0 : Int) := by (have h0 := atKey_of_not_has hh (.lit (.int .i64 0)); rw [h0] at hat; injection hat with h1; injection h1 with _ h2; exact h2.symm))
  obtain ⟨g0, g1⟩ := cell_set2 z0 z1 (.int .i64 0) (.bool false)
  refine bodyPost_ret (v := .agg #[.int .i64 0, .bool false]) (by simp [results, Tryz.results43, go_sem, g0, g1]) rfl ⟨rfl, ?_⟩
  exact (((((Below.refl _ _).alloc (Nat.le_refl _) _).alloc (by simp) _).trans (hb1.mono (by simp; omega))).setCell (p := ⟨w.heap.size + 1, 0, none⟩) (by simp) _).setCell (p := ⟨w.heap.size + 1, 1, none⟩) (by simp) _
end Go.Proofs.YtfphedcgmaakjabGreatDoor
