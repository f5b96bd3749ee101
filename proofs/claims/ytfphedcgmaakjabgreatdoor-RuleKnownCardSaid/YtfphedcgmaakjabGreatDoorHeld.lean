/-
  What heldBy of package rule returns: contracts, each for all worlds in which the list lies in one block.
-/
import Derived.Test.YtfphedcgmaakjabGreatDoorValue
namespace Go.Proofs.YtfphedcgmaakjabGreatDoor
open Go.RowKit Go.WideMaps Go.Maps
attribute [local go_sem] set_drewN
theorem cell_set2 {W : World} {b : Nat} {x0 x1 : Value} (h0 : W.cell? ⟨b, 0, none⟩ = some x0) (h1 : W.cell? ⟨b, 1, none⟩ = some x1) (y0 y1 : Value) :
    (W.setCell ⟨b, 0, none⟩ y0).cell? ⟨b, 0, none⟩ = some y0 ∧ ((W.setCell ⟨b, 0, none⟩ y0).setCell ⟨b, 1, none⟩ y1).cell? ⟨b, 1, none⟩ = some y1 := by
  have a1 : (W.setCell ⟨b, 0, none⟩ y0).cell? ⟨b, 1, none⟩ = some x1 := (World.cell?_setCell_other _ _ _ _ (by simp)).trans h1
  exact ⟨World.cell?_setCell_same _ _ _ h0, World.cell?_setCell_same _ _ _ a1⟩
set_option maxRecDepth 100000 in
set_option maxHeartbeats 1000000 in
theorem heldBy_none (l : List Pv) (nm : ByteArray) (a0 a1 : Int) (b o cap : Nat) (w : World) (hl : l.length ≤ 1000000) (hs : nm.size ≤ maxLen) (hc : PvsAt w b o l) (hd : dec l a0 a1 nm l.length = none) :
    Calls Tryz.prog 43 #[.slice (some ⟨b, o, none⟩) l.length cap, .string nm, .agg #[.int .i64 a0, .int .i64 a1]] w (RetB (.agg #[.int .i64 0, .bool false]) w) := by
  have hkey : keyOf Tryz.prog 9 (.string nm) = some (keyL nm) := keyOf_string_mk Tryz.underlying9 hs
  have HD0 := Lib.hid hd
  have HC := Lib.hid hc
  clear hc hd
  go_enter Tryz.func43, Tryz.ntmps43
  go_wp2_with fail
  refine (deciding_any l a0 a1 b o cap _ hl (by exact HC.out.below (((Below.refl _ _).alloc (Nat.le_refl _) _).alloc (by simp) _))).mono ?_
  rintro e w1 ⟨rfl, ⟨D, hown, hD⟩, hb1⟩
  simp only [World.size_alloc] at hown
  have HD := Lib.hid hD; clear hD
  have hh : Maps.has D (keyL nm) = false := by (rw [(HD.out.2 nm).1, HD0.out]; rfl)
  have z0 : w1.cell? ⟨w.heap.size + 1, 0, none⟩ = some (.int .i64 0) := (hb1.cell (p := ⟨w.heap.size + 1, 0, none⟩) (by simp)).trans (by simp [go_sem])
  have z1 : w1.cell? ⟨w.heap.size + 1, 1, none⟩ = some (.bool false) := (hb1.cell (p := ⟨w.heap.size + 1, 1, none⟩) (by simp)).trans (by simp [go_sem])
  have y0 : w1.frozen? ⟨w.heap.size + 1, 0, none⟩ = false := (hb1.frozen (p := ⟨w.heap.size + 1, 0, none⟩) (by simp)).trans (by simp [go_sem])
  have y1 : w1.frozen? ⟨w.heap.size + 1, 1, none⟩ = false := (hb1.frozen (p := ⟨w.heap.size + 1, 1, none⟩) (by simp)).trans (by simp [go_sem])
  go_wp2_with (at_lookup; refine wpList_lookup_own_ok_int _ rfl _ _ 89 rfl 9 3 .i64 lawS Tryz.underlying89 Tryz.underlying3 (zeroInt _) (w.heap.size + 1 + 1 + 1) l.length D rfl hown _ _ rfl hkey ?_; intro c hat hwc; obtain rfl : c = (0 : Int) := by (have h0 := atKey_of_not_has hh (.lit (.int .i64 0)); rw [h0] at hat; injection hat with h1; injection h1 with _ h2; exact h2.symm))
  obtain ⟨g0, g1⟩ := cell_set2 z0 z1 (.int .i64 0) (.bool false)
  refine bodyPost_ret (v := .agg #[.int .i64 0, .bool false]) (by simp [results, Tryz.results43, go_sem, g0, g1]) rfl ⟨rfl, ?_⟩
  exact (((((Below.refl _ _).alloc (Nat.le_refl _) _).alloc (by simp) _).trans (hb1.mono (by simp; omega))).setCell (p := ⟨w.heap.size + 1, 0, none⟩) (by simp) _).setCell (p := ⟨w.heap.size + 1, 1, none⟩) (by simp) _
set_option maxRecDepth 100000 in
set_option maxHeartbeats 1000000 in
theorem heldBy_rep (l : List Pv) (nm : ByteArray) (a0 a1 : Int) (b o cap : Nat) (w : World) (hl : l.length ≤ 1000000) (hs : nm.size ≤ maxLen) (hc : PvsAt w b o l) (i : Nat) (p : Pv) (hil0 : i < l.length) (hp : l[i] = p) (hrep : p.repeal = true) (hd : dec l a0 a1 nm l.length = some i) :
    Calls Tryz.prog 43 #[.slice (some ⟨b, o, none⟩) l.length cap, .string nm, .agg #[.int .i64 a0, .int .i64 a1]] w (RetB (.agg #[.int .i64 0, .bool false]) w) := by
  have hkey : keyOf Tryz.prog 9 (.string nm) = some (keyL nm) := keyOf_string_mk Tryz.underlying9 hs
  obtain ⟨hik, hil⟩ := dec_lt l a0 a1 nm l.length i hd
  obtain ⟨⟨_, _, _, _, q4⟩, _⟩ := hc.2 i hil
  have hbl := hc.1
  rw [hp] at q4
  rw [hrep] at q4
  have HD0 := Lib.hid hd
  have HC := Lib.hid hc
  clear hc hd
  go_enter Tryz.func43, Tryz.ntmps43
  go_wp2_with fail
  refine (deciding_any l a0 a1 b o cap _ hl (by exact HC.out.below (((Below.refl _ _).alloc (Nat.le_refl _) _).alloc (by simp) _))).mono ?_
  rintro e w1 ⟨rfl, ⟨D, hown, hD⟩, hb1⟩
  simp only [World.size_alloc] at hown
  have HD := Lib.hid hD; clear hD
  have hh : Maps.has D (keyL nm) = true := by (rw [(HD.out.2 nm).1, HD0.out]; rfl)
  have z0 : w1.cell? ⟨w.heap.size + 1, 0, none⟩ = some (.int .i64 0) := (hb1.cell (p := ⟨w.heap.size + 1, 0, none⟩) (by simp)).trans (by simp [go_sem])
  have z1 : w1.cell? ⟨w.heap.size + 1, 1, none⟩ = some (.bool false) := (hb1.cell (p := ⟨w.heap.size + 1, 1, none⟩) (by simp)).trans (by simp [go_sem])
  have y0 : w1.frozen? ⟨w.heap.size + 1, 0, none⟩ = false := (hb1.frozen (p := ⟨w.heap.size + 1, 0, none⟩) (by simp)).trans (by simp [go_sem])
  have y1 : w1.frozen? ⟨w.heap.size + 1, 1, none⟩ = false := (hb1.frozen (p := ⟨w.heap.size + 1, 1, none⟩) (by simp)).trans (by simp [go_sem])
  have k4 : w1.cell? ⟨b, o + i * 5 + 4, none⟩ = some (.bool true) := (((((Below.refl _ w).alloc (Nat.le_refl _) _).alloc (by simp) _).trans (hb1.mono (by simp; omega))).cell (p := ⟨b, o + i * 5 + 4, none⟩) hbl).trans q4
  go_wp2_with (at_lookup; refine wpList_lookup_own_ok_int _ rfl _ _ 89 rfl 9 3 .i64 lawS Tryz.underlying89 Tryz.underlying3 (zeroInt _) (w.heap.size + 1 + 1 + 1) l.length D rfl hown _ _ rfl hkey ?_; intro c hat hwc; obtain rfl : c = (i : Int) := by (rw [(HD.out.2 nm).2 i HD0.out] at hat; injection hat with h1; injection h1 with _ h2; exact h2.symm))
  obtain ⟨g0, g1⟩ := cell_set2 z0 z1 (.int .i64 0) (.bool false)
  refine bodyPost_ret (v := .agg #[.int .i64 0, .bool false]) (by simp [results, Tryz.results43, go_sem, g0, g1]) rfl ⟨rfl, ?_⟩
  exact (((((Below.refl _ _).alloc (Nat.le_refl _) _).alloc (by simp) _).trans (hb1.mono (by simp; omega))).setCell (p := ⟨w.heap.size + 1, 0, none⟩) (by simp) _).setCell (p := ⟨w.heap.size + 1, 1, none⟩) (by simp) _
set_option maxRecDepth 100000 in
set_option maxHeartbeats 1000000 in
theorem heldBy_val (l : List Pv) (nm : ByteArray) (a0 a1 : Int) (b o cap : Nat) (w : World) (hl : l.length ≤ 1000000) (hs : nm.size ≤ maxLen) (hc : PvsAt w b o l) (i : Nat) (p : Pv) (hil0 : i < l.length) (hp : l[i] = p) (hrep : p.repeal = false) (hd : dec l a0 a1 nm l.length = some i) :
    Calls Tryz.prog 43 #[.slice (some ⟨b, o, none⟩) l.length cap, .string nm, .agg #[.int .i64 a0, .int .i64 a1]] w (RetB (.agg #[.int .i64 p.value, .bool true]) w) := by
  have hkey : keyOf Tryz.prog 9 (.string nm) = some (keyL nm) := keyOf_string_mk Tryz.underlying9 hs
  obtain ⟨hik, hil⟩ := dec_lt l a0 a1 nm l.length i hd
  obtain ⟨⟨_, q1, _, _, q4⟩, _⟩ := hc.2 i hil
  have hbl := hc.1
  rw [hp] at q1 q4
  rw [hrep] at q4
  have HD0 := Lib.hid hd
  have HC := Lib.hid hc
  clear hc hd
  go_enter Tryz.func43, Tryz.ntmps43
  go_wp2_with fail
  refine (deciding_any l a0 a1 b o cap _ hl (by exact HC.out.below (((Below.refl _ _).alloc (Nat.le_refl _) _).alloc (by simp) _))).mono ?_
  rintro e w1 ⟨rfl, ⟨D, hown, hD⟩, hb1⟩
  simp only [World.size_alloc] at hown
  have HD := Lib.hid hD; clear hD
  have hh : Maps.has D (keyL nm) = true := by (rw [(HD.out.2 nm).1, HD0.out]; rfl)
  have z0 : w1.cell? ⟨w.heap.size + 1, 0, none⟩ = some (.int .i64 0) := (hb1.cell (p := ⟨w.heap.size + 1, 0, none⟩) (by simp)).trans (by simp [go_sem])
  have z1 : w1.cell? ⟨w.heap.size + 1, 1, none⟩ = some (.bool false) := (hb1.cell (p := ⟨w.heap.size + 1, 1, none⟩) (by simp)).trans (by simp [go_sem])
  have y0 : w1.frozen? ⟨w.heap.size + 1, 0, none⟩ = false := (hb1.frozen (p := ⟨w.heap.size + 1, 0, none⟩) (by simp)).trans (by simp [go_sem])
  have y1 : w1.frozen? ⟨w.heap.size + 1, 1, none⟩ = false := (hb1.frozen (p := ⟨w.heap.size + 1, 1, none⟩) (by simp)).trans (by simp [go_sem])
  have k1 : w1.cell? ⟨b, o + i * 5 + 1, none⟩ = some (.int .i64 p.value) := (((((Below.refl _ w).alloc (Nat.le_refl _) _).alloc (by simp) _).trans (hb1.mono (by simp; omega))).cell (p := ⟨b, o + i * 5 + 1, none⟩) hbl).trans q1
  have k4 : w1.cell? ⟨b, o + i * 5 + 4, none⟩ = some (.bool false) := (((((Below.refl _ w).alloc (Nat.le_refl _) _).alloc (by simp) _).trans (hb1.mono (by simp; omega))).cell (p := ⟨b, o + i * 5 + 4, none⟩) hbl).trans q4
  go_wp2_with (at_lookup; refine wpList_lookup_own_ok_int _ rfl _ _ 89 rfl 9 3 .i64 lawS Tryz.underlying89 Tryz.underlying3 (zeroInt _) (w.heap.size + 1 + 1 + 1) l.length D rfl hown _ _ rfl hkey ?_; intro c hat hwc; obtain rfl : c = (i : Int) := by (rw [(HD.out.2 nm).2 i HD0.out] at hat; injection hat with h1; injection h1 with _ h2; exact h2.symm))
  obtain ⟨g0, g1⟩ := cell_set2 z0 z1 (.int .i64 p.value) (.bool true)
  refine bodyPost_ret (v := .agg #[.int .i64 p.value, .bool true]) (by simp [results, Tryz.results43, go_sem, g0, g1]) rfl ⟨rfl, ?_⟩
  exact (((((Below.refl _ _).alloc (Nat.le_refl _) _).alloc (by simp) _).trans (hb1.mono (by simp; omega))).setCell (p := ⟨w.heap.size + 1, 0, none⟩) (by simp) _).setCell (p := ⟨w.heap.size + 1, 1, none⟩) (by simp) _
end Go.Proofs.YtfphedcgmaakjabGreatDoor
