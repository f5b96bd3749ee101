/-
  What heldBy and Has return where the list is empty: contracts for all worlds.
-/
import Derived.Test.YtfphedcgmaakjaaRefHas
import Derived.Test.YtfphedcgmaakjaaEmpty
namespace Go.Proofs.Ytfphedcgmaakjaa
open Go.RowKit Go.WideMaps Go.Maps
attribute [local go_sem] set_drewN
set_option maxRecDepth 100000 in
set_option maxHeartbeats 1000000 in
theorem heldBy_none_0 (nm : ByteArray) (a0 a1 : Int) (a : Option Addr) (cap : Nat) (w : World) (hs : nm.size ≤ maxLen) :
    Calls Try.prog 89 #[.slice a 0 cap, .string nm, .agg #[.int .i64 a0, .int .i64 a1]] w (RetB (.agg #[.int .i64 0, .bool false]) w) := by
  have hkey : keyOf Try.prog 9 (.string nm) = some (keyL nm) := keyOf_string_mk Try.underlying9 hs
  have HD0 : Hid (dec [] a0 a1 nm 0 = none) := Lib.hid rfl
  go_enter Try.func89, Try.ntmps89
  go_wp2_with fail
  refine (deciding_0 a a0 a1 cap _).mono ?_
  rintro e w1 ⟨rfl, ⟨D, hown, hD⟩, hb1⟩
  simp only [World.size_alloc] at hown
  have HD := Lib.hid hD; clear hD
  have hh : Maps.has D (keyL nm) = false := by (rw [(HD.out.2 nm).1, HD0.out]; rfl)
  have z0 : w1.cell? ⟨w.heap.size + 1, 0, none⟩ = some (.int .i64 0) := (hb1.cell (p := ⟨w.heap.size + 1, 0, none⟩) (by simp)).trans (by simp [go_sem])
  have z1 : w1.cell? ⟨w.heap.size + 1, 1, none⟩ = some (.bool false) := (hb1.cell (p := ⟨w.heap.size + 1, 1, none⟩) (by simp)).trans (by simp [go_sem])
  have y0 : w1.frozen? ⟨w.heap.size + 1, 0, none⟩ = false := (hb1.frozen (p := ⟨w.heap.size + 1, 0, none⟩) (by simp)).trans (by simp [go_sem])
  have y1 : w1.frozen? ⟨w.heap.size + 1, 1, none⟩ = false := (hb1.frozen (p := ⟨w.heap.size + 1, 1, none⟩) (by simp)).trans (by simp [go_sem])
  go_wp2_with (at_lookup; refine wpList_lookup_own_ok_int _ rfl _ _ 115 rfl 9 3 .i64 lawS Try.underlying115 Try.underlying3 (zeroInt _) (w.heap.size + 1 + 1 + 1) 0 D rfl hown _ _ rfl hkey ?_; intro c hat hwc; obtain rfl : c = (0 : Int) := by (have h0 := atKey_of_not_has hh (.lit (.int .i64 0)); rw [h0] at hat; injection hat with h1; injection h1 with _ h2; exact h2.symm))
  obtain ⟨g0, g1⟩ := cell_set2 z0 z1 (.int .i64 0) (.bool false)
  refine bodyPost_ret (v := .agg #[.int .i64 0, .bool false]) (by simp [results, Try.results89, go_sem, g0, g1]) rfl ⟨rfl, ?_⟩
  exact (((((Below.refl _ _).alloc (Nat.le_refl _) _).alloc (by simp) _).trans (hb1.mono (by simp; omega))).setCell (p := ⟨w.heap.size + 1, 0, none⟩) (by simp) _).setCell (p := ⟨w.heap.size + 1, 1, none⟩) (by simp) _
set_option maxRecDepth 100000 in
set_option maxHeartbeats 1000000 in
theorem xHas_none_0 (nm : ByteArray) (a0 a1 : Int) (a : Option Addr) (cap : Nat) (w : World) :
    Calls Try.prog 90 #[.slice a 0 cap, .string nm, .agg #[.int .i64 a0, .int .i64 a1]] w (RetB (two (.int .i64 0) (.bool false)) w) := by
  have hx := xSource_0 a nm a0 a1 cap (w.alloc (.cells #[.int .i64 a0, .int .i64 a1] 80))
  have HX : Hid (Calls Try.prog 59 #[.slice a 0 cap, .string nm, .agg #[.int .i64 a0, .int .i64 a1]] (w.alloc (.cells #[.int .i64 a0, .int .i64 a1] 80)) (RetB (.int .i64 (-1)) (w.alloc (.cells #[.int .i64 a0, .int .i64 a1] 80)))) := Lib.hid hx
  clear hx
  go_enter Try.func90, Try.ntmps90
  go_wp2_with (go_at_call 59; refine (HX.out).mono ?_; rintro e w1 ⟨rfl, hb1⟩)
  go_ret2
  exact ⟨rfl, ((Below.refl _ _).alloc (Nat.le_refl _) _).trans (hb1.mono (by simp))⟩
end Go.Proofs.Ytfphedcgmaakjaa
