/-
  Decisions and books in memory; what the small functions on them return: contracts, each for all worlds.
-/
import Derived.Test.YtfneafofohfdnaaDcM
import Derived.Test.YtfneafofohfdnaaPBase
import Derived.Laws.AppendOwn
import Derived.Deep.AppendLies
namespace Go.Proofs.Ytfneafofohfdnaa
open Go.RowKit
attribute [local go_sem] set_drewN
/-- decisions lie in block g, below n₀ -/
def DcAt (n₀ : Nat) (W : World) (g : Nat) (ds : List Dc) : Prop := g < n₀ ∧ ∀ j (h : j < ds.length), W.cell? ⟨g, j * 3, none⟩ = some (.int .i64 ds[j].k) ∧ W.cell? ⟨g, j * 3 + 1, none⟩ = some (.int .i64 ds[j].a) ∧ W.cell? ⟨g, j * 3 + 2, none⟩ = some (.int .i64 ds[j].b)
theorem DcAt.below {n₀ : Nat} {W W' : World} {g : Nat} {ds : List Dc} (h : DcAt n₀ W g ds) (hb : Below n₀ W W') : DcAt n₀ W' g ds :=
  ⟨h.1, fun j hj => ⟨(hb.cell (p := ⟨g, j * 3, none⟩) h.1).trans (h.2 j hj).1, (hb.cell (p := ⟨g, j * 3 + 1, none⟩) h.1).trans (h.2 j hj).2.1, (hb.cell (p := ⟨g, j * 3 + 2, none⟩) h.1).trans (h.2 j hj).2.2⟩⟩
/-- marks lie in block g, below n₀ -/
def StAt (n₀ : Nat) (W : World) (g : Nat) (st : List Bool) : Prop := g < n₀ ∧ ∀ j (h : j < st.length), W.cell? ⟨g, j, none⟩ = some (.bool st[j])
theorem StAt.below {n₀ : Nat} {W W' : World} {g : Nat} {st : List Bool} (h : StAt n₀ W g st) (hb : Below n₀ W W') : StAt n₀ W' g st :=
  ⟨h.1, fun j hj => (hb.cell (p := ⟨g, j, none⟩) h.1).trans (h.2 j hj)⟩
/-- a book lies in block bk; all of it below n₀ -/
structure BkAt (n₀ : Nat) (W : World) (bk : Nat) (n : Int) (ds : List Dc) (st : List Bool) : Prop where
  lt : bk < n₀
  c0 : W.cell? ⟨bk, 0, none⟩ = some (.int .i64 n)
  c1 : ∃ a cap, W.cell? ⟨bk, 1, none⟩ = some (.slice a ds.length cap) ∧ (ds ≠ [] → ∃ g, a = some ⟨g, 0, none⟩ ∧ DcAt n₀ W g ds)
  c2 : ∃ a cap, W.cell? ⟨bk, 2, none⟩ = some (.slice a st.length cap) ∧ (st ≠ [] → ∃ g, a = some ⟨g, 0, none⟩ ∧ StAt n₀ W g st)
theorem BkAt.below {n₀ : Nat} {W W' : World} {bk : Nat} {n : Int} {ds : List Dc} {st : List Bool} (h : BkAt n₀ W bk n ds st) (hb : Below n₀ W W') : BkAt n₀ W' bk n ds st := by
  obtain ⟨h1, h2, ⟨a, cap, e1, e2⟩, ⟨a', cap', e3, e4⟩⟩ := h
  refine ⟨h1, (hb.cell (p := ⟨bk, 0, none⟩) h1).trans h2, ⟨a, cap, (hb.cell (p := ⟨bk, 1, none⟩) h1).trans e1, fun hd => ?_⟩, ⟨a', cap', (hb.cell (p := ⟨bk, 2, none⟩) h1).trans e3, fun hd => ?_⟩⟩
  · obtain ⟨g, e, hg⟩ := e2 hd; exact ⟨g, e, hg.below hb⟩
  · obtain ⟨g, e, hg⟩ := e4 hd; exact ⟨g, e, hg.below hb⟩
theorem BkAt.mono {n₀ m : Nat} {W : World} {bk : Nat} {n : Int} {ds : List Dc} {st : List Bool} (h : BkAt n₀ W bk n ds st) (hm : n₀ ≤ m) : BkAt m W bk n ds st := by
  obtain ⟨h1, h2, ⟨a, cap, e1, e2⟩, ⟨a', cap', e3, e4⟩⟩ := h
  refine ⟨by omega, h2, ⟨a, cap, e1, fun hd => ?_⟩, ⟨a', cap', e3, fun hd => ?_⟩⟩
  · obtain ⟨g, e, hg⟩ := e2 hd; exact ⟨g, e, by have := hg.1; omega, hg.2⟩
  · obtain ⟨g, e, hg⟩ := e4 hd; exact ⟨g, e, by have := hg.1; omega, hg.2⟩
abbrev dcV (d : Dc) : Value := .agg #[.int .i64 d.k, .int .i64 d.a, .int .i64 d.b]
theorem isNum_any (n len : Int) (w : World) (h1 : -1000000000000 ≤ len) (h2 : len ≤ 1000000000000) : Calls Try.prog 86 #[.int .i64 n, .int .i64 len] w (Ret (.bool (inB n 0 (len - 1))) w) := by
  go_enter Try.func86, Try.ntmps86
  go_wp2_with (go_at_call 65; refine (isFromTo_any _ _ _ _).mono ?_; rintro e w' ⟨rfl, rfl⟩)
  go_ret
  exact ⟨rfl, rfl⟩
theorem hasEntry_any (x : Int) (bk : Nat) (n : Int) (w : World) (h1 : -1000000000000 ≤ n) (h2 : n ≤ 1000000000000) (hc : w.cell? ⟨bk, 0, none⟩ = some (.int .i64 n)) : Calls Try.prog 77 #[.pointer (some ⟨bk, 0, none⟩), .int .i64 x] w (Ret (.bool (inB x 0 (n - 1))) w) := by
  go_enter Try.func77, Try.ntmps77
  go_wp2_with (go_at_call 86; refine (isNum_any _ _ _ h1 h2).mono ?_; rintro e w' ⟨rfl, rfl⟩)
  go_ret
  exact ⟨rfl, rfl⟩
/-- what across returns -/
def acV (d : Dc) (x : Int) : Value := match acM d x with | some t => two (.int .i64 t) (.bool true) | none => two (.int .i64 0) (.bool false)
theorem across_any (d : Dc) (x : Int) (w : World) : Calls Try.prog 80 #[dcV d, .int .i64 x] w (RetB (acV d x) w) := by
  obtain ⟨k, a, b⟩ := d
  by_cases h1 : x = a
  · have e : acV ⟨k, a, b⟩ x = two (.int .i64 b) (.bool true) := by simp [acV, acM, h1]
    rw [e]
    have hb : (x == a) = true := by simpa using h1
    go_enter Try.func80, Try.ntmps80
    go_wp2
    go_ret2
    exact ⟨rfl, (Below.refl _ _).alloc (Nat.le_refl _) _⟩
  · by_cases h2 : x = b
    · have e : acV ⟨k, a, b⟩ x = two (.int .i64 a) (.bool true) := by unfold acV acM; simp only; rw [if_neg h1, if_pos h2]
      rw [e]
      have hb : (x == a) = false := by simpa using h1
      have hb2 : (x == b) = true := by simpa using h2
      go_enter Try.func80, Try.ntmps80
      go_wp2
      go_ret2
      exact ⟨rfl, (Below.refl _ _).alloc (Nat.le_refl _) _⟩
    · have e : acV ⟨k, a, b⟩ x = two (.int .i64 0) (.bool false) := by simp [acV, acM, h1, h2]
      rw [e]
      have hb : (x == a) = false := by simpa using h1
      have hb2 : (x == b) = false := by simpa using h2
      go_enter Try.func80, Try.ntmps80
      go_wp2
      go_ret2
      exact ⟨rfl, (Below.refl _ _).alloc (Nat.le_refl _) _⟩
end Go.Proofs.Ytfneafofohfdnaa
