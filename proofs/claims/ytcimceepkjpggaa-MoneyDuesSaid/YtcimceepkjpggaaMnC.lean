/-
  Days that ascend: the closure of package money that keeps the day before; worlds that differ in one block alone. Contracts.
-/
import Derived.Test.YtcimceepkjpggaaMnI
import Derived.Maps.AppendAt
namespace Go.Proofs.Ytcimceepkjpggaa
open Go.RowKit
attribute [local go_sem] set_drewN
theorem gb_refl (B : Nat) (w : World) : w.grownBy w (some B) := ⟨rfl, rfl, rfl, Nat.le_refl _, fun _ _ _ => rfl⟩
theorem gb_below {B : Nat} {w w' : World} (h : Below w.heap.size w w') : w.grownBy w' (some B) := ⟨h.os, h.tape, h.output, h.size, fun k hk _ => h.block k hk⟩
theorem gb_set {B o : Nat} {w : World} (v : Value) : w.grownBy (w.setCell ⟨B, o, none⟩ v) (some B) := by
  exact ⟨rfl, rfl, rfl, by simp, fun k _ hne => Below.heap_setCell _ _ _ _ (fun e => hne (by rw [e]))⟩
theorem below_gb {B b : Nat} {w0 w w' : World} (hb : Below b w0 w) (hg : w.grownBy w' (some B)) (h0 : b ≤ w.heap.size) (h : b ≤ B) : Below b w0 w' :=
  hb.grown hg h0 (fun k e => by cases e; exact h)
/-- the closure over the block B0 -/
abbrev ascF (B0 : Nat) : Value := .func (.func 85) #[] #[.pointer (some ⟨B0, 0, none⟩)]
theorem ascending_any (w : World) : Calls Try.prog 72 #[] w fun e w' => e = .returned (ascF w.heap.size) ∧ w'.heap.size = w.heap.size + 1 ∧ Below w.heap.size w w' ∧ w'.cell? ⟨w.heap.size, 0, none⟩ = some (.int .i64 0) ∧ w'.frozen? ⟨w.heap.size, 0, none⟩ = false := by
  go_enter Try.func72, Try.ntmps72
  go_wp2
  go_ret
  refine ⟨rfl, by simp, ?_, by simp [go_sem], by simp [go_sem]⟩
  exact (Below.refl _ _).alloc (Nat.le_refl _) _
theorem asc1_any (B0 : Nat) (d p : Int) (w : World) (hc : w.cell? ⟨B0, 0, none⟩ = some (.int .i64 p)) (hf : w.frozen? ⟨B0, 0, none⟩ = false) : Calls Try.prog 85 #[.int .i64 d, .pointer (some ⟨B0, 0, none⟩)] w
    fun e w' => e = .returned (.int .i64 (eI (decide (d < p)) 9)) ∧ w' = w.setCell ⟨B0, 0, none⟩ (.int .i64 d) := by
  go_enter Try.func85, Try.ntmps85
  go_wp2_with (go_at_call 59; refine (nErrorIf_any _ _ _).mono ?_; rintro e w' ⟨rfl, rfl⟩)
  go_ret
  exact ⟨rfl, rfl⟩
end Go.Proofs.Ytcimceepkjpggaa
