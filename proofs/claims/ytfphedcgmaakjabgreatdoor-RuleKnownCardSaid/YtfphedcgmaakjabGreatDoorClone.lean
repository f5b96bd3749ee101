/-
  What slices.Clone returns at a list of provisions: contracts for all worlds.
-/
import Derived.Test.YtfphedcgmaakjabGreatDoorPcs
import Derived.Lib.SliceRun
import Derived.WalkKit
namespace Go.Proofs.YtfphedcgmaakjabGreatDoor
open Go.RowKit
attribute [local go_sem] set_drewN
theorem infoPv : (Tryz.prog.info? 23).map (fun i => (i.zero, i.size, i.bytes)) = some (some (.agg #[.string ⟨#[]⟩, .int .i64 0, .int .i64 0, .int .i64 0, .bool false]), 5, 48) := by kernel_rfl
/-- what a copy of a list is -/
def CloneP (l : List Pv) (B : Nat) (w : World) (e : Ending) (w' : World) : Prop :=
  ∃ v', e = .returned v' ∧ w'.ownsRow B 23 5 v' l.length (pcs l) ∧ Below w.heap.size w w'
set_option maxRecDepth 100000 in
set_option maxHeartbeats 2000000 in
theorem clone_some (l : List Pv) (ad : Addr) (cap B : Nat) (w : World) (hB : B ≤ w.heap.size) (hl : l.length ≤ 1000000) (hc : ∀ j u, (pcs l)[j]? = some u → w.cell? (ad.add j) = some u) :
    Calls Tryz.prog 42 #[.slice (some ad) l.length cap] w (CloneP l B w) := by
  obtain ⟨i0, hi, hz0, hz1, hz2⟩ := info_parts infoPv
  have q22 : ∀ (w : World) (a : Option Addr) (n c n' c' : Nat), (binOp .eql 33 (.slice a n c) (.slice none n' c')).run Tryz.prog w = .ok (.bool a.isNone) w := fun w a n c n' c' => Lib.run_eql_slice_nil w _ _ a n c n' c' Tryz.underlying33
  have A := Lib.hid hc
  clear hc
  go_enter Tryz.func42, Tryz.ntmps42
  go_wp2_with (at_builtin; refine wpList_append_own _ rfl _ _ 33 rfl B 23 i0 _ 5 48 Tryz.underlying33 hi hz0 hz1 hz2 rfl (by decide) _ _ _ rfl (World.ownsRow_made w #[] 0 hB (Nat.zero_le _) (by simp)) ad l.length cap (pcs l) rfl ?qc1 ?qc2 ?qc3 ?qc4 ?qc5 ?qc6 ?_)
  case qc1 => exact pcs_len l
  case qc2 =>
    intro j u hj
    exact Lib.cell?_alloc_some _ (A.out j u hj)
  case qc3 => exact pcs_one_cell
  case qc4 => unfold maxLen; omega
  case qc5 => omega
  case qc6 => simp; omega
  intro v' w1 hown hgrow hnil
  go_wp2
  go_ret
  refine ⟨v', rfl, by simpa using hown, ?_⟩
  exact ((Below.refl _ w).alloc (Nat.le_refl _) _).grown hgrow (by simp) (by intro k hk; simp [Value.ownBlock] at hk; omega)
set_option maxHeartbeats 1000000 in
theorem clone_none (n c B : Nat) (w : World) :
    Calls Tryz.prog 42 #[.slice none n c] w (CloneP [] B w) := by
  have q22 : ∀ (w : World) (a : Option Addr) (n c n' c' : Nat), (binOp .eql 33 (.slice a n c) (.slice none n' c')).run Tryz.prog w = .ok (.bool a.isNone) w := fun w a n c n' c' => Lib.run_eql_slice_nil w _ _ a n c n' c' Tryz.underlying33
  go_enter Tryz.func42, Tryz.ntmps42
  go_wp2
  go_ret
  exact ⟨_, rfl, World.ownsRow_nil _ _ _ _, Below.refl _ _⟩
theorem clone_any (l : List Pv) (b o cap B : Nat) (w : World) (hB : B ≤ w.heap.size) (hl : l.length ≤ 1000000) (hc : PvsAt w b o l) :
    Calls Tryz.prog 42 #[.slice (some ⟨b, o, none⟩) l.length cap] w (CloneP l B w) :=
  clone_some l _ cap B w hB hl fun j u hj => by rw [addo]; exact hc.cells j u hj
theorem clone_0 (a : Option Addr) (cap B : Nat) (w : World) (hB : B ≤ w.heap.size) :
    Calls Tryz.prog 42 #[.slice a 0 cap] w (CloneP [] B w) := by
  cases a with
  | none => exact clone_none 0 cap B w
  | some ad => exact clone_some [] ad cap B w hB (by simp) (fun j u hj => by simp [pcs] at hj)
end Go.Proofs.YtfphedcgmaakjabGreatDoor
