/-
  The stable sort of the numbers of units by their remainders (package money): a contract.
-/
import Derived.Test.YtcimceepkjpggaaMnU
namespace Go.Proofs.Ytcimceepkjpggaa
open Go.RowKit Go.Sort Go.Lib
attribute [local go_sem] set_drewN
/-- the order of the numbers -/
def encF {m : Nat} (i : Fin (m + 1)) : Value := .int .i64 (i.val : Int)
def cfF (us : List Int) (c A : Int) (m : Nat) (i j : Fin (m + 1)) : Int := cmpI (rmI us c A j.val) (rmI us c A i.val)
def ordA (us : List Int) (c A : Int) (m : Nat) : Array (Fin (m + 1)) := Sort.insertionSort (ltOf (cfF us c A m)) (Array.ofFn id) 0 (m + 1)
theorem heap_sortWorld {m : Nat} (w : World) (blk q : Nat) (dk : Array (Fin (m + 1))) (os : Array Obj) : ∀ k, k < w.heap.size → k ≠ blk → (sortWorld encF w blk 0 q dk os).heap[k]? = w.heap[k]? := by
  intro k hk hne
  simp only [sortWorld, grow, putRow, mapBlock, Sort.ahead]
  rw [Array.getElem?_append_left (by simpa using hk), Array.getElem?_modify, if_neg (fun e => hne e.symm)]
set_option maxRecDepth 100000 in
theorem sort_any (us : List Int) (c A : Int) (m Bc Bu Ba B4 bu cap blk cp : Nat) (w : World) (hm : us.length = m + 1) (m9 : m ≤ 18) (c0 : 0 ≤ c) (c9 : c ≤ 1000000000000) (hu : ∀ u ∈ us, 0 ≤ u ∧ u ≤ 2000000) (hA : 0 < A)
    (hQ : SQ Bc Bu Ba bu cap us c A w) (h4 : w.cell? ⟨B4, 0, none⟩ = some (rmF Bc Bu Ba)) (hH : Holds encF w blk 0 (Array.ofFn (n := m + 1) id)) (hn : Bc ≠ blk ∧ Bu ≠ blk ∧ Ba ≠ blk ∧ bu ≠ blk) (hn4 : B4 ≠ blk) :
    Calls Try.prog 87 #[.slice (some ⟨blk, 0, none⟩) (m + 1) cp, cmF B4] w fun e w' => e = .returned (.tuple #[]) ∧ ∃ q, w' = (putRow encF w blk 0 (ordA us c A m)).drewN q := by
  have hcmp : CmpReads Try.prog 88 #[.pointer (some ⟨B4, 0, none⟩)] (encF (m := m)) (cfF us c A m) blk 0 (m + 1) w := by
    intro q os dk _ x y
    have hh := heap_sortWorld w blk q dk os
    exact cmp_any us c A Bc Bu Ba B4 bu cap x.val y.val _ (by omega) (by omega) c0 c9 hu hA (hQ.heap hn hh) ((World.cell?_of_block (hh B4 (World.block_lt_of_cell? _ _ h4) hn4)).trans h4)
  have hI := Lib.hid (Try.insertionSortCmpFunc_one (encF (m := m)) (fun _ => rfl) (cfF us c A m) 88 #[.pointer (some ⟨B4, 0, none⟩)] blk 0 cp 0 (m + 1) (Array.ofFn id) w (enters_of Try.func88 (by kernel_rfl) rfl) (by simpa using hcmp) hH (by omega) (by simp) (by simp; omega))
  simp only [Array.size_ofFn] at hI
  have m9z : (m : Int) ≤ 18 := by omega
  clear hcmp hH hQ h4 hu
  have hS : Calls Try.prog 92 #[.slice (some ⟨blk, 0, none⟩) (m + 1) cp, .int .i64 (m + 1 : Nat), cmF B4] w fun e w' => e = .returned (.tuple #[]) ∧ ∃ q, w' = (putRow encF w blk 0 (ordA us c A m)).drewN q := by
    go_enter Try.func92, Try.ntmps92
    go_wp2
    go_loopw [7, 8] (fun av bv wr => av = .int .i64 0 ∧ bv = .int .i64 20 ∧ wr = w) (fun _ _ _ => 0)
    case atStart => exact ⟨rfl, rfl, rfl⟩
    case round =>
      obtain ⟨rfl, rfl, rfl⟩ := hrel
      go_wp2_with (go_at_call 94; refine hI.out.mono ?_; rintro e w2 ⟨rfl, q, rfl⟩)
      go_loopw [6, 7, 8, 9] (fun sv _ _ _ wr2 => sv = .int .i64 20 ∧ wr2 = (putRow encF wr blk 0 (ordA us c A m)).drewN q) (fun _ _ _ _ _ => 0)
      case atStart => exact ⟨rfl, rfl⟩
      case round =>
        obtain ⟨rfl, rfl⟩ := hrel
        go_wp2
        go_end0
        exact ⟨rfl, q, rfl⟩
  have HS := Lib.hid hS
  clear hS hI
  go_enter Try.func87, Try.ntmps87
  go_wp2_with (go_at_call 92; refine HS.out.mono ?_; rintro e w2 ⟨rfl, q, rfl⟩)
  go_end0
  exact ⟨rfl, q, rfl⟩
end Go.Proofs.Ytcimceepkjpggaa
