/-
  The library's table of powers of ten lies; what Itoa of package strconv returns then: a contract for all worlds, every number.
-/
import Derived.Test.YtpfekgmimfkjcaaGreatDoorNames
import Derived.Test.YtpfekgmimfkjcaaGreatDoorShelf
import Derived.Lib.ItoaNum
namespace Go.Proofs.YtpfekgmimfkjcaaGreatDoor
open Go.RowKit Go.Sort
/-- the library's table of powers of ten lies as its initialiser lays it -/
def Tab (w : World) : Prop := Lib.TabIs Tryz.prog w "internal/strconv.uint64pow10" .u64 Lib.pow10Tab
theorem Tab.below {w w' : World} (h : Tab w) (hb : Below w.heap.size w w') : Tab w' := by
  unfold Tab Lib.TabIs World.var? at h ⊢
  generalize Tryz.prog.globalNamed "internal/strconv.uint64pow10" = og at h ⊢
  cases og with
  | none => simp at h
  | some g =>
  simp only [Option.bind_some] at h ⊢
  have hlt : g < w.heap.size := by
    cases hc : w.heap[g]? with
    | none => rw [hc] at h; simp at h
    | some x => exact (Array.getElem?_eq_some_iff.1 hc).1
  rw [hb.block g hlt]
  exact h
theorem below_grow' {w : World} (k : Nat) (os : Array Obj) : Below w.heap.size w (grow (w.drewN k) os) :=
  ⟨rfl, rfl, rfl, by simp, fun j hj => heap_grow_old _ _ (by simpa using hj)⟩
theorem itoa_any (n : Int) (w : World) (h0 : -9223372036854775808 ≤ n) (h1 : n ≤ 9223372036854775807) (ht : Tab w) :
    Calls Tryz.prog 27 #[.int .i64 n] w (RetB (.string ⟨(Lib.itoa n).toArray⟩) w) := by
  refine (Tryz.strconv_Itoa n h0 h1 w ht).mono ?_
  rintro e w' ⟨rfl, k, os, rfl⟩
  exact ⟨rfl, below_grow' k os⟩
end Go.Proofs.YtpfekgmimfkjcaaGreatDoor
