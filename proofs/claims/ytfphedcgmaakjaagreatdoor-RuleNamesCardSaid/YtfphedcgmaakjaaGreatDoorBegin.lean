/-
  The loop of beginnings of package rule: the days from which on known entries of a name hold, in their order in the list.
-/
import Derived.Test.YtfphedcgmaakjaaGreatDoorValue
import Derived.Test.YtfphedcgmaakjaaGreatDoorRefSrc2
import Derived.Laws.AppendOwn
import Derived.Sort.OwnSortedInts
import Derived.Test.YtfphedcgmaakjaaGreatDoorShelf
namespace Go.Proofs.YtfphedcgmaakjaaGreatDoor
open Go.RowKit Go.Sort Go.Lib
attribute [local go_sem] set_drewN
theorem infoInt : (Tryz.prog.info? 3).map (fun i => (i.zero, i.size, i.bytes)) = some (some (.int .i64 0), 1, 8) := by kernel_rfl
/-- the first days of the known entries of a name, in the list's order -/
def frs (l : List Pv) (nm : ByteArray) (known : Int) : List Int := (l.filter fun p => decide (p.name = nm) && decide (p.entered ≤ known)).map (·.from')
theorem frs_snoc {l : List Pv} {nm : ByteArray} {known : Int} {k : Nat} {p : Pv} (hk : k < l.length) (hp : l[k] = p) :
    frs (l.take (k + 1)) nm known = frs (l.take k) nm known ++ (if p.name = nm ∧ p.entered ≤ known then [p.from'] else []) := by
  rw [List.take_succ_eq_append_getElem hk, hp]
  unfold frs
  rw [List.filter_append, List.map_append]
  congr 1
  by_cases h : p.name = nm ∧ p.entered ≤ known
  · simp [h.1, h.2]
  · rw [if_neg h]
    have : (decide (p.name = nm) && decide (p.entered ≤ known)) = false := by
      rw [Bool.and_eq_false_iff]
      by_cases h1 : p.name = nm
      · right; simpa using fun c => h ⟨h1, c⟩
      · left; simpa using h1
    simp [this]
theorem frs_le (l : List Pv) (nm : ByteArray) (known : Int) (k : Nat) : (frs (l.take k) nm known).length ≤ k := by
  unfold frs
  rw [List.length_map]
  exact Nat.le_trans (List.length_filter_le _ _) (List.length_take_le _ _)
theorem compact_le : ∀ l : List Int, (Lib.compact l).length ≤ l.length := fun l => by
  unfold Lib.compact Lib.compactUpTo
  rw [List.length_map]
  exact Nat.le_trans (List.length_filter_le _ _) (by simp)
/-- the days on which a name may change, each once, in their order -/
def bgs (l : List Pv) (nm : ByteArray) (known : Int) : List Int := Lib.compact ((frs l nm known).mergeSort fun x y => decide (x ≤ y))
/-- nil where nothing has been collected -/
def NilIf (F : List Int) (v : Value) : Prop := F = [] → v = .slice none 0 0
def NEf (l : List Pv) (nm : ByteArray) (known : Int) : Prop := frs l nm known ≠ []
/-- what beginnings returns -/
def BegPost (l : List Pv) (nm : ByteArray) (known : Int) (w : World) (e : Ending) (w' : World) : Prop :=
  (frs l nm known = [] ∧ e = .returned (.slice none 0 0) ∧ Below w.heap.size w w') ∨
  (frs l nm known ≠ [] ∧ ∃ g cap, e = .returned (.slice (some ⟨g, 0, none⟩) (bgs l nm known).length cap) ∧ w.heap.size ≤ g ∧ g < w'.heap.size ∧ IntsAt w' g 0 (bgs l nm known) ∧ Below w.heap.size w w')
end Go.Proofs.YtfphedcgmaakjaaGreatDoor
