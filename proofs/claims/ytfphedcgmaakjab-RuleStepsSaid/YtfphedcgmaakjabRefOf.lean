/-
  What anyOf and HolidaysOf of the specification of package rule, and HolidaysOf of the package, return: contracts, each for all worlds in which the list lies.
-/
import Derived.Test.YtfphedcgmaakjabHdOf
import Derived.Test.YtfphedcgmaakjabRefHols
namespace Go.Proofs.Ytfphedcgmaakjab
open Go.RowKit
attribute [local go_sem] set_drewN
theorem ibeq (a b : Int) : (a == b) = decide (a = b) := by by_cases h : a = b <;> simp [h]
/-- a day with its date is a holiday -/
def isC (h : Hd) (n Y M D : Int) : Bool :=
  if h.kind = 0 then decide (M = h.month) && decide (D = h.day)
  else if h.kind = 1 then decide (n = est Y + h.day)
  else (decide (M = h.month) && decide ((n + 2) % 7 = h.weekday)) && (if h.day < 0 then decide (Cal.md Y M < D + 7) else decide ((D - 1) / 7 = h.day - 1))
theorem isB_C (h : Hd) (n : Int) : isB h n = isC h n (Cal.yr n) (Cal.mo n) (Cal.da n) := rfl
end Go.Proofs.Ytfphedcgmaakjab
namespace Go.Proofs.Ytfphedcgmaakjab
open Go.RowKit
attribute [local go_sem] set_drewN
theorem anyB_snoc {l : List Hd} {n : Int} {k : Nat} {h : Hd} (hk : k < l.length) (hp : l[k] = h) : anyB (l.take (k + 1)) n = (anyB (l.take k) n || isB h n) := by
  unfold anyB
  rw [List.take_succ_eq_append_getElem hk, hp, List.any_append]
  simp
theorem anyB_yes {l : List Hd} {n : Int} {k : Nat} {h : Hd} (hk : k < l.length) (hp : l[k] = h) (hb : isB h n = true) : anyB l n = true := by
  unfold anyB
  rw [List.any_eq_true]
  exact ⟨h, by rw [← hp]; exact List.getElem_mem hk, hb⟩
theorem dfr_len (l : List Hd) (a : Int) : ∀ k, (dfr l a k).length ≤ k
  | 0 => Nat.le_refl _
  | k + 1 => by
    have := dfr_len l a k
    rw [dfr, List.length_append]
    split <;> simp <;> omega
theorem DaysRow.closed {w0 W : World} {F : List Int} {v : Value} (h : DaysRow w0 W F v) : Closed W w0.heap.size v F := by
  obtain ⟨ho, hn, hb⟩ := h
  by_cases hF : F = []
  · exact .inl ⟨hF, hn hF⟩
  · rcases ho.2 with ⟨_, h0⟩ | ⟨g, cap, cur, rfl, hbase, hr⟩
    · exact absurd (List.length_eq_zero_iff.1 h0) hF
    · exact closed_of ho rfl hbase
end Go.Proofs.Ytfphedcgmaakjab
