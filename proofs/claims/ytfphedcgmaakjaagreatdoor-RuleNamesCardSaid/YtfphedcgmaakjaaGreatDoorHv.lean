/-
  What heldBy, Has, Value and beginnings return, in terms of what a name has on a day.
-/
import Derived.Test.YtfphedcgmaakjaaGreatDoorChgM
import Derived.Test.YtfphedcgmaakjaaGreatDoorIterL
import Derived.Test.YtfphedcgmaakjaaGreatDoorRefHas
import Derived.Test.YtfphedcgmaakjaaGreatDoorHeld0
import Derived.Test.YtfphedcgmaakjaaGreatDoorLawSrc2
namespace Go.Proofs.YtfphedcgmaakjaaGreatDoor
open Go.RowKit
attribute [local go_sem] set_drewN
theorem hv_none {l : List Pv} {nm : ByteArray} {known d : Int} (h : dec l d known nm l.length = none) : hv l nm known d = (0, false) := by unfold hv; rw [h]
theorem hv_some {l : List Pv} {nm : ByteArray} {known d : Int} {i : Nat} (hi : i < l.length) (h : dec l d known nm l.length = some i) : hv l nm known d = if l[i].repeal then (0, false) else (l[i].value, true) := by
  unfold hv; rw [h]; simp only [List.getElem?_eq_getElem hi]
theorem xHas_hv (l : List Pv) (nm : ByteArray) (d known : Int) (b o cap : Nat) (w : World) (hl : l.length ≤ 1000000) (hc : PvsAt w b o l) :
    Calls Tryz.prog 26 #[.slice (some ⟨b, o, none⟩) l.length cap, .string nm, .agg #[.int .i64 d, .int .i64 known]] w (RetB (two (.int .i64 (hv l nm known d).1) (.bool (hv l nm known d).2)) w) := by
  cases hd : dec l d known nm l.length with
  | none => rw [hv_none hd]; exact xHas_none l nm d known b o cap w hl hc hd
  | some i =>
    obtain ⟨_, hil⟩ := dec_lt l d known nm l.length i hd
    rw [hv_some hil hd]
    have := xHas_some l nm d known b o cap w hl hc i l[i] hil rfl hd
    cases hr : l[i].repeal
    · rw [hr] at this; exact this
    · rw [hr] at this; exact this
/-- what Value returns, where the list and the days are right -/
theorem Value_hv (l : List Pv) (nm : ByteArray) (d known : Int) (b o cap : Nat) (hl : l.length ≤ 1000000) (hs : nm.size ≤ maxLen) (he : srcE l d known = 0) :
    ∃ f : Int, ((f == 0) = (hv l nm known d).2) ∧ ∀ W, PvsAt W b o l → Calls Tryz.prog 15 #[.slice (some ⟨b, o, none⟩) l.length cap, .string nm, .agg #[.int .i64 d, .int .i64 known]] W (RetB (two (.int .i64 (hv l nm known d).1) (.int .i64 f)) W) := by
  cases hd : dec l d known nm l.length with
  | none => rw [hv_none hd]; exact ⟨6, rfl, fun W hW => Value_none l nm d known b o cap W hl hs hW he hd⟩
  | some i =>
    obtain ⟨_, hil⟩ := dec_lt l d known nm l.length i hd
    have hpe := cpE_pv (srcE_cp he) hil
    rw [hv_some hil hd]
    have cV := fun W (hW : PvsAt W b o l) => Value_some l nm d known b o cap W hl hs hW he i l[i] hd (List.getElem?_eq_getElem hil)
    cases hr : l[i].repeal
    · refine ⟨0, rfl, fun W hW => ?_⟩
      have := cV W hW
      rw [hr, eI_f] at this; exact this
    · refine ⟨12, rfl, fun W hW => ?_⟩
      have := cV W hW
      rw [hr, eI_t, pv_value hpe hr] at this; exact this
end Go.Proofs.YtfphedcgmaakjaaGreatDoor
