/-
  What heldBy, Has, Value and beginnings return, in terms of what a name has on a day.
-/
import Derived.Test.YtfphedcgmaakjabGreatDoorChgM2
import Derived.Test.YtfphedcgmaakjabGreatDoorIterL
import Derived.Test.YtfphedcgmaakjabGreatDoorHeld0
import Derived.Test.YtfphedcgmaakjabGreatDoorLawSrc2
namespace Go.Proofs.YtfphedcgmaakjabGreatDoor
open Go.RowKit
attribute [local go_sem] set_drewN
theorem hv_none {l : List Pv} {nm : ByteArray} {known d : Int} (h : dec l d known nm l.length = none) : hv l nm known d = (0, false) := by unfold hv; rw [h]
theorem hv_some {l : List Pv} {nm : ByteArray} {known d : Int} {i : Nat} (hi : i < l.length) (h : dec l d known nm l.length = some i) : hv l nm known d = if l[i].repeal then (0, false) else (l[i].value, true) := by
  unfold hv; rw [h]; simp only [List.getElem?_eq_getElem hi]
theorem heldBy_hv (l : List Pv) (nm : ByteArray) (d known : Int) (b o cap : Nat) (w : World) (hl : l.length ≤ 1000000) (hs : nm.size ≤ maxLen) (hc : PvsAt w b o l) :
    Calls Tryz.prog 43 #[.slice (some ⟨b, o, none⟩) l.length cap, .string nm, .agg #[.int .i64 d, .int .i64 known]] w (RetB (.agg #[.int .i64 (hv l nm known d).1, .bool (hv l nm known d).2]) w) := by
  cases hd : dec l d known nm l.length with
  | none => rw [hv_none hd]; exact heldBy_none l nm d known b o cap w hl hs hc hd
  | some i =>
    obtain ⟨_, hil⟩ := dec_lt l d known nm l.length i hd
    rw [hv_some hil hd]
    cases hr : l[i].repeal
    · exact heldBy_val l nm d known b o cap w hl hs hc i l[i] hil rfl hr hd
    · exact heldBy_rep l nm d known b o cap w hl hs hc i l[i] hil rfl hr hd
theorem beginnings_days (l : List Pv) (nm : ByteArray) (known : Int) (b o cap : Nat) (w : World) (hl : l.length ≤ 1000000) (hc : PvsAt w b o l) :
    Calls Tryz.prog 47 #[.slice (some ⟨b, o, none⟩) l.length cap, .string nm, .int .i64 known] w (DaysPost (once (frs l nm known)) w) := by
  refine (beginnings_any l nm known b o cap w hl hc).mono ?_
  rintro e w' (⟨h0, rfl, hb⟩ | ⟨_, g, c, rfl, h1, h2, h3, hb⟩)
  · exact ⟨_, rfl, .inl ⟨by rw [h0]; simp [once, Lib.compact, Lib.compactUpTo], rfl⟩, hb⟩
  · exact ⟨_, rfl, .inr ⟨g, c, rfl, h1, h2, h3⟩, hb⟩
set_option maxRecDepth 100000 in
theorem beginnings_0 (a : Option Addr) (cap : Nat) (nm : ByteArray) (known : Int) (w : World) :
    Calls Tryz.prog 47 #[.slice a 0 cap, .string nm, .int .i64 known] w (DaysPost [] w) := by
  go_enter Tryz.func47, Tryz.ntmps47
  go_wp2
  go_loop [7, 12] (fun d i => d = nilS ∧ i = .int .i64 0) (fun _ _ => 0)
  case atStart => exact ⟨rfl, rfl⟩
  case round =>
    obtain ⟨rfl, rfl⟩ := hrel
    go_wp2_with (first
      | (go_at_call 69; refine (Tryz.slices_Sort_int_none none 0 _).mono ?_; rintro e w' ⟨rfl, rfl⟩)
      | (go_at_call 70; refine (Tryz.slices_Compact_int_empty none 0 _).mono ?_; rintro e w' ⟨rfl, rfl⟩))
    go_ret
    exact ⟨_, rfl, .inl ⟨rfl, rfl⟩, Below.refl _ _⟩
/-- what Value returns, where the list and the days are right -/
theorem Value_hv (l : List Pv) (nm : ByteArray) (d known : Int) (b o cap : Nat) (hl : l.length ≤ 1000000) (hs : nm.size ≤ maxLen) (he : srcE l d known = 0) :
    ∃ f : Int, ((f == 0) = (hv l nm known d).2) ∧ ∀ W, PvsAt W b o l → Calls Tryz.prog 21 #[.slice (some ⟨b, o, none⟩) l.length cap, .string nm, .agg #[.int .i64 d, .int .i64 known]] W (RetB (two (.int .i64 (hv l nm known d).1) (.int .i64 f)) W) := by
  cases hd : dec l d known nm l.length with
  | none => rw [hv_none hd]; exact ⟨6, rfl, fun W hW => Value_none l nm d known b o cap W hl hs hW he hd⟩
  | some i =>
    obtain ⟨_, hil⟩ := dec_lt l d known nm l.length i hd
    have hpe := cpE_pv (srcE_cp he) hil
    rw [hv_some hil hd]
    have cV := fun W (hW : PvsAt W b o l) => Value_some l nm d known b o cap W hl hs hW he i l[i] hd (List.getElem?_eq_getElem hil)
    cases hr : l[i].repeal
    · refine ⟨0, rfl, fun W hW => ?_⟩
      have := cV W hW
      rw [hr, eI_f] at this; exact this
    · refine ⟨12, rfl, fun W hW => ?_⟩
      have := cV W hW
      rw [hr, eI_t, pv_value hpe hr] at this; exact this
end Go.Proofs.YtfphedcgmaakjabGreatDoor
