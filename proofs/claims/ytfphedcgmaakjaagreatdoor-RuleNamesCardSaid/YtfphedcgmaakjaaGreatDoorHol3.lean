/-
  What checkHoliday of package rule returns for a new name: one contract, for all worlds in which the map of the earlier names lies.
-/
import Derived.Test.YtfphedcgmaakjaaGreatDoorHol2
namespace Go.Proofs.YtfphedcgmaakjaaGreatDoor
open Go.RowKit Go.WideMaps Go.Maps
theorem checkHoliday_new (h : Hd) (B n : Nat) (D : DataW Unit) (w : World) (hs : h.name.size ≤ maxLen) (hn : nameB h.name = true)
    (hown : w.ownsMap Tryz.prog 9 (plainElem Tryz.prog 4) B n D) (hD : D.atKey (keyS h.name) (.lit (.bool false)) = .lit (.bool false)) :
    Calls Tryz.prog 50 #[h.val, .map (some B)] w (RetB (.int .i64 (hkE h)) w) := by
  obtain ⟨nm, kd, mo, dy, wd⟩ := h
  by_cases k0 : kd = 0
  · subst k0
    have e : hkE ⟨nm, 0, mo, dy, wd⟩ = feE [eI (!(inB mo 1 12 && inB dy 1 (Cal.md 2000 mo))) 24, eI (wd != 0) 3] := rfl
    rw [e]
    cases hg : inB mo 1 12
    · rw [Bool.false_and]; exact checkHoliday_0f nm mo dy wd B n D w hs hn hown hD hg
    · rw [Bool.true_and]; exact checkHoliday_0t nm mo dy wd B n D w hs hn hown hD hg
  · by_cases k1 : kd = 1
    · subst k1
      have e : hkE ⟨nm, 1, mo, dy, wd⟩ = feE [eI (!inB dy (-80) 240) 2, eI (mo != 0 || wd != 0) 3] := rfl
      rw [e]
      cases hg : (mo != 0)
      · rw [Bool.false_or]; exact checkHoliday_1f nm mo dy wd B n D w hs hn hown hD hg
      · rw [Bool.true_or]; exact checkHoliday_1t nm mo dy wd B n D w hs hn hown hD hg
    · by_cases k2 : kd = 2
      · subst k2
        have e : hkE ⟨nm, 2, mo, dy, wd⟩ = feE [eI (!inB mo 1 12) 24, eI (!((inB dy 1 4 || dy == -1) && inB wd 0 6)) 2] := rfl
        rw [e]
        cases h1 : inB dy 1 4
        · rw [Bool.false_or]
          cases h2 : (dy == -1)
          · rw [Bool.false_and]; exact checkHoliday_2ff nm mo dy wd B n D w hs hn hown hD h1 h2
          · rw [Bool.true_and]; exact checkHoliday_2ft nm mo dy wd B n D w hs hn hown hD h1 h2
        · rw [Bool.true_or, Bool.true_and]; exact checkHoliday_2tt nm mo dy wd B n D w hs hn hown hD h1
      · have e : hkE ⟨nm, kd, mo, dy, wd⟩ = 2 := by unfold hkE; rw [if_neg k0, if_neg k1, if_neg k2]
        rw [e]
        exact checkHoliday_3 nm kd mo dy wd B n D w hs hn hown hD (by simpa using k0) (by simpa using k1) (by simpa using k2)
/-- the error of a holiday, where the earlier names are known -/
def hdE (h : Hd) (seen : Bool) : Int := if nameB h.name then (if seen then 5 else hkE h) else 4
theorem checkHoliday_any (h : Hd) (B n : Nat) (D : DataW Unit) (seen : Bool) (w : World) (hs : h.name.size ≤ maxLen)
    (hown : w.ownsMap Tryz.prog 9 (plainElem Tryz.prog 4) B n D) (hD : D.atKey (keyS h.name) (.lit (.bool false)) = .lit (.bool seen)) :
    Calls Tryz.prog 50 #[h.val, .map (some B)] w (RetB (.int .i64 (hdE h seen)) w) := by
  unfold hdE
  cases hn : nameB h.name
  · exact checkHoliday_name h _ w hs hn
  · cases seen
    · exact checkHoliday_new h B n D w hs hn hown hD
    · exact checkHoliday_seen h B n D w hs hn hown hD
end Go.Proofs.YtfphedcgmaakjaaGreatDoor
