/-
  What checkHoliday of package rule returns: contracts, each for all worlds in which the map of the earlier names lies.
-/
import Derived.Test.YtfphedcgmaakjaaGreatDoorBoolMap
import Derived.Test.YtfphedcgmaakjaaGreatDoorAddR
import Derived.StillTailTactics
namespace Go.Proofs.YtfphedcgmaakjaaGreatDoor
open Go.RowKit Go.WideMaps Go.Maps
attribute [local go_sem] set_drewN
abbrev keyS (nm : ByteArray) : Lit := .string nm.data.toList
theorem lawS' : Keyed Tryz.prog 9 := string_keyed Tryz.underlying9
theorem zeroBool (w : World) : (zeroValue 4).run Tryz.prog w = .ok (.bool false) w := by kernel_rfl
/-- a holiday -/
structure Hd where
  name : ByteArray
  kind : Int
  month : Int
  day : Int
  weekday : Int
abbrev Hd.val (h : Hd) : Value := .agg #[.string h.name, .int .i64 h.kind, .int .i64 h.month, .int .i64 h.day, .int .i64 h.weekday]
/-- the error of a holiday but for its name -/
def hkE (h : Hd) : Int :=
  if h.kind = 0 then feE [eI (!(inB h.month 1 12 && inB h.day 1 (Cal.md 2000 h.month))) 24, eI (h.weekday != 0) 3]
  else if h.kind = 1 then feE [eI (!inB h.day (-80) 240) 2, eI (h.month != 0 || h.weekday != 0) 3]
  else if h.kind = 2 then feE [eI (!inB h.month 1 12) 24, eI (!((inB h.day 1 4 || h.day == -1) && inB h.weekday 0 6)) 2]
  else 2
set_option maxRecDepth 100000 in
set_option maxHeartbeats 1000000 in
theorem checkHoliday_name (h : Hd) (mp : Value) (w : World) (hs : h.name.size ≤ maxLen) (hn : nameB h.name = false) :
    Calls Tryz.prog 50 #[h.val, mp] w (RetB (.int .i64 4) w) := by
  obtain ⟨nm, kd, mo, dy, wd⟩ := h
  simp only at hs hn
  go_enter Tryz.func50, Tryz.ntmps50
  go_wp2_with (go_at_call 52; refine (isName_any _ _ hs).mono ?_; rintro e w' ⟨rfl, rfl⟩)
  go_ret
  exact ⟨rfl, (Below.refl _ _).alloc (Nat.le_refl _) _⟩
set_option maxRecDepth 100000 in
set_option maxHeartbeats 1000000 in
theorem checkHoliday_seen (h : Hd) (B n : Nat) (D : DataW Unit) (w : World) (hs : h.name.size ≤ maxLen) (hn : nameB h.name = true)
    (hown : w.ownsMap Tryz.prog 9 (plainElem Tryz.prog 4) B n D) (hD : D.atKey (keyS h.name) (.lit (.bool false)) = .lit (.bool true)) :
    Calls Tryz.prog 50 #[h.val, .map (some B)] w (RetB (.int .i64 5) w) := by
  obtain ⟨nm, kd, mo, dy, wd⟩ := h
  simp only at hs hn hD
  have hkey : keyOf Tryz.prog 9 (.string nm) = some (keyS nm) := keyOf_string_mk Tryz.underlying9 hs
  have HD := Lib.hid hD
  clear hD
  go_enter Tryz.func50, Tryz.ntmps50
  go_wp2_with (first
    | (go_at_call 52; refine (isName_any _ _ hs).mono ?_; rintro e w' ⟨rfl, rfl⟩)
    | (at_lookup; refine wpList_lookup_own_bool _ rfl _ _ 77 rfl 9 4 lawS' Tryz.underlying77 Tryz.underlying4 (zeroBool _) B n D rfl (hown.alloc _) _ _ rfl hkey ?_; intro c hat; obtain rfl : c = true := by (rw [HD.out] at hat; injection hat with h1; injection h1 with h2; exact h2.symm)))
  go_ret
  exact ⟨rfl, (Below.refl _ _).alloc (Nat.le_refl _) _⟩
set_option maxRecDepth 100000 in
set_option maxHeartbeats 1000000 in
theorem checkHoliday_0t (nm : ByteArray) (mo dy wd : Int) (B n : Nat) (D : DataW Unit) (w : World) (hs : nm.size ≤ maxLen) (hn : nameB nm = true)
    (hown : w.ownsMap Tryz.prog 9 (plainElem Tryz.prog 4) B n D) (hD : D.atKey (keyS nm) (.lit (.bool false)) = .lit (.bool false)) (hg : inB mo 1 12 = true) :
    Calls Tryz.prog 50 #[.agg #[.string nm, .int .i64 0, .int .i64 mo, .int .i64 dy, .int .i64 wd], .map (some B)] w (RetB (.int .i64 (feE [eI (!(inB dy 1 (Cal.md 2000 mo))) 24, eI (wd != 0) 3])) w) := by
  have hkey : keyOf Tryz.prog 9 (.string nm) = some (keyS nm) := keyOf_string_mk Tryz.underlying9 hs
  have HD := Lib.hid hD
  clear hD
  generalize hr : feE [eI (!(inB dy 1 (Cal.md 2000 mo))) 24, eI (wd != 0) 3] = r
  have HR := Lib.hid hr
  clear hr
  go_enter Tryz.func50, Tryz.ntmps50
  go_wp2_with (first
    | (go_at_call 52; refine (isName_any _ _ hs).mono ?_; rintro e w' ⟨rfl, rfl⟩)
    | (at_lookup; refine wpList_lookup_own_bool _ rfl _ _ 77 rfl 9 4 lawS' Tryz.underlying77 Tryz.underlying4 (zeroBool _) B n D rfl (hown.alloc _) _ _ rfl hkey ?_; intro c hat; obtain rfl : c = false := by (rw [HD.out] at hat; injection hat with h1; injection h1 with h2; exact h2.symm)))
  go_quiet (first
    | (go_at_call 30; exact quiet_left (isMonth_any _ _))
    | (go_at_call 31; exact quiet_left (monthDays_any _ _ _ (by omega) (by omega)))
    | (go_at_call 29; exact quiet_left (isFromTo_any _ _ _ _)))
  go_wp2
  refine wp_region_still_tail 7 (by kernel_rfl) (by kernel_rfl) ?_
  simp only [List.take_succ_cons, List.take_zero, List.drop_succ_cons, List.drop_zero]
  change wpStill _ _ (World.drewN _ 1) (fun a' => wpList _ _ _ _ a' (World.drewN _ 1)) _ _
  try simp only [World.drewN_drewN]
  still_step
  still_step
  still_call (same_n (errorIf_any _ _ _))
  still_step
  still_step
  still_step
  still_call (same_n (errorIf_any _ _ _))
  refine wpStill_nil ?_
  go_wp2_with (go_at_call 17; refine (firstError_any [eI (!(inB dy 1 (Cal.md 2000 mo))) 24, eI (wd != 0) 3] _ 0 2 _ (by simp) (IntsAt.cons (by simp [go_sem]) (IntsAt.one (by simp [go_sem])))).mono ?_; rintro e w' ⟨rfl, rfl⟩)
  go_ret
  exact ⟨ret_i HR.out, (below_n ((Below.refl _ _).alloc (Nat.le_refl _) _) _).alloc (by simp) _⟩
set_option maxRecDepth 100000 in
set_option maxHeartbeats 1000000 in
theorem checkHoliday_0f (nm : ByteArray) (mo dy wd : Int) (B n : Nat) (D : DataW Unit) (w : World) (hs : nm.size ≤ maxLen) (hn : nameB nm = true)
    (hown : w.ownsMap Tryz.prog 9 (plainElem Tryz.prog 4) B n D) (hD : D.atKey (keyS nm) (.lit (.bool false)) = .lit (.bool false)) (hg : inB mo 1 12 = false) :
    Calls Tryz.prog 50 #[.agg #[.string nm, .int .i64 0, .int .i64 mo, .int .i64 dy, .int .i64 wd], .map (some B)] w (RetB (.int .i64 (feE [eI (!(false)) 24, eI (wd != 0) 3])) w) := by
  have hkey : keyOf Tryz.prog 9 (.string nm) = some (keyS nm) := keyOf_string_mk Tryz.underlying9 hs
  have HD := Lib.hid hD
  clear hD
  generalize hr : feE [eI (!(false)) 24, eI (wd != 0) 3] = r
  have HR := Lib.hid hr
  clear hr
  go_enter Tryz.func50, Tryz.ntmps50
  go_wp2_with (first
    | (go_at_call 52; refine (isName_any _ _ hs).mono ?_; rintro e w' ⟨rfl, rfl⟩)
    | (at_lookup; refine wpList_lookup_own_bool _ rfl _ _ 77 rfl 9 4 lawS' Tryz.underlying77 Tryz.underlying4 (zeroBool _) B n D rfl (hown.alloc _) _ _ rfl hkey ?_; intro c hat; obtain rfl : c = false := by (rw [HD.out] at hat; injection hat with h1; injection h1 with h2; exact h2.symm)))
  go_quiet (first
    | (go_at_call 30; exact quiet_left (isMonth_any _ _))
    | (go_at_call 31; exact quiet_left (monthDays_any _ _ _ (by omega) (by omega)))
    | (go_at_call 29; exact quiet_left (isFromTo_any _ _ _ _)))
  go_wp2
  refine wp_region_still_tail 7 (by kernel_rfl) (by kernel_rfl) ?_
  simp only [List.take_succ_cons, List.take_zero, List.drop_succ_cons, List.drop_zero]
  change wpStill _ _ (World.drewN _ 1) (fun a' => wpList _ _ _ _ a' (World.drewN _ 1)) _ _
  try simp only [World.drewN_drewN]
  still_step
  still_step
  still_call (same_n (errorIf_any _ _ _))
  still_step
  still_step
  still_step
  still_call (same_n (errorIf_any _ _ _))
  refine wpStill_nil ?_
  go_wp2_with (go_at_call 17; refine (firstError_any [eI (!(false)) 24, eI (wd != 0) 3] _ 0 2 _ (by simp) (IntsAt.cons (by simp [go_sem]) (IntsAt.one (by simp [go_sem])))).mono ?_; rintro e w' ⟨rfl, rfl⟩)
  go_ret
  exact ⟨ret_i HR.out, (below_n ((Below.refl _ _).alloc (Nat.le_refl _) _) _).alloc (by simp) _⟩
end Go.Proofs.YtfphedcgmaakjaaGreatDoor
