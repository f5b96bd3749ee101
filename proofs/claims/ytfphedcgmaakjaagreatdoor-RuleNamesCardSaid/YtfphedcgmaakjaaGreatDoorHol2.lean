/-
  What checkHoliday of package rule returns for the other kinds: contracts, each for all worlds in which the map of the earlier names lies.
-/
import Derived.Test.YtfphedcgmaakjaaGreatDoorHol
namespace Go.Proofs.YtfphedcgmaakjaaGreatDoor
open Go.RowKit Go.WideMaps Go.Maps
attribute [local go_sem] set_drewN
set_option maxRecDepth 100000 in
set_option maxHeartbeats 1000000 in
theorem checkHoliday_1t (nm : ByteArray) (mo dy wd : Int) (B n : Nat) (D : DataW Unit) (w : World) (hs : nm.size ≤ maxLen) (hn : nameB nm = true)
    (hown : w.ownsMap Tryz.prog 9 (plainElem Tryz.prog 4) B n D) (hD : D.atKey (keyS nm) (.lit (.bool false)) = .lit (.bool false)) (hg : (mo != 0) = true) :
    Calls Tryz.prog 50 #[.agg #[.string nm, .int .i64 1, .int .i64 mo, .int .i64 dy, .int .i64 wd], .map (some B)] w (RetB (.int .i64 (feE [eI (!inB dy (-80) 240) 2, eI true 3])) w) := by
  have hkey : keyOf Tryz.prog 9 (.string nm) = some (keyS nm) := keyOf_string_mk Tryz.underlying9 hs
  have HD := Lib.hid hD
  clear hD
  generalize hr : feE [eI (!inB dy (-80) 240) 2, eI true 3] = r
  have HR := Lib.hid hr
  clear hr
  go_enter Tryz.func50, Tryz.ntmps50
  go_wp2_with (first
    | (go_at_call 52; refine (isName_any _ _ hs).mono ?_; rintro e w' ⟨rfl, rfl⟩)
    | (go_at_call 29; refine (isFromTo_any _ _ _ _).mono ?_; rintro e w' ⟨rfl, rfl⟩)
    | (at_lookup; refine wpList_lookup_own_bool _ rfl _ _ 77 rfl 9 4 lawS' Tryz.underlying77 Tryz.underlying4 (zeroBool _) B n D rfl (hown.alloc _) _ _ rfl hkey ?_; intro c hat; obtain rfl : c = false := by (rw [HD.out] at hat; injection hat with h1; injection h1 with h2; exact h2.symm)))
  refine wp_region_still_tail 12 (by kernel_rfl) (by kernel_rfl) ?_
  simp only [List.take_succ_cons, List.take_zero, List.drop_succ_cons, List.drop_zero]
  change wpStill _ _ (World.drewN _ 1) (fun a' => wpList _ _ _ _ a' (World.drewN _ 1)) _ _
  try simp only [World.drewN_drewN]
  still_step
  still_step
  still_call (same_n (errorIf_any _ _ _))
  still_step
  still_step
  still_step
  still_step
  still_step
  still_step
  still_step
  still_step
  still_call (same_n (errorIf_any _ _ _))
  refine wpStill_nil ?_
  go_wp2_with (go_at_call 17; refine (firstError_any [eI (!inB dy (-80) 240) 2, eI true 3] _ 0 2 _ (by simp) (IntsAt.cons (by simp [go_sem]) (IntsAt.one (by simp [go_sem])))).mono ?_; rintro e w' ⟨rfl, rfl⟩)
  go_ret
  exact ⟨ret_i HR.out, (below_n ((Below.refl _ _).alloc (Nat.le_refl _) _) _).alloc (by simp) _⟩
set_option maxRecDepth 100000 in
set_option maxHeartbeats 1000000 in
theorem checkHoliday_1f (nm : ByteArray) (mo dy wd : Int) (B n : Nat) (D : DataW Unit) (w : World) (hs : nm.size ≤ maxLen) (hn : nameB nm = true)
    (hown : w.ownsMap Tryz.prog 9 (plainElem Tryz.prog 4) B n D) (hD : D.atKey (keyS nm) (.lit (.bool false)) = .lit (.bool false)) (hg : (mo != 0) = false) :
    Calls Tryz.prog 50 #[.agg #[.string nm, .int .i64 1, .int .i64 mo, .int .i64 dy, .int .i64 wd], .map (some B)] w (RetB (.int .i64 (feE [eI (!inB dy (-80) 240) 2, eI (wd != 0) 3])) w) := by
  have hkey : keyOf Tryz.prog 9 (.string nm) = some (keyS nm) := keyOf_string_mk Tryz.underlying9 hs
  have HD := Lib.hid hD
  clear hD
  generalize hr : feE [eI (!inB dy (-80) 240) 2, eI (wd != 0) 3] = r
  have HR := Lib.hid hr
  clear hr
  go_enter Tryz.func50, Tryz.ntmps50
  go_wp2_with (first
    | (go_at_call 52; refine (isName_any _ _ hs).mono ?_; rintro e w' ⟨rfl, rfl⟩)
    | (go_at_call 29; refine (isFromTo_any _ _ _ _).mono ?_; rintro e w' ⟨rfl, rfl⟩)
    | (at_lookup; refine wpList_lookup_own_bool _ rfl _ _ 77 rfl 9 4 lawS' Tryz.underlying77 Tryz.underlying4 (zeroBool _) B n D rfl (hown.alloc _) _ _ rfl hkey ?_; intro c hat; obtain rfl : c = false := by (rw [HD.out] at hat; injection hat with h1; injection h1 with h2; exact h2.symm)))
  refine wp_region_still_tail 12 (by kernel_rfl) (by kernel_rfl) ?_
  simp only [List.take_succ_cons, List.take_zero, List.drop_succ_cons, List.drop_zero]
  change wpStill _ _ (World.drewN _ 1) (fun a' => wpList _ _ _ _ a' (World.drewN _ 1)) _ _
  try simp only [World.drewN_drewN]
  still_step
  still_step
  still_call (same_n (errorIf_any _ _ _))
  still_step
  still_step
  still_step
  still_step
  still_step
  still_step
  still_step
  still_step
  still_call (same_n (errorIf_any _ _ _))
  refine wpStill_nil ?_
  go_wp2_with (go_at_call 17; refine (firstError_any [eI (!inB dy (-80) 240) 2, eI (wd != 0) 3] _ 0 2 _ (by simp) (IntsAt.cons (by simp [go_sem]) (IntsAt.one (by simp [go_sem])))).mono ?_; rintro e w' ⟨rfl, rfl⟩)
  go_ret
  exact ⟨ret_i HR.out, (below_n ((Below.refl _ _).alloc (Nat.le_refl _) _) _).alloc (by simp) _⟩
set_option maxRecDepth 100000 in
set_option maxHeartbeats 1000000 in
theorem checkHoliday_2tt (nm : ByteArray) (mo dy wd : Int) (B n : Nat) (D : DataW Unit) (w : World) (hs : nm.size ≤ maxLen) (hn : nameB nm = true)
    (hown : w.ownsMap Tryz.prog 9 (plainElem Tryz.prog 4) B n D) (hD : D.atKey (keyS nm) (.lit (.bool false)) = .lit (.bool false)) (h1 : inB dy 1 4 = true) :
    Calls Tryz.prog 50 #[.agg #[.string nm, .int .i64 2, .int .i64 mo, .int .i64 dy, .int .i64 wd], .map (some B)] w (RetB (.int .i64 (feE [eI (!inB mo 1 12) 24, eI (!(inB wd 0 6)) 2])) w) := by
  have hkey : keyOf Tryz.prog 9 (.string nm) = some (keyS nm) := keyOf_string_mk Tryz.underlying9 hs
  have HD := Lib.hid hD
  clear hD
  generalize hr : feE [eI (!inB mo 1 12) 24, eI (!(inB wd 0 6)) 2] = r
  have HR := Lib.hid hr
  clear hr
  go_enter Tryz.func50, Tryz.ntmps50
  go_wp2_with (first
    | (go_at_call 52; refine (isName_any _ _ hs).mono ?_; rintro e w' ⟨rfl, rfl⟩)
    | (go_at_call 29; refine (isFromTo_any _ _ _ _).mono ?_; rintro e w' ⟨rfl, rfl⟩)
    | (at_lookup; refine wpList_lookup_own_bool _ rfl _ _ 77 rfl 9 4 lawS' Tryz.underlying77 Tryz.underlying4 (zeroBool _) B n D rfl (hown.alloc _) _ _ rfl hkey ?_; intro c hat; obtain rfl : c = false := by (rw [HD.out] at hat; injection hat with h1; injection h1 with h2; exact h2.symm))
    | (go_at_call 30; refine (isMonth_any _ _).mono ?_; rintro e w' ⟨rfl, rfl⟩)
    | (go_at_call 38; refine (errorIf_any _ _ _).mono ?_; rintro e w' ⟨rfl, rfl⟩)
    | (go_at_call 17; refine (firstError_any [eI (!inB mo 1 12) 24, eI (!(inB wd 0 6)) 2] _ 0 2 _ (by simp) (IntsAt.cons (by simp [go_sem]) (IntsAt.one (by simp [go_sem])))).mono ?_; rintro e w' ⟨rfl, rfl⟩))
  go_ret
  exact ⟨ret_i HR.out, ((Below.refl _ _).alloc (Nat.le_refl _) _).alloc (by simp) _⟩
set_option maxRecDepth 100000 in
set_option maxHeartbeats 1000000 in
theorem checkHoliday_2ft (nm : ByteArray) (mo dy wd : Int) (B n : Nat) (D : DataW Unit) (w : World) (hs : nm.size ≤ maxLen) (hn : nameB nm = true)
    (hown : w.ownsMap Tryz.prog 9 (plainElem Tryz.prog 4) B n D) (hD : D.atKey (keyS nm) (.lit (.bool false)) = .lit (.bool false)) (h1 : inB dy 1 4 = false) (h2 : (dy == -1) = true) :
    Calls Tryz.prog 50 #[.agg #[.string nm, .int .i64 2, .int .i64 mo, .int .i64 dy, .int .i64 wd], .map (some B)] w (RetB (.int .i64 (feE [eI (!inB mo 1 12) 24, eI (!(inB wd 0 6)) 2])) w) := by
  have hkey : keyOf Tryz.prog 9 (.string nm) = some (keyS nm) := keyOf_string_mk Tryz.underlying9 hs
  have HD := Lib.hid hD
  clear hD
  generalize hr : feE [eI (!inB mo 1 12) 24, eI (!(inB wd 0 6)) 2] = r
  have HR := Lib.hid hr
  clear hr
  go_enter Tryz.func50, Tryz.ntmps50
  go_wp2_with (first
    | (go_at_call 52; refine (isName_any _ _ hs).mono ?_; rintro e w' ⟨rfl, rfl⟩)
    | (go_at_call 29; refine (isFromTo_any _ _ _ _).mono ?_; rintro e w' ⟨rfl, rfl⟩)
    | (at_lookup; refine wpList_lookup_own_bool _ rfl _ _ 77 rfl 9 4 lawS' Tryz.underlying77 Tryz.underlying4 (zeroBool _) B n D rfl (hown.alloc _) _ _ rfl hkey ?_; intro c hat; obtain rfl : c = false := by (rw [HD.out] at hat; injection hat with h1; injection h1 with h2; exact h2.symm))
    | (go_at_call 30; refine (isMonth_any _ _).mono ?_; rintro e w' ⟨rfl, rfl⟩)
    | (go_at_call 38; refine (errorIf_any _ _ _).mono ?_; rintro e w' ⟨rfl, rfl⟩)
    | (go_at_call 17; refine (firstError_any [eI (!inB mo 1 12) 24, eI (!(inB wd 0 6)) 2] _ 0 2 _ (by simp) (IntsAt.cons (by simp [go_sem]) (IntsAt.one (by simp [go_sem])))).mono ?_; rintro e w' ⟨rfl, rfl⟩))
  go_ret
  exact ⟨ret_i HR.out, ((Below.refl _ _).alloc (Nat.le_refl _) _).alloc (by simp) _⟩
set_option maxRecDepth 100000 in
set_option maxHeartbeats 1000000 in
theorem checkHoliday_2ff (nm : ByteArray) (mo dy wd : Int) (B n : Nat) (D : DataW Unit) (w : World) (hs : nm.size ≤ maxLen) (hn : nameB nm = true)
    (hown : w.ownsMap Tryz.prog 9 (plainElem Tryz.prog 4) B n D) (hD : D.atKey (keyS nm) (.lit (.bool false)) = .lit (.bool false)) (h1 : inB dy 1 4 = false) (h2 : (dy == -1) = false) :
    Calls Tryz.prog 50 #[.agg #[.string nm, .int .i64 2, .int .i64 mo, .int .i64 dy, .int .i64 wd], .map (some B)] w (RetB (.int .i64 (feE [eI (!inB mo 1 12) 24, eI (!(false)) 2])) w) := by
  have hkey : keyOf Tryz.prog 9 (.string nm) = some (keyS nm) := keyOf_string_mk Tryz.underlying9 hs
  have HD := Lib.hid hD
  clear hD
  generalize hr : feE [eI (!inB mo 1 12) 24, eI (!(false)) 2] = r
  have HR := Lib.hid hr
  clear hr
  go_enter Tryz.func50, Tryz.ntmps50
  go_wp2_with (first
    | (go_at_call 52; refine (isName_any _ _ hs).mono ?_; rintro e w' ⟨rfl, rfl⟩)
    | (go_at_call 29; refine (isFromTo_any _ _ _ _).mono ?_; rintro e w' ⟨rfl, rfl⟩)
    | (at_lookup; refine wpList_lookup_own_bool _ rfl _ _ 77 rfl 9 4 lawS' Tryz.underlying77 Tryz.underlying4 (zeroBool _) B n D rfl (hown.alloc _) _ _ rfl hkey ?_; intro c hat; obtain rfl : c = false := by (rw [HD.out] at hat; injection hat with h1; injection h1 with h2; exact h2.symm))
    | (go_at_call 30; refine (isMonth_any _ _).mono ?_; rintro e w' ⟨rfl, rfl⟩)
    | (go_at_call 38; refine (errorIf_any _ _ _).mono ?_; rintro e w' ⟨rfl, rfl⟩)
    | (go_at_call 17; refine (firstError_any [eI (!inB mo 1 12) 24, eI (!(false)) 2] _ 0 2 _ (by simp) (IntsAt.cons (by simp [go_sem]) (IntsAt.one (by simp [go_sem])))).mono ?_; rintro e w' ⟨rfl, rfl⟩))
  go_ret
  exact ⟨ret_i HR.out, ((Below.refl _ _).alloc (Nat.le_refl _) _).alloc (by simp) _⟩
set_option maxRecDepth 100000 in
set_option maxHeartbeats 1000000 in
theorem checkHoliday_3 (nm : ByteArray) (kd mo dy wd : Int) (B n : Nat) (D : DataW Unit) (w : World) (hs : nm.size ≤ maxLen) (hn : nameB nm = true)
    (hown : w.ownsMap Tryz.prog 9 (plainElem Tryz.prog 4) B n D) (hD : D.atKey (keyS nm) (.lit (.bool false)) = .lit (.bool false)) (k0 : (kd == 0) = false) (k1 : (kd == 1) = false) (k2 : (kd == 2) = false) :
    Calls Tryz.prog 50 #[.agg #[.string nm, .int .i64 kd, .int .i64 mo, .int .i64 dy, .int .i64 wd], .map (some B)] w (RetB (.int .i64 (2)) w) := by
  have hkey : keyOf Tryz.prog 9 (.string nm) = some (keyS nm) := keyOf_string_mk Tryz.underlying9 hs
  have HD := Lib.hid hD
  clear hD
  go_enter Tryz.func50, Tryz.ntmps50
  go_wp2_with (first
    | (go_at_call 52; refine (isName_any _ _ hs).mono ?_; rintro e w' ⟨rfl, rfl⟩)
    | (at_lookup; refine wpList_lookup_own_bool _ rfl _ _ 77 rfl 9 4 lawS' Tryz.underlying77 Tryz.underlying4 (zeroBool _) B n D rfl (hown.alloc _) _ _ rfl hkey ?_; intro c hat; obtain rfl : c = false := by (rw [HD.out] at hat; injection hat with h1; injection h1 with h2; exact h2.symm)))
  go_ret
  exact ⟨rfl, (Below.refl _ _).alloc (Nat.le_refl _) _⟩
end Go.Proofs.YtfphedcgmaakjaaGreatDoor
