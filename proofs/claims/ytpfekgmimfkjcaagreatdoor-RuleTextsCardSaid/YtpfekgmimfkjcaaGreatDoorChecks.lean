/-
  What checkDays, firstError and errorIf of package rule return: contracts, each for all worlds in which the list that is handed over lies in one block.
-/
import Derived.Test.YtpfekgmimfkjcaaGreatDoorDays
namespace Go.Proofs.YtpfekgmimfkjcaaGreatDoor
open Go.RowKit
/-- a list of whole numbers lies in block b, from cell o on -/
def IntsAt (w : World) (b o : Nat) (xs : List Int) : Prop := ∀ i (h : i < xs.length), w.cell? ⟨b, o + i, none⟩ = some (.int .i64 xs[i])
theorem IntsAt.one {w : World} {b o : Nat} {x : Int} (h : w.cell? ⟨b, o, none⟩ = some (.int .i64 x)) : IntsAt w b o [x] := by
  intro i hi
  have : i = 0 := by simpa using hi
  subst this
  exact h
theorem IntsAt.cons {w : World} {b o : Nat} {x : Int} {xs : List Int} (h : w.cell? ⟨b, o, none⟩ = some (.int .i64 x)) (t : IntsAt w b (o + 1) xs) : IntsAt w b o (x :: xs) := by
  intro i hi
  cases i with
  | zero => exact h
  | succ i => have := t i (by simpa using hi); simpa [Nat.add_assoc, Nat.add_comm 1 i] using this
/-- the error of some days: 2 (ErrRange) if one is none -/
def cdE (xs : List Int) : Int := if xs.all fun x => inB x 0 200000 then 0 else 2
theorem cdE_ok {xs : List Int} (h : ∀ x ∈ xs, inB x 0 200000 = true) : cdE xs = 0 := by
  unfold cdE; rw [if_pos (by simpa using h)]
theorem cdE_no {xs : List Int} {i : Nat} (hi : i < xs.length) (h : inB xs[i] 0 200000 = false) : cdE xs = 2 := by
  unfold cdE
  rw [if_neg]
  intro c
  simp only [List.all_eq_true] at c
  have := c _ (List.getElem_mem hi)
  rw [h] at this; cases this
theorem mem_take_succ {xs : List Int} {k : Nat} (hk : k < xs.length) {p : Int → Prop} (h : ∀ x ∈ xs.take k, p x) (hx : p xs[k]) : ∀ x ∈ xs.take (k + 1), p x := by
  intro x m
  rw [List.take_succ_eq_append_getElem hk] at m
  rcases List.mem_append.1 m with m | m
  · exact h x m
  · rw [List.mem_singleton.1 m]; exact hx
set_option maxHeartbeats 400000 in
theorem checkDays_any (xs : List Int) (b o cap : Nat) (w : World) (hl : xs.length ≤ 1000) (hc : IntsAt w b o xs) :
    Calls Tryz.prog 43 #[.slice (some ⟨b, o, none⟩) xs.length cap] w (Ret (.int .i64 (cdE xs)) w) := by
  have HC := Lib.hid hc
  clear hc
  go_enter Tryz.func43, Tryz.ntmps43
  go_wp2
  go_loop [7] (fun i => ∃ k : Nat, k ≤ xs.length ∧ i = .int .i64 k ∧ ∀ x ∈ xs.take k, inB x 0 200000 = true) (fun i => xs.length - (intOf i).toNat)
  case atStart => exact ⟨0, Nat.zero_le _, rfl, by simp⟩
  case round =>
    obtain ⟨k, hk, rfl, hall⟩ := hrel
    have HA := Lib.hid hall
    clear hall
    by_cases hlt : k < xs.length
    · have hcell := HC.out k hlt
      cases hx : inB xs[k] 0 200000
      · have HX := Lib.hid hx
        go_wp2_with (go_at_call 40; refine (isDay_any _ _).mono ?_; rintro e w' ⟨rfl, rfl⟩)
        go_ret
        exact ⟨ret_i (cdE_no hlt HX.out).symm, rfl⟩
      · have HX := Lib.hid hx
        go_wp2_with (go_at_call 40; refine (isDay_any _ _).mono ?_; rintro e w' ⟨rfl, rfl⟩)
        go_round
        case rel => exact ⟨k + 1, by omega, by go_num, mem_take_succ hlt HA.out HX.out⟩
        case measure => simp [intOf]; omega
    · go_wp2
      go_ret
      exact ⟨ret_i (cdE_ok (by have := HA.out; rwa [List.take_of_length_le (by omega)] at this)).symm, rfl⟩
/-- the first number of a list that is not 0, or 0 -/
def feE : List Int → Int
  | [] => 0
  | x :: xs => if x = 0 then feE xs else x
theorem feE_ok : ∀ {xs : List Int}, (∀ x ∈ xs, x = 0) → feE xs = 0
  | [], _ => rfl
  | x :: xs, h => by unfold feE; rw [if_pos (h x (by simp))]; exact feE_ok fun y m => h y (by simp [m])
theorem feE_no : ∀ {xs : List Int} {k : Nat} (hk : k < xs.length), (∀ x ∈ xs.take k, x = 0) → xs[k] ≠ 0 → feE xs = xs[k]
  | x :: xs, 0, _, _, h => by unfold feE; rw [if_neg (by simpa using h)]; rfl
  | x :: xs, k + 1, hk, h0, h => by
    unfold feE; rw [if_pos (h0 x (by simp))]
    simpa using feE_no (xs := xs) (k := k) (by simpa using hk) (fun y m => h0 y (by simp [m])) (by simpa using h)
set_option maxHeartbeats 400000 in
theorem firstError_any (xs : List Int) (b o cap : Nat) (w : World) (hl : xs.length ≤ 1000) (hc : IntsAt w b o xs) :
    Calls Tryz.prog 24 #[.slice (some ⟨b, o, none⟩) xs.length cap] w (Ret (.int .i64 (feE xs)) w) := by
  have HC := Lib.hid hc
  clear hc
  go_enter Tryz.func24, Tryz.ntmps24
  go_wp2
  go_loop [7] (fun i => ∃ k : Nat, k ≤ xs.length ∧ i = .int .i64 k ∧ ∀ x ∈ xs.take k, x = 0) (fun i => xs.length - (intOf i).toNat)
  case atStart => exact ⟨0, Nat.zero_le _, rfl, by simp⟩
  case round =>
    obtain ⟨k, hk, rfl, hall⟩ := hrel
    have HA := Lib.hid hall
    clear hall
    by_cases hlt : k < xs.length
    · have hcell := HC.out k hlt
      by_cases hx : xs[k] = 0
      · have HX := Lib.hid hx
        rw [hx] at hcell
        clear hx
        go_wp2
        go_round
        case rel => exact ⟨k + 1, by omega, by go_num, mem_take_succ hlt HA.out HX.out⟩
        case measure => simp [intOf]; omega
      · have HX := Lib.hid hx
        have hb : (xs[k] != 0) = true := by simpa using hx
        clear hx
        go_wp2
        go_ret
        exact ⟨ret_i (feE_no hlt HA.out HX.out).symm, rfl⟩
    · go_wp2
      go_ret
      exact ⟨ret_i (feE_ok (by have := HA.out; rwa [List.take_of_length_le (by omega)] at this)).symm, rfl⟩
/-- an error if something is wrong -/
def eI (c : Bool) (x : Int) : Int := if c then x else 0
theorem eI_t (x : Int) : eI true x = x := rfl
theorem eI_f (x : Int) : eI false x = 0 := rfl
theorem errorIf_any (c : Bool) (x : Int) (w : World) : Calls Tryz.prog 46 #[.bool c, .int .i64 x] w (Ret (.int .i64 (eI c x)) w) := by
  cases c
  all_goals
    first | rw [eI_t] | rw [eI_f]
    go_enter Tryz.func46, Tryz.ntmps46
    go_wp2
    go_ret
    exact ⟨rfl, rfl⟩
end Go.Proofs.YtpfekgmimfkjcaaGreatDoor
