/-
  Working days as lists. Plain mathematics; and what a calendar's worlds keep.
-/
import Derived.Test.YtfphedcgmaakjabAddL
import Derived.Test.YtfphedcgmaakjabHdOf
namespace Go.Proofs.Ytfphedcgmaakjab
open Go.RowKit
theorem wg_more {P : Int → Bool} {s : Int} (hs : s = 1 ∨ s = -1) : ∀ k d, rem s d ≤ k → wg P s k d = wg P s (k + 1) d
  | 0, d, h => by
    cases hin : inB d 0 200000
    · rw [wg_out _ hin, wg_out _ hin]
    · have := (rem_step hs hin).2; omega
  | k + 1, d, h => by
    cases hin : inB d 0 200000
    · rw [wg_out _ hin, wg_out _ hin]
    · obtain ⟨r1, r2⟩ := rem_step hs hin
      have e := wg_more (P := P) hs k (d + s) (by omega)
      cases hp : P d
      · rw [wg_no _ hin hp, wg_no _ hin hp, e]
      · rw [wg_yes _ hin hp, wg_yes _ hin hp, e]
theorem wg_fuel {P : Int → Bool} {s : Int} (hs : s = 1 ∨ s = -1) (d : Int) (k : Nat) (h : rem s d ≤ k) : ∀ j, wg P s k d = wg P s (k + j) d
  | 0 => rfl
  | j + 1 => by rw [wg_fuel hs d k h j]; exact wg_more hs (k + j) d (by omega)
theorem wg_eq {P : Int → Bool} {s : Int} (hs : s = 1 ∨ s = -1) {d : Int} {k k' : Nat} (h : rem s d ≤ k) (h' : rem s d ≤ k') : wg P s k d = wg P s k' d := by
  by_cases hk : k ≤ k'
  · have := wg_fuel (P := P) hs d k h (k' - k); rwa [show k + (k' - k) = k' from by omega] at this
  · have := wg_fuel (P := P) hs d k' h' (k - k'); rw [show k' + (k - k') = k from by omega] at this; exact this.symm
theorem wg_mem {P : Int → Bool} {s : Int} : ∀ k d x, x ∈ wg P s k d → P x = true
  | 0, d, x, h => by simp [wg] at h
  | k + 1, d, x, h => by
    cases hin : inB d 0 200000
    · rw [wg_out _ hin] at h; simp at h
    · cases hp : P d
      · rw [wg_no _ hin hp] at h; exact wg_mem k _ x h
      · rw [wg_yes _ hin hp] at h
        rcases List.mem_cons.1 h with e | h
        · subst e; exact hp
        · exact wg_mem k _ x h
/-- the c-th right day behind d -/
def cont (P : Int → Bool) (s d : Int) (c : Nat) : Option Int := if c = 0 then some d else (wg P s 200001 (d + s))[c - 1]?
theorem cont_out {P : Int → Bool} {s d : Int} {c : Nat} (hc : 0 < c) (h : inB (d + s) 0 200000 = false) : cont P s d c = none := by
  unfold cont; rw [if_neg (by omega), wg_out _ h]; rfl
theorem rem_le {s d : Int} (_ : s = 1 ∨ s = -1) (h : inB d 0 200000 = true) : rem s d ≤ 200001 := by
  obtain ⟨a, b⟩ := inB_iff.1 h
  unfold rem; split <;> omega
theorem cont_yes {P : Int → Bool} {s d : Int} {c : Nat} (hs : s = 1 ∨ s = -1) (hc : 0 < c) (h : inB (d + s) 0 200000 = true) (hp : P (d + s) = true) : cont P s d c = cont P s (d + s) (c - 1) := by
  obtain ⟨r1, _⟩ := rem_step hs h
  have r2 := rem_le hs h
  unfold cont
  rw [if_neg (by omega), show 200001 = 200000 + 1 from rfl, wg_yes 200000 h hp]
  by_cases h1 : c = 1
  · subst h1; simp
  · rw [if_neg (by omega), show c - 1 = (c - 1 - 1) + 1 from by omega, List.getElem?_cons_succ, wg_eq hs (k := 200000) (k' := 200000 + 1) (by omega) (by omega)]
    simp
theorem cont_no {P : Int → Bool} {s d : Int} {c : Nat} (hs : s = 1 ∨ s = -1) (hc : 0 < c) (h : inB (d + s) 0 200000 = true) (hp : P (d + s) = false) : cont P s d c = cont P s (d + s) c := by
  obtain ⟨r1, _⟩ := rem_step hs h
  have r2 := rem_le hs h
  unfold cont
  rw [if_neg (by omega), if_neg (by omega), show 200001 = 200000 + 1 from rfl, wg_no 200000 h hp, wg_eq hs (k := 200000) (k' := 200000 + 1) (by omega) (by omega)]
/-- a day is a working day -/
noncomputable def workB (l : List Hd) (d : Int) : Bool := decide ((d + 2) % 7 < 5) && !anyB l d
theorem workB_P {l : List Hd} (hv : ∀ h ∈ l, hkE h = 0) : ∀ d, 0 ≤ d → d ≤ 200000 → workB l d = (decide ((d + 2) % 7 < 5) && !decide (d ∈ once (hdays l (Cal.yr d)))) := by
  intro d h0 _
  unfold workB
  congr 2
  have h1 := any_iff hv h0
  have h2 := (once_spec (hdays l (Cal.yr d))).2 d
  cases hb : anyB l d
  · symm; rw [decide_eq_false_iff_not, h2]; intro c; rw [h1.2 c] at hb; cases hb
  · symm; rw [decide_eq_true_eq, h2]; exact h1.1 hb
/-- the n-th working day behind a day, or before it -/
noncomputable def addRes (l : List Hd) (day n : Int) : Option Int :=
  if 0 < n then (wg (workB l) 1 200001 (day + 1))[n.toNat - 1]? else if n < 0 then (wg (workB l) (-1) 200001 (day - 1))[(-n).toNat - 1]? else (wg (workB l) 1 200001 day)[0]?
theorem addRes_0_yes {l : List Hd} {day : Int} (h : inB day 0 200000 = true) (hw : workB l day = true) : addRes l day 0 = some day := by
  unfold addRes
  rw [if_neg (by omega), if_neg (by omega), show 200001 = 200000 + 1 from rfl, wg_yes 200000 h hw]; rfl
theorem addRes_0_no {l : List Hd} {day : Int} (h : inB day 0 200000 = true) (hw : workB l day = false) : addRes l day 0 = cont (workB l) 1 day 1 := by
  obtain ⟨r1, _⟩ := rem_step (Or.inl rfl) h
  have r2 := rem_le (Or.inl rfl) h
  unfold addRes cont
  rw [if_neg (by omega), if_neg (by omega), if_neg (by omega), show 200001 = 200000 + 1 from rfl, wg_no 200000 h hw, wg_eq (Or.inl rfl) (k := 200000) (k' := 200000 + 1) (by omega) (by omega)]
theorem addRes_pos {l : List Hd} {day n : Int} (hn : 0 < n) : addRes l day n = cont (workB l) 1 day n.toNat := by
  unfold addRes cont
  rw [if_pos hn, if_neg (by omega)]
theorem addRes_neg {l : List Hd} {day n : Int} (hn : n < 0) : addRes l day n = cont (workB l) (-1) day (-n).toNat := by
  unfold addRes cont
  rw [if_neg (by omega), if_pos hn, if_neg (by omega)]; rfl
theorem addRes_work {l : List Hd} {day n x : Int} (h : addRes l day n = some x) : workB l x = true := by
  unfold addRes at h
  split at h
  · exact wg_mem _ _ _ (List.mem_of_getElem? h)
  · split at h
    · exact wg_mem _ _ _ (List.mem_of_getElem? h)
    · exact wg_mem _ _ _ (List.mem_of_getElem? h)
/-- the worlds in which a list of holidays lies -/
structure Cw (sa : Option Addr) (sn sc : Nat) (l : List Hd) (G : World → Prop) : Prop where
  below : ∀ W W', G W → Below W.heap.size W W' → G W'
  kept : ∀ W0 b W W', G W0 → G W → KpF W0.heap.size b W W' → G W'
  chk : ∀ W, G W → Calls Try.prog 20 #[.slice sa sn sc] W (RetB (.int .i64 (chE l)) W)
  xchk : ∀ W, G W → Calls Try.prog 6 #[.slice sa sn sc] W (RetB (.int .i64 (chE l)) W)
  of : chE l = 0 → ∀ W y, G W → 1800 ≤ y → y ≤ 2347 → Calls Try.prog 40 #[.slice sa sn sc, .int .i64 y] W (DaysPost (once (hdays l y)) W)
theorem once_len' (l : List Int) : (once l).length ≤ l.length := by
  unfold once
  exact Nat.le_trans (compact_le _) (by rw [List.length_mergeSort]; exact Nat.le_refl _)
theorem once_le {l : List Hd} (h : chE l = 0) (y : Int) : (once (hdays l y)).length ≤ 1000 := by
  obtain ⟨l40, _⟩ := chE_each h
  have := once_len' (hdays l y); have := hdays_le l y l.length; rw [List.take_length] at this; omega
theorem addWorking_cal {sa : Option Addr} {sn sc : Nat} {l : List Hd} {G : World → Prop} (h : Cw sa sn sc l G) (he : chE l = 0) (w : World) (g0 : G w) (day n : Int) (hd : inB day 0 200000 = true) (hn : inB n (-2000) 2000 = true) :
    Calls Try.prog 23 #[.slice sa sn sc, .int .i64 day, .int .i64 n] w (RetB (wres (addRes l day n)) w) := by
  obtain ⟨d0, d9⟩ := inB_iff.1 hd
  obtain ⟨n0, n9⟩ := inB_iff.1 hn
  obtain ⟨l40, hv⟩ := chE_each he
  rcases Int.lt_trichotomy n 0 with g | g | g
  · exact addWorking_neg sa sn sc (fun y => once (hdays l y)) (fun y => (once_spec _).1) (once_le he) (workB l) (workB_P hv) w G h.below (fun b W W' => h.kept w b W W' g0) (Lib.hid (h.of he)) g0 day n g n0 (-n).toNat (by omega) _ d0 d9 (by omega) (by omega) (by unfold addRes; rw [if_neg (by omega), if_pos g])
  · subst g
    exact addWorking_zero sa sn sc (fun y => once (hdays l y)) (fun y => (once_spec _).1) (once_le he) (workB l) (workB_P hv) w G h.below (fun b W W' => h.kept w b W W' g0) (Lib.hid (h.of he)) g0 day 1 (by omega) _ d0 d9 (by omega) (by omega) (by unfold addRes; rw [if_neg (by omega), if_neg (by omega)])
  · exact addWorking_pos sa sn sc (fun y => once (hdays l y)) (fun y => (once_spec _).1) (once_le he) (workB l) (workB_P hv) w G h.below (fun b W W' => h.kept w b W W' g0) (Lib.hid (h.of he)) g0 day n g n.toNat (by omega) _ d0 d9 (by omega) (by omega) (by unfold addRes; rw [if_pos g])
end Go.Proofs.Ytfphedcgmaakjab
