/-
  Dues of the specification of chapter 9: their error, what is open and left, what is covered; contracts.
-/
import Derived.Test.YtcimceepkjpggaaMnJ
namespace Go.Proofs.Ytcimceepkjpggaa
open Go.RowKit
attribute [local go_sem] set_drewN
theorem duE_2 {p : Int} {d : Du} (h : (inB d.day 0 200000 && inB d.cents 0 1000000000000) = false) : duE p d = 2 := by unfold duE; rw [h]; rfl
theorem duE_9 {p : Int} {d : Du} (h : (inB d.day 0 200000 && inB d.cents 0 1000000000000) = true) (h2 : d.day < p) : duE p d = 9 := by unfold duE; rw [h, decide_eq_true h2]; rfl
theorem duE_0 {p : Int} {d : Du} (h : (inB d.day 0 200000 && inB d.cents 0 1000000000000) = true) (h2 : ¬ d.day < p) : duE p d = 0 := by unfold duE; rw [h, decide_eq_false h2]; rfl
theorem prevD_0 (L : List Du) : prevD 0 L 0 = 0 := by cases L <;> rfl
set_option maxRecDepth 100000 in
set_option maxHeartbeats 4000000 in
theorem xCheckDues_any (L : List Du) (v : Value) (w : World) (hl : L.length ≤ 1000000000000) (hv : LD w v L) : Calls Try.prog 38 #[v] w (RetB (.int .i64 (duesE L)) w) := by
  obtain ⟨a, cp, rfl, -, hp⟩ := hv
  have HP := Lib.hid hp
  clear hp
  by_cases h2 : 120 < L.length
  · have e : duesE L = 8 := by unfold duesE; rw [if_pos h2]
    rw [e]
    clear e
    go_enter Try.func38, Try.ntmps38
    go_wp2
    go_ret
    exact ⟨rfl, Below.refl _ _⟩
  · have e : duesE L = feE (errsD 0 L) := by unfold duesE; rw [if_neg h2]
    obtain ⟨R, hR⟩ : ∃ R, feE (errsD 0 L) = R := ⟨_, rfl⟩
    rw [e, hR]
    have HR := Lib.hid hR
    have d120 : decide (120 < L.length) = false := decide_eq_false h2
    clear e hR
    go_enter Try.func38, Try.ntmps38
    go_wp2
    go_loopw [3] (fun i wr => ∃ k : Nat, k ≤ L.length ∧ i = .int .i64 k ∧ Hid (∀ x ∈ (errsD 0 L).take k, x = 0) ∧ Hid (Below w.heap.size w wr)) (fun i _ => L.length - (intOf i).toNat)
    case atStart => exact ⟨0, Nat.zero_le _, rfl, Lib.hid (by simp), Lib.hid (Below.refl _ _)⟩
    case round =>
      obtain ⟨k, hk, rfl, HA, HB⟩ := hrel
      by_cases hlt : k < L.length
      · have hne : L ≠ [] := by rintro rfl; simp at hlt
        obtain ⟨b, o, rfl, hd⟩ := HP.out hne
        have hdB := hd.below HB.out
        obtain ⟨c0, c1⟩ := hdB.2 k hlt
        have hkz : (k : Int) < L.length := by omega
        cases i1 : inB L[k].day 0 200000
        · have HRk := Lib.hid (((errs_bad (p := 0) hlt HA.out (by rw [duE_2 (by rw [i1]; rfl)]; decide)).symm.trans HR.out).symm.trans (duE_2 (by rw [i1]; rfl)))
          have I1 := Lib.hid i1
          clear i1 hd hdB
          generalize L[k] = d at *
          go_wp2_with (go_at_call 41; refine (xIsDay_any _ _).mono ?_; rintro e w' ⟨rfl, rfl⟩; rw [I1.out])
          go_ret
          exact ⟨ret_i HRk.out.symm, HB.out⟩
        · cases i2 : inB L[k].cents 0 1000000000000
          · have HRk := Lib.hid (((errs_bad (p := 0) hlt HA.out (by rw [duE_2 (by rw [i1, i2]; rfl)]; decide)).symm.trans HR.out).symm.trans (duE_2 (by rw [i1, i2]; rfl)))
            have I1 := Lib.hid i1
            have I2 := Lib.hid i2
            clear i1 i2 hd hdB
            generalize L[k] = d at *
            go_wp2_with (first
              | (go_at_call 41; refine (xIsDay_any _ _).mono ?_; rintro e w' ⟨rfl, rfl⟩; rw [I1.out])
              | (go_at_call 67; refine (xIsCents_any _ _ _).mono ?_; rintro e w' ⟨rfl, rfl⟩; rw [I2.out]))
            go_ret
            exact ⟨ret_i HRk.out.symm, HB.out⟩
          · have hok : (inB L[k].day 0 200000 && inB L[k].cents 0 1000000000000) = true := by rw [i1, i2]; rfl
            have hd0 := (inB_iff.1 i1).1
            have I1 := Lib.hid i1
            have I2 := Lib.hid i2
            clear i1 i2
            cases k with
            | zero =>
              have HA2 := Lib.hid (errs_take_ok (p := 0) hlt HA.out (duE_0 hok (by rw [prevD_0]; omega)))
              clear hok hd hdB hd0
              simp only [Nat.zero_mul, Nat.add_zero] at c0 c1
              generalize L[0] = d at *
              go_wp2_with (first
                | (go_at_call 41; refine (xIsDay_any _ _).mono ?_; rintro e w' ⟨rfl, rfl⟩; rw [I1.out])
                | (go_at_call 67; refine (xIsCents_any _ _ _).mono ?_; rintro e w' ⟨rfl, rfl⟩; rw [I2.out]))
              go_quiet (fail)
              go_wp2
              go_roundw
              case rel => exact ⟨1, by omega, by go_num, HA2, Lib.hid (below_n HB.out _)⟩
              case measure => simp [intOf]; omega
            | succ j =>
              have hj : j < L.length := by omega
              obtain ⟨e0, -⟩ := hdB.2 j hj
              have pv := prevD_succ 0 L j hj
              have hj1 : IntKind.i64.wrap ((j : Int) + 1 - 1) = j := by rw [IntKind.wrap_i64]; omega
              have hj2 : ((j : Int) + 1 - 1) = j := by omega
              have hjz : (j : Int) < L.length := by omega
              have hjp : (0 : Int) < (j : Int) + 1 := by omega
              have hjw : IntKind.i64.wrap (j : Int) = j := by rw [IntKind.wrap_i64]; omega
              clear hd hdB
              by_cases hlt2 : L[j + 1].day < L[j].day
              · have HRk := Lib.hid (((errs_bad (p := 0) hlt HA.out (by rw [duE_9 hok (by rw [pv]; exact hlt2)]; decide)).symm.trans HR.out).symm.trans (duE_9 hok (by rw [pv]; exact hlt2)))
                clear hok pv
                generalize L[j + 1] = d at *
                generalize L[j] = d' at *
                go_wp2_with (first
                  | (go_at_call 41; refine (xIsDay_any _ _).mono ?_; rintro e w' ⟨rfl, rfl⟩; rw [I1.out])
                  | (go_at_call 67; refine (xIsCents_any _ _ _).mono ?_; rintro e w' ⟨rfl, rfl⟩; rw [I2.out]))
                go_quiet (fail)
                go_wp2
                go_ret
                exact ⟨ret_i HRk.out.symm, below_n HB.out _⟩
              · have HA2 := Lib.hid (errs_take_ok (p := 0) hlt HA.out (duE_0 hok (by rw [pv]; exact hlt2)))
                have dl2 : decide (L[j + 1].day < L[j].day) = false := decide_eq_false hlt2
                clear hok pv
                generalize L[j + 1] = d at *
                generalize L[j] = d' at *
                go_wp2_with (first
                  | (go_at_call 41; refine (xIsDay_any _ _).mono ?_; rintro e w' ⟨rfl, rfl⟩; rw [I1.out])
                  | (go_at_call 67; refine (xIsCents_any _ _ _).mono ?_; rintro e w' ⟨rfl, rfl⟩; rw [I2.out]))
                go_quiet (fail)
                go_wp2
                go_roundw
                case rel => exact ⟨j + 1 + 1, by omega, by go_num, HA2, Lib.hid (below_n HB.out _)⟩
                case measure => simp [intOf]; omega
      · obtain rfl : k = L.length := by omega
        have e0 : R = 0 := HR.out.symm.trans (errs_all HA.out)
        subst e0
        go_wp2
        go_ret
        exact ⟨rfl, HB.out⟩
/-- the sum of all up to a day -/
def uptS (t : Int) : List Du → Int
  | [] => 0
  | d :: l => (if d.day ≤ t then d.cents else 0) + uptS t l
theorem uptS_app (t : Int) : ∀ a b : List Du, uptS t (a ++ b) = uptS t a + uptS t b
  | [], b => by simp [uptS]
  | x :: a, b => by rw [List.cons_append, uptS, uptS, uptS_app t a b]; omega
theorem uptS_bd {t : Int} : ∀ {l : List Du}, Rt l → 0 ≤ uptS t l ∧ uptS t l ≤ l.length * 1000000000000
  | [], _ => by simp [uptS]
  | d :: l, h => by
    have h1 := uptS_bd (t := t) h.tail
    have h2 := h d (by simp)
    rw [uptS, List.length_cons]
    split <;> omega
theorem upt_step {l : List Du} {t : Int} {k : Nat} (h : k < l.length) (hr : Rt l) (hl : l.length ≤ 1000) : ∃ S T, uptS t (l.take k) = S ∧ uptS t (l.take (k + 1)) = T ∧ T = S + (if l[k].day ≤ t then l[k].cents else 0) ∧ 0 ≤ S ∧ S ≤ 1000000000000000 ∧ 0 ≤ l[k].cents ∧ l[k].cents ≤ 1000000000000 := by
  have h1 := uptS_bd (t := t) (hr.take k)
  have h2 : ((l.take k).length : Int) ≤ 1000 := by
    have := List.length_take_le' k l
    omega
  refine ⟨_, _, rfl, rfl, ?_, h1.1, by omega, (hr _ (List.getElem_mem h)).1, (hr _ (List.getElem_mem h)).2⟩
  rw [List.take_succ_eq_append_getElem h, uptS_app]
  simp [uptS]
set_option maxRecDepth 100000 in
theorem upto_any (L : List Du) (v : Value) (t : Int) (w : World) (hl : L.length ≤ 1000) (hr : Rt L) (hv : LD w v L) : Calls Try.prog 75 #[v, .int .i64 t] w (RetB (.int .i64 (uptS t L)) w) := by
  obtain ⟨a, cp, rfl, -, hp⟩ := hv
  have HP := Lib.hid hp
  have HR := Lib.hid hr
  clear hp hr
  go_enter Try.func75, Try.ntmps75
  go_wp2
  go_loopw [5, 6] (fun sv iv wr => ∃ (k : Nat) (S : Int), k ≤ L.length ∧ sv = .int .i64 S ∧ iv = .int .i64 k ∧ Hid (uptS t (L.take k) = S) ∧ Hid (Below w.heap.size w wr)) (fun _ iv _ => L.length - (intOf iv).toNat)
  case atStart => exact ⟨0, 0, Nat.zero_le _, rfl, rfl, Lib.hid rfl, Lib.hid (Below.refl _ _)⟩
  case round =>
    obtain ⟨k, S, hk, rfl, rfl, HS, HB⟩ := hrel
    by_cases hlt : k < L.length
    · have hne : L ≠ [] := by rintro rfl; simp at hlt
      obtain ⟨b, o, rfl, hd⟩ := HP.out hne
      obtain ⟨c0, c1⟩ := (hd.below HB.out).2 k hlt
      obtain ⟨S', T, e1, e2, e3, b1, b2, b3, b4⟩ := upt_step (t := t) hlt HR.out hl
      obtain rfl : S' = S := e1.symm.trans HS.out
      have E2 := Lib.hid e2
      have hkz : (k : Int) < L.length := by omega
      clear hd e1 e2
      generalize L[k] = d at *
      obtain ⟨dd, dc⟩ := d
      simp only at c0 c1 b3 b4 e3
      by_cases h1 : dd ≤ t
      · rw [if_pos h1] at e3
        have E3 := Lib.hid e3
        clear e3
        go_wp2
        go_roundw
        case rel => exact ⟨k + 1, T, by omega, by rw [E3.out], by go_num, E2, HB⟩
        case measure => simp [intOf]; omega
      · rw [if_neg h1] at e3
        have E3 := Lib.hid (show T = S' by omega)
        have d1 : decide (dd ≤ t) = false := decide_eq_false h1
        clear e3
        go_wp2
        go_roundw
        case rel => exact ⟨k + 1, T, by omega, by rw [E3.out], by go_num, E2, HB⟩
        case measure => simp [intOf]; omega
    · obtain rfl : k = L.length := by omega
      have HS2 := Lib.hid (show uptS t L = S by have := HS.out; rwa [List.take_of_length_le (Nat.le_refl _)] at this)
      go_wp2
      go_ret
      exact ⟨ret_i HS2.out.symm, HB.out⟩
end Go.Proofs.Ytcimceepkjpggaa
