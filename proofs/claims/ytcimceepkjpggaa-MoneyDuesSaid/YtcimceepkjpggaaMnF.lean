/-
  sumOf and beginning of package money: contracts for all worlds and lists.
-/
import Derived.Test.YtcimceepkjpggaaMnE
namespace Go.Proofs.Ytcimceepkjpggaa
open Go.RowKit
attribute [local go_sem] set_drewN
theorem sum_step {l : List Du} {k : Nat} (h : k < l.length) (hr : Rt l) (hl : l.length ≤ 1000) : ∃ S T, sumD (l.take k) = S ∧ sumD (l.take (k + 1)) = T ∧ T = S + l[k].cents ∧ 0 ≤ S ∧ S ≤ 1000000000000000 ∧ 0 ≤ l[k].cents ∧ l[k].cents ≤ 1000000000000 := by
  have h1 := sumD_le (hr.take k)
  have h2 : ((l.take k).length : Int) ≤ 1000 := by
    have := List.length_take_le k l
    have := List.length_take_le' k l
    omega
  exact ⟨_, _, rfl, rfl, sumD_succ h, sumD_pos (hr.take k), by omega, (hr _ (List.getElem_mem h)).1, (hr _ (List.getElem_mem h)).2⟩
set_option maxRecDepth 100000 in
theorem sumOf_any (L : List Du) (v : Value) (w : World) (hl : L.length ≤ 1000) (hr : Rt L) (hv : LD w v L) : Calls Try.prog 69 #[v] w (RetB (.int .i64 (sumD L)) w) := by
  obtain ⟨a, cp, rfl, -, hp⟩ := hv
  have HP := Lib.hid hp
  have HR := Lib.hid hr
  clear hp hr
  go_enter Try.func69, Try.ntmps69
  go_wp2
  go_loopw [3, 8] (fun sv iv wr => ∃ (k : Nat) (S : Int), k ≤ L.length ∧ sv = .int .i64 S ∧ iv = .int .i64 k ∧ Hid (sumD (L.take k) = S) ∧ Hid (Below w.heap.size w wr)) (fun _ iv _ => L.length - (intOf iv).toNat)
  case atStart => exact ⟨0, 0, Nat.zero_le _, rfl, rfl, Lib.hid rfl, Lib.hid (Below.refl _ _)⟩
  case round =>
    obtain ⟨k, S, hk, rfl, rfl, HS, HB⟩ := hrel
    have hsz := HB.out.size
    by_cases hlt : k < L.length
    · have hne : L ≠ [] := by rintro rfl; simp at hlt
      obtain ⟨b, o, rfl, hd⟩ := HP.out hne
      obtain ⟨c0, c1⟩ := (hd.below HB.out).2 k hlt
      obtain ⟨S', T, e1, e2, e3, b1, b2, b3, b4⟩ := sum_step hlt HR.out hl
      obtain rfl : S' = S := e1.symm.trans HS.out
      have E2 := Lib.hid e2
      have E3 := Lib.hid e3
      clear hd e1 e2 e3
      generalize L[k] = d at *
      go_wp2
      go_roundw
      case rel => exact ⟨k + 1, T, by omega, by rw [E3.out], by go_num, Lib.hid E2.out, Lib.hid (HB.out.alloc hsz _)⟩
      case measure => simp [intOf]; omega
    · obtain rfl : k = L.length := by omega
      have HS2 := Lib.hid (show sumD L = S by have := HS.out; rwa [List.take_of_length_le (Nat.le_refl _)] at this)
      go_wp2
      go_ret
      exact ⟨ret_i HS2.out.symm, HB.out⟩
/-- the closure over the block Bd, which holds a day -/
abbrev untF (Bd : Nat) : Value := .func (.func 68) #[] #[.pointer (some ⟨Bd, 0, none⟩)]
theorem open1_any (d : Du) (t : Int) (Bd : Nat) (w : World) (hc : w.cell? ⟨Bd, 0, none⟩ = some (.int .i64 t)) : Calls Try.prog 68 #[d.val, .pointer (some ⟨Bd, 0, none⟩)] w (RetB (.bool (decide (d.day ≤ t))) w) := by
  have hc2 := ((Below.refl w.heap.size w).alloc (Nat.le_refl _) (.cells #[.int .i64 d.day, .int .i64 d.cents] 69)).cell (p := ⟨Bd, 0, none⟩) (World.block_lt_of_cell? _ _ hc)
  rw [hc] at hc2
  clear hc
  go_enter Try.func68, Try.ntmps68
  go_wp2
  go_ret
  exact ⟨rfl, (Below.refl _ _).alloc (Nat.le_refl _) _⟩
set_option maxRecDepth 100000 in
theorem beginning_any (L : List Du) (v : Value) (t : Int) (Bd : Nat) (w : World) (hl : L.length ≤ 1000000000000) (hv : LD w v L) (hc : w.cell? ⟨Bd, 0, none⟩ = some (.int .i64 t)) :
    Calls Try.prog 70 #[v, untF Bd] w fun e w' => ∃ v', e = .returned v' ∧ LD w' v' (begD t L) ∧ Below w.heap.size w w' := by
  obtain ⟨a, cp, rfl, hcp, hp⟩ := hv
  have HP := Lib.hid hp
  have HC := Lib.hid hc
  have hcz : (L.length : Int) ≤ cp := by omega
  clear hp hc
  go_enter Try.func70, Try.ntmps70
  go_wp2
  go_loopw [9] (fun iv wr => ∃ k : Nat, k ≤ L.length ∧ iv = .int .i64 k ∧ Hid (∀ d ∈ L.take k, d.day ≤ t) ∧ Hid (Below w.heap.size w wr)) (fun iv _ => L.length - (intOf iv).toNat)
  case atStart => exact ⟨0, Nat.zero_le _, rfl, Lib.hid (by simp), Lib.hid (Below.refl _ _)⟩
  case round =>
    obtain ⟨k, hk, rfl, HA, HB⟩ := hrel
    have hsz := HB.out.size
    by_cases hlt : k < L.length
    · have hne : L ≠ [] := by rintro rfl; simp at hlt
      obtain ⟨b, o, rfl, hd⟩ := HP.out hne
      have hd2 := hd.below HB.out
      obtain ⟨c0, c1⟩ := hd2.2 k hlt
      have HD2 := Lib.hid hd2
      have CK := Lib.hid (fun ob => open1_any L[k] t Bd (wr.alloc ob) (((Below.refl wr.heap.size wr).alloc (Nat.le_refl _) ob).cell (p := ⟨Bd, 0, none⟩) (Nat.lt_of_lt_of_le (World.block_lt_of_cell? _ _ HC.out) hsz) |>.trans ((HB.out.cell (p := ⟨Bd, 0, none⟩) (World.block_lt_of_cell? _ _ HC.out)).trans HC.out)))
      clear hd hd2
      by_cases hz : L[k].day ≤ t
      · have HA2 := Lib.hid (show ∀ d ∈ L.take (k + 1), d.day ≤ t by
          intro x m
          rw [List.take_succ_eq_append_getElem hlt] at m
          rcases List.mem_append.1 m with m | m
          · exact HA.out x m
          · rw [List.mem_singleton.1 m]; exact hz)
        rw [decide_eq_true hz] at CK
        clear hz
        generalize L[k] = d at *
        go_wp2_with (go_at_call 68; refine (CK.out _).mono ?_; rintro e w2 ⟨rfl, hb2⟩; have q2 := hb2.size; have B2 := Lib.hid hb2; clear hb2)
        go_roundw
        case rel => exact ⟨k + 1, by omega, by go_num, HA2, Lib.hid ((HB.out.alloc hsz _).trans (B2.out.mono (by simp; omega)))⟩
        case measure => simp [intOf]; omega
      · have HE := Lib.hid (begD_at hlt HA.out hz)
        rw [decide_eq_false hz] at CK
        clear hz
        generalize L[k] = d at *
        go_wp2_with (go_at_call 68; refine (CK.out _).mono ?_; rintro e w2 ⟨rfl, hb2⟩; have q2 := hb2.size; have B2 := Lib.hid hb2; clear hb2)
        go_ret
        have hBB := (HB.out.alloc hsz _).trans (B2.out.mono (by simp; omega))
        refine ⟨_, rfl, ?_, hBB⟩
        rw [HE.out]
        exact LD.pre hk hcp (fun _ => ⟨b, o, rfl, (HD2.out.below ((Below.refl _ _).alloc (Nat.le_refl _) _)).below B2.out⟩)
    · obtain rfl : k = L.length := by omega
      have HE := Lib.hid (begD_all (t := t) (l := L) (by have := HA.out; rwa [List.take_of_length_le (Nat.le_refl _)] at this))
      go_wp2
      go_ret
      refine ⟨_, rfl, ?_, HB.out⟩
      rw [HE.out]
      exact ⟨a, cp, rfl, hcp, fun hn => let ⟨b, o, e2, hd⟩ := HP.out hn; ⟨b, o, e2, hd.below HB.out⟩⟩
end Go.Proofs.Ytcimceepkjpggaa
