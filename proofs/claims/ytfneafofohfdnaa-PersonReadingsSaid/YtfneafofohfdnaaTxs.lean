/-
  Lists of texts as they lie: base.Texts at equal ones, base.HasText; Count of the reference: contracts.
-/
import Derived.Test.YtfneafofohfdnaaPSg
import Derived.Test.YtfneafofohfdnaaCnt
namespace Go.Proofs.Ytfneafofohfdnaa
open Go.RowKit
/-- a slice of these texts lies -/
def TI (W : World) (v : Value) (T : List (List UInt8)) : Prop := ∃ a c, v = .slice a T.length c ∧ (T ≠ [] → ∃ g, a = some ⟨g, 0, none⟩ ∧ TxAt W g T)
theorem TI.below {W W' : World} {v : Value} {T : List (List UInt8)} (h : TI W v T) (hb : Below W.heap.size W W') : TI W' v T := by
  obtain ⟨a, c, e, h⟩ := h
  refine ⟨a, c, e, fun hn => ?_⟩
  obtain ⟨g, e2, ht⟩ := h hn
  exact ⟨g, e2, ht.below hb⟩
theorem TI_nil (W : World) (a : Option Addr) (c : Nat) : TI W (.slice a 0 c) [] := ⟨a, c, rfl, fun h => absurd rfl h⟩
set_option maxRecDepth 100000 in
theorem texts_eq {W : World} {v1 v2 : Value} {T : List (List UInt8)} (h1 : TI W v1 T) (h2 : TI W v2 T) (hl : T.length ≤ 1000) : Calls Try.prog 16 #[v1, v2] W (RetB (.bool true) W) := by
  obtain ⟨a1, c1, rfl, p1⟩ := h1
  obtain ⟨a2, c2, rfl, p2⟩ := h2
  have P1 := Lib.hid p1
  have P2 := Lib.hid p2
  clear p1 p2
  go_enter Try.func16, Try.ntmps16
  go_wp2
  go_loopw [5] (fun i wr => ∃ k : Nat, k ≤ T.length ∧ i = .int .i64 k ∧ Below W.heap.size W wr) (fun i _ => T.length - (intOf i).toNat)
  case atStart => exact ⟨0, Nat.zero_le _, rfl, Below.refl _ _⟩
  case round =>
    obtain ⟨k, hk, rfl, hB⟩ := hrel
    by_cases hlt : k < T.length
    · have hne : T ≠ [] := by rintro rfl; simp at hlt
      obtain ⟨b1, rfl, q1⟩ := P1.out hne
      obtain ⟨b2, rfl, q2⟩ := P2.out hne
      have a1 := (q1.below hB).2 k T[k] (by simp [hlt])
      have a2 := (q2.below hB).2 k T[k] (by simp [hlt])
      generalize T[k] = X at *
      clear q1 q2
      go_wp2
      go_quiet (fail)
      go_wp2
      go_roundw
      case rel => exact ⟨k + 1, by omega, by go_num, below_n hB _⟩
      case measure => simp [intOf]; omega
    · go_wp2
      go_ret
      exact ⟨rfl, hB⟩
theorem mem_step {T : List (List UInt8)} {x : List UInt8} {k : Nat} (hk : k < T.length) (h : x ∉ T.take k) (hx : T[k] ≠ x) : x ∉ T.take (k + 1) := by
  rw [List.take_succ_eq_append_getElem hk, List.mem_append]
  rintro (m | m)
  · exact h m
  · exact hx (List.mem_singleton.1 m).symm
set_option maxRecDepth 100000 in
theorem hasText_any {W : World} {v : Value} {T : List (List UInt8)} (x : List UInt8) (h : TI W v T) (hl : T.length ≤ 1000) : Calls Try.prog 24 #[v, .string ⟨x.toArray⟩] W (RetB (.bool (decide (x ∈ T))) W) := by
  obtain ⟨a1, c1, rfl, p1⟩ := h
  have P1 := Lib.hid p1
  clear p1
  obtain ⟨R, hR⟩ : ∃ R, decide (x ∈ T) = R := ⟨_, rfl⟩
  rw [hR]
  have HR := Lib.hid hR
  clear hR
  go_enter Try.func24, Try.ntmps24
  go_wp2
  go_loopw [5] (fun i wr => ∃ k : Nat, k ≤ T.length ∧ i = .int .i64 k ∧ Hid (x ∉ T.take k) ∧ Below W.heap.size W wr) (fun i _ => T.length - (intOf i).toNat)
  case atStart => exact ⟨0, Nat.zero_le _, rfl, Lib.hid (by simp), Below.refl _ _⟩
  case round =>
    obtain ⟨k, hk, rfl, HN, hB⟩ := hrel
    by_cases hlt : k < T.length
    · have hne : T ≠ [] := by rintro rfl; simp at hlt
      obtain ⟨b1, rfl, q1⟩ := P1.out hne
      have a1 := (q1.below hB).2 k T[k] (by simp [hlt])
      by_cases hx : T[k] = x
      · have HRt := Lib.hid (show true = R by rw [← HR.out]; symm; rw [decide_eq_true_eq, ← hx]; exact List.getElem_mem hlt)
        have e := HRt.out
        subst e
        rw [hx] at a1
        clear q1 hx
        go_wp2
        go_ret
        exact ⟨rfl, hB⟩
      · have HNn := Lib.hid (mem_step hlt HN.out hx)
        generalize T[k] = X at *
        have hxb : (X == x) = false := by simpa using hx
        clear q1 hx
        go_wp2
        go_roundw
        case rel => exact ⟨k + 1, by omega, by go_num, HNn, hB⟩
        case measure => simp [intOf]; omega
    · obtain rfl : k = T.length := by omega
      have HRf := Lib.hid (show false = R by
        rw [← HR.out]; symm; rw [decide_eq_false_iff_not]
        have := HN.out
        rwa [List.take_length] at this)
      have e := HRf.out
      subst e
      go_wp2
      go_ret
      exact ⟨rfl, hB⟩
theorem cnt_step2 {M : List Nat} {k C : Nat} (h : k < M.length) (hC : ctM (M.take k) = C) (hc : C ≤ 1000000) : ∃ C2 X, ctM (M.take (k + 1)) = C2 ∧ lets M[k] = X ∧ X.length ≤ 53 ∧ (C : Int) * (X.length : Int) = (C2 : Int) ∧ C2 ≤ 53000000 := by
  subst hC
  refine ⟨_, _, rfl, rfl, lets_len _, ?_, ?_⟩
  · rw [ctM_take h hc]; simp
  · rw [ctM_take h hc]; exact Nat.le_trans (Nat.mul_le_mul hc (lets_len _)) (by decide)
theorem cnt_big {M : List Nat} {k C R : Nat} (hC : ctM (M.take k) = C) (hR : ctM M = R) (h : 1000000 < C) : C = R := by
  subst hC hR
  exact (ctM_big2 h).symm
theorem cnt_end {M : List Nat} {C R : Nat} (hC : ctM (M.take M.length) = C) (hR : ctM M = R) : C = R := by
  rw [List.take_length] at hC
  exact hC.symm.trans hR
theorem ctM_le (M : List Nat) : ctM M ≤ 53000000 := by
  induction M using snocRec with
  | nil => decide
  | snoc L x ih =>
    by_cases h : ctM L ≤ 1000000
    · rw [ctM_snoc h]; exact Nat.le_trans (Nat.mul_le_mul h (lets_len x)) (by decide)
    · rw [ctM_big (by omega)]; exact ih
set_option maxRecDepth 100000 in
set_option maxHeartbeats 4000000 in
theorem rCount_any (w : World) (M : List Nat) (b c : Nat) (lM : M.length ≤ 24) (h : TxAt w b (M.map lets)) : Calls Try.prog 17 #[.slice (some ⟨b, 0, none⟩) M.length c] w (RetB (.int .i64 (ctM M : Nat)) w) := by
  have H := Lib.hid h
  clear h
  obtain ⟨R, hR⟩ : ∃ R, ctM M = R := ⟨_, rfl⟩
  rw [hR]
  have HR := Lib.hid hR
  clear hR
  go_enter Try.func17, Try.ntmps17
  go_wp2
  go_loopw [3, 4] (fun nv iv wr => ∃ k C : Nat, k ≤ M.length ∧ nv = .int .i64 (C : Int) ∧ iv = .int .i64 k ∧ Hid (ctM (M.take k) = C) ∧ Below w.heap.size w wr) (fun _ iv _ => M.length - (intOf iv).toNat)
  case atStart => exact ⟨0, 1, Nat.zero_le _, rfl, rfl, Lib.hid rfl, Below.refl _ _⟩
  case round =>
    obtain ⟨k, C, hk, rfl, rfl, HC, hB⟩ := hrel
    by_cases hlt : k < M.length
    · by_cases hc : C ≤ 1000000
      · have a1 := (H.out.below hB).2 k (lets M[k]) (by simp [hlt])
        obtain ⟨C2, X, hC2, hX, hXl, hmi, hC2l⟩ := cnt_step2 hlt HC.out hc
        rw [hX] at a1
        have HC2 := Lib.hid hC2
        have hci : (C : Int) ≤ 1000000 := by omega
        clear hC2 hX
        go_wp2
        go_roundw
        case rel => exact ⟨k + 1, C2, by omega, rfl, by go_num, HC2, hB⟩
        case measure => simp [intOf]; omega
      · have HF := Lib.hid (cnt_big HC.out HR.out (by omega))
        have e := HF.out
        subst e
        have hci : ¬ (C : Int) ≤ 1000000 := by omega
        go_wp2
        go_ret
        exact ⟨rfl, hB⟩
    · obtain rfl : k = M.length := by omega
      have HF := Lib.hid (cnt_end HC.out HR.out)
      have e := HF.out
      subst e
      go_wp2
      go_ret
      exact ⟨rfl, hB⟩
end Go.Proofs.Ytfneafofohfdnaa
