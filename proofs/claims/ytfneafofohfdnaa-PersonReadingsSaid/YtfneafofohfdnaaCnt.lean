/-
  Count of package person: a contract.
-/
import Derived.Test.YtfneafofohfdnaaDis
import Derived.Test.YtfneafofohfdnaaNaM
namespace Go.Proofs.Ytfneafofohfdnaa
open Go.RowKit
theorem ctM_big2 {M : List Nat} {k : Nat} (h : 1000000 < ctM (M.take k)) : ctM M = ctM (M.take k) := by
  have := ctM_big h (M.drop k)
  rw [List.take_append_drop] at this
  exact this
theorem ctM_take {M : List Nat} {k : Nat} (hlt : k < M.length) (hc : ctM (M.take k) ≤ 1000000) : ctM (M.take (k + 1)) = ctM (M.take k) * (lets M[k]).length := by
  have h := ctM_snoc (m := M[k]) hc
  rw [← List.take_succ_eq_append_getElem hlt] at h
  exact h
theorem cnt_step {M : List Nat} {k : Nat} (hlt : k < M.length) (hc : ctM (M.take k) ≤ 1000000) :
    ∃ C C2 L, ctM (M.take k) = C ∧ ctM (M.take (k + 1)) = C2 ∧ C2 = C * L ∧ (lets M[k]).length = L ∧ L ≤ 53 ∧ (1000000 < C2 → ctM M = C2) :=
  ⟨_, _, _, rfl, rfl, ctM_take hlt hc, rfl, lets_len _, fun h => ctM_big2 h⟩
/-- what Count returns -/
def cnT (s : List UInt8) : Nat × Int :=
  if nmE s ≠ 0 then (0, nmE s) else match rdN s with
    | some M => if 1000000 < ctM M then (0, 8) else (ctM M, 0)
    | none => (0, 0)
theorem cnT_bad {s : List UInt8} (h : nmE s ≠ 0) : cnT s = (0, nmE s) := by unfold cnT; rw [if_pos h]
theorem cnT_good {s : List UInt8} {M : List Nat} (h : nmE s = 0) (hx : rdN s = some M) : cnT s = if 1000000 < ctM M then (0, 8) else (ctM M, 0) := by unfold cnT; rw [if_neg (by simpa using h), hx]
set_option maxRecDepth 100000 in
set_option maxHeartbeats 4000000 in
theorem Count_any (s : List UInt8) (w : World) (hl : s.length ≤ 1000000000000) : Calls Try.prog 11 #[.string ⟨s.toArray⟩] w (RetB (two (.int .i64 ((cnT s).1 : Nat)) (.int .i64 (cnT s).2)) w) := by
  have hr := Lib.hid (readName_any s w hl)
  by_cases h1 : nmE s = 0
  · obtain ⟨M, gM, hx, -⟩ := gd_nmE h1
    have lM := gM.2.1
    rw [cnT_good h1 hx]
    have H1 := Lib.hid h1
    have HX := Lib.hid hx
    have GM := Lib.hid gM
    clear h1 hx gM
    obtain ⟨R, hR⟩ : ∃ R : Nat × Int, (if 1000000 < ctM M then (0, 8) else (ctM M, 0)) = R := ⟨_, rfl⟩
    rw [hR]
    have HR := Lib.hid hR
    clear hR
    go_enter Try.func11, Try.ntmps11
    go_wp2_with fail
    refine hr.out.mono ?_
    rintro e w1 ⟨a, n, c, rfl, hn, hM, hb1⟩
    obtain ⟨g, rfl, rfl, S1⟩ := hM M H1.out HX.out
    rw [H1.out]
    have HS := Lib.hid S1
    clear hM S1
    go_wp2
    go_loopw [6, 18] (fun cv iv wr => ∃ k : Nat, k ≤ M.length ∧ cv = .int .i64 (ctM (M.take k) : Nat) ∧ iv = .int .i64 k ∧ ctM (M.take k) ≤ 1000000 ∧ Hid (Below w1.heap.size w1 wr)) (fun _ iv _ => M.length - (intOf iv).toNat)
    case atStart => exact ⟨0, Nat.zero_le _, rfl, rfl, Nat.le_trans (Nat.le_of_eq (show ctM (M.take 0) = 1 from rfl)) (by omega), Lib.hid (Below.refl _ _)⟩
    case round =>
      obtain ⟨k, hk, rfl, rfl, hc, HB⟩ := hrel
      by_cases hlt : k < M.length
      · have a1 := (HS.out.below HB.out).2 k hlt
        have hb := (GM.out.2.2 _ (List.getElem_mem hlt)).2
        have HZ := Lib.hid (fun w => size_any M[k] w hb)
        obtain ⟨C, C2, L, hC, hC2, hT, hL, hle, hbg⟩ := cnt_step hlt hc
        have HC2 := Lib.hid hC2
        have HT := Lib.hid hT
        have HBig := Lib.hid hbg
        rw [hC] at hc ⊢
        rw [hL] at HZ
        have HZ2 := HZ
        generalize M[k] = m at *
        clear hC hC2 hL hT hbg HZ hb
        have hm : C * L ≤ 53000000 := Nat.le_trans (Nat.mul_le_mul hc hle) (by omega)
        have hmi : (C : Int) * (L : Int) = ((C * L : Nat) : Int) := by simp
        obtain ⟨P, hP⟩ : ∃ P, C * L = P := ⟨_, rfl⟩
        rw [hP] at HT hm hmi
        obtain rfl : C2 = P := HT.out
        clear hP HT
        by_cases hbig : 1000000 < C2
        · have HRn := Lib.hid (show ((0 : Nat), (8 : Int)) = R by rw [← HR.out, HBig.out hbig, if_pos hbig])
          have e1 := HRn.out
          subst e1
          clear HR
          go_wp2_with (go_at_call 36; refine (HZ2.out _).mono ?_; rintro e w2 ⟨rfl, rfl⟩)
          go_ret2
          exact ⟨rfl, hb1.trans (HB.out.mono hb1.size)⟩
        · go_wp2_with (go_at_call 36; refine (HZ2.out _).mono ?_; rintro e w2 ⟨rfl, rfl⟩)
          go_roundw
          case rel => exact ⟨k + 1, by omega, by rw [HC2.out], by go_num, by rw [HC2.out]; omega, HB⟩
          case measure => simp [intOf]; omega
      · obtain rfl : k = M.length := by omega
        rw [List.take_length] at hc ⊢
        have HRn := Lib.hid (show (ctM M, (0 : Int)) = R by rw [← HR.out, if_neg (by omega)])
        have e1 := HRn.out
        subst e1
        clear HR
        go_wp2
        go_ret2
        exact ⟨rfl, hb1.trans (HB.out.mono hb1.size)⟩
  · rw [cnT_bad h1]
    have hb : ((nmE s : Int) != 0) = true := by simpa using h1
    generalize hE : nmE s = E at *
    go_enter Try.func11, Try.ntmps11
    go_wp2_with fail
    refine hr.out.mono ?_
    rintro e w1 ⟨a, n, c, rfl, hn, hM, hb1⟩
    rw [hE]
    clear hM
    go_wp2
    go_ret2
    exact ⟨rfl, hb1⟩
end Go.Proofs.Ytfneafofohfdnaa
