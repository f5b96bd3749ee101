/-
  Readings of package person: contracts.
-/
import Derived.Test.YtfneafofohfdnaaBeh
import Derived.Test.YtfneafofohfdnaaCnt
namespace Go.Proofs.Ytfneafofohfdnaa
open Go.RowKit
/-- the error of Readings -/
def rdE (s : List UInt8) : Int := feE [(cnT s).2, eI (decide (64 < (cnT s).1)) 8]
set_option maxRecDepth 100000 in
set_option maxHeartbeats 4000000 in
theorem Readings_bad (s : List UInt8) (w : World) (hl : s.length ≤ 1000000000000) (h : rdE s ≠ 0) : Calls Try.prog 12 #[.string ⟨s.toArray⟩] w (RetB (two (.slice none 0 0) (.int .i64 (rdE s))) w) := by
  have HC := Lib.hid (Count_any s w hl)
  have hb : ((rdE s : Int) != 0) = true := by simpa using h
  have HE := Lib.hid (show rdE s = feE [(cnT s).2, eI (decide (64 < (cnT s).1)) 8] from rfl)
  generalize rdE s = E at *
  generalize cnT s = p at *
  obtain ⟨C, E0⟩ := p
  try simp only at HC
  try simp only at HE
  have hd : decide (64 < C) = decide ((64 : Int) < (C : Int)) := by congr 1; apply propext; omega
  rw [hd] at HE
  obtain ⟨q, hq⟩ : ∃ q, decide ((64 : Int) < (C : Int)) = q := ⟨_, rfl⟩
  rw [hq] at HE
  have HFE := Lib.hid HE.out.symm
  clear h hd HE
  go_enter Try.func12, Try.ntmps12
  go_wp2_with (first
    | (go_at_call 11; refine HC.out.mono ?_; rintro e w1 ⟨rfl, hb1⟩)
    | (go_at_call 38; refine (errorIf_any _ _ _).mono ?_; rintro e w' ⟨rfl, rfl⟩)
    | (go_at_call 37; refine (firstError_2 E0 (eI q 8) E HFE.out _ 2 _ (IntsAt.cons (by simp [go_sem]) (IntsAt.one (by simp [go_sem])))).mono ?_; rintro e w' ⟨rfl, rfl⟩))
  go_ret2
  exact ⟨rfl, hb1.alloc hb1.size _⟩
theorem rdE_zero {s : List UInt8} (h : rdE s = 0) : (cnT s).2 = 0 ∧ (cnT s).1 ≤ 64 := by
  obtain ⟨h1, h2⟩ := feE_2 h
  refine ⟨h1, ?_⟩
  by_cases c : 64 < (cnT s).1
  · rw [decide_eq_true c] at h2; cases h2
  · omega
theorem rdg_step3 {M : List Nat} {i : Nat} (hi : i < M.length) (hok : ∀ m ∈ M, okM m) (hct : ctM M ≤ 64) (l24 : M.length ≤ 24) :
    ∃ T T2 L, rdgM (M.take i) = T ∧ rdgM (M.take (i + 1)) = T2 ∧ lets M[i] = L ∧ bhL L T = T2 ∧ T2.length ≤ 64 ∧ (∀ t ∈ T, t.length ≤ 24) ∧ T ≠ [] ∧ T.length ≤ 64 ∧ M[i] < 2 ^ 53 := by
  obtain ⟨T, T2, L, h1, h2, h3, -, h4, h5, h6, h7, h8⟩ := rdg_step hi hok hct
  exact ⟨T, T2, L, h1, h2, h3, h4, h5, fun t ht => Nat.le_trans (h6 t ht) l24, h7, h8, (hok _ (List.getElem_mem hi)).2⟩
set_option maxRecDepth 100000 in
set_option maxHeartbeats 4000000 in
theorem Readings_good (s : List UInt8) (M : List Nat) (w : World) (hl : s.length ≤ 1000000000000) (h : nmE s = 0) (gM : gdM M) (hM : rdN s = some M) (hct : ctM M ≤ 64) : Calls Try.prog 12 #[.string ⟨s.toArray⟩] w (TPost (rdgM M) w) := by
  have hC := Count_any s w hl
  rw [cnT_good h hM, if_neg (by omega)] at hC
  have HC := Lib.hid hC
  have HR := Lib.hid (fun W => readName_any s W hl)
  have H0 := Lib.hid h
  have HM := Lib.hid hM
  have HOK := Lib.hid gM.2.2
  have lM := gM.2.1
  have HCT := Lib.hid hct
  have hd : decide ((64 : Int) < (ctM M : Int)) = false := decide_eq_false (by omega)
  generalize hC0 : ctM M = C at HC hd
  clear h hM gM hct hC hC0
  go_enter Try.func12, Try.ntmps12
  go_wp2_with (first
    | (go_at_call 11; refine HC.out.mono ?_; rintro e w1 ⟨rfl, hb1⟩)
    | (go_at_call 38; refine (errorIf_any _ _ _).mono ?_; rintro e w' ⟨rfl, rfl⟩)
    | (go_at_call 37; refine (firstError_2 0 0 0 rfl _ 2 _ (IntsAt.cons (by simp [go_sem]) (IntsAt.one (by simp [go_sem, eI])))).mono ?_; rintro e w' ⟨rfl, rfl⟩))
  have B1 := Lib.hid (hb1.alloc hb1.size (.cells #[.int .i64 0, .int .i64 (eI false 8)] 25))
  generalize hW1 : w1.alloc (.cells #[.int .i64 0, .int .i64 (eI false 8)] 25) = W1 at *
  clear hW1
  refine (HR.out W1).mono ?_
  rintro e w2 ⟨a, n, c, rfl, hn, hMM, hb2⟩
  obtain ⟨g, rfl, rfl, S1⟩ := hMM M H0.out HM.out
  have B2 := Lib.hid (B1.out.trans (hb2.mono B1.out.size))
  have HS := Lib.hid S1
  have R1 := Lib.hid (CRow.one w2 [] _ rfl)
  have HRt := Lib.hid (fun (W : World) (D : List (List UInt8)) (v : Value) (h : CRow w2 W D v) => (show CRow w W D v from h.up B2.out))
  clear hMM S1
  go_wp2
  go_loopw [9, 33] (fun ov iv wr => ∃ i : Nat, i ≤ M.length ∧ iv = .int .i64 i ∧ Hid (CRow w2 wr (rdgM (M.take i)) ov)) (fun _ iv _ => M.length - (intOf iv).toNat)
  case atStart => exact ⟨0, Nat.zero_le _, rfl, R1⟩
  case round =>
    obtain ⟨i, hi2, rfl, HRow⟩ := hrel
    by_cases hlt : i < M.length
    · obtain ⟨T, T2, L, hT, hT2, hL, hbh, hl64, hte, hne, hTl, hm⟩ := rdg_step3 hlt HOK.out HCT.out lM
      rw [hT] at HRow
      obtain ⟨g2, cap2, rfl, hg2, hTx⟩ := HRow.out.closed hne
      have a1 := (HS.out.below HRow.out.2).2 i hlt
      have HBe := Lib.hid (fun (W : World) (hb : Below wr.heap.size wr W) => behind_any M[i] L T g2 cap2 W hm hL (hTx.below hb) (by rw [hbh]; exact hl64) hTl hte)
      rw [hbh] at HBe
      have HT2 := Lib.hid hT2
      clear hT hT2 hL hbh hte hne hm hTx
      generalize M[i] = m at *
      go_wp2_with (go_at_call 39; refine (HBe.out _ (Below.refl _ _)).mono ?_; rintro e w3 ⟨v3, rfl, hv3⟩; have HR3 := Lib.hid (hv3.up HRow.out.2))
      go_roundw
      case rel => exact ⟨i + 1, by omega, by go_num, by rw [HT2.out]; exact HR3⟩
      case measure => simp [intOf]; omega
    · obtain rfl : i = M.length := by omega
      rw [List.take_length] at HRow
      go_wp2
      go_ret2
      exact ⟨_, rfl, HRt.out _ _ _ HRow.out⟩
end Go.Proofs.Ytfneafofohfdnaa
