/-
  Cover and Plan of package money: contracts.
-/
import Derived.Test.YtcimceepkjpggaaMnH
namespace Go.Proofs.Ytcimceepkjpggaa
open Go.RowKit
attribute [local go_sem] set_drewN
/-- the day on which each of the dues is covered -/
def coverM (D P : List Du) (k : Nat) : List Int := (List.range k).map fun i => dayM P (sumD (D.take (i + 1)))
theorem coverM_len (D P : List Du) (k : Nat) : (coverM D P k).length = k := by simp [coverM]
theorem coverM_succ (D P : List Du) (k : Nat) : coverM D P (k + 1) = coverM D P k ++ [dayM P (sumD (D.take (k + 1)))] := by simp [coverM, List.range_succ]
theorem coverM_get (D P : List Du) (k i : Nat) (h : i < (coverM D P k).length) : (coverM D P k)[i] = dayM P (sumD (D.take (i + 1))) := by simp [coverM]
theorem Cover_bad (v1 v2 : Value) (D P : List Du) (w : World) (h1 : LD w v1 D) (h2 : LD w v2 P) (R : Int) (hR : feE [duesE D, duesE P] = R) (hz : R ≠ 0) (lD : D.length ≤ 1000000000000) (lP : P.length ≤ 1000000000000) :
    Calls Try.prog 37 #[v1, v2] w (RetB (two (.slice none 0 0) (.int .i64 R)) w) := by
  have HK := Lib.hid (show KQ (fun W => LD W v1 D ∧ LD W v2 P) w w from ⟨fun A B h hb => ⟨h.1.below hb, h.2.below hb⟩, ⟨h1, h2⟩, Below.refl _ _⟩)
  have HR := Lib.hid hR
  have hzb : (R != 0) = true := by simpa using hz
  clear h1 h2 hR
  go_enter Try.func37, Try.ntmps37
  go_wp2_with fail
  refine (CheckDues_any D v1 _ lD HK.out.q.1).mono ?_
  rintro e w1 ⟨rfl, hb1⟩
  have K1 := Lib.hid (HK.out.bl hb1)
  clear hb1
  go_wp2_with fail
  refine (CheckDues_any P v2 _ lP K1.out.q.2).mono ?_
  rintro e w2 ⟨rfl, hb2⟩
  have K2 := Lib.hid (K1.out.bl hb2)
  clear hb2
  go_wp2_with (go_at_call 49; refine (nFirstError_any [duesE D, duesE P] _ 0 2 _ (by simp) (IntsAt.cons (by simp [go_sem]) (IntsAt.one (by simp [go_sem])))).mono ?_; rintro e w1 ⟨rfl, rfl⟩; rw [HR.out])
  go_ret2
  exact ⟨rfl, (K2.out.al _).b⟩
set_option maxRecDepth 100000 in
set_option maxHeartbeats 2000000 in
theorem Cover_ok (v1 v2 : Value) (D P : List Du) (w : World) (h1 : LD w v1 D) (h2 : LD w v2 P) (hR : feE [duesE D, duesE P] = 0) (lD : D.length ≤ 1000) (lP : P.length ≤ 1000) (rD : Rt D) (rP : Rt P) :
    Calls Try.prog 37 #[v1, v2] w fun e w' => ∃ v, e = .returned (two v (.int .i64 0)) ∧ Hid (IRow w w' (coverM D P D.length) v) := by
  have HK := Lib.hid (show KQ (fun W => LD W v1 D ∧ LD W v2 P) w w from ⟨fun A B h hb => ⟨h.1.below hb, h.2.below hb⟩, ⟨h1, h2⟩, Below.refl _ _⟩)
  have HR := Lib.hid hR
  obtain ⟨a, cp, rfl, hcp, hp⟩ := h1
  have HP := Lib.hid hp
  have RD := Lib.hid rD
  have RP := Lib.hid rP
  obtain ⟨i0, hi, hz0, hz1, hz2⟩ := info_parts infoI
  clear h2 hR hp rD rP
  go_enter Try.func37, Try.ntmps37
  go_wp2_with fail
  refine (CheckDues_any D _ _ (by omega) HK.out.q.1).mono ?_
  rintro e w1 ⟨rfl, hb1⟩
  have K1 := Lib.hid (HK.out.bl hb1)
  clear hb1
  go_wp2_with fail
  refine (CheckDues_any P v2 _ (by omega) K1.out.q.2).mono ?_
  rintro e w2 ⟨rfl, hb2⟩
  have K2 := Lib.hid (K1.out.bl hb2)
  clear hb2
  go_wp2_with (go_at_call 49; refine (nFirstError_any [duesE D, duesE P] _ 0 2 _ (by simp) (IntsAt.cons (by simp [go_sem]) (IntsAt.one (by simp [go_sem])))).mono ?_; rintro e w1 ⟨rfl, rfl⟩; rw [HR.out])
  have K3 := Lib.hid (K2.out.al (.cells #[.int .i64 (duesE D), .int .i64 (duesE P)] 25))
  go_loopw [7, 20] (fun lv iv wr => ∃ k : Nat, k ≤ D.length ∧ iv = .int .i64 k ∧ Hid (IRow w wr (coverM D P k) lv)) (fun _ iv _ => D.length - (intOf iv).toNat)
  case atStart => exact ⟨0, Nat.zero_le _, rfl, Lib.hid ⟨World.ownsRow_nil _ _ _ _, K3.out.b⟩⟩
  case round =>
    obtain ⟨k, hk, rfl, HI⟩ := hrel
    have hsz := HI.out.2.size
    by_cases hlt : k < D.length
    · have hne : D ≠ [] := by rintro rfl; simp at hlt
      obtain ⟨b, o, rfl, -⟩ := HP.out hne
      have PS := Lib.hid (coverM_succ D P k)
      have PL := Lib.hid (coverM_len D P k)
      have KZ : ((k + 1 : Nat) : Int) ≤ cp := by omega
      have C1 := Lib.hid (fun W (hb : Below w.heap.size w W) => sumOf_any (D.take (k + 1)) (.slice (some ⟨b, o, none⟩) (k + 1) cp) W (Nat.le_trans (List.length_take_le' _ _) lD) (RD.out.take _) (LD.pre (by omega) hcp (fun _ => by
        obtain ⟨a', c', e', _, q⟩ := (HK.out.bl hb).q.1
        injection e' with e1
        subst e1
        exact q hne)))
      have C2 := Lib.hid (fun W (hb : Below w.heap.size w W) => dayOf_any P v2 (sumD (D.take (k + 1))) W lP RP.out (HK.out.bl hb).q.2)
      generalize sumD (D.take (k + 1)) = S at *
      generalize dayM P S = X at *
      go_wp2_with fail
      refine (C1.out _ HI.out.2).mono ?_
      rintro e w3 ⟨rfl, hb3⟩
      have B3 := Lib.hid (HI.out.2.trans (hb3.mono hsz))
      have I3 := Lib.hid (ownsRow_below HI.out.1 hb3)
      clear hb3
      go_wp2_with fail
      refine (C2.out _ B3.out).mono ?_
      rintro e w4 ⟨rfl, hb4⟩
      have B4 := Lib.hid (B3.out.trans (hb4.mono B3.out.size))
      have I4 := Lib.hid (ownsRow_below I3.out hb4)
      have s4 := B4.out.size
      clear hb4
      go_wp2_with (at_builtin; refine wpList_append_own _ rfl _ _ 57 rfl w.heap.size 3 i0 (.int .i64 0) 1 8 Try.underlying57 hi hz0 hz1 hz2 rfl (by decide) _ _ _ rfl (I4.out.alloc _) ⟨w4.heap.size, 0, none⟩ 1 1 [.int .i64 X] rfl rfl ?c1 ?c2 ?c3 ?c4 ?c5 ?_)
      try case c1 => exact World.news_of_block (cs := #[.int .i64 X]) (heap_alloc_new _ _)
      case c2 => simp [Value.oneCell']
      case c3 => rw [PL.out]; unfold maxLen; omega
      case c4 => rw [PL.out]; omega
      case c5 => first | omega | (simp; omega)
      intro v3 w5 hown5 hgrow5 _
      have D3 := Lib.hid (IRow.snoc hown5 (B4.out.alloc s4 _) hgrow5 (I4.out.alloc _))
      go_wp2
      go_roundw
      case rel => exact ⟨k + 1, by omega, by go_num, Lib.hid (by rw [PS.out]; exact D3.out)⟩
      case measure => simp [intOf]; omega
    · obtain rfl : k = D.length := by omega
      go_wp2
      go_ret2
      exact ⟨_, rfl, HI⟩
end Go.Proofs.Ytcimceepkjpggaa
