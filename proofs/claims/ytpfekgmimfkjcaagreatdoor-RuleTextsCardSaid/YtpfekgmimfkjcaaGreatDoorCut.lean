/-
  What Cut of package mortsafebase returns: the pieces of a text; a contract for all worlds.
-/
import Derived.Test.YtpfekgmimfkjcaaGreatDoorSplM
import Derived.Test.YtpfekgmimfkjcaaGreatDoorStrs
namespace Go.Proofs.YtpfekgmimfkjcaaGreatDoor
open Go.RowKit
attribute [local go_sem] set_drewN
theorem ext_drop (s : ByteArray) (a b : Nat) : s.extract a b = ⟨((s.data.toList.take b).drop a).toArray⟩ := by
  apply ByteArray.ext
  apply Array.ext'
  rw [Lib.extract_data, List.drop_take]
/-- what Cut returns -/
def CutPost (T : List (List UInt8)) (w : World) (e : Ending) (w' : World) : Prop :=
  ∃ g cap, e = .returned (.slice (some ⟨g, 0, none⟩) T.length cap) ∧ w.heap.size ≤ g ∧ TxAt w' g T ∧ Below w.heap.size w w'
set_option maxRecDepth 100000 in
set_option maxHeartbeats 4000000 in
theorem cut_any (s : ByteArray) (c : UInt8) (w : World) (hs : s.size ≤ 1000000) :
    Calls Tryz.prog 35 #[.string s, .int .u8 (c.toNat : Int)] w (CutPost (spl c s.data.toList) w) := by
  obtain ⟨i0, hi, hz0, hz1, hz2⟩ := info_parts infoS
  have hsl : s.data.toList.length = s.size := (Lib.size_eq s).symm
  have HSL := Lib.hid hsl
  clear hsl
  go_enter Tryz.func35, Tryz.ntmps35
  go_wp2
  go_loopw [5, 6, 7] (fun ov sv iv wr => ∃ (D : List (List UInt8)) (st k : Nat), st ≤ k ∧ k ≤ s.size ∧ sv = .int .i64 st ∧ iv = .int .i64 k ∧ spl c s.data.toList = D ++ spl c (s.data.toList.drop st) ∧ c ∉ (s.data.toList.take k).drop st ∧ D.length ≤ st ∧ CRow w wr D ov) (fun _ _ iv _ => s.size - (intOf iv).toNat)
  case atStart =>
    exact ⟨[], 0, 0, Nat.le_refl _, Nat.zero_le _, rfl, rfl, by simp, by simp, by simp, World.ownsRow_made w #[] 0 (Nat.le_refl _) (Nat.zero_le _) (by simp), (Below.refl _ _).alloc (Nat.le_refl _) _⟩
  case round =>
    obtain ⟨D, st, k, hst, hk, rfl, rfl, hsp, hno, hDl, hrow⟩ := hrel
    have hB := hrow.2
    have hsz := hB.size
    have HR := Lib.hid hrow
    have HS := Lib.hid hsp
    have HN := Lib.hid hno
    clear hrow hsp hno
    by_cases hlt : k < s.size
    · have hget : s.data.toList[k]'(by rw [HSL.out]; exact hlt) = s[k] := by simp [ByteArray.getElem_eq_getElem_data]
      by_cases hc : s[k] = c
      · have hS2 := Lib.hid (show spl c s.data.toList = (D ++ [(s.data.toList.take k).drop st]) ++ spl c (s.data.toList.drop (k + 1)) by
          rw [HS.out, spl_step hst (by rw [HSL.out]; exact hlt) (hget.trans hc) HN.out]; simp)
        have hN2 := Lib.hid (show c ∉ (s.data.toList.take (k + 1)).drop (k + 1) by
          rw [List.drop_eq_nil_of_le (by simp; omega)]; simp)
        have hceq : ((s[k].toNat : Int) == (c.toNat : Int)) = true := by rw [hc]; simp
        obtain ⟨x, hx⟩ : ∃ x, (s.data.toList.take k).drop st = x := ⟨_, rfl⟩
        have hex : s.extract st k = ⟨x.toArray⟩ := by rw [ext_drop, hx]
        rw [hx] at hS2
        clear hget hc hx
        go_wp2_with (at_builtin; refine wpList_append_own _ rfl _ _ 66 rfl w.heap.size 9 i0 (.string ⟨#[]⟩) 1 16 Tryz.underlying66 hi hz0 hz1 hz2 rfl (by decide) _ _ _ rfl (HR.out.1.alloc _) ⟨wr.heap.size, 0, none⟩ 1 1 [.string ⟨x.toArray⟩] rfl rfl ?c1 ?c2 ?c3 ?c4 ?c5 ?_)
        case c1 => exact World.news_of_block (cs := #[.string ⟨x.toArray⟩]) (heap_alloc_new _ _)
        case c2 => simp [Value.oneCell']
        case c3 => unfold maxLen; omega
        case c4 => omega
        case c5 => simp; omega
        intro v3 w3 hown3 hgrow3 _
        have D3 := Lib.hid (CRow.snoc (x := x) hown3 (hB.alloc hsz _) hgrow3 (HR.out.1.alloc _))
        go_wp2
        go_roundw
        case rel => exact ⟨_, k + 1, k + 1, Nat.le_refl _, by omega, by go_num, by go_num, hS2.out, hN2.out, by simp; omega, D3.out⟩
        case measure => simp [intOf]; omega
      · have hN2 := Lib.hid (spl_more hst (by rw [HSL.out]; exact hlt) (by rw [hget]; exact hc) HN.out)
        have hceq : ((s[k].toNat : Int) == (c.toNat : Int)) = false := by
          rw [beq_eq_false_iff_ne]; intro e; exact hc (Lib.byte_eq_of_toNat e)
        clear hget hc
        go_wp2
        go_roundw
        case rel => exact ⟨D, st, k + 1, by omega, by omega, rfl, by go_num, HS.out, hN2.out, hDl, HR.out⟩
        case measure => simp [intOf]; omega
    · obtain rfl : k = s.size := by omega
      have hT := Lib.hid (show D ++ [s.data.toList.drop st] = spl c s.data.toList by
        have h := HN.out
        rw [List.take_of_length_le (by rw [HSL.out]; exact Nat.le_refl _)] at h
        rw [HS.out, spl_none h])
      obtain ⟨x, hx⟩ : ∃ x, s.data.toList.drop st = x := ⟨_, rfl⟩
      have hex : s.extract st s.size = ⟨x.toArray⟩ := by rw [ext_drop, List.take_of_length_le (by rw [HSL.out]; exact Nat.le_refl _), hx]
      rw [hx] at hT
      clear hx
      go_wp2_with (at_builtin; refine wpList_append_own _ rfl _ _ 66 rfl w.heap.size 9 i0 (.string ⟨#[]⟩) 1 16 Tryz.underlying66 hi hz0 hz1 hz2 rfl (by decide) _ _ _ rfl (HR.out.1.alloc _) ⟨wr.heap.size, 0, none⟩ 1 1 [.string ⟨x.toArray⟩] rfl rfl ?c1 ?c2 ?c3 ?c4 ?c5 ?_)
      case c1 => exact World.news_of_block (cs := #[.string ⟨x.toArray⟩]) (heap_alloc_new _ _)
      case c2 => simp [Value.oneCell']
      case c3 => unfold maxLen; omega
      case c4 => omega
      case c5 => simp; omega
      intro v3 w3 hown3 hgrow3 _
      have D3 := Lib.hid (CRow.snoc (x := x) hown3 (hB.alloc hsz _) hgrow3 (HR.out.1.alloc _))
      go_wp2
      go_ret
      obtain ⟨g, cap, e1, hg, hS⟩ := D3.out.closed (by simp)
      rw [hT.out] at e1 hS
      exact ⟨g, cap, congrArg Ending.returned e1, hg, hS, D3.out.2⟩
end Go.Proofs.YtpfekgmimfkjcaaGreatDoor
