/-
  Which sign has a text: contracts, each for all worlds.
-/
import Derived.Test.YtfneafofohfdnaaText
namespace Go.Proofs.Ytfneafofohfdnaa
open Go.RowKit
attribute [local go_sem] set_drewN
theorem idx_pl : ∀ n : Fin 256, Lib.indexByte AB (UInt8.ofNat n.val) = (if pl (UInt8.ofNat n.val) < 53 then (pl (UInt8.ofNat n.val) : Int) else -1) := by decide +kernel
theorem idx_any (c : UInt8) : Lib.indexByte AB c = (if pl c < 53 then (pl c : Int) else -1) := by
  obtain ⟨n, rfl⟩ := byte_fin c
  exact idx_pl n
theorem or_u64 (m k : Nat) (hm : m < 2 ^ 53) (hk : k < 53) : bits .or .u64 (m : Int) (IntKind.u64.wrap (2 ^ k)) = ((m ||| 2 ^ k : Nat) : Int) := by
  have e1 : (2 ^ k : Int) = ((2 ^ k : Nat) : Int) := by simp
  have h2 : 2 ^ k < 2 ^ 53 := Nat.pow_lt_pow_right (by decide) hk
  rw [e1, wrapU64 _ (Nat.lt_trans h2 (by decide)), u64_or_nat _ _ (Nat.lt_trans hm (by decide)) (Nat.lt_trans h2 (by decide))]
theorem mskF_snoc (c : UInt8) : ∀ (t : List UInt8) (m : Nat), mskF m (t ++ [c]) = if pl c < 53 then mskF m t ||| 2 ^ pl c else mskF m t
  | [], _ => rfl
  | d :: t, m => by rw [List.cons_append, mskF, mskF_snoc c t, mskF]
theorem msk_take {t : List UInt8} {k : Nat} (h : k < t.length) : msk (t.take (k + 1)) = if pl t[k] < 53 then msk (t.take k) ||| 2 ^ pl t[k] else msk (t.take k) := by
  rw [List.take_succ_eq_append_getElem h, msk, mskF_snoc]; rfl
/-- the place of a letter, or -1 -/
def plI (c : UInt8) : Int := if pl c < 53 then (pl c : Int) else -1
theorem ixb (c : UInt8) (r : Int) (h : plI c = r) (w : World) : Calls Try.prog 73 #[.string (⟨#[45, 65, 66, 67, 68, 69, 70, 71, 72, 73, 74, 75, 76, 77, 78, 79, 80, 81, 82, 83, 84, 85, 86, 87, 88, 89, 90, 97, 98, 99, 100, 101, 102, 103, 104, 105, 106, 107, 108, 109, 110, 111, 112, 113, 114, 115, 116, 117, 118, 119, 120, 121, 122]⟩ : ByteArray), .int .u8 (c.toNat : Int)] w (Ret (.int .i64 r) w) := by
  refine (Try.strings_IndexByte _ _ _).mono ?_
  rintro e w' ⟨rfl, rfl⟩
  refine ⟨ret_i ?_, rfl⟩
  have e1 : ((c.toNat : Int)).toNat.toUInt8 = c := by simp
  rw [e1, ← h]
  exact idx_any c
set_option maxRecDepth 100000 in
set_option maxHeartbeats 2000000 in
theorem readSign_any (t : List UInt8) (w : World) (ht : t.length ≤ 1000000000000) : Calls Try.prog 58 #[.string ⟨t.toArray⟩] w (RetB (two (.int .u64 (rdS t).1) (.bool (rdS t).2)) w) := by
  by_cases hq : t = [63]
  · subst hq
    rw [rdS_any]
    go_enter Try.func58, Try.ntmps58
    go_wp2
    go_ret2
    exact ⟨rfl, Below.refl _ _⟩
  · obtain ⟨R, hR⟩ : ∃ R, rdS t = R := ⟨_, rfl⟩
    rw [hR]
    unfold rdS at hR
    rw [if_neg hq] at hR
    have HR := Lib.hid hR
    have hqs : (t == [63]) = false := by rw [beq_eq_false_iff_ne]; exact hq
    clear hR hq
    go_enter Try.func58, Try.ntmps58
    go_wp2
    go_loop [4, 11] (fun sv iv => ∃ k : Nat, k ≤ t.length ∧ iv = .int .i64 k ∧ sv = .int .u64 (msk (t.take k))) (fun _ iv => t.length - (intOf iv).toNat)
    case atStart => exact ⟨0, Nat.zero_le _, rfl, rfl⟩
    case round =>
      obtain ⟨k, hk, rfl, rfl⟩ := hrel
      by_cases hlt : k < t.length
      · have hs := msk_take hlt
        have hml := Lib.hid (msk_lt (t.take k))
        have hlt' : k < (⟨t.toArray⟩ : ByteArray).size := by show k < t.toArray.size; simpa using hlt
        have hc : (⟨t.toArray⟩ : ByteArray)[k]'hlt' = t[k] := by simp [ByteArray.getElem_eq_getElem_data]
        rw [← hc] at hs
        obtain ⟨m, hm⟩ : ∃ m, msk (t.take k) = m := ⟨_, rfl⟩
        rw [hm] at hs hml ⊢
        by_cases hp : pl ((⟨t.toArray⟩ : ByteArray)[k]'hlt') < 53
        · rw [if_pos hp] at hs
          obtain ⟨p, hpp⟩ : ∃ p, pl ((⟨t.toArray⟩ : ByteArray)[k]'hlt') = p := ⟨_, rfl⟩
          have hx := Lib.hid (show plI ((⟨t.toArray⟩ : ByteArray)[k]'hlt') = (p : Int) by unfold plI; rw [if_pos hp, hpp])
          rw [hpp] at hs hp
          have ho := or_u64 m p hml.out hp
          have HS := Lib.hid hs
          clear hs hm hc hpp
          go_wp2_with (go_at_call 73; refine (ixb _ _ hx.out _).mono ?_; rintro e w' ⟨rfl, rfl⟩)
          go_round
          case rel => exact ⟨k + 1, by omega, by go_num, by rw [HS.out]⟩
          case measure => simp [intOf]; omega
        · rw [if_neg hp] at hs
          have hx := Lib.hid (show plI ((⟨t.toArray⟩ : ByteArray)[k]'hlt') = -1 by unfold plI; rw [if_neg hp])
          have HS := Lib.hid hs
          clear hs hm hc hp
          go_wp2_with (go_at_call 73; refine (ixb _ _ hx.out _).mono ?_; rintro e w' ⟨rfl, rfl⟩)
          go_round
          case rel => exact ⟨k + 1, by omega, by go_num, by rw [HS.out]⟩
          case measure => simp [intOf]; omega
      · obtain rfl : k = t.length := by omega
        rw [List.take_length]
        have hml := msk_lt t
        obtain ⟨m, hm⟩ : ∃ m, msk t = m := ⟨_, rfl⟩
        rw [hm] at hml ⊢ HR
        clear hm hlt
        by_cases h0 : m = 0
        · subst h0
          have er : (0, false) = R := HR.out
          subst er
          go_wp2
          go_ret2
          exact ⟨rfl, Below.refl _ _⟩
        · have HT := Lib.hid (fun w => text_any m ⟨Nat.pos_of_ne_zero h0, hml⟩ w)
          obtain ⟨X, hX⟩ : ∃ X, txt m = X := ⟨_, rfl⟩
          rw [hX] at HT HR
          have hnz : ((m : Int) != 0) = true := by simpa using h0
          by_cases hq : X = t
          · subst hq
            have er : (m, true) = R := by rw [← HR.out]; simp [h0]
            subst er
            clear HR h0 hX hqs
            go_wp2_with (go_at_call 43; refine (HT.out _).mono ?_; rintro e w' ⟨rfl, hb⟩)
            go_ret2
            exact ⟨rfl, hb⟩
          · have hqf : (X == t) = false := by rw [beq_eq_false_iff_ne]; exact hq
            have er : (m, false) = R := by rw [← HR.out]; simp [h0, hq]
            subst er
            clear HR h0 hX hq
            go_wp2_with (go_at_call 43; refine (HT.out _).mono ?_; rintro e w' ⟨rfl, hb⟩)
            go_ret2
            exact ⟨rfl, hb⟩
end Go.Proofs.Ytfneafofohfdnaa
