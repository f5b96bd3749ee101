/-
  What Format of the specification of package rule returns: a contract for all worlds.
-/
import Derived.Test.YtpfekgmimfkjcaaGreatDoorFmt
import Derived.Test.YtpfekgmimfkjcaaGreatDoorDec
namespace Go.Proofs.YtpfekgmimfkjcaaGreatDoor
open Go.RowKit
attribute [local go_sem] set_drewN
set_option maxRecDepth 100000 in
set_option maxHeartbeats 4000000 in
theorem xFormat_any (p : Pv) (w : World) (hs : p.name.size ≤ 1000) (hp : PvI p) :
    Calls Tryz.prog 9 #[p.val] w (RetB (.string ⟨(fmtL p).toArray⟩) w) := by
  obtain ⟨nm, v, fr, en, rp⟩ := p
  obtain ⟨⟨v0, v1⟩, ⟨f0, f1⟩, e0, e1⟩ := hp
  simp only at hs v0 v1 f0 f1 e0 e1
  have sv := itoa_len' v (by omega)
  have sf := itoa_len' fr (by omega)
  have se := itoa_len' en (by omega)
  simp only [Pv.val]
  have HF : Hid ((fmtL ⟨nm, v, fr, en, rp⟩) = nm.data.toList ++ 32 :: (valL ⟨nm, v, fr, en, rp⟩ ++ 32 :: (Lib.itoa fr ++ 32 :: Lib.itoa en))) := Lib.hid rfl
  rw [HF.out]
  clear HF
  obtain ⟨x, rfl⟩ : ∃ x : List UInt8, nm = ⟨x.toArray⟩ := ⟨nm.data.toList, by simp⟩
  have hs' : x.length ≤ 1000 := by have : x.toArray.size ≤ 1000 := hs
                                   simpa using this
  cases rp
  · have e : valL ⟨⟨x.toArray⟩, v, fr, en, false⟩ = Lib.itoa v := rfl
    rw [e]
    clear e
    have n1 : ¬ 9223372036854775807 < x.length + 1 := by omega
    have n2 : ¬ 9223372036854775807 < x.length + 1 + (Lib.itoa v).length := by omega
    have n3 : ¬ 9223372036854775807 < x.length + 1 + (Lib.itoa v).length + 1 := by omega
    have n4 : ¬ 9223372036854775807 < x.length + 1 + (Lib.itoa v).length + 1 + (Lib.itoa fr).length := by omega
    have n5 : ¬ 9223372036854775807 < x.length + 1 + (Lib.itoa v).length + 1 + (Lib.itoa fr).length + 1 := by omega
    have n6 : ¬ 9223372036854775807 < x.length + 1 + (Lib.itoa v).length + 1 + (Lib.itoa fr).length + 1 + (Lib.itoa en).length := by omega
    go_enter Tryz.func9, Tryz.ntmps9
    go_wp2_with fail
    refine (decimal_any v _ v0 v1).mono ?_
    rintro e w1 ⟨rfl, hb1⟩
    have B1 := Lib.hid (((Below.refl _ w).alloc (Nat.le_refl _) (.cells #[.string ⟨x.toArray⟩, .int .i64 v, .int .i64 fr, .int .i64 en, .bool false] 23)).trans (hb1.mono (by simp)))
    have q1 := hb1.size
    simp only [World.size_alloc] at q1
    have c0 : w1.cell? ⟨w.heap.size, 0, none⟩ = some (.string ⟨x.toArray⟩) := (hb1.cell (p := ⟨w.heap.size, 0, none⟩) (by simp)).trans (by simp [go_sem])
    have c2 : w1.cell? ⟨w.heap.size, 2, none⟩ = some (.int .i64 fr) := (hb1.cell (p := ⟨w.heap.size, 2, none⟩) (by simp)).trans (by simp [go_sem])
    have c3 : w1.cell? ⟨w.heap.size, 3, none⟩ = some (.int .i64 en) := (hb1.cell (p := ⟨w.heap.size, 3, none⟩) (by simp)).trans (by simp [go_sem])
    have c4 : w1.cell? ⟨w.heap.size, 4, none⟩ = some (.bool false) := (hb1.cell (p := ⟨w.heap.size, 4, none⟩) (by simp)).trans (by simp [go_sem])
    clear hb1
    go_wp2
    go_region_held3 (fun w' => w'.cell? ⟨w.heap.size, 0, none⟩ = some (.string ⟨x.toArray⟩) ∧ w'.cell? ⟨w.heap.size, 2, none⟩ = some (.int .i64 fr) ∧ w'.cell? ⟨w.heap.size, 3, none⟩ = some (.int .i64 en)) (first | exact ⟨m0, m2, m3⟩ | exact ⟨k0, k2, k3⟩ | exact ⟨c0, c2, c3⟩)
      (first
        | (go_at_call 29; refine (decimal_any _ _ (by assumption) (by assumption)).mono ?_; (first | (have hk := k0; rintro e w3 ⟨rfl, hb3⟩; have q3 := hb3.size; have m0 : w3.cell? ⟨w.heap.size, 0, none⟩ = some (.string ⟨x.toArray⟩) := (hb3.cell (p := ⟨w.heap.size, 0, none⟩) (Nat.lt_of_lt_of_le (Nat.lt_of_succ_le q1) q2)).trans k0; have m2 : w3.cell? ⟨w.heap.size, 2, none⟩ = some (.int .i64 fr) := (hb3.cell (p := ⟨w.heap.size, 2, none⟩) (Nat.lt_of_lt_of_le (Nat.lt_of_succ_le q1) q2)).trans k2; have m3 : w3.cell? ⟨w.heap.size, 3, none⟩ = some (.int .i64 en) := (hb3.cell (p := ⟨w.heap.size, 3, none⟩) (Nat.lt_of_lt_of_le (Nat.lt_of_succ_le q1) q2)).trans k3) | (rintro e w2 ⟨rfl, hb2⟩; have q2 := hb2.size; have k0 : w2.cell? ⟨w.heap.size, 0, none⟩ = some (.string ⟨x.toArray⟩) := (hb2.cell (p := ⟨w.heap.size, 0, none⟩) (Nat.lt_of_succ_le q1)).trans c0; have k2 : w2.cell? ⟨w.heap.size, 2, none⟩ = some (.int .i64 fr) := (hb2.cell (p := ⟨w.heap.size, 2, none⟩) (Nat.lt_of_succ_le q1)).trans c2; have k3 : w2.cell? ⟨w.heap.size, 3, none⟩ = some (.int .i64 en) := (hb2.cell (p := ⟨w.heap.size, 3, none⟩) (Nat.lt_of_succ_le q1)).trans c3))))
    all_goals
      go_wp2
      go_ret
      simp only [World.size_drew] at q2
      exact ⟨by first | (simp [bapp']; done) | (rw [bapp', bapp', bapp', bapp', bapp', bapp']; simp), ((below_dr B1.out).trans (hb2.mono (by simp; omega))).trans (hb3.mono (by omega))⟩
  · have e : valL ⟨⟨x.toArray⟩, v, fr, en, true⟩ = [114, 101, 112, 101, 97, 108] := rfl
    rw [e]
    clear e
    have n1 : ¬ 9223372036854775807 < x.length + 1 := by omega
    have n2 : ¬ 9223372036854775807 < x.length + 1 + 6 := by omega
    have n3 : ¬ 9223372036854775807 < x.length + 1 + 6 + 1 := by omega
    have n4 : ¬ 9223372036854775807 < x.length + 1 + 6 + 1 + (Lib.itoa fr).length := by omega
    have n5 : ¬ 9223372036854775807 < x.length + 1 + 6 + 1 + (Lib.itoa fr).length + 1 := by omega
    have n6 : ¬ 9223372036854775807 < x.length + 1 + 6 + 1 + (Lib.itoa fr).length + 1 + (Lib.itoa en).length := by omega
    go_enter Tryz.func9, Tryz.ntmps9
    go_wp2_with fail
    refine (decimal_any v _ v0 v1).mono ?_
    rintro e w1 ⟨rfl, hb1⟩
    have B1 := Lib.hid (((Below.refl _ w).alloc (Nat.le_refl _) (.cells #[.string ⟨x.toArray⟩, .int .i64 v, .int .i64 fr, .int .i64 en, .bool true] 23)).trans (hb1.mono (by simp)))
    have q1 := hb1.size
    simp only [World.size_alloc] at q1
    have c0 : w1.cell? ⟨w.heap.size, 0, none⟩ = some (.string ⟨x.toArray⟩) := (hb1.cell (p := ⟨w.heap.size, 0, none⟩) (by simp)).trans (by simp [go_sem])
    have c2 : w1.cell? ⟨w.heap.size, 2, none⟩ = some (.int .i64 fr) := (hb1.cell (p := ⟨w.heap.size, 2, none⟩) (by simp)).trans (by simp [go_sem])
    have c3 : w1.cell? ⟨w.heap.size, 3, none⟩ = some (.int .i64 en) := (hb1.cell (p := ⟨w.heap.size, 3, none⟩) (by simp)).trans (by simp [go_sem])
    have c4 : w1.cell? ⟨w.heap.size, 4, none⟩ = some (.bool true) := (hb1.cell (p := ⟨w.heap.size, 4, none⟩) (by simp)).trans (by simp [go_sem])
    clear hb1
    go_wp2
    go_region_held3 (fun w' => w'.cell? ⟨w.heap.size, 0, none⟩ = some (.string ⟨x.toArray⟩) ∧ w'.cell? ⟨w.heap.size, 2, none⟩ = some (.int .i64 fr) ∧ w'.cell? ⟨w.heap.size, 3, none⟩ = some (.int .i64 en)) (first | exact ⟨m0, m2, m3⟩ | exact ⟨k0, k2, k3⟩ | exact ⟨c0, c2, c3⟩)
      (first
        | (go_at_call 29; refine (decimal_any _ _ (by assumption) (by assumption)).mono ?_; (first | (have hk := k0; rintro e w3 ⟨rfl, hb3⟩; have q3 := hb3.size; have m0 : w3.cell? ⟨w.heap.size, 0, none⟩ = some (.string ⟨x.toArray⟩) := (hb3.cell (p := ⟨w.heap.size, 0, none⟩) (Nat.lt_of_lt_of_le (Nat.lt_of_succ_le q1) q2)).trans k0; have m2 : w3.cell? ⟨w.heap.size, 2, none⟩ = some (.int .i64 fr) := (hb3.cell (p := ⟨w.heap.size, 2, none⟩) (Nat.lt_of_lt_of_le (Nat.lt_of_succ_le q1) q2)).trans k2; have m3 : w3.cell? ⟨w.heap.size, 3, none⟩ = some (.int .i64 en) := (hb3.cell (p := ⟨w.heap.size, 3, none⟩) (Nat.lt_of_lt_of_le (Nat.lt_of_succ_le q1) q2)).trans k3) | (rintro e w2 ⟨rfl, hb2⟩; have q2 := hb2.size; have k0 : w2.cell? ⟨w.heap.size, 0, none⟩ = some (.string ⟨x.toArray⟩) := (hb2.cell (p := ⟨w.heap.size, 0, none⟩) (Nat.lt_of_succ_le q1)).trans c0; have k2 : w2.cell? ⟨w.heap.size, 2, none⟩ = some (.int .i64 fr) := (hb2.cell (p := ⟨w.heap.size, 2, none⟩) (Nat.lt_of_succ_le q1)).trans c2; have k3 : w2.cell? ⟨w.heap.size, 3, none⟩ = some (.int .i64 en) := (hb2.cell (p := ⟨w.heap.size, 3, none⟩) (Nat.lt_of_succ_le q1)).trans c3))))
    all_goals
      go_wp2
      go_ret
      simp only [World.size_drew] at q2
      exact ⟨by first | (simp [bapp']; done) | (rw [bapp', bapp', bapp', bapp', bapp', bapp']; simp), ((below_dr B1.out).trans (hb2.mono (by simp; omega))).trans (hb3.mono (by omega))⟩
end Go.Proofs.YtpfekgmimfkjcaaGreatDoor
