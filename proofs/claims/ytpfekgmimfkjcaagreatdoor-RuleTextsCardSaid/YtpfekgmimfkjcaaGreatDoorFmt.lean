/-
  What FormatProvision of package rule and Format of its specification return: contracts for all worlds.
-/
import Derived.Test.YtpfekgmimfkjcaaGreatDoorFmtM
import Derived.Test.YtpfekgmimfkjcaaGreatDoorTab
import Derived.Deep.RegionHeld3
namespace Go.Proofs.YtpfekgmimfkjcaaGreatDoor
open Go.RowKit
attribute [local go_sem] set_drewN
theorem line4 (x y z u : ByteArray) (g cap : Nat) (w : World) (hcap : 4 ≤ cap) (hx : x.size ≤ 1000) (hy : y.size ≤ 1000) (hz : z.size ≤ 1000) (hu : u.size ≤ 1000) (hg : g < w.heap.size) (h0 : w.cell? ⟨g, 0, none⟩ = some (.string x)) (h1 : w.cell? ⟨g, 1, none⟩ = some (.string y)) (h2 : w.cell? ⟨g, 2, none⟩ = some (.string z)) (h3 : w.cell? ⟨g, 3, none⟩ = some (.string u)) :
    Calls Tryz.prog 28 #[.slice (some ⟨g, 0, none⟩) 4 cap] w (RetB (.string ⟨(x.data.toList ++ 32 :: (y.data.toList ++ 32 :: (z.data.toList ++ 32 :: u.data.toList))).toArray⟩) w) := by
  have cJ := Tryz.strings_Join g 0 cap [x, y, z, u] ⟨#[32]⟩ w (by
    intro j v hj
    match j, hj with
    | 0, hj => cases hj; simpa using h0
    | 1, hj => cases hj; simpa using h1
    | 2, hj => cases hj; simpa using h2
    | 3, hj => cases hj; simpa using h3) hg (by simp) (by simpa using hcap) (by
    have e1 : x.data.size ≤ 1000 := hx
    have e2 : y.data.size ≤ 1000 := hy
    have e3 : z.data.size ≤ 1000 := hz
    have e4 : u.data.size ≤ 1000 := hu
    simp [Lib.join, List.intercalate, List.intersperse]; omega)
  have e : Lib.join ([x, y, z, u].map (·.data.toList)) ([32] : List UInt8) = x.data.toList ++ 32 :: (y.data.toList ++ 32 :: (z.data.toList ++ 32 :: u.data.toList)) := by simp [Lib.join, List.intercalate, List.intersperse]
  have HJ := Lib.hid cJ
  clear cJ
  go_enter Tryz.func28, Tryz.ntmps28
  go_wp2_with (go_at_call 53; refine (HJ.out).mono ?_; rintro e w' ⟨rfl, hb⟩)
  go_ret
  exact ⟨by rw [← e]; rfl, hb⟩
/-- the ints of a provision are ints -/
def PvI (p : Pv) : Prop := (-9223372036854775808 ≤ p.value ∧ p.value ≤ 9223372036854775807) ∧ (-9223372036854775808 ≤ p.from' ∧ p.from' ≤ 9223372036854775807) ∧ -9223372036854775808 ≤ p.entered ∧ p.entered ≤ 9223372036854775807
theorem itoa_size (n : Int) (h0 : -9223372036854775808 ≤ n) (h1 : n ≤ 9223372036854775807) : (⟨(Lib.itoa n).toArray⟩ : ByteArray).size ≤ 1000 := by
  have := itoa_len' n (by omega)
  show (Lib.itoa n).toArray.size ≤ 1000
  simp; omega
set_option maxRecDepth 100000 in
set_option maxHeartbeats 4000000 in
theorem FormatProvision_any (p : Pv) (w : World) (hs : p.name.size ≤ 1000) (hp : PvI p) (ht : Tab w) :
    Calls Tryz.prog 8 #[p.val] w (RetB (.string ⟨(fmtL p).toArray⟩) w) := by
  obtain ⟨nm, v, fr, en, rp⟩ := p
  obtain ⟨⟨v0, v1⟩, ⟨f0, f1⟩, e0, e1⟩ := hp
  simp only at hs v0 v1 f0 f1 e0 e1
  have sv := itoa_size v v0 v1
  have sf := itoa_size fr f0 f1
  have se := itoa_size en e0 e1
  have HT := Lib.hid ht
  simp only [Pv.val]
  have HF : Hid ((fmtL ⟨nm, v, fr, en, rp⟩) = nm.data.toList ++ 32 :: (valL ⟨nm, v, fr, en, rp⟩ ++ 32 :: (Lib.itoa fr ++ 32 :: Lib.itoa en))) := Lib.hid rfl
  rw [HF.out]
  clear ht HF
  cases rp
  · have e : valL ⟨nm, v, fr, en, false⟩ = Lib.itoa v := rfl
    rw [e]
    clear e
    go_enter Tryz.func8, Tryz.ntmps8
    go_wp2_with fail
    refine (itoa_any v _ v0 v1 (by exact HT.out.below ((Below.refl _ _).alloc (Nat.le_refl _) _))).mono ?_
    rintro e w1 ⟨rfl, hb1⟩
    have B1 := Lib.hid (((Below.refl _ w).alloc (Nat.le_refl _) (.cells #[.string nm, .int .i64 v, .int .i64 fr, .int .i64 en, .bool false] 23)).trans (hb1.mono (by simp)))
    have q1 := hb1.size
    simp only [World.size_alloc] at q1
    have c0 : w1.cell? ⟨w.heap.size, 0, none⟩ = some (.string nm) := (hb1.cell (p := ⟨w.heap.size, 0, none⟩) (by simp)).trans (by simp [go_sem])
    have c2 : w1.cell? ⟨w.heap.size, 2, none⟩ = some (.int .i64 fr) := (hb1.cell (p := ⟨w.heap.size, 2, none⟩) (by simp)).trans (by simp [go_sem])
    have c3 : w1.cell? ⟨w.heap.size, 3, none⟩ = some (.int .i64 en) := (hb1.cell (p := ⟨w.heap.size, 3, none⟩) (by simp)).trans (by simp [go_sem])
    have c4 : w1.cell? ⟨w.heap.size, 4, none⟩ = some (.bool false) := (hb1.cell (p := ⟨w.heap.size, 4, none⟩) (by simp)).trans (by simp [go_sem])
    clear hb1
    go_wp2
    go_region_held3 (fun w' => w'.cell? ⟨w.heap.size, 0, none⟩ = some (.string nm) ∧ w'.cell? ⟨w.heap.size, 2, none⟩ = some (.int .i64 fr) ∧ w'.cell? ⟨w.heap.size, 3, none⟩ = some (.int .i64 en)) (first | exact ⟨c0, c2, c3⟩ | exact ⟨k0, k2, k3⟩ | exact ⟨m0, m2, m3⟩ | exact ⟨n0, n2, n3⟩ | go_keep)
      (first
        | (go_at_call 27; refine (itoa_any fr _ f0 f1 (by exact HT.out.below (below_dr B1.out))).mono ?_; rintro e w2 ⟨rfl, hb2⟩; have q2 := hb2.size; simp only [World.size_drew] at q2; have k0 : w2.cell? ⟨w.heap.size, 0, none⟩ = some (.string nm) := (hb2.cell (p := ⟨w.heap.size, 0, none⟩) (by first | omega | (simp; omega))).trans (by simpa [go_sem] using c0); have k2 : w2.cell? ⟨w.heap.size, 2, none⟩ = some (.int .i64 fr) := (hb2.cell (p := ⟨w.heap.size, 2, none⟩) (by first | omega | (simp; omega))).trans (by simpa [go_sem] using c2); have k3 : w2.cell? ⟨w.heap.size, 3, none⟩ = some (.int .i64 en) := (hb2.cell (p := ⟨w.heap.size, 3, none⟩) (by first | omega | (simp; omega))).trans (by simpa [go_sem] using c3))
        | (go_at_call 27; refine (itoa_any en _ e0 e1 (by exact (HT.out.below (below_dr B1.out)).below hb2)).mono ?_; rintro e w3 ⟨rfl, hb3⟩; have q3 := hb3.size; have m0 : w3.cell? ⟨w.heap.size, 0, none⟩ = some (.string nm) := (hb3.cell (p := ⟨w.heap.size, 0, none⟩) (by first | omega | (simp; omega))).trans (by simpa [go_sem] using k0); have m2 : w3.cell? ⟨w.heap.size, 2, none⟩ = some (.int .i64 fr) := (hb3.cell (p := ⟨w.heap.size, 2, none⟩) (by first | omega | (simp; omega))).trans (by simpa [go_sem] using k2); have m3 : w3.cell? ⟨w.heap.size, 3, none⟩ = some (.int .i64 en) := (hb3.cell (p := ⟨w.heap.size, 3, none⟩) (by first | omega | (simp; omega))).trans (by simpa [go_sem] using k3))
        | (go_at_call 28; refine (line4 nm ⟨(Lib.itoa v).toArray⟩ ⟨(Lib.itoa fr).toArray⟩ ⟨(Lib.itoa en).toArray⟩ _ 4 _ (by omega) hs sv sf se (by simp) (by simp [go_sem]) (by simp [go_sem]) (by simp [go_sem]) (by simp [go_sem])).mono ?_; rintro e w4 ⟨rfl, hb4⟩; have n0 : w4.cell? ⟨w.heap.size, 0, none⟩ = some (.string nm) := (hb4.cell (p := ⟨w.heap.size, 0, none⟩) (by first | omega | (simp; omega))).trans ((World.cell?_alloc_past _ _ _ (by omega)).trans m0); have n2 : w4.cell? ⟨w.heap.size, 2, none⟩ = some (.int .i64 fr) := (hb4.cell (p := ⟨w.heap.size, 2, none⟩) (by first | omega | (simp; omega))).trans ((World.cell?_alloc_past _ _ _ (by omega)).trans m2); have n3 : w4.cell? ⟨w.heap.size, 3, none⟩ = some (.int .i64 en) := (hb4.cell (p := ⟨w.heap.size, 3, none⟩) (by first | omega | (simp; omega))).trans ((World.cell?_alloc_past _ _ _ (by omega)).trans m3)))
    all_goals
      go_wp2
      go_ret
      exact ⟨by first | rfl | simp [repL], (((below_dr B1.out).trans (hb2.mono (by simp; omega))).trans (hb3.mono (by omega))).alloc (by omega) _ |>.trans (hb4.mono (by simp; omega))⟩
  · have e : valL ⟨nm, v, fr, en, true⟩ = [114, 101, 112, 101, 97, 108] := rfl
    rw [e]
    clear e
    go_enter Tryz.func8, Tryz.ntmps8
    go_wp2_with fail
    refine (itoa_any v _ v0 v1 (by exact HT.out.below ((Below.refl _ _).alloc (Nat.le_refl _) _))).mono ?_
    rintro e w1 ⟨rfl, hb1⟩
    have B1 := Lib.hid (((Below.refl _ w).alloc (Nat.le_refl _) (.cells #[.string nm, .int .i64 v, .int .i64 fr, .int .i64 en, .bool true] 23)).trans (hb1.mono (by simp)))
    have q1 := hb1.size
    simp only [World.size_alloc] at q1
    have c0 : w1.cell? ⟨w.heap.size, 0, none⟩ = some (.string nm) := (hb1.cell (p := ⟨w.heap.size, 0, none⟩) (by simp)).trans (by simp [go_sem])
    have c2 : w1.cell? ⟨w.heap.size, 2, none⟩ = some (.int .i64 fr) := (hb1.cell (p := ⟨w.heap.size, 2, none⟩) (by simp)).trans (by simp [go_sem])
    have c3 : w1.cell? ⟨w.heap.size, 3, none⟩ = some (.int .i64 en) := (hb1.cell (p := ⟨w.heap.size, 3, none⟩) (by simp)).trans (by simp [go_sem])
    have c4 : w1.cell? ⟨w.heap.size, 4, none⟩ = some (.bool true) := (hb1.cell (p := ⟨w.heap.size, 4, none⟩) (by simp)).trans (by simp [go_sem])
    clear hb1
    go_wp2
    go_region_held3 (fun w' => w'.cell? ⟨w.heap.size, 0, none⟩ = some (.string nm) ∧ w'.cell? ⟨w.heap.size, 2, none⟩ = some (.int .i64 fr) ∧ w'.cell? ⟨w.heap.size, 3, none⟩ = some (.int .i64 en)) (first | exact ⟨c0, c2, c3⟩ | exact ⟨k0, k2, k3⟩ | exact ⟨m0, m2, m3⟩ | exact ⟨n0, n2, n3⟩ | go_keep)
      (first
        | (go_at_call 27; refine (itoa_any fr _ f0 f1 (by exact HT.out.below (below_dr B1.out))).mono ?_; rintro e w2 ⟨rfl, hb2⟩; have q2 := hb2.size; simp only [World.size_drew] at q2; have k0 : w2.cell? ⟨w.heap.size, 0, none⟩ = some (.string nm) := (hb2.cell (p := ⟨w.heap.size, 0, none⟩) (by first | omega | (simp; omega))).trans (by simpa [go_sem] using c0); have k2 : w2.cell? ⟨w.heap.size, 2, none⟩ = some (.int .i64 fr) := (hb2.cell (p := ⟨w.heap.size, 2, none⟩) (by first | omega | (simp; omega))).trans (by simpa [go_sem] using c2); have k3 : w2.cell? ⟨w.heap.size, 3, none⟩ = some (.int .i64 en) := (hb2.cell (p := ⟨w.heap.size, 3, none⟩) (by first | omega | (simp; omega))).trans (by simpa [go_sem] using c3))
        | (go_at_call 27; refine (itoa_any en _ e0 e1 (by exact (HT.out.below (below_dr B1.out)).below hb2)).mono ?_; rintro e w3 ⟨rfl, hb3⟩; have q3 := hb3.size; have m0 : w3.cell? ⟨w.heap.size, 0, none⟩ = some (.string nm) := (hb3.cell (p := ⟨w.heap.size, 0, none⟩) (by first | omega | (simp; omega))).trans (by simpa [go_sem] using k0); have m2 : w3.cell? ⟨w.heap.size, 2, none⟩ = some (.int .i64 fr) := (hb3.cell (p := ⟨w.heap.size, 2, none⟩) (by first | omega | (simp; omega))).trans (by simpa [go_sem] using k2); have m3 : w3.cell? ⟨w.heap.size, 3, none⟩ = some (.int .i64 en) := (hb3.cell (p := ⟨w.heap.size, 3, none⟩) (by first | omega | (simp; omega))).trans (by simpa [go_sem] using k3))
        | (go_at_call 28; refine (line4 nm ⟨#[114, 101, 112, 101, 97, 108]⟩ ⟨(Lib.itoa fr).toArray⟩ ⟨(Lib.itoa en).toArray⟩ _ 4 _ (by omega) hs (by decide) sf se (by simp) (by simp [go_sem]) (by simp [go_sem]) (by simp [go_sem]) (by simp [go_sem])).mono ?_; rintro e w4 ⟨rfl, hb4⟩; have n0 : w4.cell? ⟨w.heap.size, 0, none⟩ = some (.string nm) := (hb4.cell (p := ⟨w.heap.size, 0, none⟩) (by first | omega | (simp; omega))).trans ((World.cell?_alloc_past _ _ _ (by omega)).trans m0); have n2 : w4.cell? ⟨w.heap.size, 2, none⟩ = some (.int .i64 fr) := (hb4.cell (p := ⟨w.heap.size, 2, none⟩) (by first | omega | (simp; omega))).trans ((World.cell?_alloc_past _ _ _ (by omega)).trans m2); have n3 : w4.cell? ⟨w.heap.size, 3, none⟩ = some (.int .i64 en) := (hb4.cell (p := ⟨w.heap.size, 3, none⟩) (by first | omega | (simp; omega))).trans ((World.cell?_alloc_past _ _ _ (by omega)).trans m3)))
    all_goals
      go_wp2
      go_ret
      exact ⟨by first | rfl | simp [repL], (((below_dr B1.out).trans (hb2.mono (by simp; omega))).trans (hb3.mono (by omega))).alloc (by omega) _ |>.trans (hb4.mono (by simp; omega))⟩
end Go.Proofs.YtpfekgmimfkjcaaGreatDoor
