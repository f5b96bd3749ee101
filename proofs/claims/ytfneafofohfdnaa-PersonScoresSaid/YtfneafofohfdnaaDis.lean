/-
  Distance of package person: contracts.
-/
import Derived.Test.YtfneafofohfdnaaDst
namespace Go.Proofs.Ytfneafofohfdnaa
open Go.RowKit
set_option maxRecDepth 100000 in
set_option maxHeartbeats 4000000 in
theorem Distance_good (s t : List UInt8) (x y : List Nat) (w : World) (hl : s.length ≤ 1000000000000) (hl2 : t.length ≤ 1000000000000) (h1 : nmE s = 0) (h2 : nmE t = 0) (hx : rdN s = some x) (hy : rdN t = some y) :
    Calls Try.prog 20 #[.string ⟨s.toArray⟩, .string ⟨t.toArray⟩] w (RetB (two (.int .i64 (diM (cM x y) x.length y.length : Nat)) (.int .i64 0)) w) := by
  have hr := Lib.hid (fun w => readNames_any s t w hl hl2)
  obtain ⟨x', gx, hx', -⟩ := gd_nmE h1
  obtain ⟨y', gy, hy', -⟩ := gd_nmE h2
  obtain rfl : x' = x := by rw [hx] at hx'; injection hx' with e; exact e.symm
  obtain rfl : y' = y := by rw [hy] at hy'; injection hy' with e; exact e.symm
  have lx := gx.2.1
  have ly := gy.2.1
  have h0 : feE [nmE s, nmE t] = 0 := by simp [feE, h1, h2]
  have HP := Lib.hid (show RN2Post s t = fun w e w' => ∃ a n c a' n' c', e = .returned (three (.slice a n c) (.slice a' n' c') (.int .i64 0)) ∧ n ≤ 25 ∧ n' ≤ 25 ∧ (∀ M, nmE s = 0 → rdN s = some M → ∃ g, a = some ⟨g, 0, none⟩ ∧ n = M.length ∧ SgAt w' g M) ∧
    (∀ M, nmE t = 0 → rdN t = some M → ∃ g, a' = some ⟨g, 0, none⟩ ∧ n' = M.length ∧ SgAt w' g M) ∧ Below w.heap.size w w' by unfold RN2Post; rw [h0])
  have HD := Lib.hid (fun w1 b1 c1 b2 c2 S1 S2 => dist_any w1 x' y' b1 c1 b2 c2 (by omega) (by omega) (fun m hm => (gx.2.2 m hm).2) (fun m hm => (gy.2.2 m hm).2) S1 S2)
  have H1 := Lib.hid h1
  have H2 := Lib.hid h2
  have HX := Lib.hid hx
  have HY := Lib.hid hy
  generalize diM (cM x' y') x'.length y'.length = d at *
  clear h0 h1 h2 hx hy gx gy hx' hy'
  go_enter Try.func20, Try.ntmps20
  go_wp2_with fail
  refine (hr.out _).mono ?_
  rw [HP.out]
  rintro e w1 ⟨a, n, c, a', n', c', rfl, hn, hn', hM, hM', hb⟩
  obtain ⟨g, rfl, rfl, S1⟩ := hM x' H1.out HX.out
  obtain ⟨g', rfl, rfl, S2⟩ := hM' y' H2.out HY.out
  have HC := Lib.hid (HD.out w1 g c g' c' S1 S2)
  clear hM hM' S1 S2
  go_wp2_with (go_at_call 44; refine HC.out.mono ?_; rintro e w2 ⟨rfl, hb2⟩)
  go_ret2
  exact ⟨rfl, hb.trans (hb2.mono hb.size)⟩
end Go.Proofs.Ytfneafofohfdnaa
