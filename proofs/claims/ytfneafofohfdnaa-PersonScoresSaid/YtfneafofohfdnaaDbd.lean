/-
  Distance of package person at names that are none, and whatever the texts: contracts.
-/
import Derived.Test.YtfneafofohfdnaaDis
namespace Go.Proofs.Ytfneafofohfdnaa
open Go.RowKit
set_option maxRecDepth 100000 in
set_option maxHeartbeats 4000000 in
theorem Distance_bad (s t : List UInt8) (w : World) (hl : s.length ≤ 1000000000000) (hl2 : t.length ≤ 1000000000000) (h0 : feE [nmE s, nmE t] ≠ 0) :
    Calls Try.prog 20 #[.string ⟨s.toArray⟩, .string ⟨t.toArray⟩] w (RetB (two (.int .i64 0) (.int .i64 (feE [nmE s, nmE t]))) w) := by
  have hr := Lib.hid (readNames_any s t w hl hl2)
  have hb : ((feE [nmE s, nmE t] : Int) != 0) = true := by simpa using h0
  generalize hE : feE [nmE s, nmE t] = E at *
  go_enter Try.func20, Try.ntmps20
  go_wp2_with fail
  refine hr.out.mono ?_
  rintro e w1 ⟨a, n, c, a', n', c', rfl, hn, hn', hM, hM', hb1⟩
  rw [hE]
  clear hM hM'
  go_wp2
  go_ret2
  exact ⟨rfl, hb1⟩
/-- what Distance returns -/
def dsT (s t : List UInt8) : Nat × Int :=
  if feE [nmE s, nmE t] ≠ 0 then (0, feE [nmE s, nmE t]) else match rdN s, rdN t with
    | some x, some y => (diM (cM x y) x.length y.length, 0)
    | _, _ => (0, 0)
theorem Distance_any (s t : List UInt8) (w : World) (hl : s.length ≤ 1000000000000) (hl2 : t.length ≤ 1000000000000) :
    Calls Try.prog 20 #[.string ⟨s.toArray⟩, .string ⟨t.toArray⟩] w (RetB (two (.int .i64 ((dsT s t).1 : Nat)) (.int .i64 (dsT s t).2)) w) := by
  by_cases h0 : feE [nmE s, nmE t] = 0
  · obtain ⟨h1, h2⟩ := feE_2 h0
    obtain ⟨x, gx, hx, -⟩ := gd_nmE h1
    obtain ⟨y, gy, hy, -⟩ := gd_nmE h2
    have e : dsT s t = (diM (cM x y) x.length y.length, 0) := by unfold dsT; rw [if_neg (by simpa using h0), hx, hy]
    rw [e]
    exact Distance_good s t x y w hl hl2 h1 h2 hx hy
  · have e : dsT s t = (0, feE [nmE s, nmE t]) := by unfold dsT; rw [if_pos h0]
    rw [e]
    exact Distance_bad s t w hl hl2 h0
end Go.Proofs.Ytfneafofohfdnaa
