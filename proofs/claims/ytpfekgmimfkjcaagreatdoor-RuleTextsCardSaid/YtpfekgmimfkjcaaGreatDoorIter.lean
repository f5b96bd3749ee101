/-
  The iterator over the working days where there is no holiday: its contract for every body of a loop.
-/
import Derived.Test.YtpfekgmimfkjcaaGreatDoorNil
import Derived.Outline
import Derived.RangeFuncNested
import Derived.RangeFuncBound
import Derived.RangeFuncCalls
import Derived.RangeFuncLeaves
import Derived.RangeFuncFrom
import Derived.Shelf.Abstract
import Derived.Shelf.RegionOpen
import Derived.OwnWalkIn
import Derived.TacticsInMore
import Derived.LoopNIn
import Derived.LoopIn
namespace Go.Proofs.YtpfekgmimfkjcaaGreatDoor
open Go.RowKit Go.Shelf
attribute [local go_sem] set_drewN Oper.semAt_some
/-- the working days from a day on, with no holiday: at most k days are looked at -/
def wl (s : Int) : Nat → Int → List Int
  | 0, _ => []
  | k + 1, d => if inB d 0 200000 then (if (d + 2) % 7 < 5 then d :: wl s k (d + s) else wl s k (d + s)) else []
/-- how many days are left -/
def rem (s d : Int) : Nat := if s = 1 then (200001 - d).toNat else (d + 1).toNat
theorem rem_step {s d : Int} (hs : s = 1 ∨ s = -1) (h : inB d 0 200000 = true) : rem s (d + s) < rem s d ∧ 0 < rem s d := by
  obtain ⟨h0, h9⟩ := inB_iff.1 h
  rcases hs with rfl | rfl
  · simp only [rem, if_pos]; omega
  · simp only [rem]; rw [if_neg (by decide), if_neg (by decide)]; omega
theorem wl_out {s d : Int} (k : Nat) (h : inB d 0 200000 = false) : wl s k d = [] := by cases k <;> simp [wl, h]
theorem wl_yes {s d : Int} (k : Nat) (h : inB d 0 200000 = true) (h5 : (d + 2) % 7 < 5) : wl s (k + 1) d = d :: wl s k (d + s) := by simp [wl, h, h5]
theorem wl_no {s d : Int} (k : Nat) (h : inB d 0 200000 = true) (h5 : ¬ (d + 2) % 7 < 5) : wl s (k + 1) d = wl s k (d + s) := by simp [wl, h, h5]
theorem abides_below {J : List Int → World → Prop} {B : Nat} (hJ : AbidesFrom B J) {pre : List Int} {W W' : World} (h : J pre W) (hb : Below W.heap.size W W') : J pre W' :=
  hJ pre W W' none h ⟨hb.os, hb.tape, hb.output, hb.size, fun k hk _ => hb.block k hk⟩ (fun r e => by cases e)
/-- what a round that goes on keeps: two boxes of the iterator's -/
def Kp2 (B2 B3 : Nat) (W W' : World) : Prop := W.heap.size ≤ W'.heap.size ∧ W'.cell? ⟨B2, 0, none⟩ = W.cell? ⟨B2, 0, none⟩ ∧ W'.cell? ⟨B3, 0, none⟩ = W.cell? ⟨B3, 0, none⟩
theorem kp2_t {B2 B3 : Nat} {A B C : World} (h : Kp2 B2 B3 A B) (k : Kp2 B2 B3 B C) : Kp2 B2 B3 A C := ⟨Nat.le_trans h.1 k.1, k.2.1.trans h.2.1, k.2.2.trans h.2.2⟩
theorem kp2_below {B2 B3 n₀ : Nat} {A B : World} (h : Below n₀ A B) (h2 : B2 < n₀) (h3 : B3 < n₀) : Kp2 B2 B3 A B := ⟨h.size, h.cell (p := ⟨B2, 0, none⟩) h2, h.cell (p := ⟨B3, 0, none⟩) h3⟩
theorem kp2_b {B2 B3 : Nat} {w : World} (h2 : B2 < w.heap.size) (h3 : B3 < w.heap.size) (W : World) (l : Nat) (o o' : Obj) (hl : w.heap.size ≤ l) (h : W.heap[l]? = some o) (_ : o.isCells = false) (_ : o.isWalk = false) : Kp2 B2 B3 W (W.putObj l o') :=
  kp2_below (belowK_b (w := w) (Nat.le_refl _) W l o o' hl h ‹_› ‹_›) h2 h3
set_option maxRecDepth 100000 in
set_option maxHeartbeats 2000000 in
theorem wd_in (n : Nat) (hn : 2 ≤ n) (l B1 B2 B3 K : Nat) (d0 s : Int) (hs : s = 1 ∨ s = -1) (hd1 : -10 ≤ d0) (hd2 : d0 ≤ 400000) (hK : rem s d0 ≤ K) (hK9 : K ≤ 900000) (J Jx : List Int → World → Prop) (W : World)
    (hB2 : B2 < W.heap.size) (hB3 : B3 < W.heap.size) (c1 : W.cell? ⟨B1, 0, none⟩ = some (.int .i64 d0)) (c2 : W.cell? ⟨B2, 0, none⟩ = some (.int .i64 s)) (c3 : W.cell? ⟨B3, 0, none⟩ = some nilS)
    (B : Nat) (hJ : AbidesFrom B J)
    (hY : ∀ pre x W1, J pre W1 → pre.length < 1000000 → YieldAt Fence.wide (n - 1) Tryz.prog l #[.int .i64 x] W1 fun e W' =>
      (e = .returned (.bool true) ∧ J (pre ++ [x]) W' ∧ Kp2 B2 B3 W1 W') ∨ (e = .returned (.bool false) ∧ Jx (pre ++ [x]) W'))
    (h0 : J [] W) :
    CallsIn Fence.wide n Tryz.prog 75 #[.func (.yield l) #[] #[], .pointer (some ⟨B1, 0, none⟩), .pointer (some ⟨B2, 0, none⟩), .pointer (some ⟨B3, 0, none⟩)] W fun e W' => (∃ v, e = .returned v) ∧
      ((∃ xs, xs = wl s K d0 ∧ J xs W') ∨ (∃ pre, pre <+: wl s K d0 ∧ Jx pre W')) := by
  have HJ := Lib.hid hJ
  clear hJ
  refine callsIn_of_wp Tryz.func75 rfl trivial ?_ rfl
  simp only [Tryz.ntmps75, List.size_toArray, List.length_cons, List.length_nil, Nat.reduceAdd, Nat.reduceSub, Array.replicate_succ, Array.replicate_zero, List.push_toArray, List.append_toArray, List.nil_append, List.cons_append]
  gi_wp2
  gi_loopw [5, 6, 7] (fun yv cv dv wr => ∃ (pre : List Int) (k : Nat) (y d : Int), yv = .int .i64 y ∧ cv = nilS ∧ dv = .int .i64 d ∧ wl s K d0 = pre ++ wl s k d ∧ rem s d ≤ k ∧ pre.length + k ≤ K ∧ -10 ≤ d ∧ d ≤ 400001 ∧ J pre wr ∧ wr.cell? ⟨B2, 0, none⟩ = some (.int .i64 s) ∧ wr.cell? ⟨B3, 0, none⟩ = some nilS ∧ B2 < wr.heap.size ∧ B3 < wr.heap.size) (fun _ _ dv _ => rem s (intOf dv))
  case atStart => exact ⟨[], K, 0, d0, rfl, rfl, rfl, rfl, hK, by simp, hd1, by omega, h0, c2, c3, hB2, hB3⟩
  case round =>
    obtain ⟨pre, k, y, d, rfl, rfl, rfl, hx, hk, hKk, hda, hdb, hJs, e2, e3, l2, l3⟩ := hrel
    have HX := Lib.hid hx
    clear hx
    cases hin : inB d 0 200000
    · have HX2 := HX.out
      rw [wl_out k hin, List.append_nil] at HX2
      have HX3 := Lib.hid HX2
      clear HX2
      gi_wp2_with (refine ⟨trivial, (fun _ => by omega), ?_⟩; gi_at_call 40; refine (callsIn_wide.2 (isDay_any _ _)).mono ?_; rintro e w' ⟨rfl, rfl⟩)
      go_end0
      exact ⟨⟨_, rfl⟩, .inl ⟨pre, HX3.out.symm, hJs⟩⟩
    · obtain ⟨d0', d9'⟩ := inB_iff.1 hin
      obtain ⟨hrs, hrp⟩ := rem_step hs hin
      obtain ⟨k, rfl⟩ : ∃ k', k = k' + 1 := ⟨k - 1, by omega⟩
      have hfld : ∀ w : World, (Instr.field 48 (dateV (Cal.yr d) (Cal.mo d) (Cal.da d)) 0).run Tryz.prog w = .ok (.int .i64 (Cal.yr d)) w := fun _ => by kernel_rfl
      have hs1 : -1 ≤ s := by omega
      have hs2 : s ≤ 1 := by omega
      by_cases hye : y = Cal.yr d
      · subst hye
        by_cases h5 : (d + 2) % 7 < 5
        · have HX2 := HX.out
          rw [wl_yes (s := s) k hin h5] at HX2
          have HX3 := Lib.hid HX2
          clear HX2
          gi_wp2_with (first
                    | (refine ⟨trivial, (fun _ => by omega), ?_⟩; gi_at_call 40; refine (callsIn_wide.2 (isDay_any _ _)).mono ?_; rintro e w' ⟨rfl, rfl⟩)
                    | (refine ⟨trivial, (fun _ => by omega), ?_⟩; gi_at_call 76; refine (callsIn_wide.2 (dateOf_any d _ d0' (by omega))).mono ?_; rintro e w1 ⟨rfl, hb1⟩; have e2 : w1.cell? ⟨B2, 0, none⟩ = some (.int .i64 s) := (hb1.cell (p := ⟨B2, 0, none⟩) l2).trans e2; have e3 : w1.cell? ⟨B3, 0, none⟩ = some nilS := (hb1.cell (p := ⟨B3, 0, none⟩) l3).trans e3; have hJ1 := Lib.hid (abides_below HJ.out hJs hb1); obtain ⟨fn, tmps, assign, body, hy, hR⟩ := hY pre d w1 hJ1.out (by omega))
                    | (refine ⟨trivial, (fun _ => by omega), ?_⟩; gi_at_call 77; refine (callsIn_wide.2 (holidaysNil _ _)).mono ?_; rintro e w' ⟨rfl, rfl⟩)
                    | (refine ⟨trivial, (fun _ => by omega), ?_⟩; gi_at_call 78; refine (callsIn_wide.2 (bsNil d _)).mono ?_; rintro e w' ⟨rfl, rfl⟩)
                    | (refine ⟨trivial, (fun _ => by omega), ?_⟩; gi_at_call 79; refine (callsIn_wide.2 (weekday_any _ _ (by omega) (by omega))).mono ?_; rintro e w' ⟨rfl, rfl⟩))
          refine ⟨(fun _ => by omega), hR.mono ?_⟩
          rintro e W3 (⟨rfl, hJ3, hk3⟩ | ⟨rfl, hJx3⟩)
          · have f2 : W3.cell? ⟨B2, 0, none⟩ = some (.int .i64 s) := hk3.2.1.trans e2
            have f3 : W3.cell? ⟨B3, 0, none⟩ = some nilS := hk3.2.2.trans e3
            have m2 := Nat.lt_of_lt_of_le l2 (Nat.le_trans hb1.size hk3.1)
            have m3 := Nat.lt_of_lt_of_le l3 (Nat.le_trans hb1.size hk3.1)
            clear e2 e3 hy hR hJ1
            gi_wp2
            go_roundw
            case rel => exact ⟨pre ++ [d], k, _, d + s, rfl, rfl, rfl, by rw [HX3.out]; simp, by omega, by simp; omega, by omega, by omega, hJ3, f2, f3, m2, m3⟩
            case measure => simp [intOf]; omega
          · clear hy hR hJ1
            gi_wp2
            refine bodyPost_ret (results_none rfl _ _ _) rfl ?_
            exact ⟨⟨_, rfl⟩, .inr ⟨pre ++ [d], ⟨wl s k (d + s), by rw [HX3.out]; simp⟩, hJx3⟩⟩
        · have HX2 := HX.out
          rw [wl_no (s := s) k hin h5] at HX2
          have HX3 := Lib.hid HX2
          clear HX2
          gi_wp2_with (first
                    | (refine ⟨trivial, (fun _ => by omega), ?_⟩; gi_at_call 40; refine (callsIn_wide.2 (isDay_any _ _)).mono ?_; rintro e w' ⟨rfl, rfl⟩)
                    | (refine ⟨trivial, (fun _ => by omega), ?_⟩; gi_at_call 76; refine (callsIn_wide.2 (dateOf_any d _ d0' (by omega))).mono ?_; rintro e w1 ⟨rfl, hb1⟩; have e2 : w1.cell? ⟨B2, 0, none⟩ = some (.int .i64 s) := (hb1.cell (p := ⟨B2, 0, none⟩) l2).trans e2; have e3 : w1.cell? ⟨B3, 0, none⟩ = some nilS := (hb1.cell (p := ⟨B3, 0, none⟩) l3).trans e3; have hJ1 := Lib.hid (abides_below HJ.out hJs hb1))
                    | (refine ⟨trivial, (fun _ => by omega), ?_⟩; gi_at_call 77; refine (callsIn_wide.2 (holidaysNil _ _)).mono ?_; rintro e w' ⟨rfl, rfl⟩)
                    | (refine ⟨trivial, (fun _ => by omega), ?_⟩; gi_at_call 78; refine (callsIn_wide.2 (bsNil d _)).mono ?_; rintro e w' ⟨rfl, rfl⟩)
                    | (refine ⟨trivial, (fun _ => by omega), ?_⟩; gi_at_call 79; refine (callsIn_wide.2 (weekday_any _ _ (by omega) (by omega))).mono ?_; rintro e w' ⟨rfl, rfl⟩))
          refine ⟨fun _ h => (by cases h), ?_⟩
          have m2 := Nat.lt_of_lt_of_le l2 hb1.size
          have m3 := Nat.lt_of_lt_of_le l3 hb1.size
          gi_wp2
          go_roundw
          case rel => exact ⟨pre, k, _, d + s, rfl, rfl, rfl, HX3.out, by omega, by omega, by omega, by omega, hJ1.out, e2, e3, m2, m3⟩
          case measure => simp [intOf]; omega
      · have hyb : (Cal.yr d != y) = true := by simpa using Ne.symm hye
        by_cases h5 : (d + 2) % 7 < 5
        · have HX2 := HX.out
          rw [wl_yes (s := s) k hin h5] at HX2
          have HX3 := Lib.hid HX2
          clear HX2
          gi_wp2_with (first
                    | (refine ⟨trivial, (fun _ => by omega), ?_⟩; gi_at_call 40; refine (callsIn_wide.2 (isDay_any _ _)).mono ?_; rintro e w' ⟨rfl, rfl⟩)
                    | (refine ⟨trivial, (fun _ => by omega), ?_⟩; gi_at_call 76; refine (callsIn_wide.2 (dateOf_any d _ d0' (by omega))).mono ?_; rintro e w1 ⟨rfl, hb1⟩; have e2 : w1.cell? ⟨B2, 0, none⟩ = some (.int .i64 s) := (hb1.cell (p := ⟨B2, 0, none⟩) l2).trans e2; have e3 : w1.cell? ⟨B3, 0, none⟩ = some nilS := (hb1.cell (p := ⟨B3, 0, none⟩) l3).trans e3; have hJ1 := Lib.hid (abides_below HJ.out hJs hb1); obtain ⟨fn, tmps, assign, body, hy, hR⟩ := hY pre d w1 hJ1.out (by omega))
                    | (refine ⟨trivial, (fun _ => by omega), ?_⟩; gi_at_call 77; refine (callsIn_wide.2 (holidaysNil _ _)).mono ?_; rintro e w' ⟨rfl, rfl⟩)
                    | (refine ⟨trivial, (fun _ => by omega), ?_⟩; gi_at_call 78; refine (callsIn_wide.2 (bsNil d _)).mono ?_; rintro e w' ⟨rfl, rfl⟩)
                    | (refine ⟨trivial, (fun _ => by omega), ?_⟩; gi_at_call 79; refine (callsIn_wide.2 (weekday_any _ _ (by omega) (by omega))).mono ?_; rintro e w' ⟨rfl, rfl⟩))
          refine ⟨(fun _ => by omega), hR.mono ?_⟩
          rintro e W3 (⟨rfl, hJ3, hk3⟩ | ⟨rfl, hJx3⟩)
          · have f2 : W3.cell? ⟨B2, 0, none⟩ = some (.int .i64 s) := hk3.2.1.trans e2
            have f3 : W3.cell? ⟨B3, 0, none⟩ = some nilS := hk3.2.2.trans e3
            have m2 := Nat.lt_of_lt_of_le l2 (Nat.le_trans hb1.size hk3.1)
            have m3 := Nat.lt_of_lt_of_le l3 (Nat.le_trans hb1.size hk3.1)
            clear e2 e3 hy hR hJ1
            gi_wp2
            go_roundw
            case rel => exact ⟨pre ++ [d], k, _, d + s, rfl, rfl, rfl, by rw [HX3.out]; simp, by omega, by simp; omega, by omega, by omega, hJ3, f2, f3, m2, m3⟩
            case measure => simp [intOf]; omega
          · clear hy hR hJ1
            gi_wp2
            refine bodyPost_ret (results_none rfl _ _ _) rfl ?_
            exact ⟨⟨_, rfl⟩, .inr ⟨pre ++ [d], ⟨wl s k (d + s), by rw [HX3.out]; simp⟩, hJx3⟩⟩
        · have HX2 := HX.out
          rw [wl_no (s := s) k hin h5] at HX2
          have HX3 := Lib.hid HX2
          clear HX2
          gi_wp2_with (first
                    | (refine ⟨trivial, (fun _ => by omega), ?_⟩; gi_at_call 40; refine (callsIn_wide.2 (isDay_any _ _)).mono ?_; rintro e w' ⟨rfl, rfl⟩)
                    | (refine ⟨trivial, (fun _ => by omega), ?_⟩; gi_at_call 76; refine (callsIn_wide.2 (dateOf_any d _ d0' (by omega))).mono ?_; rintro e w1 ⟨rfl, hb1⟩; have e2 : w1.cell? ⟨B2, 0, none⟩ = some (.int .i64 s) := (hb1.cell (p := ⟨B2, 0, none⟩) l2).trans e2; have e3 : w1.cell? ⟨B3, 0, none⟩ = some nilS := (hb1.cell (p := ⟨B3, 0, none⟩) l3).trans e3; have hJ1 := Lib.hid (abides_below HJ.out hJs hb1))
                    | (refine ⟨trivial, (fun _ => by omega), ?_⟩; gi_at_call 77; refine (callsIn_wide.2 (holidaysNil _ _)).mono ?_; rintro e w' ⟨rfl, rfl⟩)
                    | (refine ⟨trivial, (fun _ => by omega), ?_⟩; gi_at_call 78; refine (callsIn_wide.2 (bsNil d _)).mono ?_; rintro e w' ⟨rfl, rfl⟩)
                    | (refine ⟨trivial, (fun _ => by omega), ?_⟩; gi_at_call 79; refine (callsIn_wide.2 (weekday_any _ _ (by omega) (by omega))).mono ?_; rintro e w' ⟨rfl, rfl⟩))
          refine ⟨fun _ h => (by cases h), ?_⟩
          have m2 := Nat.lt_of_lt_of_le l2 hb1.size
          have m3 := Nat.lt_of_lt_of_le l3 hb1.size
          gi_wp2
          go_roundw
          case rel => exact ⟨pre, k, _, d + s, rfl, rfl, rfl, HX3.out, by omega, by omega, by omega, by omega, hJ1.out, e2, e3, m2, m3⟩
          case measure => simp [intOf]; omega
end Go.Proofs.YtpfekgmimfkjcaaGreatDoor
