/-
  What errorOf and read of package person return for decisions that have no error and are no withdrawals: contracts.
-/
import Derived.Test.YtfneafofohfdnaaPut
import Derived.Test.YtfneafofohfdnaaFirst
namespace Go.Proofs.Ytfneafofohfdnaa
open Go.RowKit
attribute [local go_sem] set_drewN
theorem fe2 (x y r : Int) (h : feE [x, y] = r) (b cap : Nat) (w : World) (hc : IntsAt w b 0 [x, y]) :
    Calls Try.prog 37 #[.slice (some ⟨b, 0, none⟩) 2 cap] w (Ret (.int .i64 r) w) := by
  subst h
  exact firstError_any [x, y] b 0 cap w (by simp) hc
/-- a decision on entries, no withdrawal, without an error -/
def gdD (n : Int) (d : Dc) : Prop := (d.k = 0 ∨ d.k = 1) ∧ (0 ≤ d.a ∧ d.a < n) ∧ (0 ≤ d.b ∧ d.b < n) ∧ d.a ≠ d.b
set_option maxRecDepth 100000 in
set_option maxHeartbeats 4000000 in
theorem errorOf_ok (bk : Nat) (n : Int) (d : Dc) (W : World) (h1 : -1000000000000 ≤ n) (h2 : n ≤ 1000000000000) (hd : gdD n d) (hc : W.cell? ⟨bk, 0, none⟩ = some (.int .i64 n)) :
    Calls Try.prog 66 #[.pointer (some ⟨bk, 0, none⟩), dcV d] W (RetB (.int .i64 0) W) := by
  obtain ⟨k, a, b⟩ := d
  obtain ⟨hk, ⟨a0, a1⟩, ⟨b0, b1⟩, hab⟩ := hd
  simp only at hk a0 a1 b0 b1 hab
  have ea : inB a 0 (n - 1) = true := inB_yes a0 (by omega)
  have eb : inB b 0 (n - 1) = true := inB_yes b0 (by omega)
  have hA := Lib.hid (fun W (hW : W.cell? ⟨bk, 0, none⟩ = some (.int .i64 n)) => ea ▸ hasEntry_any a bk n W h1 h2 hW)
  have hB := Lib.hid (fun W (hW : W.cell? ⟨bk, 0, none⟩ = some (.int .i64 n)) => eb ▸ hasEntry_any b bk n W h1 h2 hW)
  have hab2 : (a == b) = false := by simpa using hab
  have hc1 := Lib.cell?_alloc_some (.cells #[.int .i64 k, .int .i64 a, .int .i64 b] 65) hc
  clear ea eb hab
  go_enter Try.func66, Try.ntmps66
  rcases hk with rfl | rfl
  all_goals
    go_wp2
    refine wp_region_still_tail 19 (by kernel_rfl) (by kernel_rfl) ?_
    simp only [List.take_succ_cons, List.take_zero, List.drop_succ_cons, List.drop_zero]
    change wpStill _ _ (World.drewN _ 1) (fun a' => wpList _ _ _ _ a' (World.drewN _ 1)) _ _
    try simp only [World.drewN_drewN]
    still_step
    still_step
    still_step
    still_call (same_n (hA.out _ hc1))
    still_step
    still_step
    still_step
    still_step
    still_step
    still_call (same_n (hB.out _ hc1))
    still_step
    still_step
    still_call (same_n (errorIf_any _ _ _))
    still_step
    still_step
    still_step
    still_step
    still_step
    still_call (same_n (errorIf_any _ _ _))
    refine wpStill_nil ?_
    go_wp2_with (go_at_call 37; refine (firstError_any [eI false 6, eI false 3] _ 0 2 _ (by simp) (IntsAt.cons (by simp [go_sem]) (IntsAt.one (by simp [go_sem])))).mono ?_; rintro e w' ⟨rfl, rfl⟩)
    go_ret
    exact ⟨rfl, (below_n ((Below.refl _ _).alloc (Nat.le_refl _) _) _).alloc (by simp) _⟩
theorem add0 (b j : Nat) : Addr.add ⟨b, 0, none⟩ j = ⟨b, j, none⟩ := by
  unfold Addr.add
  split
  · rename_i e; subst e; rfl
  · simp
theorem dcC_at (ds : List Dc) : ∀ j (h : j < ds.length), (dcC ds)[j * 3]? = some (.int .i64 ds[j].k) ∧ (dcC ds)[j * 3 + 1]? = some (.int .i64 ds[j].a) ∧ (dcC ds)[j * 3 + 2]? = some (.int .i64 ds[j].b) := by
  induction ds with
  | nil => intro j h; simp at h
  | cons d ds ih =>
    intro j h
    have e : dcC (d :: ds) = [.int .i64 d.k, .int .i64 d.a, .int .i64 d.b] ++ dcC ds := rfl
    cases j with
    | zero => simp [e]
    | succ j =>
      have h2 := ih j (by simpa using h)
      rw [e]
      refine ⟨?_, ?_, ?_⟩
      · rw [List.getElem?_append_right (by simp; omega)]
        simpa [show (j + 1) * 3 - 3 = j * 3 by omega] using h2.1
      · rw [List.getElem?_append_right (by simp; omega)]
        simpa [show (j + 1) * 3 + 1 - 3 = j * 3 + 1 by omega] using h2.2.1
      · rw [List.getElem?_append_right (by simp; omega)]
        simpa [show (j + 1) * 3 + 2 - 3 = j * 3 + 2 by omega] using h2.2.2
theorem BkO.lies {w0 : World} {bk : Nat} {n : Int} {ds : List Dc} {st : List Bool} {v1 v2 : Value} {W : World} (h : BkO w0 bk n ds st v1 v2 W) : BkAt W.heap.size W bk n ds st := by
  obtain ⟨c0, c1, c2, _, _⟩ := h.cells
  refine ⟨(Array.getElem?_eq_some_iff.1 h.h).1, c0, ?_, ?_⟩
  · have r := h.r1
    rcases r.2 with ⟨rfl, h0⟩ | ⟨g, cap, cur, rfl, hbase, hr⟩
    · have : ds = [] := List.length_eq_zero_iff.1 h0
      subst this
      exact ⟨none, 0, c1, fun h => absurd rfl h⟩
    · refine ⟨_, cap, c1, fun _ => ⟨g, rfl, (r.lt g rfl).2, fun j hj => ?_⟩⟩
      obtain ⟨x0, x1, x2⟩ := dcC_at ds j hj
      have y0 := r.cells (g := g) rfl _ _ x0
      have y1 := r.cells (g := g) rfl _ _ x1
      have y2 := r.cells (g := g) rfl _ _ x2
      rw [add0] at y0 y1 y2
      exact ⟨y0, y1, y2⟩
  · have r := h.r2
    rcases r.2 with ⟨rfl, h0⟩ | ⟨g, cap, cur, rfl, hbase, hr⟩
    · have : st = [] := List.length_eq_zero_iff.1 h0
      subst this
      exact ⟨none, 0, c2, fun h => absurd rfl h⟩
    · refine ⟨_, cap, c2, fun _ => ⟨g, rfl, (r.lt g rfl).2, fun j hj => ?_⟩⟩
      have y0 := r.cells (g := g) rfl j (.bool st[j]) (by rw [List.getElem?_map, List.getElem?_eq_getElem hj]; rfl)
      rwa [add0] at y0
set_option maxRecDepth 100000 in
set_option maxHeartbeats 4000000 in
theorem read_ok (n : Nat) (ds : List Dc) (b cap : Nat) (w : World) (hn : n ≤ 60) (hl : ds.length ≤ 120) (hd : ∀ d ∈ ds, gdD n d) (hc : DcAt w.heap.size w b ds) :
    Calls Try.prog 52 #[.int .i64 n, .slice (some ⟨b, 0, none⟩) ds.length cap] w fun e w' => e = .returned (two (.pointer (some ⟨w.heap.size, 0, none⟩)) (.int .i64 0)) ∧ ∃ v1 v2, BkO w w.heap.size n ds (stM ds) v1 v2 w' := by
  have e1 : inB n 0 60 = true := inB_yes (by omega) (by omega)
  have hF := Lib.hid (fun W => e1 ▸ isFromTo_any n 0 60 W)
  have hl2 : decide (120 < (ds.length : Int)) = false := decide_eq_false (by omega)
  have hl3 : ¬ 120 < (ds.length : Int) := by omega
  have HC := Lib.hid hc
  have HD := Lib.hid hd
  clear hc hd e1
  go_enter Try.func52, Try.ntmps52
  go_wp2_with (first
    | (go_at_call 65; refine (hF.out _).mono ?_; rintro e w' ⟨rfl, rfl⟩)
    | (go_at_call 38; refine (errorIf_any _ _ _).mono ?_; rintro e w' ⟨rfl, rfl⟩)
    | (go_at_call 37; refine (fe2 (eI false 2) (eI false 8) 0 rfl _ 2 _ (IntsAt.cons (by simp [go_sem]) (IntsAt.one (by simp [go_sem])))).mono ?_; rintro e w' ⟨rfl, rfl⟩))
  have hst : BkO w w.heap.size n ([] : List Dc) [] (.slice none 0 0) (.slice none 0 0) ((w.alloc (.cells #[.int .i64 n, .slice none 0 0, .slice none 0 0] 112)).alloc (.cells #[.int .i64 (eI false 2), .int .i64 (eI false 8)] 25)) :=
    ⟨(Below.heap_alloc _ _ _ (by simp)).trans (World.alloc_heap_new w _), World.ownsRow_nil _ _ _ _, World.ownsRow_nil _ _ _ _, ((Below.refl _ w).alloc (Nat.le_refl _) _).alloc (by simp) _⟩
  have HST := Lib.hid hst
  clear hst
  go_loopw [30] (fun iv wr => ∃ (k : Nat) (v1 v2 : Value), k ≤ ds.length ∧ iv = .int .i64 k ∧ Hid (BkO w w.heap.size n (ds.take k) (stM (ds.take k)) v1 v2 wr)) (fun iv _ => ds.length - (intOf iv).toNat)
  case atStart => exact ⟨0, _, _, Nat.zero_le _, rfl, HST⟩
  case round =>
    obtain ⟨k, v1, v2, hk, rfl, HO⟩ := hrel
    have hB := HO.out.b
    have hsz := hB.size
    by_cases hlt : k < ds.length
    · obtain ⟨c0, c1, c2⟩ := (HC.out.below hB).2 k hlt
      have hbl := (HC.out).1
      have hgd := Lib.hid (HD.out ds[k] (List.getElem_mem hlt))
      have HNX := Lib.hid (show ds.take (k + 1) = ds.take k ++ [ds[k]] from List.take_succ_eq_append_getElem hlt)
      have HSX := Lib.hid (stM_take hlt)
      have hl1 : (ds.take k).length ≤ 1000 := by rw [List.length_take]; omega
      have hl4 : (stM (ds.take k)).length ≤ 1000 := by rw [stM_len]; exact hl1
      have HL1 := Lib.hid hl1
      have HL4 := Lib.hid hl4
      obtain ⟨d, hd⟩ : ∃ d, ds[k] = d := ⟨_, rfl⟩
      rw [hd] at c0 c1 c2 hgd HNX HSX
      clear hd hl1 hl4
      have hk2 := Lib.hid (show d.k ≠ 2 by rcases hgd.out.1 with h | h <;> omega)
      have hput := Lib.hid (show putM (stM (ds.take k)) d = stM (ds.take k) ++ [true] by unfold putM; rw [if_neg hk2.out])
      have hE := Lib.hid (fun W (hW : W.cell? ⟨w.heap.size, 0, none⟩ = some (.int .i64 n)) => errorOf_ok w.heap.size n d W (by omega) (by omega) hgd.out hW)
      have hP := Lib.hid (fun W (hW : BkO w w.heap.size n (ds.take k) (stM (ds.take k)) v1 v2 W) => put_nw w W w.heap.size n (ds.take k) (stM (ds.take k)) v1 v2 d hk2.out hW (Nat.le_refl _) HL1.out HL4.out)
      obtain ⟨dk, da, db⟩ := d
      simp only at c0 c1 c2
      have BA : Below wr.heap.size wr (wr.alloc (.cells #[.int .i64 dk, .int .i64 da, .int .i64 db] 65)) := (Below.refl _ _).alloc (Nat.le_refl _) _
      have HO1 := Lib.hid (HO.out.up BA)
      have z1 := Lib.hid BA.size
      clear BA
      go_wp2_with (first
        | (go_at_call 66; refine (hE.out _ HO1.out.cells.1).mono ?_; rintro e w3 ⟨rfl, hb3⟩; have HO3 := Lib.hid (HO1.out.up hb3); have q0 : w3.cell? ⟨wr.heap.size, 0, none⟩ = some (.int .i64 dk) := (hb3.cell (p := ⟨wr.heap.size, 0, none⟩) (by simp)).trans (by simp [go_sem]); have q1 : w3.cell? ⟨wr.heap.size, 1, none⟩ = some (.int .i64 da) := (hb3.cell (p := ⟨wr.heap.size, 1, none⟩) (by simp)).trans (by simp [go_sem]); have q2 : w3.cell? ⟨wr.heap.size, 2, none⟩ = some (.int .i64 db) := (hb3.cell (p := ⟨wr.heap.size, 2, none⟩) (by simp)).trans (by simp [go_sem]); clear hb3)
        | (go_at_call 67; refine (hP.out _ HO3.out).mono ?_; rintro e w4 ⟨rfl, v3, v4, hO4⟩; have HO4 := Lib.hid hO4; clear hO4))
      go_roundw
      case rel => exact ⟨k + 1, v3, v4, by omega, by go_num, by rw [HNX.out]; have h := HO4; rw [← hput.out, ← HSX.out, HNX.out] at h; exact h⟩
      case measure => simp [intOf]; omega
    · obtain rfl : k = ds.length := by omega
      have HOF := Lib.hid (show BkO w w.heap.size n ds (stM ds) v1 v2 wr by have h := HO.out; rwa [List.take_length] at h)
      go_wp2
      go_ret2
      exact ⟨rfl, v1, v2, HOF.out⟩
end Go.Proofs.Ytfneafofohfdnaa
