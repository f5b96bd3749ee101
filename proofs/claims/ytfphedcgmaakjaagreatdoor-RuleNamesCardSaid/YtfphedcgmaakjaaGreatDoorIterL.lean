/-
  The iterator over the working days, for every list of holidays: its contract for every body of a loop.
-/
import Derived.Test.YtfphedcgmaakjaaGreatDoorIter
import Derived.Test.YtfphedcgmaakjaaGreatDoorBegin
import Derived.Test.YtfphedcgmaakjaaGreatDoorHmath
namespace Go.Proofs.YtfphedcgmaakjaaGreatDoor
open Go.RowKit Go.Shelf
attribute [local go_sem] set_drewN Oper.semAt_some
theorem yr_bd {d : Int} (h0 : 0 ≤ d) (h9 : d ≤ 200000) : 1800 ≤ Cal.yr d ∧ Cal.yr d ≤ 2347 := by
  obtain ⟨h18, _, _⟩ := Cal.date_spec d h0
  have := yr_in d h0
  refine ⟨h18, ?_⟩
  by_cases g : Cal.yr d ≤ 2347
  · exact g
  · have := Cal.ny_mono 2348 (Cal.yr d) (by omega)
    have e : Cal.ny 2348 = 200152 := by decide +kernel
    omega
/-- the days from a day on that are right: at most k days are looked at -/
def wg (P : Int → Bool) (s : Int) : Nat → Int → List Int
  | 0, _ => []
  | k + 1, d => if inB d 0 200000 then (if P d then d :: wg P s k (d + s) else wg P s k (d + s)) else []
theorem wg_out {P : Int → Bool} {s d : Int} (k : Nat) (h : inB d 0 200000 = false) : wg P s k d = [] := by cases k <;> simp [wg, h]
theorem wg_yes {P : Int → Bool} {s d : Int} (k : Nat) (h : inB d 0 200000 = true) (h5 : P d = true) : wg P s (k + 1) d = d :: wg P s k (d + s) := by simp [wg, h, h5]
theorem wg_no {P : Int → Bool} {s d : Int} (k : Nat) (h : inB d 0 200000 = true) (h5 : P d = false) : wg P s (k + 1) d = wg P s k (d + s) := by simp [wg, h, h5]
theorem below_keep {W W' : World} {p : Addr} {v : Value} (hb : Below W.heap.size W W') (h : W.cell? p = some v) : W'.cell? p = some v := (hb.cell (World.block_lt_of_cell? W _ h)).trans h
/-- the cells of all blocks but those from a up to b are kept -/
def KpF (a b : Nat) (W W' : World) : Prop := W.heap.size ≤ W'.heap.size ∧ ∀ p v, (p.block < a ∨ b ≤ p.block) → W.cell? p = some v → W'.cell? p = some v
theorem kpf_t {a b : Nat} {A B C : World} (h : KpF a b A B) (k : KpF a b B C) : KpF a b A C := ⟨Nat.le_trans h.1 k.1, fun p v hp hc => k.2 p v hp (h.2 p v hp hc)⟩
theorem kpf_b {a b : Nat} {w : World} (W : World) (l : Nat) (o o' : Obj) (_ : w.heap.size ≤ l) (h : W.heap[l]? = some o) (hc : o.isCells = false) (_ : o.isWalk = false) : KpF a b W (W.putObj l o') :=
  ⟨by simp, fun _ _ _ hp => cell_kept hp (grownBy_putObj' W l o') (fun r e => by cases e; exact ⟨o, h, hc⟩)⟩
theorem kpf_below {a b : Nat} {W W' : World} (h : Below W.heap.size W W') : KpF a b W W' := ⟨h.size, fun _ _ _ hp => below_keep h hp⟩
theorem kpf_set {a b : Nat} (W : World) (p : Addr) (v : Value) (h1 : a ≤ p.block) (h2 : p.block < b) : KpF a b W (W.setCell p v) :=
  ⟨by simp, fun q u hq hc => (World.cell?_setCell_other _ _ _ _ (by rintro rfl; omega)).trans hc⟩
/-- a list of days that is nil, or lies in one block from n0 on -/
def Closed (W : World) (n0 : Nat) (v : Value) (L : List Int) : Prop :=
  (L = [] ∧ v = .slice none 0 0) ∨ ∃ g cap, v = .slice (some ⟨g, 0, none⟩) L.length cap ∧ n0 ≤ g ∧ g < W.heap.size ∧ IntsAt W g 0 L
theorem Closed.mono {W : World} {n0 n1 : Nat} {v : Value} {L : List Int} (h : Closed W n0 v L) (hn : n1 ≤ n0) : Closed W n1 v L := by
  rcases h with h | ⟨g, c, e, h1, h2, h3⟩
  · exact .inl h
  · exact .inr ⟨g, c, e, Nat.le_trans hn h1, h2, h3⟩
theorem Closed.kp {W W' : World} {a b n0 : Nat} {v : Value} {L : List Int} (h : Closed W n0 v L) (hb : b ≤ n0) (k : KpF a b W W') : Closed W' n0 v L := by
  rcases h with h | ⟨g, c, e, h1, h2, h3⟩
  · exact .inl h
  · exact .inr ⟨g, c, e, h1, Nat.lt_of_lt_of_le h2 k.1, fun j hj => k.2 _ _ (.inr (Nat.le_trans hb h1)) (h3 j hj)⟩
theorem Closed.below {W W' : World} {n0 : Nat} {v : Value} {L : List Int} (h : Closed W n0 v L) (hb : Below W.heap.size W W') : Closed W' n0 v L :=
  h.kp (a := 0) (b := 0) (Nat.zero_le _) (kpf_below hb)
/-- what a function that returns a list of days of its own returns -/
def DaysPost (L : List Int) (w : World) (e : Ending) (w' : World) : Prop := ∃ v, e = .returned v ∧ Closed w' w.heap.size v L ∧ Below w.heap.size w w'
theorem pw_le {L : List Int} (h : L.Pairwise (· < ·)) : L.Pairwise (· ≤ ·) := h.imp (fun h => Int.le_of_lt h)
theorem bs_closed {W : World} {n0 : Nat} {v : Value} {L : List Int} (h : Closed W n0 v L) (hs : L.Pairwise (· < ·)) (hl : L.length ≤ 1000) (x : Int) (r : Bool) (hr : decide (x ∈ L) = r) :
    Calls Tryz.prog 73 #[v, .int .i64 x] W (fun e w' => (∃ i : Int, e = .returned (two (.int .i64 i) (.bool r))) ∧ Below W.heap.size W w') := by
  rcases h with ⟨rfl, rfl⟩ | ⟨g, c, rfl, h1, h2, h3⟩
  · obtain rfl : r = false := by rw [← hr]; simp
    refine (bsNil x W).mono ?_
    rintro e w' ⟨rfl, rfl⟩
    exact ⟨⟨_, rfl⟩, Below.refl _ _⟩
  · refine (Tryz.slices_BinarySearch_int g 0 L.length c L x W (Nat.le_refl _) (by omega) (fun j hj => ?_) (by rw [List.take_length]; exact pw_le hs)).mono ?_
    · have := h3 j hj
      rw [this]; simp [List.getD_eq_getElem?_getD, List.getElem?_eq_getElem hj]
    · rintro e w' ⟨rfl, q, rfl⟩
      refine ⟨⟨(L.countP (· < x) : Nat), ?_⟩, below_n (Below.refl _ _) q⟩
      rw [List.take_length, ← hr]
      simp
set_option maxRecDepth 100000 in
set_option maxHeartbeats 4000000 in
theorem wg_in (n : Nat) (hn : 2 ≤ n) (l a b B1 B2 B3 K : Nat) (sv : Value) (ds : Int → List Int) (hds : ∀ y, (ds y).Pairwise (· < ·)) (hdl : ∀ y, (ds y).length ≤ 1000) (P : Int → Bool)
    (hP : ∀ d, 0 ≤ d → d ≤ 200000 → P d = (decide ((d + 2) % 7 < 5) && !decide (d ∈ ds (Cal.yr d)))) (G : World → Prop)
    (hG1 : ∀ W W', G W → Below W.heap.size W W' → G W') (hG2 : ∀ W W', G W → KpF a b W W' → G W')
    (cHo : Hid (∀ W y, G W → 1800 ≤ y → y ≤ 2347 → Calls Tryz.prog 72 #[sv, .int .i64 y] W (DaysPost (ds y) W)))
    (d0 s : Int) (hs : s = 1 ∨ s = -1) (hd1 : -10 ≤ d0) (hd2 : d0 ≤ 400000) (hK : rem s d0 ≤ K) (hK9 : K ≤ 900000) (J Jx : List Int → World → Prop) (W : World) (g0 : G W)
    (hB2b : b ≤ B2) (hB3b : b ≤ B3) (c1 : W.cell? ⟨B1, 0, none⟩ = some (.int .i64 d0)) (c2 : W.cell? ⟨B2, 0, none⟩ = some (.int .i64 s)) (c3 : W.cell? ⟨B3, 0, none⟩ = some sv)
    (B : Nat) (hJ : AbidesFrom B J)
    (hY : ∀ pre x W1, J pre W1 → pre.length < 1000000 → YieldAt Fence.wide (n - 1) Tryz.prog l #[.int .i64 x] W1 fun e W' =>
      (e = .returned (.bool true) ∧ J (pre ++ [x]) W' ∧ KpF a b W1 W') ∨ (e = .returned (.bool false) ∧ Jx (pre ++ [x]) W'))
    (h0 : J [] W) :
    CallsIn Fence.wide n Tryz.prog 70 #[.func (.yield l) #[] #[], .pointer (some ⟨B1, 0, none⟩), .pointer (some ⟨B2, 0, none⟩), .pointer (some ⟨B3, 0, none⟩)] W fun e W' => (∃ v, e = .returned v) ∧
      ((∃ xs, xs = wg P s K d0 ∧ J xs W') ∨ (∃ pre, pre <+: wg P s K d0 ∧ Jx pre W')) := by
  have HJ := Lib.hid hJ
  have hJ0 := Lib.hid h0
  have hg0 := Lib.hid g0
  clear hJ h0 g0
  refine callsIn_of_wp Tryz.func70 rfl trivial ?_ rfl
  simp only [Tryz.ntmps70, List.size_toArray, List.length_cons, List.length_nil, Nat.reduceAdd, Nat.reduceSub, Array.replicate_succ, Array.replicate_zero, List.push_toArray, List.append_toArray, List.nil_append, List.cons_append]
  gi_wp2
  gi_loopw [5, 6, 7] (fun yv cv dv wr => ∃ (pre : List Int) (k : Nat) (y d : Int), yv = .int .i64 y ∧ dv = .int .i64 d ∧ wg P s K d0 = pre ++ wg P s k d ∧ rem s d ≤ k ∧ pre.length + k ≤ K ∧ -10 ≤ d ∧ d ≤ 400001 ∧ Hid (J pre wr) ∧ Hid (G wr) ∧ Hid (1800 ≤ y → Closed wr b cv (ds y)) ∧ wr.cell? ⟨B2, 0, none⟩ = some (.int .i64 s) ∧ wr.cell? ⟨B3, 0, none⟩ = some sv) (fun _ _ dv _ => rem s (intOf dv))
  case atStart => exact ⟨[], K, 0, d0, rfl, rfl, rfl, hK, by simp, hd1, by omega, hJ0, hg0, Lib.hid (fun h => by omega), c2, c3⟩
  case round =>
    obtain ⟨pre, k, y, d, rfl, rfl, hx, hk, hKk, hda, hdb, hJs, hg, hclo, e2, e3⟩ := hrel
    have HX := Lib.hid hx
    clear hx
    cases hin : inB d 0 200000
    · have HX2 := HX.out
      rw [wg_out k hin, List.append_nil] at HX2
      have HX3 := Lib.hid HX2
      clear HX2
      gi_wp2_with (refine ⟨trivial, (fun _ => by omega), ?_⟩; gi_at_call 33; refine (callsIn_wide.2 (isDay_any _ _)).mono ?_; rintro e w' ⟨rfl, rfl⟩)
      go_end0
      exact ⟨⟨_, rfl⟩, .inl ⟨pre, HX3.out.symm, hJs.out⟩⟩
    · obtain ⟨d0', d9'⟩ := inB_iff.1 hin
      obtain ⟨hrs, hrp⟩ := rem_step hs hin
      obtain ⟨k, rfl⟩ : ∃ k', k = k' + 1 := ⟨k - 1, by omega⟩
      have hfld : ∀ w : World, (Instr.field 40 (dateV (Cal.yr d) (Cal.mo d) (Cal.da d)) 0).run Tryz.prog w = .ok (.int .i64 (Cal.yr d)) w := fun _ => by kernel_rfl
      have hs1 : -1 ≤ s := by omega
      have hs2 : s ≤ 1 := by omega
      obtain ⟨hy0, hy9⟩ := yr_bd d0' d9'
      have hb3 := World.block_lt_of_cell? _ _ e3
      simp only at hb3
      by_cases hye : y = Cal.yr d
      · subst hye
        have hcl := Lib.hid (hclo.out hy0)
        clear hclo
        by_cases h5 : (d + 2) % 7 < 5
        · cases hmem : decide (d ∈ ds (Cal.yr d))
          · have hPd : P d = true := by rw [hP d d0' d9', hmem]; simpa using h5
            have HX2 := HX.out
            rw [wg_yes (s := s) k hin hPd] at HX2
            have HX3 := Lib.hid HX2
            clear HX2
            gi_wp2_with (first
                                | (refine ⟨trivial, (fun _ => by omega), ?_⟩; gi_at_call 33; refine (callsIn_wide.2 (isDay_any _ _)).mono ?_; rintro e w' ⟨rfl, rfl⟩)
                                | (refine ⟨trivial, (fun _ => by omega), ?_⟩; gi_at_call 71; refine (callsIn_wide.2 (dateOf_any d _ d0' (by omega))).mono ?_; rintro e w1 ⟨rfl, hb1⟩; have e2 := below_keep hb1 e2; have e3 := below_keep hb1 e3; have hJ1 := Lib.hid (abides_below HJ.out hJs.out hb1); have g1 := Lib.hid (hG1 _ _ hg.out hb1); have C1 := Lib.hid (hcl.out.below hb1))
                                | (refine ⟨trivial, (fun _ => by omega), ?_⟩; gi_at_call 73; refine (callsIn_wide.2 (bs_closed C1.out (hds _) (hdl _) d false hmem)).mono ?_; rintro e w3 ⟨⟨i3, rfl⟩, hb3⟩; have e2 := below_keep hb3 e2; have e3 := below_keep hb3 e3; have hJ3 := Lib.hid (abides_below HJ.out hJ1.out hb3); have g3 := Lib.hid (hG1 _ _ g1.out hb3); have C3 := Lib.hid (C1.out.below hb3); obtain ⟨fn, tmps, assign, body, hy, hR⟩ := hY pre d w3 hJ3.out (by omega))
                                | (refine ⟨trivial, (fun _ => by omega), ?_⟩; gi_at_call 74; refine (callsIn_wide.2 (weekday_any _ _ (by omega) (by omega))).mono ?_; rintro e w' ⟨rfl, rfl⟩))
            refine ⟨(fun _ => by omega), hR.mono ?_⟩
            rintro e W3 (⟨rfl, hJ4, hk4⟩ | ⟨rfl, hJx4⟩)
            · have f2 := hk4.2 _ _ (.inr hB2b) e2
              have f3 := hk4.2 _ _ (.inr hB3b) e3
              have G4 := Lib.hid (hG2 _ _ g3.out hk4)
              have C4 := Lib.hid (C3.out.kp (Nat.le_refl _) hk4)
              have J4 := Lib.hid hJ4
              clear e2 e3 hy hR hJ4
              gi_wp2
              go_roundw
              case rel => exact ⟨pre ++ [d], k, _, d + s, rfl, rfl, by rw [HX3.out]; simp, by omega, by simp; omega, by omega, by omega, J4, G4, Lib.hid (fun _ => C4.out), f2, f3⟩
              case measure => simp [intOf]; omega
            · have J4 := Lib.hid hJx4
              clear hy hR hJx4
              gi_wp2
              refine bodyPost_ret (results_none rfl _ _ _) rfl ?_
              exact ⟨⟨_, rfl⟩, .inr ⟨pre ++ [d], ⟨wg P s k (d + s), by rw [HX3.out]; simp⟩, J4.out⟩⟩
          · have hPd : P d = false := by rw [hP d d0' d9', hmem]; simp
            have HX2 := HX.out
            rw [wg_no (s := s) k hin hPd] at HX2
            have HX3 := Lib.hid HX2
            clear HX2
            gi_wp2_with (first
                                | (refine ⟨trivial, (fun _ => by omega), ?_⟩; gi_at_call 33; refine (callsIn_wide.2 (isDay_any _ _)).mono ?_; rintro e w' ⟨rfl, rfl⟩)
                                | (refine ⟨trivial, (fun _ => by omega), ?_⟩; gi_at_call 71; refine (callsIn_wide.2 (dateOf_any d _ d0' (by omega))).mono ?_; rintro e w1 ⟨rfl, hb1⟩; have e2 := below_keep hb1 e2; have e3 := below_keep hb1 e3; have hJ1 := Lib.hid (abides_below HJ.out hJs.out hb1); have g1 := Lib.hid (hG1 _ _ hg.out hb1); have C1 := Lib.hid (hcl.out.below hb1))
                                | (refine ⟨trivial, (fun _ => by omega), ?_⟩; gi_at_call 73; refine (callsIn_wide.2 (bs_closed C1.out (hds _) (hdl _) d true hmem)).mono ?_; rintro e w3 ⟨⟨i3, rfl⟩, hb3⟩; have e2 := below_keep hb3 e2; have e3 := below_keep hb3 e3; have hJ3 := Lib.hid (abides_below HJ.out hJ1.out hb3); have g3 := Lib.hid (hG1 _ _ g1.out hb3); have C3 := Lib.hid (C1.out.below hb3))
                                | (refine ⟨trivial, (fun _ => by omega), ?_⟩; gi_at_call 74; refine (callsIn_wide.2 (weekday_any _ _ (by omega) (by omega))).mono ?_; rintro e w' ⟨rfl, rfl⟩))
            refine ⟨fun _ h => (by cases h), ?_⟩
            gi_wp2
            go_roundw
            case rel => exact ⟨pre, k, _, d + s, rfl, rfl, HX3.out, by omega, by omega, by omega, by omega, hJ3, g3, Lib.hid (fun _ => C3.out), e2, e3⟩
            case measure => simp [intOf]; omega
        · have hPd : P d = false := by rw [hP d d0' d9']; simp [h5]
          cases hmem : decide (d ∈ ds (Cal.yr d))
          · have h5' : decide ((d + 2) % 7 < 5) = false := by simpa using h5
            have HX2 := HX.out
            rw [wg_no (s := s) k hin hPd] at HX2
            have HX3 := Lib.hid HX2
            clear HX2
            gi_wp2_with (first
                                | (refine ⟨trivial, (fun _ => by omega), ?_⟩; gi_at_call 33; refine (callsIn_wide.2 (isDay_any _ _)).mono ?_; rintro e w' ⟨rfl, rfl⟩)
                                | (refine ⟨trivial, (fun _ => by omega), ?_⟩; gi_at_call 71; refine (callsIn_wide.2 (dateOf_any d _ d0' (by omega))).mono ?_; rintro e w1 ⟨rfl, hb1⟩; have e2 := below_keep hb1 e2; have e3 := below_keep hb1 e3; have hJ1 := Lib.hid (abides_below HJ.out hJs.out hb1); have g1 := Lib.hid (hG1 _ _ hg.out hb1); have C1 := Lib.hid (hcl.out.below hb1))
                                | (refine ⟨trivial, (fun _ => by omega), ?_⟩; gi_at_call 73; refine (callsIn_wide.2 (bs_closed C1.out (hds _) (hdl _) d false hmem)).mono ?_; rintro e w3 ⟨⟨i3, rfl⟩, hb3⟩; have e2 := below_keep hb3 e2; have e3 := below_keep hb3 e3; have hJ3 := Lib.hid (abides_below HJ.out hJ1.out hb3); have g3 := Lib.hid (hG1 _ _ g1.out hb3); have C3 := Lib.hid (C1.out.below hb3))
                                | (refine ⟨trivial, (fun _ => by omega), ?_⟩; gi_at_call 74; refine (callsIn_wide.2 (weekday_any _ _ (by omega) (by omega))).mono ?_; rintro e w' ⟨rfl, rfl⟩))
            refine ⟨fun _ h => (by cases h), ?_⟩
            gi_wp2
            go_roundw
            case rel => exact ⟨pre, k, _, d + s, rfl, rfl, HX3.out, by omega, by omega, by omega, by omega, hJ3, g3, Lib.hid (fun _ => C3.out), e2, e3⟩
            case measure => simp [intOf]; omega
          · have h5' : decide ((d + 2) % 7 < 5) = false := by simpa using h5
            have HX2 := HX.out
            rw [wg_no (s := s) k hin hPd] at HX2
            have HX3 := Lib.hid HX2
            clear HX2
            gi_wp2_with (first
                                | (refine ⟨trivial, (fun _ => by omega), ?_⟩; gi_at_call 33; refine (callsIn_wide.2 (isDay_any _ _)).mono ?_; rintro e w' ⟨rfl, rfl⟩)
                                | (refine ⟨trivial, (fun _ => by omega), ?_⟩; gi_at_call 71; refine (callsIn_wide.2 (dateOf_any d _ d0' (by omega))).mono ?_; rintro e w1 ⟨rfl, hb1⟩; have e2 := below_keep hb1 e2; have e3 := below_keep hb1 e3; have hJ1 := Lib.hid (abides_below HJ.out hJs.out hb1); have g1 := Lib.hid (hG1 _ _ hg.out hb1); have C1 := Lib.hid (hcl.out.below hb1))
                                | (refine ⟨trivial, (fun _ => by omega), ?_⟩; gi_at_call 73; refine (callsIn_wide.2 (bs_closed C1.out (hds _) (hdl _) d true hmem)).mono ?_; rintro e w3 ⟨⟨i3, rfl⟩, hb3⟩; have e2 := below_keep hb3 e2; have e3 := below_keep hb3 e3; have hJ3 := Lib.hid (abides_below HJ.out hJ1.out hb3); have g3 := Lib.hid (hG1 _ _ g1.out hb3); have C3 := Lib.hid (C1.out.below hb3))
                                | (refine ⟨trivial, (fun _ => by omega), ?_⟩; gi_at_call 74; refine (callsIn_wide.2 (weekday_any _ _ (by omega) (by omega))).mono ?_; rintro e w' ⟨rfl, rfl⟩))
            refine ⟨fun _ h => (by cases h), ?_⟩
            gi_wp2
            go_roundw
            case rel => exact ⟨pre, k, _, d + s, rfl, rfl, HX3.out, by omega, by omega, by omega, by omega, hJ3, g3, Lib.hid (fun _ => C3.out), e2, e3⟩
            case measure => simp [intOf]; omega
      · have hyb : (Cal.yr d != y) = true := by simpa using Ne.symm hye
        clear hclo
        by_cases h5 : (d + 2) % 7 < 5
        · cases hmem : decide (d ∈ ds (Cal.yr d))
          · have hPd : P d = true := by rw [hP d d0' d9', hmem]; simpa using h5
            have HX2 := HX.out
            rw [wg_yes (s := s) k hin hPd] at HX2
            have HX3 := Lib.hid HX2
            clear HX2
            gi_wp2_with (first
                                | (refine ⟨trivial, (fun _ => by omega), ?_⟩; gi_at_call 33; refine (callsIn_wide.2 (isDay_any _ _)).mono ?_; rintro e w' ⟨rfl, rfl⟩)
                                | (refine ⟨trivial, (fun _ => by omega), ?_⟩; gi_at_call 71; refine (callsIn_wide.2 (dateOf_any d _ d0' (by omega))).mono ?_; rintro e w1 ⟨rfl, hb1⟩; have e2 := below_keep hb1 e2; have e3 := below_keep hb1 e3; have hJ1 := Lib.hid (abides_below HJ.out hJs.out hb1); have g1 := Lib.hid (hG1 _ _ hg.out hb1); have s1 := hb1.size)
                                | (refine ⟨trivial, (fun _ => by omega), ?_⟩; gi_at_call 72; refine (callsIn_wide.2 (cHo.out _ _ g1.out hy0 hy9)).mono ?_; rintro e w2 ⟨v2, rfl, hc2, hb2⟩; have e2 := below_keep hb2 e2; have e3 := below_keep hb2 e3; have hJ2 := Lib.hid (abides_below HJ.out hJ1.out hb2); have g2 := Lib.hid (hG1 _ _ g1.out hb2); have C2 := Lib.hid (hc2.mono (n1 := b) (by omega)); clear hc2)
                                | (refine ⟨trivial, (fun _ => by omega), ?_⟩; gi_at_call 73; refine (callsIn_wide.2 (bs_closed C2.out (hds _) (hdl _) d false hmem)).mono ?_; rintro e w3 ⟨⟨i3, rfl⟩, hb3⟩; have e2 := below_keep hb3 e2; have e3 := below_keep hb3 e3; have hJ3 := Lib.hid (abides_below HJ.out hJ2.out hb3); have g3 := Lib.hid (hG1 _ _ g2.out hb3); have C3 := Lib.hid (C2.out.below hb3); obtain ⟨fn, tmps, assign, body, hy, hR⟩ := hY pre d w3 hJ3.out (by omega))
                                | (refine ⟨trivial, (fun _ => by omega), ?_⟩; gi_at_call 74; refine (callsIn_wide.2 (weekday_any _ _ (by omega) (by omega))).mono ?_; rintro e w' ⟨rfl, rfl⟩))
            refine ⟨(fun _ => by omega), hR.mono ?_⟩
            rintro e W3 (⟨rfl, hJ4, hk4⟩ | ⟨rfl, hJx4⟩)
            · have f2 := hk4.2 _ _ (.inr hB2b) e2
              have f3 := hk4.2 _ _ (.inr hB3b) e3
              have G4 := Lib.hid (hG2 _ _ g3.out hk4)
              have C4 := Lib.hid (C3.out.kp (Nat.le_refl _) hk4)
              have J4 := Lib.hid hJ4
              clear e2 e3 hy hR hJ4
              gi_wp2
              go_roundw
              case rel => exact ⟨pre ++ [d], k, _, d + s, rfl, rfl, by rw [HX3.out]; simp, by omega, by simp; omega, by omega, by omega, J4, G4, Lib.hid (fun _ => C4.out), f2, f3⟩
              case measure => simp [intOf]; omega
            · have J4 := Lib.hid hJx4
              clear hy hR hJx4
              gi_wp2
              refine bodyPost_ret (results_none rfl _ _ _) rfl ?_
              exact ⟨⟨_, rfl⟩, .inr ⟨pre ++ [d], ⟨wg P s k (d + s), by rw [HX3.out]; simp⟩, J4.out⟩⟩
          · have hPd : P d = false := by rw [hP d d0' d9', hmem]; simp
            have HX2 := HX.out
            rw [wg_no (s := s) k hin hPd] at HX2
            have HX3 := Lib.hid HX2
            clear HX2
            gi_wp2_with (first
                                | (refine ⟨trivial, (fun _ => by omega), ?_⟩; gi_at_call 33; refine (callsIn_wide.2 (isDay_any _ _)).mono ?_; rintro e w' ⟨rfl, rfl⟩)
                                | (refine ⟨trivial, (fun _ => by omega), ?_⟩; gi_at_call 71; refine (callsIn_wide.2 (dateOf_any d _ d0' (by omega))).mono ?_; rintro e w1 ⟨rfl, hb1⟩; have e2 := below_keep hb1 e2; have e3 := below_keep hb1 e3; have hJ1 := Lib.hid (abides_below HJ.out hJs.out hb1); have g1 := Lib.hid (hG1 _ _ hg.out hb1); have s1 := hb1.size)
                                | (refine ⟨trivial, (fun _ => by omega), ?_⟩; gi_at_call 72; refine (callsIn_wide.2 (cHo.out _ _ g1.out hy0 hy9)).mono ?_; rintro e w2 ⟨v2, rfl, hc2, hb2⟩; have e2 := below_keep hb2 e2; have e3 := below_keep hb2 e3; have hJ2 := Lib.hid (abides_below HJ.out hJ1.out hb2); have g2 := Lib.hid (hG1 _ _ g1.out hb2); have C2 := Lib.hid (hc2.mono (n1 := b) (by omega)); clear hc2)
                                | (refine ⟨trivial, (fun _ => by omega), ?_⟩; gi_at_call 73; refine (callsIn_wide.2 (bs_closed C2.out (hds _) (hdl _) d true hmem)).mono ?_; rintro e w3 ⟨⟨i3, rfl⟩, hb3⟩; have e2 := below_keep hb3 e2; have e3 := below_keep hb3 e3; have hJ3 := Lib.hid (abides_below HJ.out hJ2.out hb3); have g3 := Lib.hid (hG1 _ _ g2.out hb3); have C3 := Lib.hid (C2.out.below hb3))
                                | (refine ⟨trivial, (fun _ => by omega), ?_⟩; gi_at_call 74; refine (callsIn_wide.2 (weekday_any _ _ (by omega) (by omega))).mono ?_; rintro e w' ⟨rfl, rfl⟩))
            refine ⟨fun _ h => (by cases h), ?_⟩
            gi_wp2
            go_roundw
            case rel => exact ⟨pre, k, _, d + s, rfl, rfl, HX3.out, by omega, by omega, by omega, by omega, hJ3, g3, Lib.hid (fun _ => C3.out), e2, e3⟩
            case measure => simp [intOf]; omega
        · have hPd : P d = false := by rw [hP d d0' d9']; simp [h5]
          cases hmem : decide (d ∈ ds (Cal.yr d))
          · have h5' : decide ((d + 2) % 7 < 5) = false := by simpa using h5
            have HX2 := HX.out
            rw [wg_no (s := s) k hin hPd] at HX2
            have HX3 := Lib.hid HX2
            clear HX2
            gi_wp2_with (first
                                | (refine ⟨trivial, (fun _ => by omega), ?_⟩; gi_at_call 33; refine (callsIn_wide.2 (isDay_any _ _)).mono ?_; rintro e w' ⟨rfl, rfl⟩)
                                | (refine ⟨trivial, (fun _ => by omega), ?_⟩; gi_at_call 71; refine (callsIn_wide.2 (dateOf_any d _ d0' (by omega))).mono ?_; rintro e w1 ⟨rfl, hb1⟩; have e2 := below_keep hb1 e2; have e3 := below_keep hb1 e3; have hJ1 := Lib.hid (abides_below HJ.out hJs.out hb1); have g1 := Lib.hid (hG1 _ _ hg.out hb1); have s1 := hb1.size)
                                | (refine ⟨trivial, (fun _ => by omega), ?_⟩; gi_at_call 72; refine (callsIn_wide.2 (cHo.out _ _ g1.out hy0 hy9)).mono ?_; rintro e w2 ⟨v2, rfl, hc2, hb2⟩; have e2 := below_keep hb2 e2; have e3 := below_keep hb2 e3; have hJ2 := Lib.hid (abides_below HJ.out hJ1.out hb2); have g2 := Lib.hid (hG1 _ _ g1.out hb2); have C2 := Lib.hid (hc2.mono (n1 := b) (by omega)); clear hc2)
                                | (refine ⟨trivial, (fun _ => by omega), ?_⟩; gi_at_call 73; refine (callsIn_wide.2 (bs_closed C2.out (hds _) (hdl _) d false hmem)).mono ?_; rintro e w3 ⟨⟨i3, rfl⟩, hb3⟩; have e2 := below_keep hb3 e2; have e3 := below_keep hb3 e3; have hJ3 := Lib.hid (abides_below HJ.out hJ2.out hb3); have g3 := Lib.hid (hG1 _ _ g2.out hb3); have C3 := Lib.hid (C2.out.below hb3))
                                | (refine ⟨trivial, (fun _ => by omega), ?_⟩; gi_at_call 74; refine (callsIn_wide.2 (weekday_any _ _ (by omega) (by omega))).mono ?_; rintro e w' ⟨rfl, rfl⟩))
            refine ⟨fun _ h => (by cases h), ?_⟩
            gi_wp2
            go_roundw
            case rel => exact ⟨pre, k, _, d + s, rfl, rfl, HX3.out, by omega, by omega, by omega, by omega, hJ3, g3, Lib.hid (fun _ => C3.out), e2, e3⟩
            case measure => simp [intOf]; omega
          · have h5' : decide ((d + 2) % 7 < 5) = false := by simpa using h5
            have HX2 := HX.out
            rw [wg_no (s := s) k hin hPd] at HX2
            have HX3 := Lib.hid HX2
            clear HX2
            gi_wp2_with (first
                                | (refine ⟨trivial, (fun _ => by omega), ?_⟩; gi_at_call 33; refine (callsIn_wide.2 (isDay_any _ _)).mono ?_; rintro e w' ⟨rfl, rfl⟩)
                                | (refine ⟨trivial, (fun _ => by omega), ?_⟩; gi_at_call 71; refine (callsIn_wide.2 (dateOf_any d _ d0' (by omega))).mono ?_; rintro e w1 ⟨rfl, hb1⟩; have e2 := below_keep hb1 e2; have e3 := below_keep hb1 e3; have hJ1 := Lib.hid (abides_below HJ.out hJs.out hb1); have g1 := Lib.hid (hG1 _ _ hg.out hb1); have s1 := hb1.size)
                                | (refine ⟨trivial, (fun _ => by omega), ?_⟩; gi_at_call 72; refine (callsIn_wide.2 (cHo.out _ _ g1.out hy0 hy9)).mono ?_; rintro e w2 ⟨v2, rfl, hc2, hb2⟩; have e2 := below_keep hb2 e2; have e3 := below_keep hb2 e3; have hJ2 := Lib.hid (abides_below HJ.out hJ1.out hb2); have g2 := Lib.hid (hG1 _ _ g1.out hb2); have C2 := Lib.hid (hc2.mono (n1 := b) (by omega)); clear hc2)
                                | (refine ⟨trivial, (fun _ => by omega), ?_⟩; gi_at_call 73; refine (callsIn_wide.2 (bs_closed C2.out (hds _) (hdl _) d true hmem)).mono ?_; rintro e w3 ⟨⟨i3, rfl⟩, hb3⟩; have e2 := below_keep hb3 e2; have e3 := below_keep hb3 e3; have hJ3 := Lib.hid (abides_below HJ.out hJ2.out hb3); have g3 := Lib.hid (hG1 _ _ g2.out hb3); have C3 := Lib.hid (C2.out.below hb3))
                                | (refine ⟨trivial, (fun _ => by omega), ?_⟩; gi_at_call 74; refine (callsIn_wide.2 (weekday_any _ _ (by omega) (by omega))).mono ?_; rintro e w' ⟨rfl, rfl⟩))
            refine ⟨fun _ h => (by cases h), ?_⟩
            gi_wp2
            go_roundw
            case rel => exact ⟨pre, k, _, d + s, rfl, rfl, HX3.out, by omega, by omega, by omega, by omega, hJ3, g3, Lib.hid (fun _ => C3.out), e2, e3⟩
            case measure => simp [intOf]; omega
end Go.Proofs.YtfphedcgmaakjaaGreatDoor
