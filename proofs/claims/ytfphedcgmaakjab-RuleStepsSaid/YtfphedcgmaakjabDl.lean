/-
  What CheckPeriod and Deadline of package rule and of its specification return, in the worlds in which a list of holidays lies.
-/
import Derived.Test.YtfphedcgmaakjabLawMonths
namespace Go.Proofs.Ytfphedcgmaakjab
open Go.RowKit Go.Shelf
section
attribute [local go_sem] set_drewN Oper.semAt_some
set_option maxRecDepth 100000 in
set_option maxHeartbeats 4000000 in
theorem addWorking_far (sa : Option Addr) (sn sc : Nat) (ds : Int → List Int) (hds : ∀ y, (ds y).Pairwise (· < ·)) (hdl : ∀ y, (ds y).length ≤ 1000) (P : Int → Bool)
    (hP : ∀ d, 0 ≤ d → d ≤ 200000 → P d = (decide ((d + 2) % 7 < 5) && !decide (d ∈ ds (Cal.yr d)))) (w : World) (G : World → Prop)
    (hG1 : ∀ W W', G W → Below W.heap.size W W' → G W') (hG2 : ∀ b W W', G W → KpF w.heap.size b W W' → G W')
    (cHo : Hid (∀ W y, G W → 1800 ≤ y → y ≤ 2347 → Calls Try.prog 40 #[.slice sa sn sc, .int .i64 y] W (DaysPost (ds y) W)))
    (g0 : G w) (day : Int)  (m : Nat) (hm : (1 : Int) = m) (o : Option Int) (hd1 : 0 ≤ day) (hd2 : day ≤ 300000) (hm1 : 0 < m) (hm2 : m ≤ 2000) (hx : (wg P 1 200001 (day))[m - 1]? = o) :
    Calls Try.prog 23 #[.slice sa sn sc, .int .i64 day, .int .i64 0] w (RetB (wres o) w) := by
  have HX := Lib.hid hx
  have HM := Lib.hid hm
  have HG0 := Lib.hid g0
  clear hx g0 hm
  refine (callsIn_wide (n := 5)).1 ?_
  refine callsIn_of_wp_marks Try.func23 rfl trivial ?_ rfl
  simp only [Try.ntmps23, List.size_toArray, List.length_cons, List.length_nil, Nat.reduceAdd, Nat.reduceSub, Array.replicate_succ, Array.replicate_zero, List.push_toArray, List.append_toArray, List.nil_append, List.cons_append]
  gi_wp2_with (refine ⟨trivial, ?_⟩; gi_at_call 25; refine (callsIn_wide.2 (workingDays_any _ _ _ _ _ _)).mono ?_; rintro e w' ⟨rfl, rfl⟩)
  obtain ⟨W0, hW0⟩ : ∃ W0, ((((((w.alloc (.cells #[.int .i64 0] 3)).alloc (.cells #[.int .i64 0] 31)).alloc (.cells #[.int .i64 1] 3)).alloc (.cells #[.slice sa sn sc] 22)).alloc (.cells #[.int .i64 (day)] 3)).alloc (.cells #[.int .i64 1] 3)) = W0 := ⟨_, rfl⟩
  have k1 : W0.cell? ⟨w.heap.size + 1 + 1 + 1 + 1, 0, none⟩ = some (.int .i64 (day)) := by rw [← hW0]; simp [go_sem]
  have k2 : W0.cell? ⟨w.heap.size + 1 + 1 + 1 + 1 + 1, 0, none⟩ = some (.int .i64 1) := by rw [← hW0]; simp [go_sem]
  have k3 : W0.cell? ⟨w.heap.size + 1 + 1 + 1, 0, none⟩ = some (.slice sa sn sc) := by rw [← hW0]; simp [go_sem]
  have kL : W0.cell? ⟨w.heap.size + 1 + 1, 0, none⟩ = some (.int .i64 (m : Int)) := by rw [← hW0, ← HM.out]; simp [go_sem]
  have fL : W0.frozen? ⟨w.heap.size + 1 + 1, 0, none⟩ = false := by rw [← hW0]; simp [go_sem]
  have k6 : W0.cell? ⟨w.heap.size, 0, none⟩ = some (.int .i64 0) := by rw [← hW0]; simp [go_sem]
  have f6 : W0.frozen? ⟨w.heap.size, 0, none⟩ = false := by rw [← hW0]; simp [go_sem]
  have k7 : W0.cell? ⟨w.heap.size + 1, 0, none⟩ = some (.int .i64 0) := by rw [← hW0]; simp [go_sem]
  have f7 : W0.frozen? ⟨w.heap.size + 1, 0, none⟩ = false := by rw [← hW0]; simp [go_sem]
  have hsz : W0.heap.size = w.heap.size + 6 := by rw [← hW0]; simp
  have hB0 : Below w.heap.size w W0 := by
    rw [← hW0]
    exact (((((((Below.refl _ w).alloc (Nat.le_refl _) _).alloc (by simp) _).alloc (by simp; omega) _).alloc (by simp; omega) _).alloc (by simp; omega) _).alloc (by simp; omega) _)
  rw [hW0]
  have HSZ := Lib.hid hsz
  have hlt : w.heap.size + 5 < W0.heap.size := by omega
  have GW0 := Lib.hid (hG1 _ _ HG0.out hB0)
  clear hW0 hsz
  refine wpIn_rangeFunc_ownF (F := Fence.wide) (n := 5) rfl (by omega) (gf := 38) (lb := #[(.pointer (some ⟨w.heap.size + 1 + 1 + 1 + 1, 0, none⟩)), (.pointer (some ⟨w.heap.size + 1 + 1 + 1 + 1 + 1, 0, none⟩)), (.pointer (some ⟨w.heap.size + 1 + 1 + 1, 0, none⟩))]) rfl trivial (enters_of Try.func38 (by kernel_rfl) rfl)
    (encs := fun x : Int => #[.int .i64 x]) (Kp := KpF w.heap.size (w.heap.size + 3)) (S := fun xs => xs = wg P 1 200001 (day)) (Sp := fun pre => pre <+: wg P 1 200001 (day)) (N := 1000000) (w0 := W0)
    (fun l J Jx W hW hJ _ hY h0 => wg_in 4 (by omega) l w.heap.size (w.heap.size + 3) (w.heap.size + 1 + 1 + 1 + 1) (w.heap.size + 1 + 1 + 1 + 1 + 1) (w.heap.size + 1 + 1 + 1) 200001 (.slice sa sn sc) ds hds hdl P hP G hG1 (hG2 _) cHo (day) 1 (by first | exact Or.inl rfl | exact Or.inr rfl) (by omega) (by omega) (by simp [rem]; try omega) (by omega) J Jx W (hG1 _ _ GW0.out hW) (by omega) (by omega)
      ((hW.cell (p := ⟨w.heap.size + 1 + 1 + 1 + 1, 0, none⟩) (by simp; omega)).trans k1) ((hW.cell (p := ⟨w.heap.size + 1 + 1 + 1 + 1 + 1, 0, none⟩) (by simp; omega)).trans k2) ((hW.cell (p := ⟨w.heap.size + 1 + 1 + 1, 0, none⟩) (by simp; omega)).trans k3) W.heap.size hJ hY h0)
    kpf_t (kpf_b (w := W0)) (Below.refl _ _) (fun _ => rfl)
    (fun pre W => (pre.length < m ∧ W.cell? ⟨w.heap.size + 1 + 1, 0, none⟩ = some (.int .i64 (m - pre.length)) ∧ W.frozen? ⟨w.heap.size + 1 + 1, 0, none⟩ = false ∧ W.cell? ⟨w.heap.size, 0, none⟩ = some (.int .i64 0) ∧ W.frozen? ⟨w.heap.size, 0, none⟩ = false ∧ W.cell? ⟨w.heap.size + 1, 0, none⟩ = some (.int .i64 0) ∧ W.frozen? ⟨w.heap.size + 1, 0, none⟩ = false) ∧ Below w.heap.size w W)
    (fun e pre W => (e = .ret ∧ pre.length = m ∧ ∃ v, pre.getLast? = some v ∧ W.cell? ⟨w.heap.size, 0, none⟩ = some (.int .i64 v) ∧ W.cell? ⟨w.heap.size + 1, 0, none⟩ = some (.int .i64 0)) ∧ Below w.heap.size w W)
    (OwnFrom.and (Own.from (fun s A B row hs hg hr => ⟨hs.1, cell_kept hs.2.1 hg hr, (frozen_kept hs.2.1 hg hr).trans hs.2.2.1, cell_kept hs.2.2.2.1 hg hr, (frozen_kept hs.2.2.2.1 hg hr).trans hs.2.2.2.2.1, cell_kept hs.2.2.2.2.2.1 hg hr, (frozen_kept hs.2.2.2.2.2.1 hg hr).trans hs.2.2.2.2.2.2⟩) _) (ownFrom_below (Nat.le_refl _) (by omega)))
    (fun e => OwnFrom.and (Own.from (fun s A B row hs hg hr => ⟨hs.1, hs.2.1, by obtain ⟨v, hv, q1, q2⟩ := hs.2.2; exact ⟨v, hv, cell_kept q1 hg hr, cell_kept q2 hg hr⟩⟩) _) (ownFrom_below (Nat.le_refl _) (by omega)))
    ⟨⟨hm1, by simpa using kL, fL, k6, f6, k7, f7⟩, hB0⟩
    (fun x => { tmps := #[.slice sa sn sc, .int .i64 day, .int .i64 0, undef, undef, undef, (.pointer (some ⟨w.heap.size, 0, none⟩)), (.pointer (some ⟨w.heap.size + 1, 0, none⟩)), .int .i64 day, .int .i64 1, (.pointer (some ⟨w.heap.size + 1 + 1, 0, none⟩)), .int .i64 x, .int .i64 day, .bool false, .int .i64 0, .bool false, undef, undef, undef, .bool false, .int .i64 0, .bool false, undef, undef, undef, undef, .slice sa sn sc, .int .i64 day, .int .i64 1, .func (.func 38) #[] #[(.pointer (some ⟨w.heap.size + 1 + 1 + 1 + 1, 0, none⟩)), (.pointer (some ⟨w.heap.size + 1 + 1 + 1 + 1 + 1, 0, none⟩)), (.pointer (some ⟨w.heap.size + 1 + 1 + 1, 0, none⟩))], .int .i64 x, undef, undef, undef, undef, undef], defers := [] }) ?assign ?body ?done ?stop
  case assign =>
    intro l x W K hK
    gi_wp2
    exact hK
  case body =>
    rintro l pre x1 W ⟨⟨hlen, hl, hfl, h6, hf6, h7, hf7⟩, hB⟩ _
    have b1 : (0 : Int) ≤ m - pre.length := by omega
    have b2 : (m : Int) - pre.length ≤ 2000 := by omega
    by_cases he : pre.length + 1 = m
    · have hz : ((m : Int) - pre.length - 1 == 0) = true := by simp; omega
      have HE := Lib.hid he
      clear he
      gi_wp2
      refine ⟨((KeepsOthers.setCell _ _ _).trans (KeepsOthers.setCell _ _ _)).trans (KeepsOthers.setCell _ _ _), ⟨rfl, by simp [HE.out], x1, by simp, ?_, ?_⟩, ((hB.setCell (p := ⟨w.heap.size + 1 + 1, 0, none⟩) (by simp; omega) _).setCell (p := ⟨w.heap.size, 0, none⟩) (Nat.le_refl _) _).setCell (p := ⟨w.heap.size + 1, 0, none⟩) (by simp) _⟩
      · exact (World.cell?_setCell_other _ _ _ _ (by simp)).trans (World.cell?_setCell_same _ _ _ ((World.cell?_setCell_other _ _ _ _ (by simp)).trans h6))
      · exact World.cell?_setCell_same _ _ _ ((World.cell?_setCell_other _ _ _ _ (by simp)).trans ((World.cell?_setCell_other _ _ _ _ (by simp)).trans h7))
    · have hz : ((m : Int) - pre.length - 1 == 0) = false := by simp; omega
      have HE := Lib.hid he
      clear he
      gi_wp2
      refine ⟨KeepsOthers.setCell _ _ _, kpf_set _ _ _ (by simp; omega) (by simp), ⟨by have := HE.out; simp; omega, ?_, ?_, (World.cell?_setCell_other _ _ _ _ (by simp)).trans h6, ?_, (World.cell?_setCell_other _ _ _ _ (by simp)).trans h7, ?_⟩, hB.setCell (p := ⟨w.heap.size + 1 + 1, 0, none⟩) (by simp; omega) _⟩
      · rw [World.cell?_setCell_same _ _ _ hl]; simp; omega
      · rw [World.frozen?_setCell]; exact hfl
      · rw [World.frozen?_setCell]; exact hf6
      · rw [World.frozen?_setCell]; exact hf7
  case done =>
    rintro D ys W hD rfl ⟨⟨hlen, hl, hfl, h6, hf6, h7, hf7⟩, hB⟩ hK
    have ho : Hid (o = none) := Lib.hid (by have := HX.out; rw [List.getElem?_eq_none (by omega)] at this; exact this.symm)
    have hB' := Lib.hid hB
    clear hB
    gi_wp2
    have hK' := ((KeepsOthers.setCell W ⟨w.heap.size, 0, none⟩ (.int .i64 0)).trans (KeepsOthers.setCell _ ⟨w.heap.size + 1, 0, none⟩ (.int .i64 2))).same D _ hK rfl
    refine ⟨by simp, .inl ⟨_, _, rfl, run_takeDeferred hK', ?_⟩⟩
    have g6 : ((W.setCell ⟨w.heap.size, 0, none⟩ (.int .i64 0)).setCell ⟨w.heap.size + 1, 0, none⟩ (.int .i64 2)).cell? ⟨w.heap.size, 0, none⟩ = some (.int .i64 0) := (World.cell?_setCell_other _ _ _ _ (by simp)).trans (World.cell?_setCell_same _ _ _ h6)
    have g7 : ((W.setCell ⟨w.heap.size, 0, none⟩ (.int .i64 0)).setCell ⟨w.heap.size + 1, 0, none⟩ (.int .i64 2)).cell? ⟨w.heap.size + 1, 0, none⟩ = some (.int .i64 2) := World.cell?_setCell_same _ _ _ ((World.cell?_setCell_other _ _ _ _ (by simp)).trans h7)
    have hc6 := cell_kept g6 (grownBy_putObj' _ D (.deferred none)) (fun r e => by cases e; exact ⟨_, hK', rfl⟩)
    have hc7 := cell_kept g7 (grownBy_putObj' _ D (.deferred none)) (fun r e => by cases e; exact ⟨_, hK', rfl⟩)
    refine ⟨two (.int .i64 0) (.int .i64 2), ?_, by rw [ho.out]; rfl, ((hB'.out.setCell (p := ⟨w.heap.size, 0, none⟩) (Nat.le_refl _) _).setCell (p := ⟨w.heap.size + 1, 0, none⟩) (by simp) _).trans (belowK_b (w := w) (Nat.le_refl _) _ D _ _ (by omega) hK' rfl rfl)⟩
    simp [results, Try.f23, go_sem, hc6, hc7]
  case stop =>
    rintro D c pre W hD hpre ⟨⟨rfl, hlen, v, hv, h6, h7⟩, hB⟩ hK
    have hvx : o = some v := by
      obtain ⟨t, ht⟩ := hpre
      have := HX.out
      rw [← ht, List.getElem?_append_left (by omega), ← hlen, ← List.getLast?_eq_getElem?, hv] at this
      exact this.symm
    subst hvx
    gi_wp2
    refine ⟨by simp, .inl ⟨_, _, rfl, run_takeDeferred hK, ?_⟩⟩
    have hc6 := cell_kept h6 (grownBy_putObj' _ D (.deferred none)) (fun r e => by cases e; exact ⟨_, hK, rfl⟩)
    have hc7 := cell_kept h7 (grownBy_putObj' _ D (.deferred none)) (fun r e => by cases e; exact ⟨_, hK, rfl⟩)
    refine ⟨two (.int .i64 v) (.int .i64 0), ?_, rfl, hB.trans (belowK_b (w := w) (Nat.le_refl _) W D _ _ (by omega) hK rfl rfl)⟩
    simp [results, Try.f23, go_sem, hc6, hc7]
end
attribute [local go_sem] set_drewN
theorem wg_day {P : Int → Bool} {s : Int} : ∀ k d x, x ∈ wg P s k d → inB x 0 200000 = true
  | 0, d, x, h => by simp [wg] at h
  | k + 1, d, x, h => by
    cases hin : inB d 0 200000
    · rw [wg_out _ hin] at h; simp at h
    · cases hp : P d
      · rw [wg_no _ hin hp] at h; exact wg_day k _ x h
      · rw [wg_yes _ hin hp] at h
        rcases List.mem_cons.1 h with e | h
        · subst e; exact hin
        · exact wg_day k _ x h
theorem addRes_day {l : List Hd} {day n x : Int} (h : addRes l day n = some x) : inB x 0 200000 = true := by
  unfold addRes at h
  split at h
  · exact wg_day _ _ _ (List.mem_of_getElem? h)
  · split at h
    · exact wg_day _ _ _ (List.mem_of_getElem? h)
    · exact wg_day _ _ _ (List.mem_of_getElem? h)
/-- the error of a period -/
def pdE (mo dy : Int) (wk : Bool) : Int := eI (!inB mo 0 1200 || !inB dy 0 (if wk then 2000 else 36500)) 2
theorem pdE_0 {mo dy : Int} {wk : Bool} (h : pdE mo dy wk = 0) : inB mo 0 1200 = true ∧ inB dy 0 (if wk then 2000 else 36500) = true := by
  unfold pdE at h
  cases h1 : inB mo 0 1200
  · rw [h1] at h; rw [show (!false || !inB dy 0 (if wk then 2000 else 36500)) = true from rfl, eI_t] at h; cases h
  · cases h2 : inB dy 0 (if wk then 2000 else 36500)
    · rw [h1, h2] at h; rw [show (!true || !false) = true from rfl, eI_t] at h; cases h
    · exact ⟨rfl, rfl⟩
set_option maxRecDepth 100000 in
set_option maxHeartbeats 1000000 in
theorem CheckPeriod_any (mo dy : Int) (wk : Bool) (w : World) : Calls Try.prog 26 #[.agg #[.int .i64 mo, .int .i64 dy, .bool wk]] w (RetB (.int .i64 (pdE mo dy wk)) w) := by
  unfold pdE
  cases h1 : inB mo 0 1200
  · cases wk
    all_goals
      go_enter Try.func26, Try.ntmps26
      go_wp2_with (first
        | (go_at_call 22; refine (isFromTo_any _ _ _ _).mono ?_; rintro e w' ⟨rfl, rfl⟩; rw [h1])
        | (go_at_call 24; refine (errorIf_any _ _ _).mono ?_; rintro e w' ⟨rfl, rfl⟩))
      go_ret
      exact ⟨rfl, (Below.refl _ _).alloc (Nat.le_refl _) _⟩
  · cases wk
    · simp only [Bool.false_eq_true, if_false]
      cases h2 : inB dy 0 36500
      all_goals
        go_enter Try.func26, Try.ntmps26
        go_wp2_with (first
          | (go_at_call 22; refine (isFromTo_any _ _ _ _).mono ?_; rintro e w' ⟨rfl, rfl⟩; first | rw [h1] | rw [h2])
          | (go_at_call 24; refine (errorIf_any _ _ _).mono ?_; rintro e w' ⟨rfl, rfl⟩))
        go_ret
        exact ⟨rfl, (Below.refl _ _).alloc (Nat.le_refl _) _⟩
    · simp only [if_true]
      cases h2 : inB dy 0 2000
      all_goals
        go_enter Try.func26, Try.ntmps26
        go_wp2_with (first
          | (go_at_call 22; refine (isFromTo_any _ _ _ _).mono ?_; rintro e w' ⟨rfl, rfl⟩; first | rw [h1] | rw [h2])
          | (go_at_call 24; refine (errorIf_any _ _ _).mono ?_; rintro e w' ⟨rfl, rfl⟩))
        go_ret
        exact ⟨rfl, (Below.refl _ _).alloc (Nat.le_refl _) _⟩
set_option maxRecDepth 100000 in
set_option maxHeartbeats 1000000 in
theorem xCheckPeriod_any (mo dy : Int) (wk : Bool) (w : World) : Calls Try.prog 11 #[.agg #[.int .i64 mo, .int .i64 dy, .bool wk]] w (RetB (.int .i64 (pdE mo dy wk)) w) := by
  have e2 := eI_t 2
  have e3 := eI_f 2
  unfold pdE
  cases h1 : inB mo 0 1200
  · rw [show ∀ b : Bool, (!false || b) = true from fun _ => rfl, e2]
    cases wk
    all_goals
      go_enter Try.func11, Try.ntmps11
      go_wp2_with (go_at_call 7; refine (bWithin_any _ _ _ _).mono ?_; rintro e w' ⟨rfl, rfl⟩; rw [h1])
      go_ret
      exact ⟨rfl, (Below.refl _ _).alloc (Nat.le_refl _) _⟩
  · cases wk
    · simp only [Bool.false_eq_true, if_false]
      cases h2 : inB dy 0 36500
      · rw [show (!true || !false) = true from rfl, e2]
        go_enter Try.func11, Try.ntmps11
        go_wp2_with (go_at_call 7; refine (bWithin_any _ _ _ _).mono ?_; rintro e w' ⟨rfl, rfl⟩; first | rw [h1] | rw [h2])
        go_ret
        exact ⟨rfl, (Below.refl _ _).alloc (Nat.le_refl _) _⟩
      · rw [show (!true || !true) = false from rfl, e3]
        go_enter Try.func11, Try.ntmps11
        go_wp2_with (go_at_call 7; refine (bWithin_any _ _ _ _).mono ?_; rintro e w' ⟨rfl, rfl⟩; first | rw [h1] | rw [h2])
        go_ret
        exact ⟨rfl, (Below.refl _ _).alloc (Nat.le_refl _) _⟩
    · simp only [if_true]
      cases h2 : inB dy 0 2000
      · rw [show (!true || !false) = true from rfl, e2]
        go_enter Try.func11, Try.ntmps11
        go_wp2_with (go_at_call 7; refine (bWithin_any _ _ _ _).mono ?_; rintro e w' ⟨rfl, rfl⟩; first | rw [h1] | rw [h2])
        go_ret
        exact ⟨rfl, (Below.refl _ _).alloc (Nat.le_refl _) _⟩
      · rw [show (!true || !true) = false from rfl, e3]
        go_enter Try.func11, Try.ntmps11
        go_wp2_with (go_at_call 7; refine (bWithin_any _ _ _ _).mono ?_; rintro e w' ⟨rfl, rfl⟩; first | rw [h1] | rw [h2])
        go_ret
        exact ⟨rfl, (Below.refl _ _).alloc (Nat.le_refl _) _⟩
/-- a period lies in block B -/
def Per (W : World) (B : Nat) (mo dy : Int) (wk : Bool) : Prop := W.cell? ⟨B, 0, none⟩ = some (.int .i64 mo) ∧ W.cell? ⟨B, 1, none⟩ = some (.int .i64 dy) ∧ W.cell? ⟨B, 2, none⟩ = some (.bool wk)
theorem Per.below {W W' : World} {B n : Nat} {mo dy : Int} {wk : Bool} (h : Per W B mo dy wk) (hb : Below n W W') (hn : B < n) : Per W' B mo dy wk :=
  ⟨(hb.cell (p := ⟨B, 0, none⟩) hn).trans h.1, (hb.cell (p := ⟨B, 1, none⟩) hn).trans h.2.1, (hb.cell (p := ⟨B, 2, none⟩) hn).trans h.2.2⟩
theorem Per.keep {W W' : World} {B : Nat} {mo dy : Int} {wk : Bool} (h : Per W B mo dy wk) (hb : Below W.heap.size W W') : Per W' B mo dy wk :=
  ⟨below_keep hb h.1, below_keep hb h.2.1, below_keep hb h.2.2⟩
theorem Per.new (w : World) (mo dy : Int) (wk : Bool) : Per (w.alloc (.cells #[.int .i64 mo, .int .i64 dy, .bool wk] 24)) w.heap.size mo dy wk := ⟨by simp [go_sem], by simp [go_sem], by simp [go_sem]⟩
/-- the error of a list, a day and a period -/
def dlE (l : List Hd) (day mo dy : Int) (wk : Bool) : Int := feE [chE l, cdE [day], pdE mo dy wk]
theorem dlE_0 {l : List Hd} {day mo dy : Int} {wk : Bool} (h : dlE l day mo dy wk = 0) : chE l = 0 ∧ inB day 0 200000 = true ∧ pdE mo dy wk = 0 := by
  unfold dlE at h
  by_cases g : chE l = 0
  · refine ⟨g, ?_⟩
    rw [g] at h
    simp only [feE, if_true] at h
    cases hx : inB day 0 200000
    · rw [cdE_1n hx] at h; simp at h
    · rw [cdE_1 hx] at h
      refine ⟨rfl, ?_⟩
      by_cases q : pdE mo dy wk = 0
      · exact q
      · simp [q] at h
  · simp [feE, g] at h
set_option maxRecDepth 100000 in
set_option maxHeartbeats 4000000 in
theorem Deadline_err {sa : Option Addr} {sn sc : Nat} {l : List Hd} {G : World → Prop} (hw : Cw sa sn sc l G) (w : World) (g0 : G w) (day mo dy : Int) (wk : Bool) (he : dlE l day mo dy wk ≠ 0) :
    Calls Try.prog 12 #[.slice sa sn sc, .int .i64 day, .agg #[.int .i64 mo, .int .i64 dy, .bool wk]] w (RetB (two (.int .i64 0) (.int .i64 (dlE l day mo dy wk))) w) := by
  have hC := Lib.hid hw.chk
  generalize hr : dlE l day mo dy wk = r at *
  have hrb : (r != 0) = true := by simpa using he
  unfold dlE at hr
  generalize chE l = C at *
  have HR := Lib.hid hr
  clear hr he
  go_enter Try.func12, Try.ntmps12
  go_wp2
  go_region_held3 (fun w' => w'.cell? ⟨w.heap.size, 0, none⟩ = some (.int .i64 mo) ∧ w'.cell? ⟨w.heap.size, 1, none⟩ = some (.int .i64 dy) ∧ w'.cell? ⟨w.heap.size, 2, none⟩ = some (.bool wk)) (first | exact ⟨k0, k1, k2⟩ | exact ⟨j0, j1, j2⟩ | go_keep)
    (first
      | (go_at_call 20
         refine (hC.out _ ?_).mono ?_
         · first | exact hw.below _ _ g0 (below_dr ((Below.refl _ _).alloc (Nat.le_refl _) _)) | exact hw.below _ _ g0 ((below_dr ((Below.refl _ _).alloc (Nat.le_refl _) _)).alloc (by simp) _)
         rintro e w1 ⟨rfl, hb1⟩
         have k0 : w1.cell? ⟨w.heap.size, 0, none⟩ = some (.int .i64 mo) := (hb1.cell (p := ⟨w.heap.size, 0, none⟩) (by first | (simp; done) | (simp; omega))).trans (by simp [go_sem])
         have k1 : w1.cell? ⟨w.heap.size, 1, none⟩ = some (.int .i64 dy) := (hb1.cell (p := ⟨w.heap.size, 1, none⟩) (by first | (simp; done) | (simp; omega))).trans (by simp [go_sem])
         have k2 : w1.cell? ⟨w.heap.size, 2, none⟩ = some (.bool wk) := (hb1.cell (p := ⟨w.heap.size, 2, none⟩) (by first | (simp; done) | (simp; omega))).trans (by simp [go_sem])
         have P1 : Hid (Per w1 w.heap.size mo dy wk) := Lib.hid ⟨k0, k1, k2⟩
         have B1 : Hid (Below w.heap.size w w1) := Lib.hid (by first | exact (below_dr ((Below.refl _ _).alloc (Nat.le_refl _) _)).trans (hb1.mono (by simp)) | exact ((below_dr ((Below.refl _ _).alloc (Nat.le_refl _) _)).alloc (by simp) _).trans (hb1.mono (by simp; omega)))
         have s1 := hb1.size
         simp at s1)
      | (go_at_call 21; refine (check1 day _ _ _ (by first | (simp [go_sem]; done) | exact (hb1.cell (by simp)).trans (by simp [go_sem]))).mono ?_; rintro e w' ⟨rfl, rfl⟩)
      | (go_at_call 26
         refine (CheckPeriod_any mo dy wk _).mono ?_
         rintro e w2 ⟨rfl, hb2⟩
         have P2 : Hid (Per w2 w.heap.size mo dy wk) := Lib.hid (by first | exact P1.out.keep hb2 | exact (P1.out.keep ((Below.refl _ _).alloc (Nat.le_refl _) _)).keep hb2)
         obtain ⟨j0, j1, j2⟩ := P2.out
         have s2 : w.heap.size + 1 ≤ w2.heap.size := by have h2 := hb2.size; first | omega | (simp at h2; omega)
         have B2 : Hid (Below w.heap.size w w2) := Lib.hid (by first | exact B1.out.trans (hb2.mono (by omega)) | exact (B1.out.alloc (by omega) _).trans (hb2.mono (by simp; omega)))
         skip)
      | (go_at_call 19; refine (firstError_any [C, cdE [day], pdE mo dy wk] _ 0 3 _ (by simp) (IntsAt.cons (by simp [go_sem]) (IntsAt.cons (by simp [go_sem]) (IntsAt.one (by simp [go_sem]))))).mono ?_; rintro e w' ⟨rfl, rfl⟩))
  all_goals
    rw [HR.out]
    go_wp2
    go_ret2
    exact ⟨rfl, B2.out.alloc (by omega) _⟩
set_option maxRecDepth 100000 in
set_option maxHeartbeats 4000000 in
theorem Deadline_no {sa : Option Addr} {sn sc : Nat} {l : List Hd} {G : World → Prop} (hw : Cw sa sn sc l G) (w : World) (g0 : G w) (day mo dy : Int) (wk : Bool) (he : dlE l day mo dy wk = 0) (hl : inB (mlt day mo) 0 200000 = false) :
    Calls Try.prog 12 #[.slice sa sn sc, .int .i64 day, .agg #[.int .i64 mo, .int .i64 dy, .bool wk]] w (RetB (two (.int .i64 0) (.int .i64 2)) w) := by
  have hC := Lib.hid hw.chk
  obtain ⟨he0, hday, hpd⟩ := dlE_0 he
  obtain ⟨hmo, hdy⟩ := pdE_0 hpd
  have e1 : cdE [day] = 0 := cdE_1 hday
  rw [he0] at hC
  have HR := Lib.hid (show feE [0, 0, 0] = 0 from rfl)
  have HPD := Lib.hid hpd
  obtain ⟨x0, x9⟩ := inB_iff.1 hday
  obtain ⟨m0, m9⟩ := inB_iff.1 hmo
  have ML := Lib.hid (fun W => monthsLater_any day mo W x0 (by omega) (by omega) (by omega))
  clear he hpd
  have HL := Lib.hid hl
  clear hl
  go_enter Try.func12, Try.ntmps12
  go_wp2
  go_region_held3 (fun w' => w'.cell? ⟨w.heap.size, 0, none⟩ = some (.int .i64 mo) ∧ w'.cell? ⟨w.heap.size, 1, none⟩ = some (.int .i64 dy) ∧ w'.cell? ⟨w.heap.size, 2, none⟩ = some (.bool wk)) (first | exact ⟨k0, k1, k2⟩ | exact ⟨j0, j1, j2⟩ | go_keep)
    (first
      | (go_at_call 20
         refine (hC.out _ ?_).mono ?_
         · first | exact hw.below _ _ g0 (below_dr ((Below.refl _ _).alloc (Nat.le_refl _) _)) | exact hw.below _ _ g0 ((below_dr ((Below.refl _ _).alloc (Nat.le_refl _) _)).alloc (by simp) _)
         rintro e w1 ⟨rfl, hb1⟩
         have k0 : w1.cell? ⟨w.heap.size, 0, none⟩ = some (.int .i64 mo) := (hb1.cell (p := ⟨w.heap.size, 0, none⟩) (by first | (simp; done) | (simp; omega))).trans (by simp [go_sem])
         have k1 : w1.cell? ⟨w.heap.size, 1, none⟩ = some (.int .i64 dy) := (hb1.cell (p := ⟨w.heap.size, 1, none⟩) (by first | (simp; done) | (simp; omega))).trans (by simp [go_sem])
         have k2 : w1.cell? ⟨w.heap.size, 2, none⟩ = some (.bool wk) := (hb1.cell (p := ⟨w.heap.size, 2, none⟩) (by first | (simp; done) | (simp; omega))).trans (by simp [go_sem])
         have P1 : Hid (Per w1 w.heap.size mo dy wk) := Lib.hid ⟨k0, k1, k2⟩
         have B1 : Hid (Below w.heap.size w w1) := Lib.hid (by first | exact (below_dr ((Below.refl _ _).alloc (Nat.le_refl _) _)).trans (hb1.mono (by simp)) | exact ((below_dr ((Below.refl _ _).alloc (Nat.le_refl _) _)).alloc (by simp) _).trans (hb1.mono (by simp; omega)))
         have s1 := hb1.size
         simp at s1)
      | (go_at_call 21; refine (check1 day _ _ _ (by first | (simp [go_sem]; done) | exact (hb1.cell (by simp)).trans (by simp [go_sem]))).mono ?_; rintro e w' ⟨rfl, rfl⟩)
      | (go_at_call 26
         refine (CheckPeriod_any mo dy wk _).mono ?_
         rintro e w2 ⟨rfl, hb2⟩
         have P2 : Hid (Per w2 w.heap.size mo dy wk) := Lib.hid (by first | exact P1.out.keep hb2 | exact (P1.out.keep ((Below.refl _ _).alloc (Nat.le_refl _) _)).keep hb2)
         obtain ⟨j0, j1, j2⟩ := P2.out
         have s2 : w.heap.size + 1 ≤ w2.heap.size := by have h2 := hb2.size; first | omega | (simp at h2; omega)
         have B2 : Hid (Below w.heap.size w w2) := Lib.hid (by first | exact B1.out.trans (hb2.mono (by omega)) | exact (B1.out.alloc (by omega) _).trans (hb2.mono (by simp; omega)))
         rw [HPD.out])
      | (go_at_call 19; refine (firstError_any [0, 0, 0] _ 0 3 _ (by simp) (IntsAt.cons (by simp [go_sem]) (IntsAt.cons (by simp [go_sem]) (IntsAt.one (by simp [go_sem]))))).mono ?_; rintro e w' ⟨rfl, rfl⟩))
  all_goals
    rw [HR.out]
    have PA := Lib.hid (P2.out.keep ((Below.refl _ _).alloc (Nat.le_refl _) (.cells #[.int .i64 0, .int .i64 0, .int .i64 0] 31)))
    have BA := Lib.hid (B2.out.alloc (o := .cells #[.int .i64 0, .int .i64 0, .int .i64 0] 31) (by omega))
    obtain ⟨a0, a1, a2⟩ := PA.out
    go_wp2_with fail
    refine (ML.out _).mono ?_
    rintro e w3 ⟨rfl, hb3⟩
    have B3 := Lib.hid (BA.out.trans (hb3.mono (by simp; omega)))
    obtain ⟨c0, c1, c2⟩ := PA.out.keep hb3
    have G3 := Lib.hid (hw.below _ _ g0 B3.out)
    have s3 := hb3.size
    simp only [World.size_alloc] at s3
    clear hb3 a0 a1 a2
    go_wp2_with (go_at_call 28; refine (isDay_any _ _).mono ?_; rintro e w' ⟨rfl, rfl⟩; rw [HL.out])
    go_ret2
    exact ⟨rfl, B3.out⟩
set_option maxRecDepth 100000 in
set_option maxHeartbeats 4000000 in
theorem Deadline_wk {sa : Option Addr} {sn sc : Nat} {l : List Hd} {G : World → Prop} (hw : Cw sa sn sc l G) (w : World) (g0 : G w) (day mo dy : Int) (he : dlE l day mo dy true = 0) (hl : inB (mlt day mo) 0 200000 = true) :
    Calls Try.prog 12 #[.slice sa sn sc, .int .i64 day, .agg #[.int .i64 mo, .int .i64 dy, .bool true]] w (RetB (wres (addRes l (mlt day mo) dy)) w) := by
  have hC := Lib.hid hw.chk
  obtain ⟨he0, hday, hpd⟩ := dlE_0 he
  obtain ⟨hmo, hdy⟩ := pdE_0 hpd
  have e1 : cdE [day] = 0 := cdE_1 hday
  rw [he0] at hC
  have HR := Lib.hid (show feE [0, 0, 0] = 0 from rfl)
  have HPD := Lib.hid hpd
  obtain ⟨x0, x9⟩ := inB_iff.1 hday
  obtain ⟨m0, m9⟩ := inB_iff.1 hmo
  have ML := Lib.hid (fun W => monthsLater_any day mo W x0 (by omega) (by omega) (by omega))
  clear he hpd
  have HL := Lib.hid hl
  simp only [if_true] at hdy
  have AW := Lib.hid (fun W (hW : G W) => addWorking_cal hw he0 W hW (mlt day mo) dy hl (inB_iff.2 ⟨by have := (inB_iff.1 hdy).1; omega, (inB_iff.1 hdy).2⟩))
  clear hl
  generalize mlt day mo = L at *
  generalize addRes l L dy = r at *
  cases r
  all_goals
    simp only [wres] at AW ⊢
    go_enter Try.func12, Try.ntmps12
    go_wp2
    go_region_held3 (fun w' => w'.cell? ⟨w.heap.size, 0, none⟩ = some (.int .i64 mo) ∧ w'.cell? ⟨w.heap.size, 1, none⟩ = some (.int .i64 dy) ∧ w'.cell? ⟨w.heap.size, 2, none⟩ = some (.bool true)) (first | exact ⟨k0, k1, k2⟩ | exact ⟨j0, j1, j2⟩ | go_keep)
      (first
        | (go_at_call 20
           refine (hC.out _ ?_).mono ?_
           · first | exact hw.below _ _ g0 (below_dr ((Below.refl _ _).alloc (Nat.le_refl _) _)) | exact hw.below _ _ g0 ((below_dr ((Below.refl _ _).alloc (Nat.le_refl _) _)).alloc (by simp) _)
           rintro e w1 ⟨rfl, hb1⟩
           have k0 : w1.cell? ⟨w.heap.size, 0, none⟩ = some (.int .i64 mo) := (hb1.cell (p := ⟨w.heap.size, 0, none⟩) (by first | (simp; done) | (simp; omega))).trans (by simp [go_sem])
           have k1 : w1.cell? ⟨w.heap.size, 1, none⟩ = some (.int .i64 dy) := (hb1.cell (p := ⟨w.heap.size, 1, none⟩) (by first | (simp; done) | (simp; omega))).trans (by simp [go_sem])
           have k2 : w1.cell? ⟨w.heap.size, 2, none⟩ = some (.bool true) := (hb1.cell (p := ⟨w.heap.size, 2, none⟩) (by first | (simp; done) | (simp; omega))).trans (by simp [go_sem])
           have P1 : Hid (Per w1 w.heap.size mo dy true) := Lib.hid ⟨k0, k1, k2⟩
           have B1 : Hid (Below w.heap.size w w1) := Lib.hid (by first | exact (below_dr ((Below.refl _ _).alloc (Nat.le_refl _) _)).trans (hb1.mono (by simp)) | exact ((below_dr ((Below.refl _ _).alloc (Nat.le_refl _) _)).alloc (by simp) _).trans (hb1.mono (by simp; omega)))
           have s1 := hb1.size
           simp at s1)
        | (go_at_call 21; refine (check1 day _ _ _ (by first | (simp [go_sem]; done) | exact (hb1.cell (by simp)).trans (by simp [go_sem]))).mono ?_; rintro e w' ⟨rfl, rfl⟩)
        | (go_at_call 26
           refine (CheckPeriod_any mo dy true _).mono ?_
           rintro e w2 ⟨rfl, hb2⟩
           have P2 : Hid (Per w2 w.heap.size mo dy true) := Lib.hid (by first | exact P1.out.keep hb2 | exact (P1.out.keep ((Below.refl _ _).alloc (Nat.le_refl _) _)).keep hb2)
           obtain ⟨j0, j1, j2⟩ := P2.out
           have s2 : w.heap.size + 1 ≤ w2.heap.size := by have h2 := hb2.size; first | omega | (simp at h2; omega)
           have B2 : Hid (Below w.heap.size w w2) := Lib.hid (by first | exact B1.out.trans (hb2.mono (by omega)) | exact (B1.out.alloc (by omega) _).trans (hb2.mono (by simp; omega)))
           rw [HPD.out])
        | (go_at_call 19; refine (firstError_any [0, 0, 0] _ 0 3 _ (by simp) (IntsAt.cons (by simp [go_sem]) (IntsAt.cons (by simp [go_sem]) (IntsAt.one (by simp [go_sem]))))).mono ?_; rintro e w' ⟨rfl, rfl⟩))
    all_goals
      rw [HR.out]
      have PA := Lib.hid (P2.out.keep ((Below.refl _ _).alloc (Nat.le_refl _) (.cells #[.int .i64 0, .int .i64 0, .int .i64 0] 31)))
      have BA := Lib.hid (B2.out.alloc (o := .cells #[.int .i64 0, .int .i64 0, .int .i64 0] 31) (by omega))
      obtain ⟨a0, a1, a2⟩ := PA.out
      go_wp2_with fail
      refine (ML.out _).mono ?_
      rintro e w3 ⟨rfl, hb3⟩
      have B3 := Lib.hid (BA.out.trans (hb3.mono (by simp; omega)))
      obtain ⟨c0, c1, c2⟩ := PA.out.keep hb3
      have G3 := Lib.hid (hw.below _ _ g0 B3.out)
      have s3 := hb3.size
      simp only [World.size_alloc] at s3
      clear hb3 a0 a1 a2
      go_wp2_with (first
        | (go_at_call 28; refine (isDay_any _ _).mono ?_; rintro e w' ⟨rfl, rfl⟩; rw [HL.out])
        | (go_at_call 23; refine (AW.out _ G3.out).mono ?_; rintro e w4 ⟨rfl, hb4⟩))
      go_ret2
      exact ⟨rfl, B3.out.trans (hb4.mono (by omega))⟩
set_option maxRecDepth 100000 in
set_option maxHeartbeats 4000000 in
theorem Deadline_days {sa : Option Addr} {sn sc : Nat} {l : List Hd} {G : World → Prop} (hw : Cw sa sn sc l G) (w : World) (g0 : G w) (day mo dy : Int) (he : dlE l day mo dy false = 0) (hl : inB (mlt day mo) 0 200000 = true) :
    Calls Try.prog 12 #[.slice sa sn sc, .int .i64 day, .agg #[.int .i64 mo, .int .i64 dy, .bool false]] w (RetB (wres ((wg (workB l) 1 200001 (mlt day mo + dy))[1 - 1]?)) w) := by
  have hC := Lib.hid hw.chk
  obtain ⟨he0, hday, hpd⟩ := dlE_0 he
  obtain ⟨hmo, hdy⟩ := pdE_0 hpd
  have e1 : cdE [day] = 0 := cdE_1 hday
  rw [he0] at hC
  have HR := Lib.hid (show feE [0, 0, 0] = 0 from rfl)
  have HPD := Lib.hid hpd
  obtain ⟨x0, x9⟩ := inB_iff.1 hday
  obtain ⟨m0, m9⟩ := inB_iff.1 hmo
  have ML := Lib.hid (fun W => monthsLater_any day mo W x0 (by omega) (by omega) (by omega))
  clear he hpd
  have HL := Lib.hid hl
  simp only [Bool.false_eq_true, if_false] at hdy
  obtain ⟨dy0, dy9⟩ := inB_iff.1 hdy
  obtain ⟨L0, L9⟩ := inB_iff.1 hl
  have hv := (chE_each he0).2
  have AW := Lib.hid (fun W (hW : G W) => addWorking_far sa sn sc (fun y => once (hdays l y)) (fun y => (once_spec _).1) (once_le he0) (workB l) (workB_P hv) W G hw.below (fun b W' W'' => hw.kept W b W' W'' hW) (Lib.hid (hw.of he0)) hW (mlt day mo + dy) 1 rfl _ (by omega) (by omega) (by omega) (by omega) rfl)
  clear hl
  generalize mlt day mo = L at *
  generalize (wg (workB l) 1 200001 (L + dy))[1 - 1]? = r at *
  cases r
  all_goals
    simp only [wres] at AW ⊢
    go_enter Try.func12, Try.ntmps12
    go_wp2
    go_region_held3 (fun w' => w'.cell? ⟨w.heap.size, 0, none⟩ = some (.int .i64 mo) ∧ w'.cell? ⟨w.heap.size, 1, none⟩ = some (.int .i64 dy) ∧ w'.cell? ⟨w.heap.size, 2, none⟩ = some (.bool false)) (first | exact ⟨k0, k1, k2⟩ | exact ⟨j0, j1, j2⟩ | go_keep)
      (first
        | (go_at_call 20
           refine (hC.out _ ?_).mono ?_
           · first | exact hw.below _ _ g0 (below_dr ((Below.refl _ _).alloc (Nat.le_refl _) _)) | exact hw.below _ _ g0 ((below_dr ((Below.refl _ _).alloc (Nat.le_refl _) _)).alloc (by simp) _)
           rintro e w1 ⟨rfl, hb1⟩
           have k0 : w1.cell? ⟨w.heap.size, 0, none⟩ = some (.int .i64 mo) := (hb1.cell (p := ⟨w.heap.size, 0, none⟩) (by first | (simp; done) | (simp; omega))).trans (by simp [go_sem])
           have k1 : w1.cell? ⟨w.heap.size, 1, none⟩ = some (.int .i64 dy) := (hb1.cell (p := ⟨w.heap.size, 1, none⟩) (by first | (simp; done) | (simp; omega))).trans (by simp [go_sem])
           have k2 : w1.cell? ⟨w.heap.size, 2, none⟩ = some (.bool false) := (hb1.cell (p := ⟨w.heap.size, 2, none⟩) (by first | (simp; done) | (simp; omega))).trans (by simp [go_sem])
           have P1 : Hid (Per w1 w.heap.size mo dy false) := Lib.hid ⟨k0, k1, k2⟩
           have B1 : Hid (Below w.heap.size w w1) := Lib.hid (by first | exact (below_dr ((Below.refl _ _).alloc (Nat.le_refl _) _)).trans (hb1.mono (by simp)) | exact ((below_dr ((Below.refl _ _).alloc (Nat.le_refl _) _)).alloc (by simp) _).trans (hb1.mono (by simp; omega)))
           have s1 := hb1.size
           simp at s1)
        | (go_at_call 21; refine (check1 day _ _ _ (by first | (simp [go_sem]; done) | exact (hb1.cell (by simp)).trans (by simp [go_sem]))).mono ?_; rintro e w' ⟨rfl, rfl⟩)
        | (go_at_call 26
           refine (CheckPeriod_any mo dy false _).mono ?_
           rintro e w2 ⟨rfl, hb2⟩
           have P2 : Hid (Per w2 w.heap.size mo dy false) := Lib.hid (by first | exact P1.out.keep hb2 | exact (P1.out.keep ((Below.refl _ _).alloc (Nat.le_refl _) _)).keep hb2)
           obtain ⟨j0, j1, j2⟩ := P2.out
           have s2 : w.heap.size + 1 ≤ w2.heap.size := by have h2 := hb2.size; first | omega | (simp at h2; omega)
           have B2 : Hid (Below w.heap.size w w2) := Lib.hid (by first | exact B1.out.trans (hb2.mono (by omega)) | exact (B1.out.alloc (by omega) _).trans (hb2.mono (by simp; omega)))
           rw [HPD.out])
        | (go_at_call 19; refine (firstError_any [0, 0, 0] _ 0 3 _ (by simp) (IntsAt.cons (by simp [go_sem]) (IntsAt.cons (by simp [go_sem]) (IntsAt.one (by simp [go_sem]))))).mono ?_; rintro e w' ⟨rfl, rfl⟩))
    all_goals
      rw [HR.out]
      have PA := Lib.hid (P2.out.keep ((Below.refl _ _).alloc (Nat.le_refl _) (.cells #[.int .i64 0, .int .i64 0, .int .i64 0] 31)))
      have BA := Lib.hid (B2.out.alloc (o := .cells #[.int .i64 0, .int .i64 0, .int .i64 0] 31) (by omega))
      obtain ⟨a0, a1, a2⟩ := PA.out
      go_wp2_with fail
      refine (ML.out _).mono ?_
      rintro e w3 ⟨rfl, hb3⟩
      have B3 := Lib.hid (BA.out.trans (hb3.mono (by simp; omega)))
      obtain ⟨c0, c1, c2⟩ := PA.out.keep hb3
      have G3 := Lib.hid (hw.below _ _ g0 B3.out)
      have s3 := hb3.size
      simp only [World.size_alloc] at s3
      clear hb3 a0 a1 a2
      go_wp2_with (first
        | (go_at_call 28; refine (isDay_any _ _).mono ?_; rintro e w' ⟨rfl, rfl⟩; rw [HL.out])
        | (go_at_call 23; refine (AW.out _ G3.out).mono ?_; rintro e w4 ⟨rfl, hb4⟩))
      go_ret2
      exact ⟨rfl, B3.out.trans (hb4.mono (by omega))⟩
/-- the deadline, or that there is none -/
noncomputable def dlRes (l : List Hd) (day mo dy : Int) (wk : Bool) : Option Int :=
  if inB (mlt day mo) 0 200000 then (if wk then addRes l (mlt day mo) dy else (wg (workB l) 1 200001 (mlt day mo + dy))[1 - 1]?) else none
theorem dlRes_some {l : List Hd} {day mo dy x : Int} {wk : Bool} (h : dlRes l day mo dy wk = some x) : inB x 0 200000 = true ∧ workB l x = true := by
  unfold dlRes at h
  split at h
  · split at h
    · exact ⟨addRes_day h, addRes_work h⟩
    · exact ⟨wg_day _ _ _ (List.mem_of_getElem? h), wg_mem _ _ _ (List.mem_of_getElem? h)⟩
  · cases h
theorem Deadline_ok {sa : Option Addr} {sn sc : Nat} {l : List Hd} {G : World → Prop} (hw : Cw sa sn sc l G) (w : World) (g0 : G w) (day mo dy : Int) (wk : Bool) (he : dlE l day mo dy wk = 0) :
    Calls Try.prog 12 #[.slice sa sn sc, .int .i64 day, .agg #[.int .i64 mo, .int .i64 dy, .bool wk]] w (RetB (wres (dlRes l day mo dy wk)) w) := by
  unfold dlRes
  cases hl : inB (mlt day mo) 0 200000
  · exact Deadline_no hw w g0 day mo dy wk he hl
  · cases wk
    · exact Deadline_days hw w g0 day mo dy he hl
    · exact Deadline_wk hw w g0 day mo dy he hl
end Go.Proofs.Ytfphedcgmaakjab
