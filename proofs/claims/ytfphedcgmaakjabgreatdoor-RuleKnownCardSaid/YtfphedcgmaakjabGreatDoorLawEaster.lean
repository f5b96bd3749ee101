/-
  RuleEaster returns true for every year, in every world.
-/
import Derived.Test.YtfphedcgmaakjabGreatDoorIter
import Derived.Test.YtfphedcgmaakjabGreatDoorValue
import Derived.ChangeSame
namespace Go.Proofs.YtfphedcgmaakjabGreatDoor
open Go.RowKit Go.Shelf
attribute [local go_sem] set_drewN Oper.semAt_some
set_option maxRecDepth 100000 in
set_option maxHeartbeats 2000000 in
theorem addWorkingNil (day x : Int) (n : Nat) (w : World) (hd1 : 0 ≤ day) (hd2 : day ≤ 200000) (hn1 : 0 < n) (hn2 : n ≤ 2000) (hx : (wl 1 200001 (day + 1))[n - 1]? = some x) :
    Calls Tryz.prog 57 #[nilS, .int .i64 day, .int .i64 n] w (RetB (two (.int .i64 x) (.int .i64 0)) w) := by
  have HX := Lib.hid hx
  clear hx
  refine (callsIn_wide (n := 5)).1 ?_
  refine callsIn_of_wp_marks Tryz.func57 rfl trivial ?_ rfl
  simp only [Tryz.ntmps57, List.size_toArray, List.length_cons, List.length_nil, Nat.reduceAdd, Nat.reduceSub, Array.replicate_succ, Array.replicate_zero, List.push_toArray, List.append_toArray, List.nil_append, List.cons_append]
  gi_wp2_with (refine ⟨trivial, ?_⟩; gi_at_call 75; refine (callsIn_wide.2 (workingDaysNil _ _ _)).mono ?_; rintro e w' ⟨rfl, rfl⟩)
  obtain ⟨W0, hW0⟩ : ∃ W0, ((((((w.alloc (.cells #[.int .i64 0] 3)).alloc (.cells #[.int .i64 0] 25)).alloc (.cells #[.int .i64 n] 3)).alloc (.cells #[nilS] 94)).alloc (.cells #[.int .i64 (day + 1)] 3)).alloc (.cells #[.int .i64 1] 3)) = W0 := ⟨_, rfl⟩
  have k1 : W0.cell? ⟨w.heap.size + 1 + 1 + 1 + 1, 0, none⟩ = some (.int .i64 (day + 1)) := by rw [← hW0]; simp [go_sem]
  have k2 : W0.cell? ⟨w.heap.size + 1 + 1 + 1 + 1 + 1, 0, none⟩ = some (.int .i64 1) := by rw [← hW0]; simp [go_sem]
  have k3 : W0.cell? ⟨w.heap.size + 1 + 1 + 1, 0, none⟩ = some (nilS) := by rw [← hW0]; simp [go_sem]
  have kL : W0.cell? ⟨w.heap.size + 1 + 1, 0, none⟩ = some (.int .i64 n) := by rw [← hW0]; simp [go_sem]
  have fL : W0.frozen? ⟨w.heap.size + 1 + 1, 0, none⟩ = false := by rw [← hW0]; simp [go_sem]
  have k6 : W0.cell? ⟨w.heap.size, 0, none⟩ = some (.int .i64 0) := by rw [← hW0]; simp [go_sem]
  have f6 : W0.frozen? ⟨w.heap.size, 0, none⟩ = false := by rw [← hW0]; simp [go_sem]
  have k7 : W0.cell? ⟨w.heap.size + 1, 0, none⟩ = some (.int .i64 0) := by rw [← hW0]; simp [go_sem]
  have f7 : W0.frozen? ⟨w.heap.size + 1, 0, none⟩ = false := by rw [← hW0]; simp [go_sem]
  have hsz : W0.heap.size = w.heap.size + 6 := by rw [← hW0]; simp
  have hB0 : Below w.heap.size w W0 := by
    rw [← hW0]
    exact (((((((Below.refl _ w).alloc (Nat.le_refl _) _).alloc (by simp) _).alloc (by simp; omega) _).alloc (by simp; omega) _).alloc (by simp; omega) _).alloc (by simp; omega) _)
  rw [hW0]
  have HSZ := Lib.hid hsz
  have hlt : w.heap.size + 5 < W0.heap.size := by omega
  clear hW0 hsz
  refine wpIn_rangeFunc_ownF (F := Fence.wide) (n := 5) rfl (by omega) (gf := 91) (lb := #[(.pointer (some ⟨w.heap.size + 1 + 1 + 1 + 1, 0, none⟩)), (.pointer (some ⟨w.heap.size + 1 + 1 + 1 + 1 + 1, 0, none⟩)), (.pointer (some ⟨w.heap.size + 1 + 1 + 1, 0, none⟩))]) rfl trivial (enters_of Tryz.func91 (by kernel_rfl) rfl)
    (encs := fun x : Int => #[.int .i64 x]) (Kp := Kp2 (w.heap.size + 1 + 1 + 1 + 1 + 1) (w.heap.size + 1 + 1 + 1)) (S := fun xs => xs = wl 1 200001 (day + 1)) (Sp := fun pre => pre <+: wl 1 200001 (day + 1)) (N := 1000000) (w0 := W0)
    (fun l J Jx W hW hJ _ hY h0 => wd_in 4 (by omega) l (w.heap.size + 1 + 1 + 1 + 1) (w.heap.size + 1 + 1 + 1 + 1 + 1) (w.heap.size + 1 + 1 + 1) 200001 (day + 1) 1 (Or.inl rfl) (by omega) (by omega) (by simp [rem]; omega) (by omega) J Jx W (Nat.lt_of_lt_of_le (by omega) hW.size) (Nat.lt_of_lt_of_le (by omega) hW.size)
      ((hW.cell (p := ⟨w.heap.size + 1 + 1 + 1 + 1, 0, none⟩) (by simp; omega)).trans k1) ((hW.cell (p := ⟨w.heap.size + 1 + 1 + 1 + 1 + 1, 0, none⟩) (by simp; omega)).trans k2) ((hW.cell (p := ⟨w.heap.size + 1 + 1 + 1, 0, none⟩) (by simp; omega)).trans k3) W.heap.size hJ hY h0)
    kp2_t (kp2_b (by omega) (by omega)) (Below.refl _ _) (fun _ => rfl)
    (fun pre W => (pre.length < n ∧ W.cell? ⟨w.heap.size + 1 + 1, 0, none⟩ = some (.int .i64 (n - pre.length)) ∧ W.frozen? ⟨w.heap.size + 1 + 1, 0, none⟩ = false ∧ W.cell? ⟨w.heap.size, 0, none⟩ = some (.int .i64 0) ∧ W.frozen? ⟨w.heap.size, 0, none⟩ = false ∧ W.cell? ⟨w.heap.size + 1, 0, none⟩ = some (.int .i64 0) ∧ W.frozen? ⟨w.heap.size + 1, 0, none⟩ = false) ∧ Below w.heap.size w W)
    (fun e pre W => (e = .ret ∧ pre.length = n ∧ ∃ v, pre.getLast? = some v ∧ W.cell? ⟨w.heap.size, 0, none⟩ = some (.int .i64 v) ∧ W.cell? ⟨w.heap.size + 1, 0, none⟩ = some (.int .i64 0)) ∧ Below w.heap.size w W)
    (OwnFrom.and (Own.from (fun s A B row hs hg hr => ⟨hs.1, cell_kept hs.2.1 hg hr, (frozen_kept hs.2.1 hg hr).trans hs.2.2.1, cell_kept hs.2.2.2.1 hg hr, (frozen_kept hs.2.2.2.1 hg hr).trans hs.2.2.2.2.1, cell_kept hs.2.2.2.2.2.1 hg hr, (frozen_kept hs.2.2.2.2.2.1 hg hr).trans hs.2.2.2.2.2.2⟩) _) (ownFrom_below (Nat.le_refl _) (by omega)))
    (fun e => OwnFrom.and (Own.from (fun s A B row hs hg hr => ⟨hs.1, hs.2.1, by obtain ⟨v, hv, q1, q2⟩ := hs.2.2; exact ⟨v, hv, cell_kept q1 hg hr, cell_kept q2 hg hr⟩⟩) _) (ownFrom_below (Nat.le_refl _) (by omega)))
    ⟨⟨hn1, by simpa using kL, fL, k6, f6, k7, f7⟩, hB0⟩
    (fun x => { tmps := #[nilS, .int .i64 day, .int .i64 n, undef, undef, undef, (.pointer (some ⟨w.heap.size, 0, none⟩)), (.pointer (some ⟨w.heap.size + 1, 0, none⟩)), .int .i64 (day + 1), .int .i64 1, (.pointer (some ⟨w.heap.size + 1 + 1, 0, none⟩)), .int .i64 x, .int .i64 day, .bool true, .int .i64 n, .bool true, .int .i64 day, .int .i64 (day + 1), .int .i64 n, undef, undef, undef, undef, undef, undef, undef, nilS, .int .i64 (day + 1), .int .i64 1, .func (.func 91) #[] #[(.pointer (some ⟨w.heap.size + 1 + 1 + 1 + 1, 0, none⟩)), (.pointer (some ⟨w.heap.size + 1 + 1 + 1 + 1 + 1, 0, none⟩)), (.pointer (some ⟨w.heap.size + 1 + 1 + 1, 0, none⟩))], .int .i64 x, undef, undef, undef, undef, undef], defers := [] }) ?assign ?body ?done ?stop
  case assign =>
    intro l x W K hK
    gi_wp2
    exact hK
  case body =>
    rintro l pre x1 W ⟨⟨hlen, hl, hfl, h6, hf6, h7, hf7⟩, hB⟩ _
    have b1 : (0 : Int) ≤ n - pre.length := by omega
    have b2 : (n : Int) - pre.length ≤ 2000 := by omega
    by_cases he : pre.length + 1 = n
    · have hz : ((n : Int) - pre.length - 1 == 0) = true := by simp; omega
      have HE := Lib.hid he
      clear he
      gi_wp2
      refine ⟨((KeepsOthers.setCell _ _ _).trans (KeepsOthers.setCell _ _ _)).trans (KeepsOthers.setCell _ _ _), ⟨rfl, by simp [HE.out], x1, by simp, ?_, ?_⟩, ((hB.setCell (p := ⟨w.heap.size + 1 + 1, 0, none⟩) (by simp; omega) _).setCell (p := ⟨w.heap.size, 0, none⟩) (Nat.le_refl _) _).setCell (p := ⟨w.heap.size + 1, 0, none⟩) (by simp) _⟩
      · exact (World.cell?_setCell_other _ _ _ _ (by simp)).trans (World.cell?_setCell_same _ _ _ ((World.cell?_setCell_other _ _ _ _ (by simp)).trans h6))
      · exact World.cell?_setCell_same _ _ _ ((World.cell?_setCell_other _ _ _ _ (by simp)).trans ((World.cell?_setCell_other _ _ _ _ (by simp)).trans h7))
    · have hz : ((n : Int) - pre.length - 1 == 0) = false := by simp; omega
      have HE := Lib.hid he
      clear he
      gi_wp2
      refine ⟨KeepsOthers.setCell _ _ _, ⟨by simp, World.cell?_setCell_other _ _ _ _ (by simp), World.cell?_setCell_other _ _ _ _ (by simp)⟩, ⟨by have := HE.out; simp; omega, ?_, ?_, (World.cell?_setCell_other _ _ _ _ (by simp)).trans h6, ?_, (World.cell?_setCell_other _ _ _ _ (by simp)).trans h7, ?_⟩, hB.setCell (p := ⟨w.heap.size + 1 + 1, 0, none⟩) (by simp; omega) _⟩
      · rw [World.cell?_setCell_same _ _ _ hl]; simp; omega
      · rw [World.frozen?_setCell]; exact hfl
      · rw [World.frozen?_setCell]; exact hf6
      · rw [World.frozen?_setCell]; exact hf7
  case done =>
    rintro D ys W hD rfl ⟨⟨hlen, _⟩, _⟩ _
    exfalso
    have := HX.out
    rw [List.getElem?_eq_none (by omega)] at this
    cases this
  case stop =>
    rintro D c pre W hD hpre ⟨⟨rfl, hlen, v, hv, h6, h7⟩, hB⟩ hK
    have hvx : v = x := by
      obtain ⟨t, ht⟩ := hpre
      have := HX.out
      rw [← ht, List.getElem?_append_left (by omega), ← hlen, ← List.getLast?_eq_getElem?, hv] at this
      exact Option.some.inj this
    subst hvx
    gi_wp2
    refine ⟨by simp, .inl ⟨_, _, rfl, run_takeDeferred hK, ?_⟩⟩
    have hc6 := cell_kept h6 (grownBy_putObj' _ D (.deferred none)) (fun r e => by cases e; exact ⟨_, hK, rfl⟩)
    have hc7 := cell_kept h7 (grownBy_putObj' _ D (.deferred none)) (fun r e => by cases e; exact ⟨_, hK, rfl⟩)
    refine ⟨two (.int .i64 v) (.int .i64 0), ?_, rfl, hB.trans (belowK_b (w := w) (Nat.le_refl _) W D _ _ (by omega) hK rfl rfl)⟩
    simp [results, Tryz.f57, go_sem, hc6, hc7]
end Go.Proofs.YtfphedcgmaakjabGreatDoor
namespace Go.Proofs.YtfphedcgmaakjabGreatDoor
open Go.RowKit
attribute [local go_sem] set_drewN
theorem est_1800 : est 1800 = 102 := by decide
theorem wl_2 : (wl 1 200001 (0 + 1))[3 - 1]? = some 5 := by
  have e1 := wl_yes (s := 1) (d := 1) 200000 (by decide) (by decide)
  have e2 := wl_yes (s := 1) (d := 2) 199999 (by decide) (by decide)
  have e3 := wl_no (s := 1) (d := 3) 199998 (by decide) (by decide)
  have e4 := wl_no (s := 1) (d := 4) 199997 (by decide) (by decide)
  have e5 := wl_yes (s := 1) (d := 5) 199996 (by decide) (by decide)
  simp only [Int.reduceAdd, Nat.reduceAdd] at e1 e2 e3 e4 e5
  simp only [Int.reduceAdd]
  rw [e1, e2, e3, e4, e5]; rfl
set_option maxHeartbeats 400000 in
theorem AddWorkingAwake (w : World) : Calls Tryz.prog 27 #[nilS, .int .i64 0, .int .i64 3] w (RetB (two (.int .i64 5) (.int .i64 0)) w) := by
  have e1 : cdE [0] = 0 := by decide
  have e2 : inB 3 (-2000) 2000 = true := by decide
  have hw := fun w => addWorkingNil 0 5 3 w (by omega) (by omega) (by omega) (by omega) wl_2
  have HW := Lib.hid hw
  clear hw
  go_enter Tryz.func27, Tryz.ntmps27
  go_wp2_with (first
    | (go_at_call 56; refine (checkHolidaysNil _).mono ?_; rintro e w1 ⟨rfl, hb1⟩)
    | (go_at_call 46; refine (check1 0 _ _ _ (by simp [go_sem])).mono ?_; rintro e w' ⟨rfl, rfl⟩)
    | (go_at_call 30; refine (firstError_any [0, 0] _ 0 2 _ (by simp) (IntsAt.cons (by simp [go_sem]) (IntsAt.one (by simp [go_sem])))).mono ?_; rintro e w' ⟨rfl, rfl⟩)
    | (go_at_call 50; refine (isFromTo_any _ _ _ _).mono ?_; rintro e w' ⟨rfl, rfl⟩)
    | (go_at_call 57; refine (HW.out _).mono ?_; rintro e w2 ⟨rfl, hb2⟩))
  go_ret2
  exact ⟨rfl, ((hb1.alloc hb1.size _).alloc (by have := hb1.size; simp; omega) _).trans (hb2.mono (by have := hb1.size; simp; omega))⟩
set_option maxHeartbeats 400000 in
theorem awake_any (w : World) : Calls Tryz.prog 6 #[] w (RetB (.bool true) w) := by
  have hd := fun w => DayOf_any 1804 2 29 w
  have he : dayV 1804 2 29 = two (.int .i64 1519) (.int .i64 0) := by rw [dayV_5 (by decide) (by decide) (by decide) (by decide)]; rfl
  rw [he] at hd
  have hs := fun w => Easter_yes 1800 w (by omega) (by omega)
  rw [est_1800] at hs
  have HD := Lib.hid hd
  have HS := Lib.hid hs
  clear hd hs he
  go_enter Tryz.func6, Tryz.ntmps6
  go_wp2_with (first
    | (go_at_call 25; refine (HD.out _).mono ?_; rintro e w1 ⟨rfl, hb1⟩)
    | (go_at_call 26; refine (HS.out _).mono ?_; rintro e w2 ⟨rfl, hb2⟩)
    | (go_at_call 27; refine (AddWorkingAwake _).mono ?_; rintro e w3 ⟨rfl, hb3⟩)
    | (go_at_call 28; refine (Fee_any _).mono ?_; rintro e w4 ⟨rfl, hc4, hb4⟩; have HC4 := Lib.hid hc4; clear hc4)
    | (go_at_call 21; refine (ValueFee _ _ HC4.out).mono ?_; rintro e w5 ⟨rfl, hb5⟩))
  go_ret
  have s1 := hb1.size; have s2 := hb2.size; have s3 := hb3.size; have s4 := hb4.size
  exact ⟨rfl, (((hb1.trans (hb2.mono s1)).trans (hb3.mono (by omega))).trans (hb4.mono (by omega))).trans (hb5.mono (by omega))⟩
end Go.Proofs.YtfphedcgmaakjabGreatDoor
namespace Go.Proofs.YtfphedcgmaakjabGreatDoor
open Go.RowKit Go.WideShapes Go.ChangeShapes
section
variable {H : Type} {enc : TypeId × Value → H} {P : Program}
theorem post_of_below {f : Func} {s : ChangeSpec} {apart fresh handsOn again : Bool} {W W' : World} {args : Array Value} {v : Value} {ds gs : List (DataW H)} {before pa pv : List MemPlace}
    (hW : DataW.Whole enc P f.params.toList s.vars apart W args.toList ds gs before)
    (hres : ∀ (b : Nat) (sp : Nat → Bool) (hd : Bool), DataW.TrodAll enc P W' b sp hd f.resultTypes.toList (v.resultList f.resultTypes.size) (s.fn H (ds ++ gs)).results [])
    (hargs : ∀ sp : Nat → Bool, (∀ p ∈ before, sp p.block = true) → DataW.TrodAll enc P W' 0 sp true f.params.toList args.toList (s.fn H (ds ++ gs)).args pa)
    (hvars : ∀ sp : Nat → Bool, (∀ p ∈ before, sp p.block = true) → DataW.TrodVars enc P W' sp s.vars (s.fn H (ds ++ gs)).vars pv)
    (hps : before = pa ++ pv) (hb : Below W.heap.size W W')
    (hok : ∀ (j : Nat) (t : TypeId) (r : Value), f.resultTypes[j]? = some t → (v.resultList f.resultTypes.size)[j]? = some r → Value.okWide P W' .any 0 t r) :
    s.post enc P f apart fresh handsOn again W args v W' := by
  have hlt : ∀ p ∈ before, p.block < W.heap.size := fun p hp => hW.lt p hp
  have hold : ∀ p ∈ before, (fun b => decide (b < W.heap.size)) p.block = true := fun p hp => by simpa using hlt p hp
  refine ⟨ds, gs, before, [], pa, pv, hW, hres _ _ _, hargs _ hold, hvars _ hold, World.keptBut_mono (fun p hp => ⟨hp, ?_⟩) (hb.frame (· ∈ before)), fun _ => ?_⟩
  · rw [hps, List.mem_append] at hp
    exact Or.inr hp
  · obtain ⟨_, _, _, _, _, hz, hn⟩ := hW
    refine ⟨hok, _, _, ([] ++ pa) ++ pv, ⟨[] ++ pa, pv, trodAll_append (hargs _ (fun _ _ => rfl)) (hres _ _ _), hvars _ (fun _ _ => rfl), rfl, ?_, ?_⟩, ?_⟩
    · intro b off hp
      have hin : MemPlace.cell b off ∈ before := by rw [hps]; simpa using hp
      rw [hb.frozen (hlt _ hin)]
      exact hz b off hin
    · intro ha
      have := hn ha
      rw [hps] at this
      simpa using this
    · intro p hp _
      rw [hps]
      simpa using hp
end
end Go.Proofs.YtfphedcgmaakjabGreatDoor
namespace Go.Proofs.YtfphedcgmaakjabGreatDoor
open Go.RowKit
attribute [local go_sem] set_drewN
def easterFacts (y : Int) : Bool := (est y + 2) % 7 == 6 && decide (114 ≤ en y) && decide (en y ≤ 148)
theorem easterFacts_all : (List.range 547).all (fun k => easterFacts (1800 + (k : Nat))) = true := by decide +kernel
theorem easterFacts_any {y : Int} (h0 : 1800 ≤ y) (h9 : y ≤ 2346) : (est y + 2) % 7 = 6 ∧ 114 ≤ en y ∧ en y ≤ 148 := by
  have := List.all_eq_true.1 easterFacts_all (y - 1800).toNat (List.mem_range.2 (by omega))
  rw [show (1800 : Int) + ((y - 1800).toNat : Nat) = y from by omega] at this
  simpa [easterFacts, and_assoc] using this
theorem est_date {y : Int} (h0 : 1800 ≤ y) (h9 : y ≤ 2346) : Cal.ok y (en y / 31) (en y % 31 + 1) := by
  obtain ⟨_, a, b⟩ := easterFacts_any h0 h9
  have hm : en y / 31 = 3 ∨ en y / 31 = 4 := by omega
  rcases hm with h | h
  · rw [h]; exact ⟨by omega, by omega, by omega, by rw [md_o (by omega) (by omega)]; omega⟩
  · rw [h]; exact ⟨by omega, by omega, by omega, by rw [md_n (by omega)]; omega⟩
theorem est_day {y : Int} (h0 : 1800 ≤ y) (h9 : y ≤ 2346) : 0 ≤ est y ∧ est y ≤ 200000 := by
  have a := Cal.ok_in _ _ _ (est_date h0 h9)
  have b := Cal.ny_mono 1800 y h0
  have c := Cal.ny_mono (y + 1) 2347 (by omega)
  rw [Cal.ny_1800] at b
  have e : Cal.ny 2347 ≤ 200000 := by decide
  unfold est; omega
end Go.Proofs.YtfphedcgmaakjabGreatDoor
