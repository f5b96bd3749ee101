/-
  The examples of chapter 9 (money), with which its statements begin: they hold, in every world.
-/
import Derived.Test.YtcimceepkjpggaaMnFe
namespace Go.Proofs.Ytcimceepkjpggaa
open Go.RowKit
attribute [local go_sem] set_drewN
abbrev grv : ByteArray := ⟨#[103, 114, 97, 118, 101]⟩
theorem litA3 (w : World) (a b c : Int) (t : TypeId) : LI (w.alloc (.cells #[.int .i64 a, .int .i64 b, .int .i64 c] t)) (.slice (some ⟨w.heap.size, 0, none⟩) 3 3) [a, b, c] := by
  refine ⟨_, 3, rfl, fun _ => ⟨w.heap.size, rfl, by simp, fun i hi => ?_⟩⟩
  have : i = 0 ∨ i = 1 ∨ i = 2 := by simp at hi; omega
  rcases this with rfl | rfl | rfl <;> simp [go_sem]
theorem lit1 {α : Type} {enc : α → List Value} {k : Nat} {W : World} {b : Nat} {x : α} (hb : b < W.heap.size) (hc : ∀ (r : Nat) (v : Value), (enc x)[r]? = some v → W.cell? ⟨b, r, none⟩ = some v) : LG enc k W (.slice (some ⟨b, 0, none⟩) 1 1) [x] := by
  refine ⟨_, 1, rfl, Nat.le_refl _, fun _ => ⟨b, 0, rfl, hb, fun i hi r v hv => ?_⟩⟩
  have : i = 0 := by simpa using hi
  subst this
  simpa using hc r v (by simpa using hv)
theorem ex1 : psM 100 3 3 = [34, 33, 33] := by decide
theorem ex2 : sharesE [3, 3, 1] 10 = 0 := by decide
theorem ex3 : shM [3, 3, 1] 10 = [4, 4, 2] := by
  have e : ordA [3, 3, 1] 10 7 2 = #[2, 0, 1] := by
    unfold ordA Sort.insertionSort
    rw [Sort.insOuter, Sort.insOuter, Sort.insOuter]
    decide
  have b : ∀ j, bump [3, 3, 1] 10 7 2 1 j = (qL [3, 3, 1] 10 7).getD j 0 + if j ∈ ([2] : List Nat) then 1 else 0 := by
    intro j
    unfold bump firstL
    rw [e]; rfl
  have l : (leftL [3, 3, 1] 10).toNat = 1 := by decide
  show List.map (bump [3, 3, 1] 10 7 2 (leftL [3, 3, 1] 10).toNat) (List.range 3) = [4, 4, 2]
  rw [l, show List.range 3 = [0, 1, 2] from rfl]
  simp only [List.map_cons, List.map_nil, b]
  decide
theorem ex4 : ratesE [⟨grv, 0, 33333⟩] = 0 := by decide +kernel
theorem ex5 : remsE [⟨grv, 0, 9, 125⟩] = 0 := by decide +kernel
theorem ex6 : chgsE [⟨grv, 0, 33333⟩] [⟨grv, 0, 3⟩] = 0 := by decide +kernel
theorem ex7 : feeM [⟨grv, 0, 33333⟩] [⟨grv, 0, 9, 125⟩] [⟨grv, 0, 3⟩] = 87500 := by decide +kernel
theorem ex8 : lnsOf [⟨grv, 0, 33333⟩] [⟨grv, 0, 9, 125⟩] 0 [⟨grv, 0, 3⟩] = [⟨0, 33333, 125, 87499125⟩] := by
  have h1 : (rateM [⟨grv, 0, 33333⟩] grv 0).2 = 33333 := by decide +kernel
  have h2 : remM [⟨grv, 0, 9, 125⟩] grv 0 = 125 := by decide +kernel
  simp only [lnsOf, lnOf, h1, h2]
  rfl
set_option maxRecDepth 100000 in
set_option maxHeartbeats 4000000 in
theorem awake_any (w : World) : Calls Try.prog 11 #[] w (RetB (.bool true) w) := by
  go_enter Try.func11, Try.ntmps11
  go_wp2_with fail
  refine (Instalments_ok 100 3 _ (by omega) (by omega) (by omega) (by omega)).mono ?_
  rintro e w1 ⟨v1, rfl, hI⟩
  have L1 := Lib.hid (show LI w1 v1 [34, 33, 33] by have := hI.out.LI; rw [show ((3 : Nat) : Int) = 3 from rfl, ex1] at this; exact this)
  have B1 := Lib.hid hI.out.2
  clear hI
  go_wp2_with fail
  refine (Shares_ok [3, 3, 1] _ 10 _ (by simp) (litA3 w1 3 3 1 3) (by simp) ex2).mono ?_
  rintro e w2 ⟨v2, rfl, hL2, hb2⟩
  rw [ex3] at hL2
  have L2 := Lib.hid hL2
  have B2 := Lib.hid (show Below w1.heap.size w1 w2 from ((Below.refl _ _).alloc (Nat.le_refl _) _).trans (hb2.mono (by simp)))
  clear hL2 hb2
  go_wp2_with fail
  have AL := Lib.hid (fun W (h : W = ((w2.alloc (.cells #[.string grv, .int .i64 0, .int .i64 33333] 34)).alloc (.cells #[.string grv, .int .i64 0, .int .i64 9, .int .i64 125] 55)).alloc (.cells #[.string grv, .int .i64 0, .int .i64 3] 53)) =>
    (show LG raC 3 W (.slice (some ⟨w2.heap.size, 0, none⟩) 1 1) [⟨grv, 0, 33333⟩] ∧ LG rmC 4 W (.slice (some ⟨w2.heap.size + 1, 0, none⟩) 1 1) [⟨grv, 0, 9, 125⟩] ∧ LG cgC 3 W (.slice (some ⟨w2.heap.size + 1 + 1, 0, none⟩) 1 1) [⟨grv, 0, 3⟩] ∧ Below w2.heap.size w2 W from by
      subst h
      refine ⟨lit1 (by simp; omega) ?_, lit1 (by simp) ?_, lit1 (by simp) ?_, (((Below.refl _ _).alloc (Nat.le_refl _) _).alloc (by simp) _).alloc (by simp; omega) _⟩
      · intro r v hv
        match r, hv with
        | 0, hv => simp [raC] at hv; subst hv; simp [go_sem]
        | 1, hv => simp [raC] at hv; subst hv; simp [go_sem]
        | 2, hv => simp [raC] at hv; subst hv; simp [go_sem]
        | n + 3, hv => simp [raC] at hv
      · intro r v hv
        match r, hv with
        | 0, hv => simp [rmC] at hv; subst hv; simp [go_sem]
        | 1, hv => simp [rmC] at hv; subst hv; simp [go_sem]
        | 2, hv => simp [rmC] at hv; subst hv; simp [go_sem]
        | 3, hv => simp [rmC] at hv; subst hv; simp [go_sem]
        | n + 4, hv => simp [rmC] at hv
      · intro r v hv
        match r, hv with
        | 0, hv => simp [cgC] at hv; subst hv; simp [go_sem]
        | 1, hv => simp [cgC] at hv; subst hv; simp [go_sem]
        | 2, hv => simp [cgC] at hv; subst hv; simp [go_sem]
        | n + 3, hv => simp [cgC] at hv))
  obtain ⟨a1, a2, a3, a4⟩ := AL.out _ rfl
  refine (Fee_ok [⟨grv, 0, 33333⟩] [⟨grv, 0, 9, 125⟩] [⟨grv, 0, 3⟩] _ _ _ _ ex4 ex5 ex6 (by intro r m; rw [List.mem_singleton.1 m]; exact ⟨by decide, by decide, by decide⟩) (by intro r m; rw [List.mem_singleton.1 m]; decide) (by intro r m; rw [List.mem_singleton.1 m]; decide) a1 a2 a3).mono ?_
  rw [ex7, ex8]
  rintro e w3 ⟨v3, rfl, hL3, hb3⟩
  have B3 := Lib.hid (show Below w2.heap.size w2 w3 from a4.trans (hb3.mono a4.size))
  have L3 := Lib.hid hL3
  clear hL3 hb3 a1 a2 a3 a4 AL
  obtain ⟨a, cp, rfl, -, hq⟩ := L3.out
  obtain ⟨b, o, rfl, hd⟩ := hq (by simp)
  have bl := hd.1
  have c3 := hd.2 0 (by simp) 3 _ rfl
  have BA := Lib.hid (B1.out.trans ((B2.out.trans (B3.out.mono B2.out.size)).mono B1.out.size))
  have L1' := Lib.hid (L1.out.below (B2.out.trans (B3.out.mono B2.out.size)))
  have L2' := Lib.hid (L2.out.below B3.out)
  have j3 : w3.cell? ⟨b, o + 3, none⟩ = some (.int .i64 87499125) := by simpa using c3
  clear hd c3 hq L1 L2 L3
  simp only [List.length_cons, List.length_nil]
  go_wp2_with fail
  refine (ints_eq (L1'.out.below ((Below.refl _ _).alloc (Nat.le_refl _) _)) (litA3 w3 34 33 33 3) (by simp)).mono ?_
  rintro e w4 ⟨rfl, hb4⟩
  have B4 := Lib.hid (show Below w3.heap.size w3 w4 from ((Below.refl _ _).alloc (Nat.le_refl _) _).trans (hb4.mono (by simp)))
  clear hb4
  go_wp2_with fail
  refine (ints_eq ((L2'.out.below B4.out).below ((Below.refl _ _).alloc (Nat.le_refl _) _)) (litA3 w4 4 4 2 3) (by simp)).mono ?_
  rintro e w5 ⟨rfl, hb5⟩
  have B5 := Lib.hid (show Below w4.heap.size w4 w5 from ((Below.refl _ _).alloc (Nat.le_refl _) _).trans (hb5.mono (by simp)))
  have BB := Lib.hid (B4.out.trans (B5.out.mono B4.out.size))
  have j5 := (BB.out.cell (p := ⟨b, o + 3, none⟩) bl).trans j3
  clear hb5 j3
  go_wp2
  go_ret
  exact ⟨rfl, BA.out.trans (BB.out.mono BA.out.size)⟩
end Go.Proofs.Ytcimceepkjpggaa
