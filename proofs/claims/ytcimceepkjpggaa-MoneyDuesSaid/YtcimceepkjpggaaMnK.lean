/-
  Plan of package money: contracts.
-/
import Derived.Test.YtcimceepkjpggaaMnJ
namespace Go.Proofs.Ytcimceepkjpggaa
open Go.RowKit
attribute [local go_sem] set_drewN
theorem infoDu : (Try.prog.info? 69).map (fun i => (i.zero, i.size, i.bytes)) = some (some (.agg #[.int .i64 0, .int .i64 0]), 2, 16) := by kernel_rfl
/-- a plan -/
def plM (c n d0 d1 : Int) (k : Nat) : List Du := (List.range k).map fun i : Nat => ⟨d0 + (i : Int) * d1, ptM c n i⟩
theorem plM_len (c n d0 d1 : Int) (k : Nat) : (plM c n d0 d1 k).length = k := by simp [plM]
theorem plM_succ (c n d0 d1 : Int) (k : Nat) : plM c n d0 d1 (k + 1) = plM c n d0 d1 k ++ [⟨d0 + k * d1, ptM c n k⟩] := by simp [plM, List.range_succ]
theorem plM_get (c n d0 d1 : Int) (k i : Nat) (h : i < (plM c n d0 d1 k).length) : (plM c n d0 d1 k)[i] = ⟨d0 + i * d1, ptM c n i⟩ := by simp [plM]
/-- a row of amounts of one's own -/
def DRow (w0 W : World) (F : List Du) (v : Value) : Prop := W.ownsRow w0.heap.size 69 2 v F.length (dcs F) ∧ Below w0.heap.size w0 W
theorem DRow.LD {w0 W : World} {F : List Du} {v : Value} (h : DRow w0 W F v) : LD W v F := LD.of_own h.1
theorem ownsRow_lower {w : World} {base base' : Nat} {e : TypeId} {size n : Nat} {v : Value} {xs : List Value} (h : w.ownsRow base e size v n xs) (hb : base' ≤ base) : w.ownsRow base' e size v n xs := by
  obtain ⟨h1, h2⟩ := h
  rcases h2 with h2 | ⟨g, cap, cur, e1, h3, r⟩
  · exact ⟨h1, .inl h2⟩
  · exact ⟨h1, .inr ⟨g, cap, cur, e1, Nat.le_trans hb h3, r⟩⟩
theorem DRow.lower {w0 w1 W : World} {F : List Du} {v : Value} (h : DRow w1 W F v) (hb : Below w0.heap.size w0 w1) : DRow w0 W F v := ⟨ownsRow_lower h.1 hb.size, hb.trans (h.2.mono hb.size)⟩
theorem DRow.snoc {w0 w1 w2 : World} {F : List Du} {x : Du} {v v' : Value} (h : w2.ownsRow w0.heap.size 69 2 v' (F.length + 1) (dcs F ++ duC x)) (hb : Below w0.heap.size w0 w1) (hg : w1.grownBy w2 v.ownBlock) (ho : w1.ownsRow w0.heap.size 69 2 v F.length (dcs F)) :
    DRow w0 w2 (F ++ [x]) v' :=
  ⟨by rw [dcs_app, dcs_one, List.length_append]; exact h, hb.grown hg hb.size (fun k' e' => (ho.lt k' e').1)⟩
set_option maxRecDepth 100000 in
set_option maxHeartbeats 4000000 in
theorem Plan_ok (c : Int) (n : Nat) (d0 d1 : Int) (w : World) (h0 : 0 ≤ c) (h9 : c ≤ 1000000000000) (n1 : 1 ≤ n) (n9 : n ≤ 120) (a0 : 0 ≤ d0) (a9 : d0 ≤ 200000) (s1 : 1 ≤ d1) (s9 : d1 ≤ 1000) (l9 : d0 + ((n : Int) - 1) * d1 ≤ 200000) :
    Calls Try.prog 31 #[.int .i64 c, .int .i64 n, .agg #[.int .i64 d0, .int .i64 d1]] w fun e w' => ∃ v, e = .returned (two v (.int .i64 0)) ∧ Hid (DRow w w' (plM c n d0 d1 n) v) := by
  have i1 := inB_yes (n := d0) (a := 0) (b := 200000) a0 a9
  have i2 := inB_yes (n := d1) (a := 1) (b := 1000) s1 s9
  have m0 : 0 ≤ ((n : Int) - 1) * d1 := Int.mul_nonneg (by omega) (by omega)
  have i3 := inB_yes (n := d0 + ((n : Int) - 1) * d1) (a := 0) (b := 200000) (by omega) l9
  have m9 : ((n : Int) - 1) * d1 ≤ 200000 := by omega
  have HM := Lib.hid (show ∀ k : Nat, k < n → 0 ≤ (k : Int) * d1 ∧ (k : Int) * d1 ≤ ((n : Int) - 1) * d1 from fun k hk =>
    ⟨Int.mul_nonneg (by omega) (by omega), Int.mul_le_mul_of_nonneg_right (by omega) (by omega)⟩)
  obtain ⟨i0, hi, hz0, hz1, hz2⟩ := info_parts infoDu
  have HB := Lib.hid (fun W (h : W = w.alloc (.cells #[.int .i64 d0, .int .i64 d1] 56)) => (show W.cell? ⟨w.heap.size, 0, none⟩ = some (.int .i64 d0) ∧ W.cell? ⟨w.heap.size, 1, none⟩ = some (.int .i64 d1) ∧ Below w.heap.size w W ∧ W.heap.size = w.heap.size + 1 from by
    subst h
    exact ⟨by simp [go_sem], by simp [go_sem], (Below.refl _ _).alloc (Nat.le_refl _) _, by simp⟩))
  go_enter Try.func31, Try.ntmps31
  go_wp2_with fail
  refine (Instalments_ok c n _ h0 h9 n1 n9).mono ?_
  rintro e w1 ⟨v1, rfl, hI⟩
  have B1 := Lib.hid ((HB.out _ rfl).2.2.1.trans (hI.out.2.mono (by simp)))
  have q0 := (hI.out.2.cell (p := ⟨w.heap.size, 0, none⟩) (by simp)).trans (HB.out _ rfl).1
  have q1 := (hI.out.2.cell (p := ⟨w.heap.size, 1, none⟩) (by simp)).trans (HB.out _ rfl).2.1
  have L1 := Lib.hid hI.out.LI
  have s1' := B1.out.size
  clear hI HB
  go_wp2
  go_quiet (fail)
  obtain ⟨wq, hwq⟩ : ∃ wq, w1.drewN nq = wq := ⟨_, rfl⟩
  have BQ := Lib.hid (show Below w.heap.size w wq by rw [← hwq]; exact below_n B1.out _)
  have LQ := Lib.hid (show LI wq v1 (psM c n n) by rw [← hwq]; exact L1.out)
  rw [hwq]
  clear hwq q0 q1 L1 B1
  obtain ⟨a, cp, rfl, hp⟩ := LQ.out
  have PLN := Lib.hid (psM_len c n n)
  have HP := Lib.hid hp
  have LQ2 := Lib.hid (show LI wq (.slice a n cp) (psM c n n) by have := LQ.out; rw [PLN.out] at this; exact this)
  rw [PLN.out]
  clear hp
  go_wp2_with (first
    | (go_at_call 54; refine (nIsDay_any _ _).mono ?_; rintro e w' ⟨rfl, rfl⟩; first | rw [i1] | rw [i3])
    | (go_at_call 60; refine (nIsFromTo_any _ _ _ _).mono ?_; rintro e w' ⟨rfl, rfl⟩; rw [i2]))
  go_loopw [12, 48] (fun lv iv wr => ∃ k : Nat, k ≤ n ∧ iv = .int .i64 k ∧ Hid (DRow wq wr (plM c n d0 d1 k) lv)) (fun _ iv _ => n - (intOf iv).toNat)
  case atStart => exact ⟨0, Nat.zero_le _, rfl, Lib.hid ⟨World.ownsRow_nil _ _ _ _, Below.refl _ _⟩⟩
  case round =>
    obtain ⟨k, hk, rfl, HD⟩ := hrel
    have hsz := HD.out.2.size
    by_cases hlt : k < n
    · have hne : psM c n n ≠ [] := fun h => by have := PLN.out; rw [h] at this; simp at this; omega
      obtain ⟨a', cp', e', hq⟩ := LQ2.out.below HD.out.2
      obtain ⟨b, e2, hbl, hcc⟩ := hq hne
      have e3 : a = a' := by injection e'
      obtain rfl : a = some ⟨b, 0, none⟩ := e3.trans e2
      have ck := hcc k (by rw [PLN.out]; exact hlt)
      rw [psM_get] at ck
      have PS := Lib.hid (plM_succ c n d0 d1 k)
      have PL := Lib.hid (plM_len c n d0 d1 k)
      obtain ⟨m1, m2⟩ := HM.out k hlt
      have m3 : d0 + (k : Int) * d1 ≤ 200000 := by omega
      have m4 : (k : Int) * d1 ≤ 200000 := by omega
      clear hq hcc e' e2 e3
      generalize ptM c n k = X at *
      have w1' : wrap64 ((k : Int) * d1) = (k : Int) * d1 := by unfold wrap64; omega
      have w2' : wrap64 (d0 + (k : Int) * d1) = d0 + (k : Int) * d1 := by unfold wrap64; omega
      go_wp2_with (at_builtin; refine wpList_append_own _ rfl _ _ 60 rfl wq.heap.size 69 i0 _ 2 16 Try.underlying60 hi hz0 hz1 hz2 rfl (by decide) _ _ _ rfl (HD.out.1.alloc _) ⟨wr.heap.size, 0, none⟩ 1 1 [.int .i64 (d0 + (k : Int) * d1), .int .i64 X] rfl rfl ?c1 ?c2 ?c3 ?c4 ?c5 ?_)
      try case c1 => exact World.news_of_block (cs := #[.int .i64 (d0 + (k : Int) * d1), .int .i64 X]) (heap_alloc_new _ _)
      try case c2 => simp [Value.oneCell']
      case c3 => rw [PL.out]; unfold maxLen; omega
      case c4 => rw [PL.out]; omega
      case c5 => first | omega | (simp; omega)
      intro v3 w5 hown5 hgrow5 _
      have D3 := Lib.hid (DRow.snoc (x := ⟨d0 + (k : Int) * d1, X⟩) hown5 (HD.out.2.alloc hsz _) hgrow5 (HD.out.1.alloc _))
      go_wp2
      go_roundw
      case rel => exact ⟨k + 1, by omega, by go_num, Lib.hid (by rw [PS.out]; exact D3.out)⟩
      case measure => simp [intOf]; omega
    · obtain rfl : k = n := by omega
      go_wp2
      go_ret2
      exact ⟨_, rfl, Lib.hid (HD.out.lower BQ.out)⟩
end Go.Proofs.Ytcimceepkjpggaa
