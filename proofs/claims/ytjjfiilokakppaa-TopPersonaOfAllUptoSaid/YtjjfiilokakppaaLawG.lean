/-
  TopPersonaOfAll returns true at right entries.
-/
import Derived.Test.YtjjfiilokakppaaLawH
import Derived.Test.YtjjfiilokakppaaPaM
import Derived.Test.YtjjfiilokakppaaLawPer
import Derived.Deep.DeepCutAuto
import Derived.Deep.CutBlock
import Derived.Deep.QuietTactic
namespace Go.Proofs.Ytjjfiilokakppaa
open Go.RowKit
attribute [local go_sem] set_drewN
set_option maxRecDepth 100000 in
set_option maxHeartbeats 8000000 in
theorem law_good (l : List Nt) (b o cap : Nat) (at' : Int) (w : World) (h2 : 2 ≤ l.length) (h8 : l.length ≤ 8) (hn : ∀ p ∈ l, p.nm.length ≤ 2000000) (hc : NtsAt w b o l) (hE : cnsE l = 0) :
    Calls Try.prog 3 #[.slice (some ⟨b, o, none⟩) l.length cap, .int .i64 at'] w (RetB (.bool true) w) := by
  have d2 : decide ((l.length : Int) < 2) = false := decide_eq_false (by omega)
  have d8 : decide (8 < (l.length : Int)) = false := decide_eq_false (by omega)
  have n8 : ¬ 8 < (l.length : Int) := by omega
  have n2 : ¬ (l.length : Int) < 2 := by omega
  have HK := Lib.hid (fun (W : World) (hb : Below w.heap.size w W) => xCheckNotes_any l b o cap W (by omega) hn (hc.below hb))
  rw [hE] at HK
  obtain ⟨kk, hkk⟩ : ∃ kk : Nat, (kk : Int) = at' % l.length := ⟨(at' % l.length).toNat, Int.toNat_of_nonneg (Int.emod_nonneg _ (by omega))⟩
  have hkl : kk < l.length := by have := Int.emod_lt_of_pos at' (b := (l.length : Int)) (by omega); omega
  have HM := Lib.hid (fun W => Mod_any at' l.length W (by omega) (by omega))
  rw [← hkk] at HM
  have HC := Lib.hid hc
  have HN := Lib.hid hn
  have HE := Lib.hid hE
  clear hc hn hE hkk
  go_enter Try.func3, Try.ntmps3
  go_wp2_with fail
  refine (named_any _).mono ?_
  rintro e w1 ⟨rfl, hb1⟩
  go_wp2_with (first
    | (go_at_call 5; refine (HK.out _ hb1).mono ?_; rintro e w2 ⟨rfl, hb2⟩)
    | (go_at_call 6; refine (HM.out _).mono ?_; rintro e w' ⟨rfl, rfl⟩))
  have hB2 := Lib.hid (hb1.trans (hb2.mono hb1.size))
  have q2 := hB2.out.size
  clear hb1 hb2
  go_loopw [5, 6, 8] (fun v u iv wr => ∃ i : Nat, i ≤ l.length ∧ iv = .int .i64 i ∧ Hid (I2 w.heap.size w (List.range i) (wo kk i) v u wr)) (fun _ _ iv _ => l.length - (intOf iv).toNat)
  case atStart => exact ⟨0, Nat.zero_le _, rfl, Lib.hid (I2.start _ _ _ hB2.out q2)⟩
  case round =>
    obtain ⟨i, hi, rfl, HI⟩ := hrel
    have hsz := HI.out.2.2.2.2
    by_cases hlt : i < l.length
    · have hlt' : (i : Int) < (l.length : Int) := by omega
      have hwl := wo_len kk i
      have hA := Lib.hid (show List.range (i + 1) = List.range i ++ [i] from List.range_succ)
      have hBs := Lib.hid (wo_succ kk i)
      have hlA : (List.range i).length ≤ 8 := by rw [List.length_range]; omega
      generalize hAe : List.range i = A at *
      generalize hBe : wo kk i = B at *
      clear hAe hBe
      by_cases hik : i = kk
      · have hBk := Lib.hid (show wo kk (i + 1) = B by rw [hBs.out, if_pos hik])
        subst hik
        clear hBs
        go_wp2_with (at_builtin; refine wpList_two rfl _ _ rfl w.heap.size A.length _ (iV i) (A.map iV) rfl (HI.out.alloc _).1 (by omega) (by simp; omega) ⟨wr.heap.size, 0, none⟩ 1 rfl (World.news_of_block (cs := #[iV i]) (heap_alloc_new _ _)) rfl ?_)
        intro v' w' ho hg k4 hk4 hk5
        have I3 := Lib.hid ((HI.out.alloc _).first ho hg ⟨k4, hk4, by simpa using hk5⟩)
        clear ho hg hk4 hk5 k4
        go_wp2
        go_roundw
        case rel => exact ⟨i + 1, by omega, by go_num, by rw [hA.out, hBk.out]; exact I3⟩
        case measure => simp [intOf]; omega
      · have hBk := Lib.hid (show wo kk (i + 1) = B ++ [i] by rw [hBs.out, if_neg hik])
        have hne : ((i : Int) != (kk : Int)) = true := by rw [bne_iff_ne]; omega
        have heq : ¬ (i : Int) = (kk : Int) := by omega
        clear hBs hik
        go_wp2_with (at_builtin; refine wpList_two rfl _ _ rfl w.heap.size A.length _ (iV i) (A.map iV) rfl (HI.out.alloc _).1 (by omega) (by simp; omega) ⟨wr.heap.size, 0, none⟩ 1 rfl (World.news_of_block (cs := #[iV i]) (heap_alloc_new _ _)) rfl ?_)
        intro v' w' ho hg k4 hk4 hk5
        have I3 := Lib.hid ((HI.out.alloc _).first ho hg ⟨k4, hk4, by simpa using hk5⟩)
        have hsz3 := I3.out.2.2.2.2
        clear ho hg hk4 hk5 k4
        go_wp2_with (at_builtin; refine wpList_two rfl _ _ rfl w.heap.size B.length _ (iV i) (B.map iV) rfl (I3.out.alloc _).2.1 (by omega) (by simp; omega) ⟨w'.heap.size, 0, none⟩ 1 rfl (World.news_of_block (cs := #[iV i]) (heap_alloc_new _ _)) rfl ?_)
        intro u' w4 ho hg k4 hk4 hk5
        have I4 := Lib.hid ((I3.out.alloc _).second ho hg ⟨k4, hk4, by simpa using hk5⟩)
        clear ho hg hk4 hk5 k4
        go_wp2
        go_roundw
        case rel => exact ⟨i + 1, by omega, by go_num, by rw [hA.out, hBk.out]; exact I4⟩
        case measure => simp [intOf]; omega
    · obtain rfl : i = l.length := by omega
      obtain ⟨iN, hiN, hzN, hsN, hbN⟩ := info_parts infoNt
      have hrn : List.range l.length ≠ [] := by intro h; have := congrArg List.length h; rw [List.length_range, List.length_nil] at this; omega
      obtain ⟨gA, cA, rfl, hgA, hIA, hcA, hcA9⟩ := HI.out.1.lies hrn
      obtain ⟨gB, cB, rfl, hgB, hIB, hcB, hcB9⟩ := HI.out.2.1.lies (wo_ne h2)
      have hB3 := Lib.hid HI.out.2.2.2.1
      have HCr := Lib.hid (HC.out.below hB3.out)
      have hmA : ∀ k ∈ List.range l.length, k < l.length := fun k h => List.mem_range.1 h
      have hmB : ∀ k ∈ wo kk l.length, k < l.length := fun k h => wo_mem h
      have haA := range_asc l.length
      have haB := wo_asc kk l.length
      have hlA : (List.range l.length).length ≤ 8 := by rw [List.length_range]; omega
      have hlB : (wo kk l.length).length ≤ 8 := Nat.le_trans (wo_len _ _) h8
      have HM1 := Lib.hid (fun h => rest_bad HE.out h2 hkl h)
      have HM2 := Lib.hid (fun h => pair_all HE.out h2 hkl h)
      have HM3 := Lib.hid (fun h0 (i : Nat) (h : i < l.length) => all_each HE.out h2 h0 h)
      have HM4 := Lib.hid (perR_13 l (List.range l.length))
      obtain ⟨ca, ra, hra⟩ := List.exists_cons_of_ne_nil hrn
      obtain ⟨cb, rb, hrb⟩ := List.exists_cons_of_ne_nil (wo_ne h2 (kk := kk))
      rw [hra] at hIA hcA hmA haA hlA HM1 HM2 HM3 HM4
      rw [hrb] at hIB hcB hmB haB hlB HM1 HM2
      rw [show (List.range l.length).length = ra.length + 1 from by rw [hra]; rfl, show (wo kk l.length).length = rb.length + 1 from by rw [hrb]; rfl]
      simp only [List.length_cons] at hcA hcB hlA hlB
      unfold maxLen at hcA9 hcB9
      have HP1 := Lib.hid (fun (W : World) (bb cp : Nat) (hW : Below wr.heap.size wr W) (hNW : NtsAt W bb 0 l) => Persona_any l ca ra bb 0 cp gA cA W HE.out (by omega) HN.out hNW
        (fun i hi => (hW.cell (p := ⟨gA, 0 + i, none⟩) hgA).trans (hIA i hi)) (Nat.lt_of_lt_of_le hgA hW.size) hmA haA (by omega) hcA (by omega))
      have HP2 := Lib.hid (fun (W : World) (bb cp : Nat) (hW : Below wr.heap.size wr W) (hNW : NtsAt W bb 0 l) => Persona_any l cb rb bb 0 cp gB cB W HE.out (by omega) HN.out hNW
        (fun i hi => (hW.cell (p := ⟨gB, 0 + i, none⟩) hgB).trans (hIB i hi)) (Nat.lt_of_lt_of_le hgB hW.size) hmB haB (by omega) hcB (by omega))
      have HL2 := Lib.hid (perR_len HN.out cb rb)
      have HL1 := Lib.hid (perR_len HN.out ca ra)
      clear hra hrb hIA hIB hmA hmB haA haB hrn HI
      obtain ⟨⟨⟨nm1, bf1, bt1, df1, dt1⟩, E1⟩, hR1⟩ : ∃ R, perR l (ca :: ra) = R := ⟨_, rfl⟩
      obtain ⟨⟨⟨nm2, bf2, bt2, df2, dt2⟩, E2⟩, hR2⟩ : ∃ R, perR l (cb :: rb) = R := ⟨_, rfl⟩
      rw [hR1] at HP1 HM1 HM2 HM3 HM4 HL1
      rw [hR2] at HP2 HM1 HM2 HL2
      clear hR1 hR2
      have hHA := Lib.hid ((Below.refl wr.heap.size wr).alloc (Nat.le_refl _) (.cells #[] 30))
      go_wp2_with (at_builtin; refine wpList_append_lies _ rfl _ _ 22 rfl wr.heap.size 30 iN _ 5 48 Try.underlying22 hiN hzN hsN hbN rfl (by decide) _ 0 [] rfl (World.ownsRow_made wr #[] 0 (Nat.le_refl _) (by decide) rfl) ⟨b, o, none⟩ l.length cap (ncs l) rfl (ncs_len l) (fun j u h => by rw [addO]; exact (HCr.out.below hHA.out).cells j u h) ncs_one_cell (by omega) (by unfold maxLen; omega) (by omega) (by simp) _ rfl ?_)
      intro g3 c3 w3 ho hg hat hlt3
      have hN3 := Lib.hid (NtsAt.of_own (l := l) (by simpa using ho))
      have hb3 := Lib.hid ((hHA.out.grown hg (by simp) (fun k' e' => Nat.le_of_eq (by simpa [Value.ownBlock] using e'))))
      clear ho hg hat hHA
      go_wp2_with fail
      refine (HP1.out w3 g3 c3 hb3.out hN3.out).mono ?_
      rintro e w4 ⟨rfl, hb4⟩
      have q3 := hb3.out.size
      have q4 := hb4.size
      have hb5 := Lib.hid ((hb3.out.trans (hb4.mono q3)).alloc (Nat.le_trans q3 q4) (.cells #[.string ⟨nm1.toArray⟩, .int .i64 bf1, .int .i64 bt1, .int .i64 df1, .int .i64 dt1] 30))
      have hp5 := Lib.hid (P5.new w4 ⟨nm1, bf1, bt1, df1, dt1⟩ 30)
      have hb6 := Lib.hid (hb5.out.alloc hb5.out.size (.cells #[] 30))
      have hp6 := Lib.hid (hp5.out.below ((Below.refl _ _).alloc (Nat.le_refl _) (.cells #[] 30)))
      clear hb4 hb3 hN3 HP1 hp5
      have hm6 := Lib.hid (show ((w4.alloc (.cells #[.string ⟨nm1.toArray⟩, .int .i64 bf1, .int .i64 bt1, .int .i64 df1, .int .i64 dt1] 30)).alloc (.cells #[] 30)).ownsRow (w4.heap.size + 1) 30 5 (.slice (some ⟨w4.heap.size + 1, 0, none⟩) 0 0) 0 [] by
        have := World.ownsRow_made (base := w4.heap.size + 1) (e := 30) (size := 5) (w4.alloc (.cells #[.string ⟨nm1.toArray⟩, .int .i64 bf1, .int .i64 bt1, .int .i64 df1, .int .i64 dt1] 30)) #[] 0 (by simp) (by decide) rfl
        rw [World.size_alloc] at this; exact this)
      go_wp2_with (at_builtin; refine wpList_append_lies _ rfl _ _ 22 rfl (w4.heap.size + 1) 30 iN _ 5 48 Try.underlying22 hiN hzN hsN hbN rfl (by decide) _ 0 [] rfl hm6.out ⟨b, o, none⟩ l.length cap (ncs l) rfl (ncs_len l) (fun j u h => by rw [addO]; exact (HCr.out.below hb6.out).cells j u h) ncs_one_cell (by omega) (by unfold maxLen; omega) (by omega) (by simp) _ rfl ?_)
      intro g7 c7 w7 ho hg hat hlt7
      have hN7 := Lib.hid (NtsAt.of_own (l := l) (by simpa using ho))
      have hb7 := Lib.hid (hb6.out.grown hg hb6.out.size (fun k' e' => Nat.le_trans (Nat.le_succ_of_le (Nat.le_trans q3 q4)) (Nat.le_of_eq (by simpa [Value.ownBlock] using e'))))
      have hp7 := Lib.hid (hp6.out.keep (Nat.lt_succ_self _) hg.size ((Below.refl (w4.heap.size + 1) _).grown hg (by simp) (fun k' e' => Nat.le_of_eq (by simpa [Value.ownBlock] using e'))))
      clear ho hg hat hm6 hp6 hb6 hb5
      go_wp2_with fail
      refine (HP2.out w7 g7 c7 hb7.out hN7.out).mono ?_
      rintro e w8 ⟨rfl, hb8⟩
      have q7 := hb7.out.size
      have q8 := hb8.size
      have hp8 := Lib.hid (hp7.out.below hb8)
      have hb9 := Lib.hid ((hb7.out.trans (hb8.mono q7)).alloc (Nat.le_trans q7 q8) (.cells #[.string ⟨nm2.toArray⟩, .int .i64 bf2, .int .i64 bt2, .int .i64 df2, .int .i64 dt2] 30))
      have hp9 := Lib.hid (hp8.out.below ((Below.refl _ w8).alloc (Nat.le_refl _) (.cells #[.string ⟨nm2.toArray⟩, .int .i64 bf2, .int .i64 bt2, .int .i64 df2, .int .i64 dt2] 30)))
      have hq9 := Lib.hid (P5.new w8 ⟨nm2, bf2, bt2, df2, dt2⟩ 30)
      clear hb8 hb7 hN7 HP2 hp8 hp7
      by_cases hz2 : E2 = 0
      · subst hz2
        clear HM1
        go_upto_region 17 with fail
        have HC9 := Lib.hid (HCr.out.below hb9.out)
        have HW9 := Lib.hid (hB3.out.trans (hb9.out.mono hsz))
        clear hb9 HCr hB3 hcA hcB hcA9 hcB9 hlA hlB hgA hgB hB2 q2 q3 q4 q7 q8 hlt3 hlt7 hsz hi hlt HC
        obtain ⟨B1, hB1⟩ : ∃ B, w4.heap.size = B := ⟨_, rfl⟩
        obtain ⟨B2, hB2⟩ : ∃ B, w8.heap.size = B := ⟨_, rfl⟩
        rw [hB1] at hp9 ⊢
        rw [hB2] at hq9 ⊢
        clear hB1 hB2
        generalize w8.alloc (.cells #[.string ⟨nm2.toArray⟩, .int .i64 bf2, .int .i64 bt2, .int .i64 df2, .int .i64 dt2] 30) = W9 at *
        obtain ⟨hm1, hm2⟩ := HM2.out (by simp)
        have hnx := HN.out (l.getD kk nt0) (by rw [getD_lt hkl]; exact List.getElem_mem hkl)
        have HX9 := Lib.hid (HC9.out.get hkl)
        generalize l.getD kk nt0 = x at *
        have HP3 := Lib.hid (fun (W : World) (g h : Nat) (hN : NtsAt W g 0 [⟨nm2, bf2, bt2, df2, dt2⟩, x]) (hI : I6 W h) => show Calls Try.prog 7 #[.slice (some ⟨g, 0, none⟩) 2 2, .slice (some ⟨h, 0, none⟩) 2 2] W (RetB (two (Nt.val ⟨nm1, bf1, bt1, df1, dt1⟩) (.int .i64 E1)) W) by
          have := Persona_any [⟨nm2, bf2, bt2, df2, dt2⟩, x] 0 [1] g 0 2 h 2 W hm1 (by simp) (by intro p hp; rcases List.mem_cons.1 hp with rfl | hp; exact HL2.out; obtain rfl := List.mem_singleton.1 hp; exact hnx) hN hI.1 hI.2 (by intro k hk; simp at hk; rcases hk with rfl | rfl <;> simp) (by simp) (by simp) (by simp) (by omega)
          rw [hm2] at this
          exact this)
        clear hm1 hm2 HM2 hnx
        have b1 : 0 ≤ (kk : Int) ∧ (kk : Int) < (l.length : Int) := ⟨by omega, by omega⟩
        have HQ9 := hq9
        clear hq9
        have hS9 := Lib.hid (S9.of HQ9.out HX9.out (Below.refl W9.heap.size W9))
        go_cut [13, 14] (fun a e wx => ∃ g3 : Nat, a = .pointer (some ⟨g3, 0, none⟩) ∧ e = .int .i64 E1 ∧ Hid (P5 wx g3 ⟨nm1, bf1, bt1, df1, dt1⟩) ∧ Hid (Below W9.heap.size W9 wx))
        case first =>
          refine wp_region_held_drew (S := S9 W9 B2 b (o + kk * 5) ⟨nm2, bf2, bt2, df2, dt2⟩ x) (by kernel_rfl) ?_ (fun hHeld => ?_)
          · exact S9.below hS9.out (below_n (Below.refl _ _) 1)
          generalize W9.drew = W0 at *
          refine wpAnyH_take (i := 0) (oi := { dst := some 79, op := Go.Op.load 30 (Go.Operand.tmp 11), type := 30, pos := "top04.go:112", after := #[], guard := none }) (v := ?_) rfl (by kernel_rfl) (by kernel_rfl) (by kernel_rfl) (fun _ _ _ h => h) (Or.inl ⟨by rfl, ?_⟩) (by assumption) ?_
          rotate_left
          · intro w hSw
            obtain ⟨⟨c0, c1, c2, c3, c4⟩, ⟨a0, a1, a2, a3, a4⟩, _⟩ := hSw
            try dsimp only at c0 c1 c2 c3 c4
            go_simp
            try with_reducible rfl
          try simp only [Act.put, List.setIfInBounds_toArray, List.set_cons_zero, List.set_cons_succ]
          refine wpAnyH_take (i := 1) (oi := { dst := some 80, op := Go.Op.move (Go.Operand.tmp 0), type := 22, pos := "top04.go:112", after := #[], guard := none }) (v := ?_) rfl (by kernel_rfl) (by kernel_rfl) (by kernel_rfl) (fun _ _ _ h => h) (Or.inl ⟨by rfl, ?_⟩) (by assumption) ?_
          rotate_left
          · intro w hSw
            obtain ⟨⟨c0, c1, c2, c3, c4⟩, ⟨a0, a1, a2, a3, a4⟩, _⟩ := hSw
            try dsimp only at c0 c1 c2 c3 c4
            go_simp
            try with_reducible rfl
          try simp only [Act.put, List.setIfInBounds_toArray, List.set_cons_zero, List.set_cons_succ]
          refine wpAnyH_take (i := 2) (oi := { dst := some 81, op := Go.Op.move (Go.Operand.tmp 7), type := 3, pos := "top04.go:112", after := #[], guard := none }) (v := ?_) rfl (by kernel_rfl) (by kernel_rfl) (by kernel_rfl) (fun _ _ _ h => h) (Or.inl ⟨by rfl, ?_⟩) (by assumption) ?_
          rotate_left
          · intro w hSw
            obtain ⟨⟨c0, c1, c2, c3, c4⟩, ⟨a0, a1, a2, a3, a4⟩, _⟩ := hSw
            try dsimp only at c0 c1 c2 c3 c4
            go_simp
            try with_reducible rfl
          try simp only [Act.put, List.setIfInBounds_toArray, List.set_cons_zero, List.set_cons_succ]
          refine wpAnyH_take (i := 3) (oi := { dst := some 82, op := Go.Op.indexAddr 22 (Go.Operand.tmp 80) (Go.Operand.tmp 81), type := 0, pos := "top04.go:112", after := #[{ on := 1, ground := Go.Ground.data }, { on := 2, ground := Go.Ground.data }], guard := none }) (v := ?_) rfl (by kernel_rfl) (by kernel_rfl) (by kernel_rfl) (fun _ _ _ h => h) (Or.inl ⟨by rfl, ?_⟩) (by assumption) ?_
          rotate_left
          · intro w hSw
            obtain ⟨⟨c0, c1, c2, c3, c4⟩, ⟨a0, a1, a2, a3, a4⟩, _⟩ := hSw
            try dsimp only at c0 c1 c2 c3 c4
            go_simp
            try with_reducible rfl
          try simp only [Act.put, List.setIfInBounds_toArray, List.set_cons_zero, List.set_cons_succ]
          refine wpAnyH_take (i := 4) (oi := { dst := some 83, op := Go.Op.load 30 (Go.Operand.tmp 82), type := 30, pos := "top04.go:112", after := #[{ on := 3, ground := Go.Ground.data }], guard := none }) (v := ?_) rfl (by kernel_rfl) (by kernel_rfl) (by kernel_rfl) (fun _ _ _ h => h) (Or.inl ⟨by rfl, ?_⟩) (by assumption) ?_
          rotate_left
          · intro w hSw
            obtain ⟨⟨c0, c1, c2, c3, c4⟩, ⟨a0, a1, a2, a3, a4⟩, _⟩ := hSw
            try dsimp only at c0 c1 c2 c3 c4
            go_simp
            try with_reducible rfl
          try simp only [Act.put, List.setIfInBounds_toArray, List.set_cons_zero, List.set_cons_succ]
          refine wpAnyH_ready (rs := [5, 6, 11]) (by kernel_rfl) (by simp) ?_
          refine AllReadyH.cons (o := { dst := some 84, op := Go.Op.buildSlice 22 2 #[(0, Go.Operand.tmp 79), (1, Go.Operand.tmp 83)], type := 22, pos := "top04.go:112", after := #[{ on := 0, ground := Go.Ground.data }, { on := 4, ground := Go.Ground.data }], guard := none }) rfl (fun K hK => ?_) ?_
          · go_simp
            refine hK.out _ _ ?_ (fun hHeld' => ?_)
            · exact S9.below hHeld ((Below.refl _ _).alloc (Nat.le_refl _) (.cells #[.string ⟨nm2.toArray⟩, .int .i64 bf2, .int .i64 bt2, .int .i64 df2, .int .i64 dt2, .string ⟨x.nm.toArray⟩, .int .i64 x.bf, .int .i64 x.bt, .int .i64 x.df, .int .i64 x.dt] 30))
            have HN5' := Lib.hid (nts2 W0 ⟨nm2, bf2, bt2, df2, dt2⟩ x)
            obtain ⟨g5, hg5⟩ : ∃ g, W0.heap.size = g := ⟨_, rfl⟩
            rw [hg5] at HN5' ⊢
            clear hK K hHeld hg5
            have hHeld := hHeld'
            have HN5 := HN5'
            clear HN5'
            clear hHeld'
            try simp only [Act.put, List.setIfInBounds_toArray, List.set_cons_zero, List.set_cons_succ]
            generalize W0.alloc (.cells #[.string ⟨nm2.toArray⟩, .int .i64 bf2, .int .i64 bt2, .int .i64 df2, .int .i64 dt2, .string ⟨x.nm.toArray⟩, .int .i64 x.bf, .int .i64 x.bt, .int .i64 x.df, .int .i64 x.dt] 30) = W1 at *
            refine wpAnyH_ready (rs := [6, 11]) (by kernel_rfl) (by simp) ?_
            refine AllReadyH.cons (o := { dst := some 85, op := Go.Op.buildSlice 25 2 #[(0, Go.Operand.const (Go.Value.int Go.IntKind.i64 0)), (1, Go.Operand.const (Go.Value.int Go.IntKind.i64 1))], type := 25, pos := "top04.go:112", after := #[], guard := none }) rfl (fun K hK => ?_) ?_
            · go_simp
              refine hK.out _ _ ?_ (fun hHeld' => ?_)
              · exact S9.below hHeld ((Below.refl _ _).alloc (Nat.le_refl _) (.cells #[.int .i64 0, .int .i64 1] 3))
              have HN5' := Lib.hid (HN5.out.below ((Below.refl _ W1).alloc (Nat.le_refl _) (.cells #[.int .i64 0, .int .i64 1] 3)))
              have HI6' := Lib.hid (i6new W1)
              obtain ⟨g6, hg6⟩ : ∃ g, W1.heap.size = g := ⟨_, rfl⟩
              rw [hg6] at HI6' ⊢
              clear hK K hHeld hg6
              have hHeld := hHeld'
              clear HN5
              have HN5 := HN5'
              clear HN5'
              have HI6 := HI6'
              clear HI6'
              clear hHeld'
              try simp only [Act.put, List.setIfInBounds_toArray, List.set_cons_zero, List.set_cons_succ]
              generalize W1.alloc (.cells #[.int .i64 0, .int .i64 1] 3) = W2 at *
              refine wpAnyH_ready (rs := [7, 11]) (by kernel_rfl) (by simp) ?_
              refine AllReadyH.cons (o := { dst := some 86, op := Go.Op.call { callee := Go.Callee.value (Go.Operand.func 7), args := #[Go.Operand.tmp 84, Go.Operand.tmp 85], argTypes := #[22, 25] }, type := 32, pos := "top04.go:112", after := #[{ on := 5, ground := Go.Ground.data }, { on := 6, ground := Go.Ground.data }], guard := none }) rfl (fun K hK => ?_) ?_
              · go_simp
                go_at_call 7
                refine (HP3.out W2 g5 g6 HN5.out HI6.out).mono ?_
                rintro e W3 ⟨rfl, hb⟩
                go_wp2_with fail
                refine hK.out _ _ ?_ (fun hHeld' => ?_)
                · exact S9.below hHeld hb
                clear hK K hHeld hb HN5 HI6
                have hHeld := hHeld'
                clear hHeld'
                try simp only [Act.put, List.setIfInBounds_toArray, List.set_cons_zero, List.set_cons_succ]
                refine wpAnyH_take (i := 8) (oi := { dst := some 78, op := Go.Op.move (Go.Operand.tmp 86), type := 32, pos := "top04.go:112", after := #[{ on := 7, ground := Go.Ground.data }], guard := none }) (v := ?_) rfl (by kernel_rfl) (by kernel_rfl) (by kernel_rfl) (fun _ _ _ h => h) (Or.inl ⟨by rfl, ?_⟩) (by assumption) ?_
                rotate_left
                · intro w hSw
                  obtain ⟨⟨c0, c1, c2, c3, c4⟩, ⟨a0, a1, a2, a3, a4⟩, _⟩ := hSw
                  try dsimp only at c0 c1 c2 c3 c4
                  go_simp
                  try with_reducible rfl
                try simp only [Act.put, List.setIfInBounds_toArray, List.set_cons_zero, List.set_cons_succ]
                refine wpAnyH_take (i := 9) (oi := { dst := some 87, op := Go.Op.extract (Go.Operand.tmp 78) 0, type := 30, pos := "top04.go:112", after := #[{ on := 8, ground := Go.Ground.data }], guard := none }) (v := ?_) rfl (by kernel_rfl) (by kernel_rfl) (by kernel_rfl) (fun _ _ _ h => h) (Or.inl ⟨by rfl, ?_⟩) (by assumption) ?_
                rotate_left
                · intro w hSw
                  obtain ⟨⟨c0, c1, c2, c3, c4⟩, ⟨a0, a1, a2, a3, a4⟩, _⟩ := hSw
                  try dsimp only at c0 c1 c2 c3 c4
                  go_simp
                  try with_reducible rfl
                try simp only [Act.put, List.setIfInBounds_toArray, List.set_cons_zero, List.set_cons_succ]
                refine wpAnyH_take (i := 10) (oi := { dst := some 88, op := Go.Op.extract (Go.Operand.tmp 78) 1, type := 31, pos := "top04.go:112", after := #[{ on := 8, ground := Go.Ground.data }, { on := 12, ground := Go.Ground.gcOnly Go.Departure.lateStores }], guard := none }) (v := ?_) rfl (by kernel_rfl) (by kernel_rfl) (by kernel_rfl) (fun _ _ _ h => h) (Or.inl ⟨by rfl, ?_⟩) (by assumption) ?_
                rotate_left
                · intro w hSw
                  obtain ⟨⟨c0, c1, c2, c3, c4⟩, ⟨a0, a1, a2, a3, a4⟩, _⟩ := hSw
                  try dsimp only at c0 c1 c2 c3 c4
                  go_simp
                  try with_reducible rfl
                try simp only [Act.put, List.setIfInBounds_toArray, List.set_cons_zero, List.set_cons_succ]
                refine wpAnyH_ready (rs := [11]) (by kernel_rfl) (by simp) ?_
                refine AllReadyH.cons (o := { dst := some 13, op := Go.Op.alloc 30, type := 0, pos := "top04.go:112", after := #[], guard := none }) rfl (fun K hK => ?_) ?_
                · go_simp
                  refine hK.out _ _ ?_ (fun hHeld' => ?_)
                  · exact S9.below hHeld ((Below.refl _ _).alloc (Nat.le_refl _) (.cells #[.string ⟨#[]⟩, .int .i64 0, .int .i64 0, .int .i64 0, .int .i64 0] 30))
                  have HZ11' := Lib.hid (z5 W3 hHeld.size)
                  obtain ⟨g11, hg11⟩ : ∃ g, W3.heap.size = g := ⟨_, rfl⟩
                  rw [hg11] at HZ11' ⊢
                  clear hK K hHeld hg11
                  have hHeld := hHeld'
                  have HZ11 := HZ11'
                  clear HZ11'
                  clear hHeld'
                  try simp only [Act.put, List.setIfInBounds_toArray, List.set_cons_zero, List.set_cons_succ]
                  generalize W3.alloc (.cells #[.string ⟨#[]⟩, .int .i64 0, .int .i64 0, .int .i64 0, .int .i64 0] 30) = W4 at *
                  refine wpAnyH_ready (rs := [12]) (by kernel_rfl) (by simp) ?_
                  refine AllReadyH.cons (o := { dst := none, op := Go.Op.store 30 (Go.Operand.tmp 13) (Go.Operand.tmp 87), type := 0, pos := "top04.go:112", after := #[{ on := 11, ground := Go.Ground.data }, { on := 9, ground := Go.Ground.data }, { on := 7, ground := Go.Ground.chain }, { on := 0, ground := Go.Ground.phase }, { on := 1, ground := Go.Ground.phase }, { on := 2, ground := Go.Ground.phase }, { on := 3, ground := Go.Ground.phase }, { on := 4, ground := Go.Ground.phase }, { on := 5, ground := Go.Ground.phase }, { on := 6, ground := Go.Ground.phase }, { on := 7, ground := Go.Ground.phase }, { on := 8, ground := Go.Ground.phase }, { on := 9, ground := Go.Ground.phase }, { on := 10, ground := Go.Ground.textOnly Go.Departure.lateStores }, { on := 11, ground := Go.Ground.phase }], guard := none }) rfl (fun K hK => ?_) ?_
                  · obtain ⟨pl, ⟨p0, p1, p2, p3, p4⟩, f0, f1, f2, f3, f4⟩ := HZ11.out.2
                    have hge := HZ11.out.1
                    go_simp
                    refine hK.out _ _ ?_ (fun hHeld' => ?_)
                    · exact S9.set5 HQ9.out HX9.out hHeld hge _ _ _ _ _
                    have HF := Lib.hid (P5.set5 HZ11.out.2 ⟨nm1, bf1, bt1, df1, dt1⟩)
                    clear hK K hHeld p0 p1 p2 p3 p4 f0 f1 f2 f3 f4 pl hge HZ11
                    have hHeld := hHeld'
                    clear hHeld'
                    try simp only [Act.put, List.setIfInBounds_toArray, List.set_cons_zero, List.set_cons_succ]
                    refine wpAnyH_take (i := 13) (oi := { dst := some 14, op := Go.Op.assign (Go.Operand.tmp 88), type := 31, pos := "top04.go:112", after := #[{ on := 10, ground := Go.Ground.data }, { on := 12, ground := Go.Ground.chain }, { on := 0, ground := Go.Ground.phase }, { on := 1, ground := Go.Ground.phase }, { on := 2, ground := Go.Ground.phase }, { on := 3, ground := Go.Ground.phase }, { on := 4, ground := Go.Ground.phase }, { on := 5, ground := Go.Ground.phase }, { on := 6, ground := Go.Ground.phase }, { on := 7, ground := Go.Ground.phase }, { on := 8, ground := Go.Ground.phase }, { on := 9, ground := Go.Ground.phase }, { on := 10, ground := Go.Ground.phase }, { on := 11, ground := Go.Ground.phase }, { on := 12, ground := Go.Ground.phase }], guard := none }) (v := ?_) rfl (by kernel_rfl) (by kernel_rfl) (by kernel_rfl) (fun _ _ _ h => h) (Or.inl ⟨by rfl, ?_⟩) (by assumption) ?_
                    rotate_left
                    · intro w hSw
                      obtain ⟨⟨c0, c1, c2, c3, c4⟩, ⟨a0, a1, a2, a3, a4⟩, _⟩ := hSw
                      try dsimp only at c0 c1 c2 c3 c4
                      go_simp
                      try with_reducible rfl
                    try simp only [Act.put, List.setIfInBounds_toArray, List.set_cons_zero, List.set_cons_succ]
                    refine wpAnyH_done (by kernel_rfl) ?_ _
                    go_wp2_with fail
                    go_meet
                    exact ⟨_, rfl, rfl, HF, hHeld.2.2⟩
                  exact AllReadyH.nil
                exact AllReadyH.nil
              refine AllReadyH.cons (o := { dst := some 13, op := Go.Op.alloc 30, type := 0, pos := "top04.go:112", after := #[], guard := none }) rfl (fun K hK => ?_) ?_
              · go_simp
                refine hK.out _ _ ?_ (fun hHeld' => ?_)
                · exact S9.below hHeld ((Below.refl _ _).alloc (Nat.le_refl _) (.cells #[.string ⟨#[]⟩, .int .i64 0, .int .i64 0, .int .i64 0, .int .i64 0] 30))
                have HN5' := Lib.hid (HN5.out.below ((Below.refl _ W2).alloc (Nat.le_refl _) (.cells #[.string ⟨#[]⟩, .int .i64 0, .int .i64 0, .int .i64 0, .int .i64 0] 30)))
                have HI6' := Lib.hid (HI6.out.below ((Below.refl _ W2).alloc (Nat.le_refl _) (.cells #[.string ⟨#[]⟩, .int .i64 0, .int .i64 0, .int .i64 0, .int .i64 0] 30)))
                have HZ11' := Lib.hid (z5 W2 hHeld.size)
                obtain ⟨g11, hg11⟩ : ∃ g, W2.heap.size = g := ⟨_, rfl⟩
                rw [hg11] at HZ11' ⊢
                clear hK K hHeld hg11
                have hHeld := hHeld'
                clear HN5
                have HN5 := HN5'
                clear HN5'
                clear HI6
                have HI6 := HI6'
                clear HI6'
                have HZ11 := HZ11'
                clear HZ11'
                clear hHeld'
                try simp only [Act.put, List.setIfInBounds_toArray, List.set_cons_zero, List.set_cons_succ]
                generalize W2.alloc (.cells #[.string ⟨#[]⟩, .int .i64 0, .int .i64 0, .int .i64 0, .int .i64 0] 30) = W3 at *
                refine wpAnyH_ready (rs := [7]) (by kernel_rfl) (by simp) ?_
                refine AllReadyH.cons (o := { dst := some 86, op := Go.Op.call { callee := Go.Callee.value (Go.Operand.func 7), args := #[Go.Operand.tmp 84, Go.Operand.tmp 85], argTypes := #[22, 25] }, type := 32, pos := "top04.go:112", after := #[{ on := 5, ground := Go.Ground.data }, { on := 6, ground := Go.Ground.data }], guard := none }) rfl (fun K hK => ?_) ?_
                · go_simp
                  go_at_call 7
                  refine (HP3.out W3 g5 g6 HN5.out HI6.out).mono ?_
                  rintro e W4 ⟨rfl, hb⟩
                  go_wp2_with fail
                  refine hK.out _ _ ?_ (fun hHeld' => ?_)
                  · exact S9.below hHeld hb
                  have HZ11' := Lib.hid (HZ11.out.below hb)
                  clear HZ11
                  have HZ11 := HZ11'
                  clear HZ11'
                  clear hK K hHeld hb HN5 HI6
                  have hHeld := hHeld'
                  clear hHeld'
                  try simp only [Act.put, List.setIfInBounds_toArray, List.set_cons_zero, List.set_cons_succ]
                  refine wpAnyH_take (i := 8) (oi := { dst := some 78, op := Go.Op.move (Go.Operand.tmp 86), type := 32, pos := "top04.go:112", after := #[{ on := 7, ground := Go.Ground.data }], guard := none }) (v := ?_) rfl (by kernel_rfl) (by kernel_rfl) (by kernel_rfl) (fun _ _ _ h => h) (Or.inl ⟨by rfl, ?_⟩) (by assumption) ?_
                  rotate_left
                  · intro w hSw
                    obtain ⟨⟨c0, c1, c2, c3, c4⟩, ⟨a0, a1, a2, a3, a4⟩, _⟩ := hSw
                    try dsimp only at c0 c1 c2 c3 c4
                    go_simp
                    try with_reducible rfl
                  try simp only [Act.put, List.setIfInBounds_toArray, List.set_cons_zero, List.set_cons_succ]
                  refine wpAnyH_take (i := 9) (oi := { dst := some 87, op := Go.Op.extract (Go.Operand.tmp 78) 0, type := 30, pos := "top04.go:112", after := #[{ on := 8, ground := Go.Ground.data }], guard := none }) (v := ?_) rfl (by kernel_rfl) (by kernel_rfl) (by kernel_rfl) (fun _ _ _ h => h) (Or.inl ⟨by rfl, ?_⟩) (by assumption) ?_
                  rotate_left
                  · intro w hSw
                    obtain ⟨⟨c0, c1, c2, c3, c4⟩, ⟨a0, a1, a2, a3, a4⟩, _⟩ := hSw
                    try dsimp only at c0 c1 c2 c3 c4
                    go_simp
                    try with_reducible rfl
                  try simp only [Act.put, List.setIfInBounds_toArray, List.set_cons_zero, List.set_cons_succ]
                  refine wpAnyH_take (i := 10) (oi := { dst := some 88, op := Go.Op.extract (Go.Operand.tmp 78) 1, type := 31, pos := "top04.go:112", after := #[{ on := 8, ground := Go.Ground.data }, { on := 12, ground := Go.Ground.gcOnly Go.Departure.lateStores }], guard := none }) (v := ?_) rfl (by kernel_rfl) (by kernel_rfl) (by kernel_rfl) (fun _ _ _ h => h) (Or.inl ⟨by rfl, ?_⟩) (by assumption) ?_
                  rotate_left
                  · intro w hSw
                    obtain ⟨⟨c0, c1, c2, c3, c4⟩, ⟨a0, a1, a2, a3, a4⟩, _⟩ := hSw
                    try dsimp only at c0 c1 c2 c3 c4
                    go_simp
                    try with_reducible rfl
                  try simp only [Act.put, List.setIfInBounds_toArray, List.set_cons_zero, List.set_cons_succ]
                  refine wpAnyH_ready (rs := [12]) (by kernel_rfl) (by simp) ?_
                  refine AllReadyH.cons (o := { dst := none, op := Go.Op.store 30 (Go.Operand.tmp 13) (Go.Operand.tmp 87), type := 0, pos := "top04.go:112", after := #[{ on := 11, ground := Go.Ground.data }, { on := 9, ground := Go.Ground.data }, { on := 7, ground := Go.Ground.chain }, { on := 0, ground := Go.Ground.phase }, { on := 1, ground := Go.Ground.phase }, { on := 2, ground := Go.Ground.phase }, { on := 3, ground := Go.Ground.phase }, { on := 4, ground := Go.Ground.phase }, { on := 5, ground := Go.Ground.phase }, { on := 6, ground := Go.Ground.phase }, { on := 7, ground := Go.Ground.phase }, { on := 8, ground := Go.Ground.phase }, { on := 9, ground := Go.Ground.phase }, { on := 10, ground := Go.Ground.textOnly Go.Departure.lateStores }, { on := 11, ground := Go.Ground.phase }], guard := none }) rfl (fun K hK => ?_) ?_
                  · obtain ⟨pl, ⟨p0, p1, p2, p3, p4⟩, f0, f1, f2, f3, f4⟩ := HZ11.out.2
                    have hge := HZ11.out.1
                    go_simp
                    refine hK.out _ _ ?_ (fun hHeld' => ?_)
                    · exact S9.set5 HQ9.out HX9.out hHeld hge _ _ _ _ _
                    have HF := Lib.hid (P5.set5 HZ11.out.2 ⟨nm1, bf1, bt1, df1, dt1⟩)
                    clear hK K hHeld p0 p1 p2 p3 p4 f0 f1 f2 f3 f4 pl hge HZ11
                    have hHeld := hHeld'
                    clear hHeld'
                    try simp only [Act.put, List.setIfInBounds_toArray, List.set_cons_zero, List.set_cons_succ]
                    refine wpAnyH_take (i := 13) (oi := { dst := some 14, op := Go.Op.assign (Go.Operand.tmp 88), type := 31, pos := "top04.go:112", after := #[{ on := 10, ground := Go.Ground.data }, { on := 12, ground := Go.Ground.chain }, { on := 0, ground := Go.Ground.phase }, { on := 1, ground := Go.Ground.phase }, { on := 2, ground := Go.Ground.phase }, { on := 3, ground := Go.Ground.phase }, { on := 4, ground := Go.Ground.phase }, { on := 5, ground := Go.Ground.phase }, { on := 6, ground := Go.Ground.phase }, { on := 7, ground := Go.Ground.phase }, { on := 8, ground := Go.Ground.phase }, { on := 9, ground := Go.Ground.phase }, { on := 10, ground := Go.Ground.phase }, { on := 11, ground := Go.Ground.phase }, { on := 12, ground := Go.Ground.phase }], guard := none }) (v := ?_) rfl (by kernel_rfl) (by kernel_rfl) (by kernel_rfl) (fun _ _ _ h => h) (Or.inl ⟨by rfl, ?_⟩) (by assumption) ?_
                    rotate_left
                    · intro w hSw
                      obtain ⟨⟨c0, c1, c2, c3, c4⟩, ⟨a0, a1, a2, a3, a4⟩, _⟩ := hSw
                      try dsimp only at c0 c1 c2 c3 c4
                      go_simp
                      try with_reducible rfl
                    try simp only [Act.put, List.setIfInBounds_toArray, List.set_cons_zero, List.set_cons_succ]
                    refine wpAnyH_done (by kernel_rfl) ?_ _
                    go_wp2_with fail
                    go_meet
                    exact ⟨_, rfl, rfl, HF, hHeld.2.2⟩
                  exact AllReadyH.nil
                exact AllReadyH.nil
              exact AllReadyH.nil
            refine AllReadyH.cons (o := { dst := some 13, op := Go.Op.alloc 30, type := 0, pos := "top04.go:112", after := #[], guard := none }) rfl (fun K hK => ?_) ?_
            · go_simp
              refine hK.out _ _ ?_ (fun hHeld' => ?_)
              · exact S9.below hHeld ((Below.refl _ _).alloc (Nat.le_refl _) (.cells #[.string ⟨#[]⟩, .int .i64 0, .int .i64 0, .int .i64 0, .int .i64 0] 30))
              have HN5' := Lib.hid (HN5.out.below ((Below.refl _ W1).alloc (Nat.le_refl _) (.cells #[.string ⟨#[]⟩, .int .i64 0, .int .i64 0, .int .i64 0, .int .i64 0] 30)))
              have HZ11' := Lib.hid (z5 W1 hHeld.size)
              obtain ⟨g11, hg11⟩ : ∃ g, W1.heap.size = g := ⟨_, rfl⟩
              rw [hg11] at HZ11' ⊢
              clear hK K hHeld hg11
              have hHeld := hHeld'
              clear HN5
              have HN5 := HN5'
              clear HN5'
              have HZ11 := HZ11'
              clear HZ11'
              clear hHeld'
              try simp only [Act.put, List.setIfInBounds_toArray, List.set_cons_zero, List.set_cons_succ]
              generalize W1.alloc (.cells #[.string ⟨#[]⟩, .int .i64 0, .int .i64 0, .int .i64 0, .int .i64 0] 30) = W2 at *
              refine wpAnyH_ready (rs := [6]) (by kernel_rfl) (by simp) ?_
              refine AllReadyH.cons (o := { dst := some 85, op := Go.Op.buildSlice 25 2 #[(0, Go.Operand.const (Go.Value.int Go.IntKind.i64 0)), (1, Go.Operand.const (Go.Value.int Go.IntKind.i64 1))], type := 25, pos := "top04.go:112", after := #[], guard := none }) rfl (fun K hK => ?_) ?_
              · go_simp
                refine hK.out _ _ ?_ (fun hHeld' => ?_)
                · exact S9.below hHeld ((Below.refl _ _).alloc (Nat.le_refl _) (.cells #[.int .i64 0, .int .i64 1] 3))
                have HN5' := Lib.hid (HN5.out.below ((Below.refl _ W2).alloc (Nat.le_refl _) (.cells #[.int .i64 0, .int .i64 1] 3)))
                have HZ11' := Lib.hid (HZ11.out.below ((Below.refl _ W2).alloc (Nat.le_refl _) (.cells #[.int .i64 0, .int .i64 1] 3)))
                have HI6' := Lib.hid (i6new W2)
                obtain ⟨g6, hg6⟩ : ∃ g, W2.heap.size = g := ⟨_, rfl⟩
                rw [hg6] at HI6' ⊢
                clear hK K hHeld hg6
                have hHeld := hHeld'
                clear HN5
                have HN5 := HN5'
                clear HN5'
                have HI6 := HI6'
                clear HI6'
                clear HZ11
                have HZ11 := HZ11'
                clear HZ11'
                clear hHeld'
                try simp only [Act.put, List.setIfInBounds_toArray, List.set_cons_zero, List.set_cons_succ]
                generalize W2.alloc (.cells #[.int .i64 0, .int .i64 1] 3) = W3 at *
                refine wpAnyH_ready (rs := [7]) (by kernel_rfl) (by simp) ?_
                refine AllReadyH.cons (o := { dst := some 86, op := Go.Op.call { callee := Go.Callee.value (Go.Operand.func 7), args := #[Go.Operand.tmp 84, Go.Operand.tmp 85], argTypes := #[22, 25] }, type := 32, pos := "top04.go:112", after := #[{ on := 5, ground := Go.Ground.data }, { on := 6, ground := Go.Ground.data }], guard := none }) rfl (fun K hK => ?_) ?_
                · go_simp
                  go_at_call 7
                  refine (HP3.out W3 g5 g6 HN5.out HI6.out).mono ?_
                  rintro e W4 ⟨rfl, hb⟩
                  go_wp2_with fail
                  refine hK.out _ _ ?_ (fun hHeld' => ?_)
                  · exact S9.below hHeld hb
                  have HZ11' := Lib.hid (HZ11.out.below hb)
                  clear HZ11
                  have HZ11 := HZ11'
                  clear HZ11'
                  clear hK K hHeld hb HN5 HI6
                  have hHeld := hHeld'
                  clear hHeld'
                  try simp only [Act.put, List.setIfInBounds_toArray, List.set_cons_zero, List.set_cons_succ]
                  refine wpAnyH_take (i := 8) (oi := { dst := some 78, op := Go.Op.move (Go.Operand.tmp 86), type := 32, pos := "top04.go:112", after := #[{ on := 7, ground := Go.Ground.data }], guard := none }) (v := ?_) rfl (by kernel_rfl) (by kernel_rfl) (by kernel_rfl) (fun _ _ _ h => h) (Or.inl ⟨by rfl, ?_⟩) (by assumption) ?_
                  rotate_left
                  · intro w hSw
                    obtain ⟨⟨c0, c1, c2, c3, c4⟩, ⟨a0, a1, a2, a3, a4⟩, _⟩ := hSw
                    try dsimp only at c0 c1 c2 c3 c4
                    go_simp
                    try with_reducible rfl
                  try simp only [Act.put, List.setIfInBounds_toArray, List.set_cons_zero, List.set_cons_succ]
                  refine wpAnyH_take (i := 9) (oi := { dst := some 87, op := Go.Op.extract (Go.Operand.tmp 78) 0, type := 30, pos := "top04.go:112", after := #[{ on := 8, ground := Go.Ground.data }], guard := none }) (v := ?_) rfl (by kernel_rfl) (by kernel_rfl) (by kernel_rfl) (fun _ _ _ h => h) (Or.inl ⟨by rfl, ?_⟩) (by assumption) ?_
                  rotate_left
                  · intro w hSw
                    obtain ⟨⟨c0, c1, c2, c3, c4⟩, ⟨a0, a1, a2, a3, a4⟩, _⟩ := hSw
                    try dsimp only at c0 c1 c2 c3 c4
                    go_simp
                    try with_reducible rfl
                  try simp only [Act.put, List.setIfInBounds_toArray, List.set_cons_zero, List.set_cons_succ]
                  refine wpAnyH_take (i := 10) (oi := { dst := some 88, op := Go.Op.extract (Go.Operand.tmp 78) 1, type := 31, pos := "top04.go:112", after := #[{ on := 8, ground := Go.Ground.data }, { on := 12, ground := Go.Ground.gcOnly Go.Departure.lateStores }], guard := none }) (v := ?_) rfl (by kernel_rfl) (by kernel_rfl) (by kernel_rfl) (fun _ _ _ h => h) (Or.inl ⟨by rfl, ?_⟩) (by assumption) ?_
                  rotate_left
                  · intro w hSw
                    obtain ⟨⟨c0, c1, c2, c3, c4⟩, ⟨a0, a1, a2, a3, a4⟩, _⟩ := hSw
                    try dsimp only at c0 c1 c2 c3 c4
                    go_simp
                    try with_reducible rfl
                  try simp only [Act.put, List.setIfInBounds_toArray, List.set_cons_zero, List.set_cons_succ]
                  refine wpAnyH_ready (rs := [12]) (by kernel_rfl) (by simp) ?_
                  refine AllReadyH.cons (o := { dst := none, op := Go.Op.store 30 (Go.Operand.tmp 13) (Go.Operand.tmp 87), type := 0, pos := "top04.go:112", after := #[{ on := 11, ground := Go.Ground.data }, { on := 9, ground := Go.Ground.data }, { on := 7, ground := Go.Ground.chain }, { on := 0, ground := Go.Ground.phase }, { on := 1, ground := Go.Ground.phase }, { on := 2, ground := Go.Ground.phase }, { on := 3, ground := Go.Ground.phase }, { on := 4, ground := Go.Ground.phase }, { on := 5, ground := Go.Ground.phase }, { on := 6, ground := Go.Ground.phase }, { on := 7, ground := Go.Ground.phase }, { on := 8, ground := Go.Ground.phase }, { on := 9, ground := Go.Ground.phase }, { on := 10, ground := Go.Ground.textOnly Go.Departure.lateStores }, { on := 11, ground := Go.Ground.phase }], guard := none }) rfl (fun K hK => ?_) ?_
                  · obtain ⟨pl, ⟨p0, p1, p2, p3, p4⟩, f0, f1, f2, f3, f4⟩ := HZ11.out.2
                    have hge := HZ11.out.1
                    go_simp
                    refine hK.out _ _ ?_ (fun hHeld' => ?_)
                    · exact S9.set5 HQ9.out HX9.out hHeld hge _ _ _ _ _
                    have HF := Lib.hid (P5.set5 HZ11.out.2 ⟨nm1, bf1, bt1, df1, dt1⟩)
                    clear hK K hHeld p0 p1 p2 p3 p4 f0 f1 f2 f3 f4 pl hge HZ11
                    have hHeld := hHeld'
                    clear hHeld'
                    try simp only [Act.put, List.setIfInBounds_toArray, List.set_cons_zero, List.set_cons_succ]
                    refine wpAnyH_take (i := 13) (oi := { dst := some 14, op := Go.Op.assign (Go.Operand.tmp 88), type := 31, pos := "top04.go:112", after := #[{ on := 10, ground := Go.Ground.data }, { on := 12, ground := Go.Ground.chain }, { on := 0, ground := Go.Ground.phase }, { on := 1, ground := Go.Ground.phase }, { on := 2, ground := Go.Ground.phase }, { on := 3, ground := Go.Ground.phase }, { on := 4, ground := Go.Ground.phase }, { on := 5, ground := Go.Ground.phase }, { on := 6, ground := Go.Ground.phase }, { on := 7, ground := Go.Ground.phase }, { on := 8, ground := Go.Ground.phase }, { on := 9, ground := Go.Ground.phase }, { on := 10, ground := Go.Ground.phase }, { on := 11, ground := Go.Ground.phase }, { on := 12, ground := Go.Ground.phase }], guard := none }) (v := ?_) rfl (by kernel_rfl) (by kernel_rfl) (by kernel_rfl) (fun _ _ _ h => h) (Or.inl ⟨by rfl, ?_⟩) (by assumption) ?_
                    rotate_left
                    · intro w hSw
                      obtain ⟨⟨c0, c1, c2, c3, c4⟩, ⟨a0, a1, a2, a3, a4⟩, _⟩ := hSw
                      try dsimp only at c0 c1 c2 c3 c4
                      go_simp
                      try with_reducible rfl
                    try simp only [Act.put, List.setIfInBounds_toArray, List.set_cons_zero, List.set_cons_succ]
                    refine wpAnyH_done (by kernel_rfl) ?_ _
                    go_wp2_with fail
                    go_meet
                    exact ⟨_, rfl, rfl, HF, hHeld.2.2⟩
                  exact AllReadyH.nil
                exact AllReadyH.nil
              exact AllReadyH.nil
            exact AllReadyH.nil
          refine AllReadyH.cons (o := { dst := some 85, op := Go.Op.buildSlice 25 2 #[(0, Go.Operand.const (Go.Value.int Go.IntKind.i64 0)), (1, Go.Operand.const (Go.Value.int Go.IntKind.i64 1))], type := 25, pos := "top04.go:112", after := #[], guard := none }) rfl (fun K hK => ?_) ?_
          · go_simp
            refine hK.out _ _ ?_ (fun hHeld' => ?_)
            · exact S9.below hHeld ((Below.refl _ _).alloc (Nat.le_refl _) (.cells #[.int .i64 0, .int .i64 1] 3))
            have HI6' := Lib.hid (i6new W0)
            obtain ⟨g6, hg6⟩ : ∃ g, W0.heap.size = g := ⟨_, rfl⟩
            rw [hg6] at HI6' ⊢
            clear hK K hHeld hg6
            have hHeld := hHeld'
            have HI6 := HI6'
            clear HI6'
            clear hHeld'
            try simp only [Act.put, List.setIfInBounds_toArray, List.set_cons_zero, List.set_cons_succ]
            generalize W0.alloc (.cells #[.int .i64 0, .int .i64 1] 3) = W1 at *
            refine wpAnyH_ready (rs := [5, 11]) (by kernel_rfl) (by simp) ?_
            refine AllReadyH.cons (o := { dst := some 84, op := Go.Op.buildSlice 22 2 #[(0, Go.Operand.tmp 79), (1, Go.Operand.tmp 83)], type := 22, pos := "top04.go:112", after := #[{ on := 0, ground := Go.Ground.data }, { on := 4, ground := Go.Ground.data }], guard := none }) rfl (fun K hK => ?_) ?_
            · go_simp
              refine hK.out _ _ ?_ (fun hHeld' => ?_)
              · exact S9.below hHeld ((Below.refl _ _).alloc (Nat.le_refl _) (.cells #[.string ⟨nm2.toArray⟩, .int .i64 bf2, .int .i64 bt2, .int .i64 df2, .int .i64 dt2, .string ⟨x.nm.toArray⟩, .int .i64 x.bf, .int .i64 x.bt, .int .i64 x.df, .int .i64 x.dt] 30))
              have HI6' := Lib.hid (HI6.out.below ((Below.refl _ W1).alloc (Nat.le_refl _) (.cells #[.string ⟨nm2.toArray⟩, .int .i64 bf2, .int .i64 bt2, .int .i64 df2, .int .i64 dt2, .string ⟨x.nm.toArray⟩, .int .i64 x.bf, .int .i64 x.bt, .int .i64 x.df, .int .i64 x.dt] 30)))
              have HN5' := Lib.hid (nts2 W1 ⟨nm2, bf2, bt2, df2, dt2⟩ x)
              obtain ⟨g5, hg5⟩ : ∃ g, W1.heap.size = g := ⟨_, rfl⟩
              rw [hg5] at HN5' ⊢
              clear hK K hHeld hg5
              have hHeld := hHeld'
              have HN5 := HN5'
              clear HN5'
              clear HI6
              have HI6 := HI6'
              clear HI6'
              clear hHeld'
              try simp only [Act.put, List.setIfInBounds_toArray, List.set_cons_zero, List.set_cons_succ]
              generalize W1.alloc (.cells #[.string ⟨nm2.toArray⟩, .int .i64 bf2, .int .i64 bt2, .int .i64 df2, .int .i64 dt2, .string ⟨x.nm.toArray⟩, .int .i64 x.bf, .int .i64 x.bt, .int .i64 x.df, .int .i64 x.dt] 30) = W2 at *
              refine wpAnyH_ready (rs := [7, 11]) (by kernel_rfl) (by simp) ?_
              refine AllReadyH.cons (o := { dst := some 86, op := Go.Op.call { callee := Go.Callee.value (Go.Operand.func 7), args := #[Go.Operand.tmp 84, Go.Operand.tmp 85], argTypes := #[22, 25] }, type := 32, pos := "top04.go:112", after := #[{ on := 5, ground := Go.Ground.data }, { on := 6, ground := Go.Ground.data }], guard := none }) rfl (fun K hK => ?_) ?_
              · go_simp
                go_at_call 7
                refine (HP3.out W2 g5 g6 HN5.out HI6.out).mono ?_
                rintro e W3 ⟨rfl, hb⟩
                go_wp2_with fail
                refine hK.out _ _ ?_ (fun hHeld' => ?_)
                · exact S9.below hHeld hb
                clear hK K hHeld hb HN5 HI6
                have hHeld := hHeld'
                clear hHeld'
                try simp only [Act.put, List.setIfInBounds_toArray, List.set_cons_zero, List.set_cons_succ]
                refine wpAnyH_take (i := 8) (oi := { dst := some 78, op := Go.Op.move (Go.Operand.tmp 86), type := 32, pos := "top04.go:112", after := #[{ on := 7, ground := Go.Ground.data }], guard := none }) (v := ?_) rfl (by kernel_rfl) (by kernel_rfl) (by kernel_rfl) (fun _ _ _ h => h) (Or.inl ⟨by rfl, ?_⟩) (by assumption) ?_
                rotate_left
                · intro w hSw
                  obtain ⟨⟨c0, c1, c2, c3, c4⟩, ⟨a0, a1, a2, a3, a4⟩, _⟩ := hSw
                  try dsimp only at c0 c1 c2 c3 c4
                  go_simp
                  try with_reducible rfl
                try simp only [Act.put, List.setIfInBounds_toArray, List.set_cons_zero, List.set_cons_succ]
                refine wpAnyH_take (i := 9) (oi := { dst := some 87, op := Go.Op.extract (Go.Operand.tmp 78) 0, type := 30, pos := "top04.go:112", after := #[{ on := 8, ground := Go.Ground.data }], guard := none }) (v := ?_) rfl (by kernel_rfl) (by kernel_rfl) (by kernel_rfl) (fun _ _ _ h => h) (Or.inl ⟨by rfl, ?_⟩) (by assumption) ?_
                rotate_left
                · intro w hSw
                  obtain ⟨⟨c0, c1, c2, c3, c4⟩, ⟨a0, a1, a2, a3, a4⟩, _⟩ := hSw
                  try dsimp only at c0 c1 c2 c3 c4
                  go_simp
                  try with_reducible rfl
                try simp only [Act.put, List.setIfInBounds_toArray, List.set_cons_zero, List.set_cons_succ]
                refine wpAnyH_take (i := 10) (oi := { dst := some 88, op := Go.Op.extract (Go.Operand.tmp 78) 1, type := 31, pos := "top04.go:112", after := #[{ on := 8, ground := Go.Ground.data }, { on := 12, ground := Go.Ground.gcOnly Go.Departure.lateStores }], guard := none }) (v := ?_) rfl (by kernel_rfl) (by kernel_rfl) (by kernel_rfl) (fun _ _ _ h => h) (Or.inl ⟨by rfl, ?_⟩) (by assumption) ?_
                rotate_left
                · intro w hSw
                  obtain ⟨⟨c0, c1, c2, c3, c4⟩, ⟨a0, a1, a2, a3, a4⟩, _⟩ := hSw
                  try dsimp only at c0 c1 c2 c3 c4
                  go_simp
                  try with_reducible rfl
                try simp only [Act.put, List.setIfInBounds_toArray, List.set_cons_zero, List.set_cons_succ]
                refine wpAnyH_ready (rs := [11]) (by kernel_rfl) (by simp) ?_
                refine AllReadyH.cons (o := { dst := some 13, op := Go.Op.alloc 30, type := 0, pos := "top04.go:112", after := #[], guard := none }) rfl (fun K hK => ?_) ?_
                · go_simp
                  refine hK.out _ _ ?_ (fun hHeld' => ?_)
                  · exact S9.below hHeld ((Below.refl _ _).alloc (Nat.le_refl _) (.cells #[.string ⟨#[]⟩, .int .i64 0, .int .i64 0, .int .i64 0, .int .i64 0] 30))
                  have HZ11' := Lib.hid (z5 W3 hHeld.size)
                  obtain ⟨g11, hg11⟩ : ∃ g, W3.heap.size = g := ⟨_, rfl⟩
                  rw [hg11] at HZ11' ⊢
                  clear hK K hHeld hg11
                  have hHeld := hHeld'
                  have HZ11 := HZ11'
                  clear HZ11'
                  clear hHeld'
                  try simp only [Act.put, List.setIfInBounds_toArray, List.set_cons_zero, List.set_cons_succ]
                  generalize W3.alloc (.cells #[.string ⟨#[]⟩, .int .i64 0, .int .i64 0, .int .i64 0, .int .i64 0] 30) = W4 at *
                  refine wpAnyH_ready (rs := [12]) (by kernel_rfl) (by simp) ?_
                  refine AllReadyH.cons (o := { dst := none, op := Go.Op.store 30 (Go.Operand.tmp 13) (Go.Operand.tmp 87), type := 0, pos := "top04.go:112", after := #[{ on := 11, ground := Go.Ground.data }, { on := 9, ground := Go.Ground.data }, { on := 7, ground := Go.Ground.chain }, { on := 0, ground := Go.Ground.phase }, { on := 1, ground := Go.Ground.phase }, { on := 2, ground := Go.Ground.phase }, { on := 3, ground := Go.Ground.phase }, { on := 4, ground := Go.Ground.phase }, { on := 5, ground := Go.Ground.phase }, { on := 6, ground := Go.Ground.phase }, { on := 7, ground := Go.Ground.phase }, { on := 8, ground := Go.Ground.phase }, { on := 9, ground := Go.Ground.phase }, { on := 10, ground := Go.Ground.textOnly Go.Departure.lateStores }, { on := 11, ground := Go.Ground.phase }], guard := none }) rfl (fun K hK => ?_) ?_
                  · obtain ⟨pl, ⟨p0, p1, p2, p3, p4⟩, f0, f1, f2, f3, f4⟩ := HZ11.out.2
                    have hge := HZ11.out.1
                    go_simp
                    refine hK.out _ _ ?_ (fun hHeld' => ?_)
                    · exact S9.set5 HQ9.out HX9.out hHeld hge _ _ _ _ _
                    have HF := Lib.hid (P5.set5 HZ11.out.2 ⟨nm1, bf1, bt1, df1, dt1⟩)
                    clear hK K hHeld p0 p1 p2 p3 p4 f0 f1 f2 f3 f4 pl hge HZ11
                    have hHeld := hHeld'
                    clear hHeld'
                    try simp only [Act.put, List.setIfInBounds_toArray, List.set_cons_zero, List.set_cons_succ]
                    refine wpAnyH_take (i := 13) (oi := { dst := some 14, op := Go.Op.assign (Go.Operand.tmp 88), type := 31, pos := "top04.go:112", after := #[{ on := 10, ground := Go.Ground.data }, { on := 12, ground := Go.Ground.chain }, { on := 0, ground := Go.Ground.phase }, { on := 1, ground := Go.Ground.phase }, { on := 2, ground := Go.Ground.phase }, { on := 3, ground := Go.Ground.phase }, { on := 4, ground := Go.Ground.phase }, { on := 5, ground := Go.Ground.phase }, { on := 6, ground := Go.Ground.phase }, { on := 7, ground := Go.Ground.phase }, { on := 8, ground := Go.Ground.phase }, { on := 9, ground := Go.Ground.phase }, { on := 10, ground := Go.Ground.phase }, { on := 11, ground := Go.Ground.phase }, { on := 12, ground := Go.Ground.phase }], guard := none }) (v := ?_) rfl (by kernel_rfl) (by kernel_rfl) (by kernel_rfl) (fun _ _ _ h => h) (Or.inl ⟨by rfl, ?_⟩) (by assumption) ?_
                    rotate_left
                    · intro w hSw
                      obtain ⟨⟨c0, c1, c2, c3, c4⟩, ⟨a0, a1, a2, a3, a4⟩, _⟩ := hSw
                      try dsimp only at c0 c1 c2 c3 c4
                      go_simp
                      try with_reducible rfl
                    try simp only [Act.put, List.setIfInBounds_toArray, List.set_cons_zero, List.set_cons_succ]
                    refine wpAnyH_done (by kernel_rfl) ?_ _
                    go_wp2_with fail
                    go_meet
                    exact ⟨_, rfl, rfl, HF, hHeld.2.2⟩
                  exact AllReadyH.nil
                exact AllReadyH.nil
              refine AllReadyH.cons (o := { dst := some 13, op := Go.Op.alloc 30, type := 0, pos := "top04.go:112", after := #[], guard := none }) rfl (fun K hK => ?_) ?_
              · go_simp
                refine hK.out _ _ ?_ (fun hHeld' => ?_)
                · exact S9.below hHeld ((Below.refl _ _).alloc (Nat.le_refl _) (.cells #[.string ⟨#[]⟩, .int .i64 0, .int .i64 0, .int .i64 0, .int .i64 0] 30))
                have HN5' := Lib.hid (HN5.out.below ((Below.refl _ W2).alloc (Nat.le_refl _) (.cells #[.string ⟨#[]⟩, .int .i64 0, .int .i64 0, .int .i64 0, .int .i64 0] 30)))
                have HI6' := Lib.hid (HI6.out.below ((Below.refl _ W2).alloc (Nat.le_refl _) (.cells #[.string ⟨#[]⟩, .int .i64 0, .int .i64 0, .int .i64 0, .int .i64 0] 30)))
                have HZ11' := Lib.hid (z5 W2 hHeld.size)
                obtain ⟨g11, hg11⟩ : ∃ g, W2.heap.size = g := ⟨_, rfl⟩
                rw [hg11] at HZ11' ⊢
                clear hK K hHeld hg11
                have hHeld := hHeld'
                clear HN5
                have HN5 := HN5'
                clear HN5'
                clear HI6
                have HI6 := HI6'
                clear HI6'
                have HZ11 := HZ11'
                clear HZ11'
                clear hHeld'
                try simp only [Act.put, List.setIfInBounds_toArray, List.set_cons_zero, List.set_cons_succ]
                generalize W2.alloc (.cells #[.string ⟨#[]⟩, .int .i64 0, .int .i64 0, .int .i64 0, .int .i64 0] 30) = W3 at *
                refine wpAnyH_ready (rs := [7]) (by kernel_rfl) (by simp) ?_
                refine AllReadyH.cons (o := { dst := some 86, op := Go.Op.call { callee := Go.Callee.value (Go.Operand.func 7), args := #[Go.Operand.tmp 84, Go.Operand.tmp 85], argTypes := #[22, 25] }, type := 32, pos := "top04.go:112", after := #[{ on := 5, ground := Go.Ground.data }, { on := 6, ground := Go.Ground.data }], guard := none }) rfl (fun K hK => ?_) ?_
                · go_simp
                  go_at_call 7
                  refine (HP3.out W3 g5 g6 HN5.out HI6.out).mono ?_
                  rintro e W4 ⟨rfl, hb⟩
                  go_wp2_with fail
                  refine hK.out _ _ ?_ (fun hHeld' => ?_)
                  · exact S9.below hHeld hb
                  have HZ11' := Lib.hid (HZ11.out.below hb)
                  clear HZ11
                  have HZ11 := HZ11'
                  clear HZ11'
                  clear hK K hHeld hb HN5 HI6
                  have hHeld := hHeld'
                  clear hHeld'
                  try simp only [Act.put, List.setIfInBounds_toArray, List.set_cons_zero, List.set_cons_succ]
                  refine wpAnyH_take (i := 8) (oi := { dst := some 78, op := Go.Op.move (Go.Operand.tmp 86), type := 32, pos := "top04.go:112", after := #[{ on := 7, ground := Go.Ground.data }], guard := none }) (v := ?_) rfl (by kernel_rfl) (by kernel_rfl) (by kernel_rfl) (fun _ _ _ h => h) (Or.inl ⟨by rfl, ?_⟩) (by assumption) ?_
                  rotate_left
                  · intro w hSw
                    obtain ⟨⟨c0, c1, c2, c3, c4⟩, ⟨a0, a1, a2, a3, a4⟩, _⟩ := hSw
                    try dsimp only at c0 c1 c2 c3 c4
                    go_simp
                    try with_reducible rfl
                  try simp only [Act.put, List.setIfInBounds_toArray, List.set_cons_zero, List.set_cons_succ]
                  refine wpAnyH_take (i := 9) (oi := { dst := some 87, op := Go.Op.extract (Go.Operand.tmp 78) 0, type := 30, pos := "top04.go:112", after := #[{ on := 8, ground := Go.Ground.data }], guard := none }) (v := ?_) rfl (by kernel_rfl) (by kernel_rfl) (by kernel_rfl) (fun _ _ _ h => h) (Or.inl ⟨by rfl, ?_⟩) (by assumption) ?_
                  rotate_left
                  · intro w hSw
                    obtain ⟨⟨c0, c1, c2, c3, c4⟩, ⟨a0, a1, a2, a3, a4⟩, _⟩ := hSw
                    try dsimp only at c0 c1 c2 c3 c4
                    go_simp
                    try with_reducible rfl
                  try simp only [Act.put, List.setIfInBounds_toArray, List.set_cons_zero, List.set_cons_succ]
                  refine wpAnyH_take (i := 10) (oi := { dst := some 88, op := Go.Op.extract (Go.Operand.tmp 78) 1, type := 31, pos := "top04.go:112", after := #[{ on := 8, ground := Go.Ground.data }, { on := 12, ground := Go.Ground.gcOnly Go.Departure.lateStores }], guard := none }) (v := ?_) rfl (by kernel_rfl) (by kernel_rfl) (by kernel_rfl) (fun _ _ _ h => h) (Or.inl ⟨by rfl, ?_⟩) (by assumption) ?_
                  rotate_left
                  · intro w hSw
                    obtain ⟨⟨c0, c1, c2, c3, c4⟩, ⟨a0, a1, a2, a3, a4⟩, _⟩ := hSw
                    try dsimp only at c0 c1 c2 c3 c4
                    go_simp
                    try with_reducible rfl
                  try simp only [Act.put, List.setIfInBounds_toArray, List.set_cons_zero, List.set_cons_succ]
                  refine wpAnyH_ready (rs := [12]) (by kernel_rfl) (by simp) ?_
                  refine AllReadyH.cons (o := { dst := none, op := Go.Op.store 30 (Go.Operand.tmp 13) (Go.Operand.tmp 87), type := 0, pos := "top04.go:112", after := #[{ on := 11, ground := Go.Ground.data }, { on := 9, ground := Go.Ground.data }, { on := 7, ground := Go.Ground.chain }, { on := 0, ground := Go.Ground.phase }, { on := 1, ground := Go.Ground.phase }, { on := 2, ground := Go.Ground.phase }, { on := 3, ground := Go.Ground.phase }, { on := 4, ground := Go.Ground.phase }, { on := 5, ground := Go.Ground.phase }, { on := 6, ground := Go.Ground.phase }, { on := 7, ground := Go.Ground.phase }, { on := 8, ground := Go.Ground.phase }, { on := 9, ground := Go.Ground.phase }, { on := 10, ground := Go.Ground.textOnly Go.Departure.lateStores }, { on := 11, ground := Go.Ground.phase }], guard := none }) rfl (fun K hK => ?_) ?_
                  · obtain ⟨pl, ⟨p0, p1, p2, p3, p4⟩, f0, f1, f2, f3, f4⟩ := HZ11.out.2
                    have hge := HZ11.out.1
                    go_simp
                    refine hK.out _ _ ?_ (fun hHeld' => ?_)
                    · exact S9.set5 HQ9.out HX9.out hHeld hge _ _ _ _ _
                    have HF := Lib.hid (P5.set5 HZ11.out.2 ⟨nm1, bf1, bt1, df1, dt1⟩)
                    clear hK K hHeld p0 p1 p2 p3 p4 f0 f1 f2 f3 f4 pl hge HZ11
                    have hHeld := hHeld'
                    clear hHeld'
                    try simp only [Act.put, List.setIfInBounds_toArray, List.set_cons_zero, List.set_cons_succ]
                    refine wpAnyH_take (i := 13) (oi := { dst := some 14, op := Go.Op.assign (Go.Operand.tmp 88), type := 31, pos := "top04.go:112", after := #[{ on := 10, ground := Go.Ground.data }, { on := 12, ground := Go.Ground.chain }, { on := 0, ground := Go.Ground.phase }, { on := 1, ground := Go.Ground.phase }, { on := 2, ground := Go.Ground.phase }, { on := 3, ground := Go.Ground.phase }, { on := 4, ground := Go.Ground.phase }, { on := 5, ground := Go.Ground.phase }, { on := 6, ground := Go.Ground.phase }, { on := 7, ground := Go.Ground.phase }, { on := 8, ground := Go.Ground.phase }, { on := 9, ground := Go.Ground.phase }, { on := 10, ground := Go.Ground.phase }, { on := 11, ground := Go.Ground.phase }, { on := 12, ground := Go.Ground.phase }], guard := none }) (v := ?_) rfl (by kernel_rfl) (by kernel_rfl) (by kernel_rfl) (fun _ _ _ h => h) (Or.inl ⟨by rfl, ?_⟩) (by assumption) ?_
                    rotate_left
                    · intro w hSw
                      obtain ⟨⟨c0, c1, c2, c3, c4⟩, ⟨a0, a1, a2, a3, a4⟩, _⟩ := hSw
                      try dsimp only at c0 c1 c2 c3 c4
                      go_simp
                      try with_reducible rfl
                    try simp only [Act.put, List.setIfInBounds_toArray, List.set_cons_zero, List.set_cons_succ]
                    refine wpAnyH_done (by kernel_rfl) ?_ _
                    go_wp2_with fail
                    go_meet
                    exact ⟨_, rfl, rfl, HF, hHeld.2.2⟩
                  exact AllReadyH.nil
                exact AllReadyH.nil
              exact AllReadyH.nil
            refine AllReadyH.cons (o := { dst := some 13, op := Go.Op.alloc 30, type := 0, pos := "top04.go:112", after := #[], guard := none }) rfl (fun K hK => ?_) ?_
            · go_simp
              refine hK.out _ _ ?_ (fun hHeld' => ?_)
              · exact S9.below hHeld ((Below.refl _ _).alloc (Nat.le_refl _) (.cells #[.string ⟨#[]⟩, .int .i64 0, .int .i64 0, .int .i64 0, .int .i64 0] 30))
              have HI6' := Lib.hid (HI6.out.below ((Below.refl _ W1).alloc (Nat.le_refl _) (.cells #[.string ⟨#[]⟩, .int .i64 0, .int .i64 0, .int .i64 0, .int .i64 0] 30)))
              have HZ11' := Lib.hid (z5 W1 hHeld.size)
              obtain ⟨g11, hg11⟩ : ∃ g, W1.heap.size = g := ⟨_, rfl⟩
              rw [hg11] at HZ11' ⊢
              clear hK K hHeld hg11
              have hHeld := hHeld'
              clear HI6
              have HI6 := HI6'
              clear HI6'
              have HZ11 := HZ11'
              clear HZ11'
              clear hHeld'
              try simp only [Act.put, List.setIfInBounds_toArray, List.set_cons_zero, List.set_cons_succ]
              generalize W1.alloc (.cells #[.string ⟨#[]⟩, .int .i64 0, .int .i64 0, .int .i64 0, .int .i64 0] 30) = W2 at *
              refine wpAnyH_ready (rs := [5]) (by kernel_rfl) (by simp) ?_
              refine AllReadyH.cons (o := { dst := some 84, op := Go.Op.buildSlice 22 2 #[(0, Go.Operand.tmp 79), (1, Go.Operand.tmp 83)], type := 22, pos := "top04.go:112", after := #[{ on := 0, ground := Go.Ground.data }, { on := 4, ground := Go.Ground.data }], guard := none }) rfl (fun K hK => ?_) ?_
              · go_simp
                refine hK.out _ _ ?_ (fun hHeld' => ?_)
                · exact S9.below hHeld ((Below.refl _ _).alloc (Nat.le_refl _) (.cells #[.string ⟨nm2.toArray⟩, .int .i64 bf2, .int .i64 bt2, .int .i64 df2, .int .i64 dt2, .string ⟨x.nm.toArray⟩, .int .i64 x.bf, .int .i64 x.bt, .int .i64 x.df, .int .i64 x.dt] 30))
                have HI6' := Lib.hid (HI6.out.below ((Below.refl _ W2).alloc (Nat.le_refl _) (.cells #[.string ⟨nm2.toArray⟩, .int .i64 bf2, .int .i64 bt2, .int .i64 df2, .int .i64 dt2, .string ⟨x.nm.toArray⟩, .int .i64 x.bf, .int .i64 x.bt, .int .i64 x.df, .int .i64 x.dt] 30)))
                have HZ11' := Lib.hid (HZ11.out.below ((Below.refl _ W2).alloc (Nat.le_refl _) (.cells #[.string ⟨nm2.toArray⟩, .int .i64 bf2, .int .i64 bt2, .int .i64 df2, .int .i64 dt2, .string ⟨x.nm.toArray⟩, .int .i64 x.bf, .int .i64 x.bt, .int .i64 x.df, .int .i64 x.dt] 30)))
                have HN5' := Lib.hid (nts2 W2 ⟨nm2, bf2, bt2, df2, dt2⟩ x)
                obtain ⟨g5, hg5⟩ : ∃ g, W2.heap.size = g := ⟨_, rfl⟩
                rw [hg5] at HN5' ⊢
                clear hK K hHeld hg5
                have hHeld := hHeld'
                have HN5 := HN5'
                clear HN5'
                clear HI6
                have HI6 := HI6'
                clear HI6'
                clear HZ11
                have HZ11 := HZ11'
                clear HZ11'
                clear hHeld'
                try simp only [Act.put, List.setIfInBounds_toArray, List.set_cons_zero, List.set_cons_succ]
                generalize W2.alloc (.cells #[.string ⟨nm2.toArray⟩, .int .i64 bf2, .int .i64 bt2, .int .i64 df2, .int .i64 dt2, .string ⟨x.nm.toArray⟩, .int .i64 x.bf, .int .i64 x.bt, .int .i64 x.df, .int .i64 x.dt] 30) = W3 at *
                refine wpAnyH_ready (rs := [7]) (by kernel_rfl) (by simp) ?_
                refine AllReadyH.cons (o := { dst := some 86, op := Go.Op.call { callee := Go.Callee.value (Go.Operand.func 7), args := #[Go.Operand.tmp 84, Go.Operand.tmp 85], argTypes := #[22, 25] }, type := 32, pos := "top04.go:112", after := #[{ on := 5, ground := Go.Ground.data }, { on := 6, ground := Go.Ground.data }], guard := none }) rfl (fun K hK => ?_) ?_
                · go_simp
                  go_at_call 7
                  refine (HP3.out W3 g5 g6 HN5.out HI6.out).mono ?_
                  rintro e W4 ⟨rfl, hb⟩
                  go_wp2_with fail
                  refine hK.out _ _ ?_ (fun hHeld' => ?_)
                  · exact S9.below hHeld hb
                  have HZ11' := Lib.hid (HZ11.out.below hb)
                  clear HZ11
                  have HZ11 := HZ11'
                  clear HZ11'
                  clear hK K hHeld hb HN5 HI6
                  have hHeld := hHeld'
                  clear hHeld'
                  try simp only [Act.put, List.setIfInBounds_toArray, List.set_cons_zero, List.set_cons_succ]
                  refine wpAnyH_take (i := 8) (oi := { dst := some 78, op := Go.Op.move (Go.Operand.tmp 86), type := 32, pos := "top04.go:112", after := #[{ on := 7, ground := Go.Ground.data }], guard := none }) (v := ?_) rfl (by kernel_rfl) (by kernel_rfl) (by kernel_rfl) (fun _ _ _ h => h) (Or.inl ⟨by rfl, ?_⟩) (by assumption) ?_
                  rotate_left
                  · intro w hSw
                    obtain ⟨⟨c0, c1, c2, c3, c4⟩, ⟨a0, a1, a2, a3, a4⟩, _⟩ := hSw
                    try dsimp only at c0 c1 c2 c3 c4
                    go_simp
                    try with_reducible rfl
                  try simp only [Act.put, List.setIfInBounds_toArray, List.set_cons_zero, List.set_cons_succ]
                  refine wpAnyH_take (i := 9) (oi := { dst := some 87, op := Go.Op.extract (Go.Operand.tmp 78) 0, type := 30, pos := "top04.go:112", after := #[{ on := 8, ground := Go.Ground.data }], guard := none }) (v := ?_) rfl (by kernel_rfl) (by kernel_rfl) (by kernel_rfl) (fun _ _ _ h => h) (Or.inl ⟨by rfl, ?_⟩) (by assumption) ?_
                  rotate_left
                  · intro w hSw
                    obtain ⟨⟨c0, c1, c2, c3, c4⟩, ⟨a0, a1, a2, a3, a4⟩, _⟩ := hSw
                    try dsimp only at c0 c1 c2 c3 c4
                    go_simp
                    try with_reducible rfl
                  try simp only [Act.put, List.setIfInBounds_toArray, List.set_cons_zero, List.set_cons_succ]
                  refine wpAnyH_take (i := 10) (oi := { dst := some 88, op := Go.Op.extract (Go.Operand.tmp 78) 1, type := 31, pos := "top04.go:112", after := #[{ on := 8, ground := Go.Ground.data }, { on := 12, ground := Go.Ground.gcOnly Go.Departure.lateStores }], guard := none }) (v := ?_) rfl (by kernel_rfl) (by kernel_rfl) (by kernel_rfl) (fun _ _ _ h => h) (Or.inl ⟨by rfl, ?_⟩) (by assumption) ?_
                  rotate_left
                  · intro w hSw
                    obtain ⟨⟨c0, c1, c2, c3, c4⟩, ⟨a0, a1, a2, a3, a4⟩, _⟩ := hSw
                    try dsimp only at c0 c1 c2 c3 c4
                    go_simp
                    try with_reducible rfl
                  try simp only [Act.put, List.setIfInBounds_toArray, List.set_cons_zero, List.set_cons_succ]
                  refine wpAnyH_ready (rs := [12]) (by kernel_rfl) (by simp) ?_
                  refine AllReadyH.cons (o := { dst := none, op := Go.Op.store 30 (Go.Operand.tmp 13) (Go.Operand.tmp 87), type := 0, pos := "top04.go:112", after := #[{ on := 11, ground := Go.Ground.data }, { on := 9, ground := Go.Ground.data }, { on := 7, ground := Go.Ground.chain }, { on := 0, ground := Go.Ground.phase }, { on := 1, ground := Go.Ground.phase }, { on := 2, ground := Go.Ground.phase }, { on := 3, ground := Go.Ground.phase }, { on := 4, ground := Go.Ground.phase }, { on := 5, ground := Go.Ground.phase }, { on := 6, ground := Go.Ground.phase }, { on := 7, ground := Go.Ground.phase }, { on := 8, ground := Go.Ground.phase }, { on := 9, ground := Go.Ground.phase }, { on := 10, ground := Go.Ground.textOnly Go.Departure.lateStores }, { on := 11, ground := Go.Ground.phase }], guard := none }) rfl (fun K hK => ?_) ?_
                  · obtain ⟨pl, ⟨p0, p1, p2, p3, p4⟩, f0, f1, f2, f3, f4⟩ := HZ11.out.2
                    have hge := HZ11.out.1
                    go_simp
                    refine hK.out _ _ ?_ (fun hHeld' => ?_)
                    · exact S9.set5 HQ9.out HX9.out hHeld hge _ _ _ _ _
                    have HF := Lib.hid (P5.set5 HZ11.out.2 ⟨nm1, bf1, bt1, df1, dt1⟩)
                    clear hK K hHeld p0 p1 p2 p3 p4 f0 f1 f2 f3 f4 pl hge HZ11
                    have hHeld := hHeld'
                    clear hHeld'
                    try simp only [Act.put, List.setIfInBounds_toArray, List.set_cons_zero, List.set_cons_succ]
                    refine wpAnyH_take (i := 13) (oi := { dst := some 14, op := Go.Op.assign (Go.Operand.tmp 88), type := 31, pos := "top04.go:112", after := #[{ on := 10, ground := Go.Ground.data }, { on := 12, ground := Go.Ground.chain }, { on := 0, ground := Go.Ground.phase }, { on := 1, ground := Go.Ground.phase }, { on := 2, ground := Go.Ground.phase }, { on := 3, ground := Go.Ground.phase }, { on := 4, ground := Go.Ground.phase }, { on := 5, ground := Go.Ground.phase }, { on := 6, ground := Go.Ground.phase }, { on := 7, ground := Go.Ground.phase }, { on := 8, ground := Go.Ground.phase }, { on := 9, ground := Go.Ground.phase }, { on := 10, ground := Go.Ground.phase }, { on := 11, ground := Go.Ground.phase }, { on := 12, ground := Go.Ground.phase }], guard := none }) (v := ?_) rfl (by kernel_rfl) (by kernel_rfl) (by kernel_rfl) (fun _ _ _ h => h) (Or.inl ⟨by rfl, ?_⟩) (by assumption) ?_
                    rotate_left
                    · intro w hSw
                      obtain ⟨⟨c0, c1, c2, c3, c4⟩, ⟨a0, a1, a2, a3, a4⟩, _⟩ := hSw
                      try dsimp only at c0 c1 c2 c3 c4
                      go_simp
                      try with_reducible rfl
                    try simp only [Act.put, List.setIfInBounds_toArray, List.set_cons_zero, List.set_cons_succ]
                    refine wpAnyH_done (by kernel_rfl) ?_ _
                    go_wp2_with fail
                    go_meet
                    exact ⟨_, rfl, rfl, HF, hHeld.2.2⟩
                  exact AllReadyH.nil
                exact AllReadyH.nil
              exact AllReadyH.nil
            exact AllReadyH.nil
          refine AllReadyH.cons (o := { dst := some 13, op := Go.Op.alloc 30, type := 0, pos := "top04.go:112", after := #[], guard := none }) rfl (fun K hK => ?_) ?_
          · go_simp
            refine hK.out _ _ ?_ (fun hHeld' => ?_)
            · exact S9.below hHeld ((Below.refl _ _).alloc (Nat.le_refl _) (.cells #[.string ⟨#[]⟩, .int .i64 0, .int .i64 0, .int .i64 0, .int .i64 0] 30))
            have HZ11' := Lib.hid (z5 W0 hHeld.size)
            obtain ⟨g11, hg11⟩ : ∃ g, W0.heap.size = g := ⟨_, rfl⟩
            rw [hg11] at HZ11' ⊢
            clear hK K hHeld hg11
            have hHeld := hHeld'
            have HZ11 := HZ11'
            clear HZ11'
            clear hHeld'
            try simp only [Act.put, List.setIfInBounds_toArray, List.set_cons_zero, List.set_cons_succ]
            generalize W0.alloc (.cells #[.string ⟨#[]⟩, .int .i64 0, .int .i64 0, .int .i64 0, .int .i64 0] 30) = W1 at *
            refine wpAnyH_ready (rs := [5, 6]) (by kernel_rfl) (by simp) ?_
            refine AllReadyH.cons (o := { dst := some 84, op := Go.Op.buildSlice 22 2 #[(0, Go.Operand.tmp 79), (1, Go.Operand.tmp 83)], type := 22, pos := "top04.go:112", after := #[{ on := 0, ground := Go.Ground.data }, { on := 4, ground := Go.Ground.data }], guard := none }) rfl (fun K hK => ?_) ?_
            · go_simp
              refine hK.out _ _ ?_ (fun hHeld' => ?_)
              · exact S9.below hHeld ((Below.refl _ _).alloc (Nat.le_refl _) (.cells #[.string ⟨nm2.toArray⟩, .int .i64 bf2, .int .i64 bt2, .int .i64 df2, .int .i64 dt2, .string ⟨x.nm.toArray⟩, .int .i64 x.bf, .int .i64 x.bt, .int .i64 x.df, .int .i64 x.dt] 30))
              have HZ11' := Lib.hid (HZ11.out.below ((Below.refl _ W1).alloc (Nat.le_refl _) (.cells #[.string ⟨nm2.toArray⟩, .int .i64 bf2, .int .i64 bt2, .int .i64 df2, .int .i64 dt2, .string ⟨x.nm.toArray⟩, .int .i64 x.bf, .int .i64 x.bt, .int .i64 x.df, .int .i64 x.dt] 30)))
              have HN5' := Lib.hid (nts2 W1 ⟨nm2, bf2, bt2, df2, dt2⟩ x)
              obtain ⟨g5, hg5⟩ : ∃ g, W1.heap.size = g := ⟨_, rfl⟩
              rw [hg5] at HN5' ⊢
              clear hK K hHeld hg5
              have hHeld := hHeld'
              have HN5 := HN5'
              clear HN5'
              clear HZ11
              have HZ11 := HZ11'
              clear HZ11'
              clear hHeld'
              try simp only [Act.put, List.setIfInBounds_toArray, List.set_cons_zero, List.set_cons_succ]
              generalize W1.alloc (.cells #[.string ⟨nm2.toArray⟩, .int .i64 bf2, .int .i64 bt2, .int .i64 df2, .int .i64 dt2, .string ⟨x.nm.toArray⟩, .int .i64 x.bf, .int .i64 x.bt, .int .i64 x.df, .int .i64 x.dt] 30) = W2 at *
              refine wpAnyH_ready (rs := [6]) (by kernel_rfl) (by simp) ?_
              refine AllReadyH.cons (o := { dst := some 85, op := Go.Op.buildSlice 25 2 #[(0, Go.Operand.const (Go.Value.int Go.IntKind.i64 0)), (1, Go.Operand.const (Go.Value.int Go.IntKind.i64 1))], type := 25, pos := "top04.go:112", after := #[], guard := none }) rfl (fun K hK => ?_) ?_
              · go_simp
                refine hK.out _ _ ?_ (fun hHeld' => ?_)
                · exact S9.below hHeld ((Below.refl _ _).alloc (Nat.le_refl _) (.cells #[.int .i64 0, .int .i64 1] 3))
                have HN5' := Lib.hid (HN5.out.below ((Below.refl _ W2).alloc (Nat.le_refl _) (.cells #[.int .i64 0, .int .i64 1] 3)))
                have HZ11' := Lib.hid (HZ11.out.below ((Below.refl _ W2).alloc (Nat.le_refl _) (.cells #[.int .i64 0, .int .i64 1] 3)))
                have HI6' := Lib.hid (i6new W2)
                obtain ⟨g6, hg6⟩ : ∃ g, W2.heap.size = g := ⟨_, rfl⟩
                rw [hg6] at HI6' ⊢
                clear hK K hHeld hg6
                have hHeld := hHeld'
                clear HN5
                have HN5 := HN5'
                clear HN5'
                have HI6 := HI6'
                clear HI6'
                clear HZ11
                have HZ11 := HZ11'
                clear HZ11'
                clear hHeld'
                try simp only [Act.put, List.setIfInBounds_toArray, List.set_cons_zero, List.set_cons_succ]
                generalize W2.alloc (.cells #[.int .i64 0, .int .i64 1] 3) = W3 at *
                refine wpAnyH_ready (rs := [7]) (by kernel_rfl) (by simp) ?_
                refine AllReadyH.cons (o := { dst := some 86, op := Go.Op.call { callee := Go.Callee.value (Go.Operand.func 7), args := #[Go.Operand.tmp 84, Go.Operand.tmp 85], argTypes := #[22, 25] }, type := 32, pos := "top04.go:112", after := #[{ on := 5, ground := Go.Ground.data }, { on := 6, ground := Go.Ground.data }], guard := none }) rfl (fun K hK => ?_) ?_
                · go_simp
                  go_at_call 7
                  refine (HP3.out W3 g5 g6 HN5.out HI6.out).mono ?_
                  rintro e W4 ⟨rfl, hb⟩
                  go_wp2_with fail
                  refine hK.out _ _ ?_ (fun hHeld' => ?_)
                  · exact S9.below hHeld hb
                  have HZ11' := Lib.hid (HZ11.out.below hb)
                  clear HZ11
                  have HZ11 := HZ11'
                  clear HZ11'
                  clear hK K hHeld hb HN5 HI6
                  have hHeld := hHeld'
                  clear hHeld'
                  try simp only [Act.put, List.setIfInBounds_toArray, List.set_cons_zero, List.set_cons_succ]
                  refine wpAnyH_take (i := 8) (oi := { dst := some 78, op := Go.Op.move (Go.Operand.tmp 86), type := 32, pos := "top04.go:112", after := #[{ on := 7, ground := Go.Ground.data }], guard := none }) (v := ?_) rfl (by kernel_rfl) (by kernel_rfl) (by kernel_rfl) (fun _ _ _ h => h) (Or.inl ⟨by rfl, ?_⟩) (by assumption) ?_
                  rotate_left
                  · intro w hSw
                    obtain ⟨⟨c0, c1, c2, c3, c4⟩, ⟨a0, a1, a2, a3, a4⟩, _⟩ := hSw
                    try dsimp only at c0 c1 c2 c3 c4
                    go_simp
                    try with_reducible rfl
                  try simp only [Act.put, List.setIfInBounds_toArray, List.set_cons_zero, List.set_cons_succ]
                  refine wpAnyH_take (i := 9) (oi := { dst := some 87, op := Go.Op.extract (Go.Operand.tmp 78) 0, type := 30, pos := "top04.go:112", after := #[{ on := 8, ground := Go.Ground.data }], guard := none }) (v := ?_) rfl (by kernel_rfl) (by kernel_rfl) (by kernel_rfl) (fun _ _ _ h => h) (Or.inl ⟨by rfl, ?_⟩) (by assumption) ?_
                  rotate_left
                  · intro w hSw
                    obtain ⟨⟨c0, c1, c2, c3, c4⟩, ⟨a0, a1, a2, a3, a4⟩, _⟩ := hSw
                    try dsimp only at c0 c1 c2 c3 c4
                    go_simp
                    try with_reducible rfl
                  try simp only [Act.put, List.setIfInBounds_toArray, List.set_cons_zero, List.set_cons_succ]
                  refine wpAnyH_take (i := 10) (oi := { dst := some 88, op := Go.Op.extract (Go.Operand.tmp 78) 1, type := 31, pos := "top04.go:112", after := #[{ on := 8, ground := Go.Ground.data }, { on := 12, ground := Go.Ground.gcOnly Go.Departure.lateStores }], guard := none }) (v := ?_) rfl (by kernel_rfl) (by kernel_rfl) (by kernel_rfl) (fun _ _ _ h => h) (Or.inl ⟨by rfl, ?_⟩) (by assumption) ?_
                  rotate_left
                  · intro w hSw
                    obtain ⟨⟨c0, c1, c2, c3, c4⟩, ⟨a0, a1, a2, a3, a4⟩, _⟩ := hSw
                    try dsimp only at c0 c1 c2 c3 c4
                    go_simp
                    try with_reducible rfl
                  try simp only [Act.put, List.setIfInBounds_toArray, List.set_cons_zero, List.set_cons_succ]
                  refine wpAnyH_ready (rs := [12]) (by kernel_rfl) (by simp) ?_
                  refine AllReadyH.cons (o := { dst := none, op := Go.Op.store 30 (Go.Operand.tmp 13) (Go.Operand.tmp 87), type := 0, pos := "top04.go:112", after := #[{ on := 11, ground := Go.Ground.data }, { on := 9, ground := Go.Ground.data }, { on := 7, ground := Go.Ground.chain }, { on := 0, ground := Go.Ground.phase }, { on := 1, ground := Go.Ground.phase }, { on := 2, ground := Go.Ground.phase }, { on := 3, ground := Go.Ground.phase }, { on := 4, ground := Go.Ground.phase }, { on := 5, ground := Go.Ground.phase }, { on := 6, ground := Go.Ground.phase }, { on := 7, ground := Go.Ground.phase }, { on := 8, ground := Go.Ground.phase }, { on := 9, ground := Go.Ground.phase }, { on := 10, ground := Go.Ground.textOnly Go.Departure.lateStores }, { on := 11, ground := Go.Ground.phase }], guard := none }) rfl (fun K hK => ?_) ?_
                  · obtain ⟨pl, ⟨p0, p1, p2, p3, p4⟩, f0, f1, f2, f3, f4⟩ := HZ11.out.2
                    have hge := HZ11.out.1
                    go_simp
                    refine hK.out _ _ ?_ (fun hHeld' => ?_)
                    · exact S9.set5 HQ9.out HX9.out hHeld hge _ _ _ _ _
                    have HF := Lib.hid (P5.set5 HZ11.out.2 ⟨nm1, bf1, bt1, df1, dt1⟩)
                    clear hK K hHeld p0 p1 p2 p3 p4 f0 f1 f2 f3 f4 pl hge HZ11
                    have hHeld := hHeld'
                    clear hHeld'
                    try simp only [Act.put, List.setIfInBounds_toArray, List.set_cons_zero, List.set_cons_succ]
                    refine wpAnyH_take (i := 13) (oi := { dst := some 14, op := Go.Op.assign (Go.Operand.tmp 88), type := 31, pos := "top04.go:112", after := #[{ on := 10, ground := Go.Ground.data }, { on := 12, ground := Go.Ground.chain }, { on := 0, ground := Go.Ground.phase }, { on := 1, ground := Go.Ground.phase }, { on := 2, ground := Go.Ground.phase }, { on := 3, ground := Go.Ground.phase }, { on := 4, ground := Go.Ground.phase }, { on := 5, ground := Go.Ground.phase }, { on := 6, ground := Go.Ground.phase }, { on := 7, ground := Go.Ground.phase }, { on := 8, ground := Go.Ground.phase }, { on := 9, ground := Go.Ground.phase }, { on := 10, ground := Go.Ground.phase }, { on := 11, ground := Go.Ground.phase }, { on := 12, ground := Go.Ground.phase }], guard := none }) (v := ?_) rfl (by kernel_rfl) (by kernel_rfl) (by kernel_rfl) (fun _ _ _ h => h) (Or.inl ⟨by rfl, ?_⟩) (by assumption) ?_
                    rotate_left
                    · intro w hSw
                      obtain ⟨⟨c0, c1, c2, c3, c4⟩, ⟨a0, a1, a2, a3, a4⟩, _⟩ := hSw
                      try dsimp only at c0 c1 c2 c3 c4
                      go_simp
                      try with_reducible rfl
                    try simp only [Act.put, List.setIfInBounds_toArray, List.set_cons_zero, List.set_cons_succ]
                    refine wpAnyH_done (by kernel_rfl) ?_ _
                    go_wp2_with fail
                    go_meet
                    exact ⟨_, rfl, rfl, HF, hHeld.2.2⟩
                  exact AllReadyH.nil
                exact AllReadyH.nil
              exact AllReadyH.nil
            refine AllReadyH.cons (o := { dst := some 85, op := Go.Op.buildSlice 25 2 #[(0, Go.Operand.const (Go.Value.int Go.IntKind.i64 0)), (1, Go.Operand.const (Go.Value.int Go.IntKind.i64 1))], type := 25, pos := "top04.go:112", after := #[], guard := none }) rfl (fun K hK => ?_) ?_
            · go_simp
              refine hK.out _ _ ?_ (fun hHeld' => ?_)
              · exact S9.below hHeld ((Below.refl _ _).alloc (Nat.le_refl _) (.cells #[.int .i64 0, .int .i64 1] 3))
              have HZ11' := Lib.hid (HZ11.out.below ((Below.refl _ W1).alloc (Nat.le_refl _) (.cells #[.int .i64 0, .int .i64 1] 3)))
              have HI6' := Lib.hid (i6new W1)
              obtain ⟨g6, hg6⟩ : ∃ g, W1.heap.size = g := ⟨_, rfl⟩
              rw [hg6] at HI6' ⊢
              clear hK K hHeld hg6
              have hHeld := hHeld'
              have HI6 := HI6'
              clear HI6'
              clear HZ11
              have HZ11 := HZ11'
              clear HZ11'
              clear hHeld'
              try simp only [Act.put, List.setIfInBounds_toArray, List.set_cons_zero, List.set_cons_succ]
              generalize W1.alloc (.cells #[.int .i64 0, .int .i64 1] 3) = W2 at *
              refine wpAnyH_ready (rs := [5]) (by kernel_rfl) (by simp) ?_
              refine AllReadyH.cons (o := { dst := some 84, op := Go.Op.buildSlice 22 2 #[(0, Go.Operand.tmp 79), (1, Go.Operand.tmp 83)], type := 22, pos := "top04.go:112", after := #[{ on := 0, ground := Go.Ground.data }, { on := 4, ground := Go.Ground.data }], guard := none }) rfl (fun K hK => ?_) ?_
              · go_simp
                refine hK.out _ _ ?_ (fun hHeld' => ?_)
                · exact S9.below hHeld ((Below.refl _ _).alloc (Nat.le_refl _) (.cells #[.string ⟨nm2.toArray⟩, .int .i64 bf2, .int .i64 bt2, .int .i64 df2, .int .i64 dt2, .string ⟨x.nm.toArray⟩, .int .i64 x.bf, .int .i64 x.bt, .int .i64 x.df, .int .i64 x.dt] 30))
                have HI6' := Lib.hid (HI6.out.below ((Below.refl _ W2).alloc (Nat.le_refl _) (.cells #[.string ⟨nm2.toArray⟩, .int .i64 bf2, .int .i64 bt2, .int .i64 df2, .int .i64 dt2, .string ⟨x.nm.toArray⟩, .int .i64 x.bf, .int .i64 x.bt, .int .i64 x.df, .int .i64 x.dt] 30)))
                have HZ11' := Lib.hid (HZ11.out.below ((Below.refl _ W2).alloc (Nat.le_refl _) (.cells #[.string ⟨nm2.toArray⟩, .int .i64 bf2, .int .i64 bt2, .int .i64 df2, .int .i64 dt2, .string ⟨x.nm.toArray⟩, .int .i64 x.bf, .int .i64 x.bt, .int .i64 x.df, .int .i64 x.dt] 30)))
                have HN5' := Lib.hid (nts2 W2 ⟨nm2, bf2, bt2, df2, dt2⟩ x)
                obtain ⟨g5, hg5⟩ : ∃ g, W2.heap.size = g := ⟨_, rfl⟩
                rw [hg5] at HN5' ⊢
                clear hK K hHeld hg5
                have hHeld := hHeld'
                have HN5 := HN5'
                clear HN5'
                clear HI6
                have HI6 := HI6'
                clear HI6'
                clear HZ11
                have HZ11 := HZ11'
                clear HZ11'
                clear hHeld'
                try simp only [Act.put, List.setIfInBounds_toArray, List.set_cons_zero, List.set_cons_succ]
                generalize W2.alloc (.cells #[.string ⟨nm2.toArray⟩, .int .i64 bf2, .int .i64 bt2, .int .i64 df2, .int .i64 dt2, .string ⟨x.nm.toArray⟩, .int .i64 x.bf, .int .i64 x.bt, .int .i64 x.df, .int .i64 x.dt] 30) = W3 at *
                refine wpAnyH_ready (rs := [7]) (by kernel_rfl) (by simp) ?_
                refine AllReadyH.cons (o := { dst := some 86, op := Go.Op.call { callee := Go.Callee.value (Go.Operand.func 7), args := #[Go.Operand.tmp 84, Go.Operand.tmp 85], argTypes := #[22, 25] }, type := 32, pos := "top04.go:112", after := #[{ on := 5, ground := Go.Ground.data }, { on := 6, ground := Go.Ground.data }], guard := none }) rfl (fun K hK => ?_) ?_
                · go_simp
                  go_at_call 7
                  refine (HP3.out W3 g5 g6 HN5.out HI6.out).mono ?_
                  rintro e W4 ⟨rfl, hb⟩
                  go_wp2_with fail
                  refine hK.out _ _ ?_ (fun hHeld' => ?_)
                  · exact S9.below hHeld hb
                  have HZ11' := Lib.hid (HZ11.out.below hb)
                  clear HZ11
                  have HZ11 := HZ11'
                  clear HZ11'
                  clear hK K hHeld hb HN5 HI6
                  have hHeld := hHeld'
                  clear hHeld'
                  try simp only [Act.put, List.setIfInBounds_toArray, List.set_cons_zero, List.set_cons_succ]
                  refine wpAnyH_take (i := 8) (oi := { dst := some 78, op := Go.Op.move (Go.Operand.tmp 86), type := 32, pos := "top04.go:112", after := #[{ on := 7, ground := Go.Ground.data }], guard := none }) (v := ?_) rfl (by kernel_rfl) (by kernel_rfl) (by kernel_rfl) (fun _ _ _ h => h) (Or.inl ⟨by rfl, ?_⟩) (by assumption) ?_
                  rotate_left
                  · intro w hSw
                    obtain ⟨⟨c0, c1, c2, c3, c4⟩, ⟨a0, a1, a2, a3, a4⟩, _⟩ := hSw
                    try dsimp only at c0 c1 c2 c3 c4
                    go_simp
                    try with_reducible rfl
                  try simp only [Act.put, List.setIfInBounds_toArray, List.set_cons_zero, List.set_cons_succ]
                  refine wpAnyH_take (i := 9) (oi := { dst := some 87, op := Go.Op.extract (Go.Operand.tmp 78) 0, type := 30, pos := "top04.go:112", after := #[{ on := 8, ground := Go.Ground.data }], guard := none }) (v := ?_) rfl (by kernel_rfl) (by kernel_rfl) (by kernel_rfl) (fun _ _ _ h => h) (Or.inl ⟨by rfl, ?_⟩) (by assumption) ?_
                  rotate_left
                  · intro w hSw
                    obtain ⟨⟨c0, c1, c2, c3, c4⟩, ⟨a0, a1, a2, a3, a4⟩, _⟩ := hSw
                    try dsimp only at c0 c1 c2 c3 c4
                    go_simp
                    try with_reducible rfl
                  try simp only [Act.put, List.setIfInBounds_toArray, List.set_cons_zero, List.set_cons_succ]
                  refine wpAnyH_take (i := 10) (oi := { dst := some 88, op := Go.Op.extract (Go.Operand.tmp 78) 1, type := 31, pos := "top04.go:112", after := #[{ on := 8, ground := Go.Ground.data }, { on := 12, ground := Go.Ground.gcOnly Go.Departure.lateStores }], guard := none }) (v := ?_) rfl (by kernel_rfl) (by kernel_rfl) (by kernel_rfl) (fun _ _ _ h => h) (Or.inl ⟨by rfl, ?_⟩) (by assumption) ?_
                  rotate_left
                  · intro w hSw
                    obtain ⟨⟨c0, c1, c2, c3, c4⟩, ⟨a0, a1, a2, a3, a4⟩, _⟩ := hSw
                    try dsimp only at c0 c1 c2 c3 c4
                    go_simp
                    try with_reducible rfl
                  try simp only [Act.put, List.setIfInBounds_toArray, List.set_cons_zero, List.set_cons_succ]
                  refine wpAnyH_ready (rs := [12]) (by kernel_rfl) (by simp) ?_
                  refine AllReadyH.cons (o := { dst := none, op := Go.Op.store 30 (Go.Operand.tmp 13) (Go.Operand.tmp 87), type := 0, pos := "top04.go:112", after := #[{ on := 11, ground := Go.Ground.data }, { on := 9, ground := Go.Ground.data }, { on := 7, ground := Go.Ground.chain }, { on := 0, ground := Go.Ground.phase }, { on := 1, ground := Go.Ground.phase }, { on := 2, ground := Go.Ground.phase }, { on := 3, ground := Go.Ground.phase }, { on := 4, ground := Go.Ground.phase }, { on := 5, ground := Go.Ground.phase }, { on := 6, ground := Go.Ground.phase }, { on := 7, ground := Go.Ground.phase }, { on := 8, ground := Go.Ground.phase }, { on := 9, ground := Go.Ground.phase }, { on := 10, ground := Go.Ground.textOnly Go.Departure.lateStores }, { on := 11, ground := Go.Ground.phase }], guard := none }) rfl (fun K hK => ?_) ?_
                  · obtain ⟨pl, ⟨p0, p1, p2, p3, p4⟩, f0, f1, f2, f3, f4⟩ := HZ11.out.2
                    have hge := HZ11.out.1
                    go_simp
                    refine hK.out _ _ ?_ (fun hHeld' => ?_)
                    · exact S9.set5 HQ9.out HX9.out hHeld hge _ _ _ _ _
                    have HF := Lib.hid (P5.set5 HZ11.out.2 ⟨nm1, bf1, bt1, df1, dt1⟩)
                    clear hK K hHeld p0 p1 p2 p3 p4 f0 f1 f2 f3 f4 pl hge HZ11
                    have hHeld := hHeld'
                    clear hHeld'
                    try simp only [Act.put, List.setIfInBounds_toArray, List.set_cons_zero, List.set_cons_succ]
                    refine wpAnyH_take (i := 13) (oi := { dst := some 14, op := Go.Op.assign (Go.Operand.tmp 88), type := 31, pos := "top04.go:112", after := #[{ on := 10, ground := Go.Ground.data }, { on := 12, ground := Go.Ground.chain }, { on := 0, ground := Go.Ground.phase }, { on := 1, ground := Go.Ground.phase }, { on := 2, ground := Go.Ground.phase }, { on := 3, ground := Go.Ground.phase }, { on := 4, ground := Go.Ground.phase }, { on := 5, ground := Go.Ground.phase }, { on := 6, ground := Go.Ground.phase }, { on := 7, ground := Go.Ground.phase }, { on := 8, ground := Go.Ground.phase }, { on := 9, ground := Go.Ground.phase }, { on := 10, ground := Go.Ground.phase }, { on := 11, ground := Go.Ground.phase }, { on := 12, ground := Go.Ground.phase }], guard := none }) (v := ?_) rfl (by kernel_rfl) (by kernel_rfl) (by kernel_rfl) (fun _ _ _ h => h) (Or.inl ⟨by rfl, ?_⟩) (by assumption) ?_
                    rotate_left
                    · intro w hSw
                      obtain ⟨⟨c0, c1, c2, c3, c4⟩, ⟨a0, a1, a2, a3, a4⟩, _⟩ := hSw
                      try dsimp only at c0 c1 c2 c3 c4
                      go_simp
                      try with_reducible rfl
                    try simp only [Act.put, List.setIfInBounds_toArray, List.set_cons_zero, List.set_cons_succ]
                    refine wpAnyH_done (by kernel_rfl) ?_ _
                    go_wp2_with fail
                    go_meet
                    exact ⟨_, rfl, rfl, HF, hHeld.2.2⟩
                  exact AllReadyH.nil
                exact AllReadyH.nil
              exact AllReadyH.nil
            exact AllReadyH.nil
          exact AllReadyH.nil
        case rest =>
          obtain ⟨g3, rfl, rfl, HF, HBc⟩ := hcut
          have hszc := HBc.out.size
          have HPc := Lib.hid (hp9.out.below HBc.out)
          have HCc := Lib.hid (HC9.out.below HBc.out)
          have HWc := Lib.hid (HW9.out.trans (HBc.out.mono HW9.out.size))
          have hnm1 := HL1.out
          clear hp9 HC9 HW9 HBc hS9 HX9 HQ9 HP3 b1 HL2 HL1
          obtain ⟨_, ⟨p0, p1, p2, p3, p4⟩, -⟩ := HPc.out
          obtain ⟨_, ⟨r0, r1, r2, r3, r4⟩, -⟩ := HF.out
          by_cases hz1 : E1 = 0
          · subst hz1
            go_wp2_with fail
            clear p0 p1 p2 p3 p4 r0 r1 r2 r3 r4 HF
            go_loopw [15] (fun iv wr => ∃ i : Nat, i ≤ l.length ∧ iv = .int .i64 i ∧ Hid (Below wc.heap.size wc wr)) (fun iv _ => l.length - (intOf iv).toNat)
            case atStart => exact ⟨0, Nat.zero_le _, rfl, Lib.hid (Below.refl _ _)⟩
            case round =>
              obtain ⟨i, hi, rfl, HBr⟩ := hrel
              by_cases hlt : i < l.length
              · have hlt' : (i : Int) < (l.length : Int) := by omega
                have b2 : 0 ≤ (i : Int) ∧ (i : Int) < (l.length : Int) := ⟨by omega, by omega⟩
                obtain ⟨ec, l1, l2, l3, l4⟩ := HM3.out (by simp) i hlt
                have HX := Lib.hid ((HCc.out.below HBr.out).2 i hlt)
                have hnx := HN.out l[i] (List.getElem_mem hlt)
                obtain ⟨x, hx⟩ : ∃ x, l[i] = x := ⟨_, rfl⟩
                rw [hx] at ec l1 l2 l3 l4 HX hnx
                clear hx
                have HCm := Lib.hid (fun W => Common_any nm1 x.nm W (Nat.le_trans hnm1 (by omega)) (by omega))
                rw [ec] at HCm
                clear ec
                have HPr := Lib.hid (HPc.out.below HBr.out)
                have hS := Lib.hid (S9.of HPr.out HX.out (Below.refl wr.heap.size wr))
                have t1 : decide (bf1 < x.bf) = false := decide_eq_false (by omega)
                have t2 : decide (x.bt < bt1) = false := decide_eq_false (by omega)
                have t3 : decide (df1 < x.df) = false := decide_eq_false (by omega)
                have t4 : decide (x.dt < dt1) = false := decide_eq_false (by omega)
                have u1 : ¬ bf1 < x.bf := by omega
                have u2 : ¬ x.bt < bt1 := by omega
                have u3 : ¬ df1 < x.df := by omega
                have u4 : ¬ x.dt < dt1 := by omega
                clear l1 l2 l3 l4
                go_upto_region 25 with fail
                refine wp_region_held_drew (S := S9 wr B1 b (o + i * 5) ⟨nm1, bf1, bt1, df1, dt1⟩ x) (by kernel_rfl) ?_ (fun hHeld => ?_)
                · exact S9.below hS.out (below_n (Below.refl _ _) 1)
                generalize wr.drew = W0 at *
                refine wpAnyH_take (i := 0) (oi := { dst := some 108, op := Go.Op.fieldAddr 30 (Go.Operand.tmp 9) 0, type := 0, pos := "top04.go:120", after := #[], guard := none }) (v := ?_) rfl (by kernel_rfl) (by kernel_rfl) (by kernel_rfl) (fun _ _ _ h => h) (Or.inl ⟨by rfl, ?_⟩) (by assumption) ?_
                rotate_left
                · intro w hSw
                  obtain ⟨⟨c0, c1, c2, c3, c4⟩, ⟨a0, a1, a2, a3, a4⟩, _⟩ := hSw
                  try dsimp only at c0 c1 c2 c3 c4
                  go_simp
                  try with_reducible rfl
                try simp only [Act.put, List.setIfInBounds_toArray, List.set_cons_zero, List.set_cons_succ]
                refine wpAnyH_take (i := 1) (oi := { dst := some 109, op := Go.Op.load 9 (Go.Operand.tmp 108), type := 9, pos := "top04.go:120", after := #[{ on := 0, ground := Go.Ground.data }], guard := none }) (v := ?_) rfl (by kernel_rfl) (by kernel_rfl) (by kernel_rfl) (fun _ _ _ h => h) (Or.inl ⟨by rfl, ?_⟩) (by assumption) ?_
                rotate_left
                · intro w hSw
                  obtain ⟨⟨c0, c1, c2, c3, c4⟩, ⟨a0, a1, a2, a3, a4⟩, _⟩ := hSw
                  try dsimp only at c0 c1 c2 c3 c4
                  go_simp
                  try with_reducible rfl
                try simp only [Act.put, List.setIfInBounds_toArray, List.set_cons_zero, List.set_cons_succ]
                refine wpAnyH_take (i := 2) (oi := { dst := some 110, op := Go.Op.move (Go.Operand.tmp 0), type := 22, pos := "top04.go:120", after := #[], guard := none }) (v := ?_) rfl (by kernel_rfl) (by kernel_rfl) (by kernel_rfl) (fun _ _ _ h => h) (Or.inl ⟨by rfl, ?_⟩) (by assumption) ?_
                rotate_left
                · intro w hSw
                  obtain ⟨⟨c0, c1, c2, c3, c4⟩, ⟨a0, a1, a2, a3, a4⟩, _⟩ := hSw
                  try dsimp only at c0 c1 c2 c3 c4
                  go_simp
                  try with_reducible rfl
                try simp only [Act.put, List.setIfInBounds_toArray, List.set_cons_zero, List.set_cons_succ]
                refine wpAnyH_take (i := 3) (oi := { dst := some 111, op := Go.Op.move (Go.Operand.tmp 15), type := 3, pos := "top04.go:120", after := #[], guard := none }) (v := ?_) rfl (by kernel_rfl) (by kernel_rfl) (by kernel_rfl) (fun _ _ _ h => h) (Or.inl ⟨by rfl, ?_⟩) (by assumption) ?_
                rotate_left
                · intro w hSw
                  obtain ⟨⟨c0, c1, c2, c3, c4⟩, ⟨a0, a1, a2, a3, a4⟩, _⟩ := hSw
                  try dsimp only at c0 c1 c2 c3 c4
                  go_simp
                  try with_reducible rfl
                try simp only [Act.put, List.setIfInBounds_toArray, List.set_cons_zero, List.set_cons_succ]
                refine wpAnyH_take (i := 4) (oi := { dst := some 112, op := Go.Op.indexAddr 22 (Go.Operand.tmp 110) (Go.Operand.tmp 111), type := 0, pos := "top04.go:120", after := #[{ on := 2, ground := Go.Ground.data }, { on := 3, ground := Go.Ground.data }], guard := none }) (v := ?_) rfl (by kernel_rfl) (by kernel_rfl) (by kernel_rfl) (fun _ _ _ h => h) (Or.inl ⟨by rfl, ?_⟩) (by assumption) ?_
                rotate_left
                · intro w hSw
                  obtain ⟨⟨c0, c1, c2, c3, c4⟩, ⟨a0, a1, a2, a3, a4⟩, _⟩ := hSw
                  try dsimp only at c0 c1 c2 c3 c4
                  go_simp
                  try with_reducible rfl
                try simp only [Act.put, List.setIfInBounds_toArray, List.set_cons_zero, List.set_cons_succ]
                refine wpAnyH_take (i := 5) (oi := { dst := some 113, op := Go.Op.fieldAddr 30 (Go.Operand.tmp 112) 0, type := 0, pos := "top04.go:120", after := #[{ on := 4, ground := Go.Ground.data }], guard := none }) (v := ?_) rfl (by kernel_rfl) (by kernel_rfl) (by kernel_rfl) (fun _ _ _ h => h) (Or.inl ⟨by rfl, ?_⟩) (by assumption) ?_
                rotate_left
                · intro w hSw
                  obtain ⟨⟨c0, c1, c2, c3, c4⟩, ⟨a0, a1, a2, a3, a4⟩, _⟩ := hSw
                  try dsimp only at c0 c1 c2 c3 c4
                  go_simp
                  try with_reducible rfl
                try simp only [Act.put, List.setIfInBounds_toArray, List.set_cons_zero, List.set_cons_succ]
                refine wpAnyH_take (i := 6) (oi := { dst := some 114, op := Go.Op.load 9 (Go.Operand.tmp 113), type := 9, pos := "top04.go:120", after := #[{ on := 5, ground := Go.Ground.data }], guard := none }) (v := ?_) rfl (by kernel_rfl) (by kernel_rfl) (by kernel_rfl) (fun _ _ _ h => h) (Or.inl ⟨by rfl, ?_⟩) (by assumption) ?_
                rotate_left
                · intro w hSw
                  obtain ⟨⟨c0, c1, c2, c3, c4⟩, ⟨a0, a1, a2, a3, a4⟩, _⟩ := hSw
                  try dsimp only at c0 c1 c2 c3 c4
                  go_simp
                  try with_reducible rfl
                try simp only [Act.put, List.setIfInBounds_toArray, List.set_cons_zero, List.set_cons_succ]
                refine wpAnyH_ready (rs := [7]) (by kernel_rfl) (by simp) ?_
                refine AllReadyH.cons (o := { dst := some 115, op := Go.Op.call { callee := Go.Callee.value (Go.Operand.func 8), args := #[Go.Operand.tmp 109, Go.Operand.tmp 114], argTypes := #[9, 9] }, type := 34, pos := "top04.go:120", after := #[{ on := 1, ground := Go.Ground.data }, { on := 6, ground := Go.Ground.data }], guard := none }) rfl (fun K hK => ?_) ?_
                · go_simp
                  go_at_call 8
                  refine (HCm.out W0).mono ?_
                  rintro e W1 ⟨rfl, hb⟩
                  go_wp2_with fail
                  refine hK.out _ _ ?_ (fun hHeld' => ?_)
                  · exact S9.below hHeld hb
                  clear hK K hHeld hb
                  have hHeld := hHeld'
                  clear hHeld'
                  try simp only [Act.put, List.setIfInBounds_toArray, List.set_cons_zero, List.set_cons_succ]
                  refine wpAnyH_take (i := 8) (oi := { dst := some 107, op := Go.Op.move (Go.Operand.tmp 115), type := 34, pos := "top04.go:120", after := #[{ on := 7, ground := Go.Ground.data }], guard := none }) (v := ?_) rfl (by kernel_rfl) (by kernel_rfl) (by kernel_rfl) (fun _ _ _ h => h) (Or.inl ⟨by rfl, ?_⟩) (by assumption) ?_
                  rotate_left
                  · intro w hSw
                    obtain ⟨⟨c0, c1, c2, c3, c4⟩, ⟨a0, a1, a2, a3, a4⟩, _⟩ := hSw
                    try dsimp only at c0 c1 c2 c3 c4
                    go_simp
                    try with_reducible rfl
                  try simp only [Act.put, List.setIfInBounds_toArray, List.set_cons_zero, List.set_cons_succ]
                  refine wpAnyH_take (i := 9) (oi := { dst := some 116, op := Go.Op.extract (Go.Operand.tmp 107) 0, type := 9, pos := "top04.go:120", after := #[{ on := 8, ground := Go.Ground.data }], guard := none }) (v := ?_) rfl (by kernel_rfl) (by kernel_rfl) (by kernel_rfl) (fun _ _ _ h => h) (Or.inl ⟨by rfl, ?_⟩) (by assumption) ?_
                  rotate_left
                  · intro w hSw
                    obtain ⟨⟨c0, c1, c2, c3, c4⟩, ⟨a0, a1, a2, a3, a4⟩, _⟩ := hSw
                    try dsimp only at c0 c1 c2 c3 c4
                    go_simp
                    try with_reducible rfl
                  try simp only [Act.put, List.setIfInBounds_toArray, List.set_cons_zero, List.set_cons_succ]
                  refine wpAnyH_take (i := 10) (oi := { dst := some 117, op := Go.Op.extract (Go.Operand.tmp 107) 1, type := 31, pos := "top04.go:120", after := #[{ on := 8, ground := Go.Ground.data }, { on := 11, ground := Go.Ground.gcOnly Go.Departure.lateStores }], guard := none }) (v := ?_) rfl (by kernel_rfl) (by kernel_rfl) (by kernel_rfl) (fun _ _ _ h => h) (Or.inl ⟨by rfl, ?_⟩) (by assumption) ?_
                  rotate_left
                  · intro w hSw
                    obtain ⟨⟨c0, c1, c2, c3, c4⟩, ⟨a0, a1, a2, a3, a4⟩, _⟩ := hSw
                    try dsimp only at c0 c1 c2 c3 c4
                    go_simp
                    try with_reducible rfl
                  try simp only [Act.put, List.setIfInBounds_toArray, List.set_cons_zero, List.set_cons_succ]
                  refine wpAnyH_take (i := 11) (oi := { dst := some 16, op := Go.Op.assign (Go.Operand.tmp 116), type := 9, pos := "top04.go:120", after := #[{ on := 9, ground := Go.Ground.data }, { on := 7, ground := Go.Ground.chain }, { on := 0, ground := Go.Ground.phase }, { on := 1, ground := Go.Ground.phase }, { on := 2, ground := Go.Ground.phase }, { on := 3, ground := Go.Ground.phase }, { on := 4, ground := Go.Ground.phase }, { on := 5, ground := Go.Ground.phase }, { on := 6, ground := Go.Ground.phase }, { on := 7, ground := Go.Ground.phase }, { on := 8, ground := Go.Ground.phase }, { on := 9, ground := Go.Ground.phase }, { on := 10, ground := Go.Ground.textOnly Go.Departure.lateStores }], guard := none }) (v := ?_) rfl (by kernel_rfl) (by kernel_rfl) (by kernel_rfl) (fun _ _ _ h => h) (Or.inl ⟨by rfl, ?_⟩) (by assumption) ?_
                  rotate_left
                  · intro w hSw
                    obtain ⟨⟨c0, c1, c2, c3, c4⟩, ⟨a0, a1, a2, a3, a4⟩, _⟩ := hSw
                    try dsimp only at c0 c1 c2 c3 c4
                    go_simp
                    try with_reducible rfl
                  try simp only [Act.put, List.setIfInBounds_toArray, List.set_cons_zero, List.set_cons_succ]
                  refine wpAnyH_take (i := 12) (oi := { dst := some 17, op := Go.Op.assign (Go.Operand.tmp 117), type := 31, pos := "top04.go:120", after := #[{ on := 10, ground := Go.Ground.data }, { on := 11, ground := Go.Ground.chain }, { on := 0, ground := Go.Ground.phase }, { on := 1, ground := Go.Ground.phase }, { on := 2, ground := Go.Ground.phase }, { on := 3, ground := Go.Ground.phase }, { on := 4, ground := Go.Ground.phase }, { on := 5, ground := Go.Ground.phase }, { on := 6, ground := Go.Ground.phase }, { on := 7, ground := Go.Ground.phase }, { on := 8, ground := Go.Ground.phase }, { on := 9, ground := Go.Ground.phase }, { on := 10, ground := Go.Ground.phase }, { on := 11, ground := Go.Ground.phase }], guard := none }) (v := ?_) rfl (by kernel_rfl) (by kernel_rfl) (by kernel_rfl) (fun _ _ _ h => h) (Or.inl ⟨by rfl, ?_⟩) (by assumption) ?_
                  rotate_left
                  · intro w hSw
                    obtain ⟨⟨c0, c1, c2, c3, c4⟩, ⟨a0, a1, a2, a3, a4⟩, _⟩ := hSw
                    try dsimp only at c0 c1 c2 c3 c4
                    go_simp
                    try with_reducible rfl
                  try simp only [Act.put, List.setIfInBounds_toArray, List.set_cons_zero, List.set_cons_succ]
                  refine wpAnyH_done (by kernel_rfl) ?_ _
                  obtain ⟨⟨c0, c1, c2, c3, c4⟩, ⟨a0, a1, a2, a3, a4⟩, HBw⟩ := hHeld
                  try dsimp only at c0 c1 c2 c3 c4
                  go_wp2_with fail
                  go_quiet (fail)
                  go_wp2_with fail
                  go_roundw
                  case rel => exact ⟨i + 1, by omega, by go_num, Lib.hid (HBr.out.trans ((below_n HBw.out _).mono HBr.out.size))⟩
                  case measure => simp [intOf]; omega
                exact AllReadyH.nil
              · obtain rfl : i = l.length := by omega
                have hbw := HWc.out.trans (HBr.out.mono HWc.out.size)
                go_wp2_with fail
                go_ret
                exact ⟨rfl, hbw⟩
          · obtain rfl : E1 = 13 := HM4.out hz1
            clear hz1
            have hbw := HWc.out
            go_wp2_with fail
            go_ret
            exact ⟨rfl, hbw⟩
      · obtain ⟨rfl, rfl⟩ : E2 = 13 ∧ E1 = 13 := HM1.out hz2
        clear HM1 HM2 HM3 HM4 hz2
        have hbw := hB3.out.trans (hb9.out.mono hsz)
        go_wp2_with fail
        go_ret
        exact ⟨rfl, hbw⟩
end Go.Proofs.Ytjjfiilokakppaa
