/-
  Cover of the specification of chapter 9; the sizes that its law looks at: contracts.
-/
import Derived.Test.YtcimceepkjpggaaRDv
import Derived.Test.YtcimceepkjpggaaMnK
namespace Go.Proofs.Ytcimceepkjpggaa
open Go.RowKit
attribute [local go_sem] set_drewN
theorem sumD_stepc {l : List Du} {k : Nat} (h : k < l.length) (hr : Rt l) (hl : l.length ≤ 1000) : ∃ S T, sumD (l.take k) = S ∧ sumD (l.take (k + 1)) = T ∧ T = S + l[k].cents ∧ 0 ≤ S ∧ S ≤ 1000000000000000 ∧ 0 ≤ l[k].cents ∧ l[k].cents ≤ 1000000000000 := by
  have h1 := sumD_pos (hr.take k)
  have h3 := sumD_le (hr.take k)
  have h2 : ((l.take k).length : Int) ≤ 1000 := by
    have := List.length_take_le' k l
    omega
  exact ⟨_, _, rfl, rfl, sumD_succ h, h1, by omega, (hr _ (List.getElem_mem h)).1, (hr _ (List.getElem_mem h)).2⟩
theorem sized_any (n : Nat) (w : World) : Calls Try.prog 35 #[.int .i64 n, .int .i64 12, .int .i64 120] w fun e w' => ∃ b, e = .returned (.bool b) ∧ w = w' ∧ (b = true → n ≤ 123) := by
  by_cases h1 : n ≤ 12
  · have z1 : (n : Int) ≤ 12 := by omega
    go_enter Try.func35, Try.ntmps35
    go_wp2
    go_ret
    exact ⟨_, rfl, rfl, fun _ => by omega⟩
  · have z1 : decide ((n : Int) ≤ 12) = false := decide_eq_false (by omega)
    by_cases h2 : 120 < n
    · have z2 : (120 : Int) < n := by omega
      by_cases h3 : n ≤ 123
      · have z3 : (n : Int) ≤ 123 := by omega
        go_enter Try.func35, Try.ntmps35
        go_wp2
        go_ret
        exact ⟨_, rfl, rfl, fun _ => h3⟩
      · have z3 : decide ((n : Int) ≤ 123) = false := decide_eq_false (by omega)
        go_enter Try.func35, Try.ntmps35
        go_wp2
        go_ret
        exact ⟨_, rfl, rfl, fun h => by cases h⟩
    · have z2 : decide ((120 : Int) < n) = false := decide_eq_false (by omega)
      go_enter Try.func35, Try.ntmps35
      go_wp2
      go_ret
      exact ⟨_, rfl, rfl, fun h => by cases h⟩
set_option maxRecDepth 100000 in
set_option maxHeartbeats 4000000 in
theorem xCover_any (v1 v2 : Value) (D P : List Du) (w : World) (h1 : LD w v1 D) (h2 : LD w v2 P) (okD : DuOk D) (okP : DuOk P) :
    Calls Try.prog 40 #[v1, v2] w fun e w' => ∃ v, e = .returned v ∧ Hid (IRow w w' (coverM D P D.length) v) := by
  have lD := okD.len
  have lP := okP.len
  have OKD := Lib.hid okD
  have OKP := Lib.hid okP
  have HK2 := Lib.hid (fun W (hb : Below w.heap.size w W) => h2.below hb)
  obtain ⟨a, cp, rfl, -, hp⟩ := h1
  obtain ⟨a2, cp2, rfl, -, hp2⟩ := h2
  have HP := Lib.hid hp
  have HP2 := Lib.hid hp2
  obtain ⟨i0, hi, hz0, hz1, hz2⟩ := info_parts infoI
  clear hp hp2 okD okP
  go_enter Try.func40, Try.ntmps40
  go_wp2
  go_loopw [5, 6, 7] (fun lv sv iv wr => ∃ (k : Nat) (S : Int) (LV : Value), k ≤ D.length ∧ LV = lv ∧ sv = .int .i64 S ∧ iv = .int .i64 k ∧ Hid (sumD (D.take k) = S) ∧ Hid (IRow w wr (coverM D P k) LV)) (fun _ _ iv _ => D.length - (intOf iv).toNat)
  case atStart => exact ⟨0, 0, _, Nat.zero_le _, rfl, rfl, rfl, Lib.hid rfl, Lib.hid (IRow.nil w)⟩
  case round =>
    obtain ⟨k, S, lv, hk, elv, rfl, rfl, HS, HI⟩ := hrel
    subst elv
    by_cases hlt : k < D.length
    · have hne : D ≠ [] := by rintro rfl; simp at hlt
      obtain ⟨b, o, rfl, hd⟩ := HP.out hne
      have c1 := ((hd.below HI.out.2).2 k hlt).2
      obtain ⟨S', T, e1, e2, e3, s0, s9, x0, x9⟩ := sumD_stepc hlt OKD.out.rt (by omega)
      obtain rfl : S' = S := e1.symm.trans HS.out
      subst e3
      have E2 := Lib.hid e2
      have NX := Lib.hid (show coverM D P (k + 1) = coverM D P k ++ [dayM P (S' + D[k].cents)] by rw [coverM_succ, e2])
      have PL := Lib.hid (coverM_len D P k)
      have hkz : (k : Int) < D.length := by omega
      clear hd e1 e2
      generalize D[k] = d at *
      by_cases hz : S' + d.cents = 0
      · have z1 : (S' + d.cents == 0) = true := by simpa using hz
        go_wp2
        go_loopw [8, 9] (fun dv jv wx => ∃ (j : Nat) (X : Int), j ≤ P.length ∧ dv = .int .i64 X ∧ jv = .int .i64 j ∧ Hid ((X = -1 ∧ 0 < S' + d.cents ∧ ∀ i (hi : i < P.length), i < j → uptS P[i].day P < S' + d.cents) ∨ (0 ≤ X ∧ X = dayM P (S' + d.cents))) ∧ Hid (IRow w wx (coverM D P k) lv)) (fun _ jv _ => P.length - (intOf jv).toNat)
        case atStart => exact ⟨0, 0, Nat.zero_le _, rfl, rfl, Lib.hid (Or.inr ⟨Int.le_refl _, by rw [hz, dayM_0]⟩), HI⟩
        case round =>
          obtain ⟨j, X, hj, rfl, rfl, HX, HJ⟩ := hrel
          by_cases hjl : j < P.length
          · have hjz : (j : Int) < P.length := by omega
            rcases HX.out with ⟨rfl, tp, hf⟩ | ⟨px, ex⟩
            · exfalso; omega
            · have dx : decide (X < 0) = false := decide_eq_false (by omega)
              have EX := Lib.hid ex
              clear ex
              have sj := HJ.out.2.size
              go_wp2_with (at_builtin; refine wpList_append_own _ rfl _ _ 57 rfl w.heap.size 3 i0 (.int .i64 0) 1 8 Try.underlying57 hi hz0 hz1 hz2 rfl (by decide) _ _ _ rfl (HJ.out.1.alloc _) ⟨wr.heap.size, 0, none⟩ 1 1 [.int .i64 X] rfl rfl ?c1 ?c2 ?c3 ?c4 ?c5 ?_)
              try case c1 => exact World.news_of_block (cs := #[.int .i64 X]) (heap_alloc_new _ _)
              case c2 => simp [Value.oneCell']
              case c3 => rw [PL.out]; unfold maxLen; omega
              case c4 => rw [PL.out]; omega
              case c5 => first | omega | (simp; omega)
              intro v3 w5 hown5 hgrow5 _
              have D3 := Lib.hid (IRow.snoc hown5 (HJ.out.2.alloc sj _) hgrow5 (HJ.out.1.alloc _))
              go_wp2
              go_roundw
              case rel => exact ⟨k + 1, S' + d.cents, _, by omega, rfl, (by first | rfl | rw [hz]), by go_num, E2, Lib.hid (by rw [NX.out, ← EX.out]; exact D3.out)⟩
              case measure => simp [intOf]; omega
          · obtain rfl : j = P.length := by omega
            have EX := Lib.hid (show X = dayM P (S' + d.cents) from by
              rcases HX.out with ⟨rfl, tp, hf⟩ | ⟨px, ex⟩
              · exact (none_k OKP.out tp fun i hi => hf i hi hi).symm
              · exact ex)
            have sj := HJ.out.2.size
            go_wp2_with (at_builtin; refine wpList_append_own _ rfl _ _ 57 rfl w.heap.size 3 i0 (.int .i64 0) 1 8 Try.underlying57 hi hz0 hz1 hz2 rfl (by decide) _ _ _ rfl (HJ.out.1.alloc _) ⟨wr.heap.size, 0, none⟩ 1 1 [.int .i64 X] rfl rfl ?c1 ?c2 ?c3 ?c4 ?c5 ?_)
            try case c1 => exact World.news_of_block (cs := #[.int .i64 X]) (heap_alloc_new _ _)
            case c2 => simp [Value.oneCell']
            case c3 => rw [PL.out]; unfold maxLen; omega
            case c4 => rw [PL.out]; omega
            case c5 => first | omega | (simp; omega)
            intro v3 w5 hown5 hgrow5 _
            have D3 := Lib.hid (IRow.snoc hown5 (HJ.out.2.alloc sj _) hgrow5 (HJ.out.1.alloc _))
            go_wp2
            go_roundw
            case rel => exact ⟨k + 1, S' + d.cents, _, by omega, rfl, (by first | rfl | rw [hz]), by go_num, E2, Lib.hid (by rw [NX.out, ← EX.out]; exact D3.out)⟩
            case measure => simp [intOf]; omega
      · have z1 : (S' + d.cents == 0) = false := by simpa using hz
        go_wp2
        go_loopw [8, 9] (fun dv jv wx => ∃ (j : Nat) (X : Int), j ≤ P.length ∧ dv = .int .i64 X ∧ jv = .int .i64 j ∧ Hid ((X = -1 ∧ 0 < S' + d.cents ∧ ∀ i (hi : i < P.length), i < j → uptS P[i].day P < S' + d.cents) ∨ (0 ≤ X ∧ X = dayM P (S' + d.cents))) ∧ Hid (IRow w wx (coverM D P k) lv)) (fun _ jv _ => P.length - (intOf jv).toNat)
        case atStart => exact ⟨0, -1, Nat.zero_le _, rfl, rfl, Lib.hid (Or.inl ⟨rfl, by omega, fun i hi h => absurd h (Nat.not_lt_zero _)⟩), HI⟩
        case round =>
          obtain ⟨j, X, hj, rfl, rfl, HX, HJ⟩ := hrel
          by_cases hjl : j < P.length
          · have hjz : (j : Int) < P.length := by omega
            rcases HX.out with ⟨rfl, tp, hf⟩ | ⟨px, ex⟩
            · have hne2 : P ≠ [] := by rintro rfl; simp at hjl
              obtain ⟨b2, o2, rfl, hd2⟩ := HP2.out hne2
              obtain ⟨y0, y1⟩ := (hd2.below HJ.out.2).2 j hjl
              have U1 := Lib.hid (fun W (hb : Below w.heap.size w W) => upto_any P (.slice (some ⟨b2, o2, none⟩) P.length cp2) P[j].day W (by omega) OKP.out.rt (HK2.out W hb))
              have DJ := Lib.hid (OKP.out.days j hjl).1
              have FX := Lib.hid (fun h => find_k OKP.out tp hjl hf h)
              by_cases hge : S' + d.cents ≤ uptS P[j].day P
              · have UB := (uptS_bd (t := P[j].day) OKP.out.rt).2
                clear hd2 hf
                generalize uptS P[j].day P = U at *
                generalize P[j] = p at *
                go_wp2_with fail
                refine (U1.out _ HJ.out.2).mono ?_
                rintro e w3 ⟨rfl, hb3⟩
                have B3 := Lib.hid (HJ.out.2.trans (hb3.mono HJ.out.2.size))
                have I3 := Lib.hid (ownsRow_below HJ.out.1 hb3)
                have y0 := below_keep hb3 y0
                clear hb3
                go_wp2
                go_roundw
                case rel => exact ⟨j + 1, p.day, by omega, rfl, by go_num, Lib.hid (Or.inr ⟨DJ.out, (FX.out hge).symm⟩), Lib.hid ⟨I3.out, B3.out⟩⟩
                case measure => simp [intOf]; omega
              · have HF := Lib.hid (show ∀ i (hi : i < P.length), i < j + 1 → uptS P[i].day P < S' + d.cents from fun i hi hij => by
                  by_cases he : i = j
                  · subst he; omega
                  · exact hf i hi (by omega))
                have dge : decide (S' + d.cents ≤ uptS P[j].day P) = false := decide_eq_false hge
                have TP := Lib.hid tp
                clear hd2 hf tp
                generalize uptS P[j].day P = U at *
                generalize P[j] = p at *
                go_wp2_with fail
                refine (U1.out _ HJ.out.2).mono ?_
                rintro e w3 ⟨rfl, hb3⟩
                have B3 := Lib.hid (HJ.out.2.trans (hb3.mono HJ.out.2.size))
                have I3 := Lib.hid (ownsRow_below HJ.out.1 hb3)
                clear hb3
                go_wp2
                go_roundw
                case rel => exact ⟨j + 1, -1, by omega, rfl, by go_num, Lib.hid (Or.inl ⟨rfl, TP.out, HF.out⟩), Lib.hid ⟨I3.out, B3.out⟩⟩
                case measure => simp [intOf]; omega
            · have dx : decide (X < 0) = false := decide_eq_false (by omega)
              have EX := Lib.hid ex
              clear ex
              have sj := HJ.out.2.size
              go_wp2_with (at_builtin; refine wpList_append_own _ rfl _ _ 57 rfl w.heap.size 3 i0 (.int .i64 0) 1 8 Try.underlying57 hi hz0 hz1 hz2 rfl (by decide) _ _ _ rfl (HJ.out.1.alloc _) ⟨wr.heap.size, 0, none⟩ 1 1 [.int .i64 X] rfl rfl ?c1 ?c2 ?c3 ?c4 ?c5 ?_)
              try case c1 => exact World.news_of_block (cs := #[.int .i64 X]) (heap_alloc_new _ _)
              case c2 => simp [Value.oneCell']
              case c3 => rw [PL.out]; unfold maxLen; omega
              case c4 => rw [PL.out]; omega
              case c5 => first | omega | (simp; omega)
              intro v3 w5 hown5 hgrow5 _
              have D3 := Lib.hid (IRow.snoc hown5 (HJ.out.2.alloc sj _) hgrow5 (HJ.out.1.alloc _))
              go_wp2
              go_roundw
              case rel => exact ⟨k + 1, S' + d.cents, _, by omega, rfl, (by first | rfl | rw [hz]), by go_num, E2, Lib.hid (by rw [NX.out, ← EX.out]; exact D3.out)⟩
              case measure => simp [intOf]; omega
          · obtain rfl : j = P.length := by omega
            have EX := Lib.hid (show X = dayM P (S' + d.cents) from by
              rcases HX.out with ⟨rfl, tp, hf⟩ | ⟨px, ex⟩
              · exact (none_k OKP.out tp fun i hi => hf i hi hi).symm
              · exact ex)
            have sj := HJ.out.2.size
            go_wp2_with (at_builtin; refine wpList_append_own _ rfl _ _ 57 rfl w.heap.size 3 i0 (.int .i64 0) 1 8 Try.underlying57 hi hz0 hz1 hz2 rfl (by decide) _ _ _ rfl (HJ.out.1.alloc _) ⟨wr.heap.size, 0, none⟩ 1 1 [.int .i64 X] rfl rfl ?c1 ?c2 ?c3 ?c4 ?c5 ?_)
            try case c1 => exact World.news_of_block (cs := #[.int .i64 X]) (heap_alloc_new _ _)
            case c2 => simp [Value.oneCell']
            case c3 => rw [PL.out]; unfold maxLen; omega
            case c4 => rw [PL.out]; omega
            case c5 => first | omega | (simp; omega)
            intro v3 w5 hown5 hgrow5 _
            have D3 := Lib.hid (IRow.snoc hown5 (HJ.out.2.alloc sj _) hgrow5 (HJ.out.1.alloc _))
            go_wp2
            go_roundw
            case rel => exact ⟨k + 1, S' + d.cents, _, by omega, rfl, (by first | rfl | rw [hz]), by go_num, E2, Lib.hid (by rw [NX.out, ← EX.out]; exact D3.out)⟩
            case measure => simp [intOf]; omega
    · obtain rfl : k = D.length := by omega
      go_wp2
      go_ret
      exact ⟨_, rfl, HI⟩
end Go.Proofs.Ytcimceepkjpggaa
