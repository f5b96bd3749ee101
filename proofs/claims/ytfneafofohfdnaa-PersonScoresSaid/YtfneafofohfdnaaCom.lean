/-
  What CheckName and Common of package person return: contracts, each for all worlds.
-/
import Derived.Test.YtfneafofohfdnaaRdNm
namespace Go.Proofs.Ytfneafofohfdnaa
open Go.RowKit
attribute [local go_sem] set_drewN
theorem checkName_any (s : List UInt8) (w : World) (hl : s.length ≤ 1000000000000) : Calls Try.prog 14 #[.string ⟨s.toArray⟩] w (RetB (.int .i64 (nmE s)) w) := by
  have hr := Lib.hid (fun w => readName_any s w hl)
  go_enter Try.func14, Try.ntmps14
  go_wp2_with (go_at_call 34; refine (hr.out _).mono ?_; rintro e w1 ⟨a, n, c, rfl, hn, hM, hb⟩)
  go_ret
  exact ⟨rfl, hb⟩
theorem firstError_2 (x y r : Int) (h : feE [x, y] = r) (b cap : Nat) (w : World) (hc : IntsAt w b 0 [x, y]) :
    Calls Try.prog 37 #[.slice (some ⟨b, 0, none⟩) 2 cap] w (Ret (.int .i64 r) w) := by
  subst h
  exact firstError_any [x, y] b 0 cap w (by simp) hc
/-- what readNames returns -/
def RN2Post (s t : List UInt8) (w : World) (e : Ending) (w' : World) : Prop :=
  ∃ a n c a' n' c', e = .returned (three (.slice a n c) (.slice a' n' c') (.int .i64 (feE [nmE s, nmE t]))) ∧ n ≤ 25 ∧ n' ≤ 25 ∧ (∀ M, nmE s = 0 → rdN s = some M → ∃ g, a = some ⟨g, 0, none⟩ ∧ n = M.length ∧ SgAt w' g M) ∧
    (∀ M, nmE t = 0 → rdN t = some M → ∃ g, a' = some ⟨g, 0, none⟩ ∧ n' = M.length ∧ SgAt w' g M) ∧ Below w.heap.size w w'
set_option maxHeartbeats 1000000 in
theorem readNames_any (s t : List UInt8) (w : World) (hl : s.length ≤ 1000000000000) (hl2 : t.length ≤ 1000000000000) : Calls Try.prog 42 #[.string ⟨s.toArray⟩, .string ⟨t.toArray⟩] w (RN2Post s t w) := by
  have hr := Lib.hid (fun w => readName_any s w hl)
  have hr2 := Lib.hid (fun w => readName_any t w hl2)
  go_enter Try.func42, Try.ntmps42
  go_wp2_with fail
  refine (hr.out _).mono ?_
  rintro e w1 ⟨a, n, c, rfl, hn, hM, hb⟩
  have q1 := hb.size
  have HM := Lib.hid hM
  clear hM
  go_wp2_with fail
  refine (hr2.out _).mono ?_
  rintro e w2 ⟨a', n', c', rfl, hn', hM', hb2⟩
  have q2 := hb2.size
  have HM' := Lib.hid hM'
  clear hM'
  obtain ⟨E1, hE1⟩ : ∃ E, nmE s = E := ⟨_, rfl⟩
  obtain ⟨E2, hE2⟩ : ∃ E, nmE t = E := ⟨_, rfl⟩
  have HPost := Lib.hid (show RN2Post s t w = fun e w' => ∃ a n c a' n' c', e = .returned (three (.slice a n c) (.slice a' n' c') (.int .i64 (feE [E1, E2]))) ∧ n ≤ 25 ∧ n' ≤ 25 ∧ (∀ M, nmE s = 0 → rdN s = some M → ∃ g, a = some ⟨g, 0, none⟩ ∧ n = M.length ∧ SgAt w' g M) ∧
    (∀ M, nmE t = 0 → rdN t = some M → ∃ g, a' = some ⟨g, 0, none⟩ ∧ n' = M.length ∧ SgAt w' g M) ∧ Below w.heap.size w w' by unfold RN2Post; rw [hE1, hE2])
  rw [hE1, hE2]
  clear hE1 hE2
  go_wp2_with (go_at_call 37; refine (firstError_any [E1, E2] _ 0 2 _ (by simp) (IntsAt.cons (by simp [go_sem]) (IntsAt.one (by simp [go_sem])))).mono ?_; rintro e w' ⟨rfl, rfl⟩)
  go_ret3
  rw [HPost.out]
  have B12 : Below w1.heap.size w1 (w2.alloc (.cells #[.int .i64 E1, .int .i64 E2] 25)) := hb2.alloc q2 _
  refine ⟨a, n, c, a', n', c', rfl, hn, hn', fun M h0 h => ?_, fun M h0 h => ?_, hb.trans (B12.mono q1)⟩
  · obtain ⟨g, e1, e2, e3⟩ := HM.out M h0 h
    exact ⟨g, e1, e2, e3.below B12⟩
  · obtain ⟨g, e1, e2, e3⟩ := HM'.out M h0 h
    exact ⟨g, e1, e2, e3.below ((Below.refl _ _).alloc (Nat.le_refl _) _)⟩
/-- the common text of two names, and the error -/
def cmT (a b : List UInt8) : List UInt8 × Int :=
  if nmE a ≠ 0 then ([], nmE a) else if nmE b ≠ 0 then ([], nmE b) else
    match rdN a, rdN b with
    | some x, some y => (match cmM x y with
      | some R => (nmT R, 0)
      | none => ([], 12))
    | _, _ => ([], 12)
theorem cmT_bad {a b : List UInt8} (h : feE [nmE a, nmE b] ≠ 0) : cmT a b = ([], feE [nmE a, nmE b]) := by
  unfold cmT
  by_cases h1 : nmE a = 0
  · rw [if_neg (by simpa using h1)]
    by_cases h2 : nmE b = 0
    · rw [h1, h2] at h; exact absurd rfl h
    · rw [if_pos h2]; simp [feE, h1, h2]
  · rw [if_pos h1]; simp [feE, h1]
theorem cmT_good {a b : List UInt8} {x y : List Nat} (h1 : nmE a = 0) (h2 : nmE b = 0) (hx : rdN a = some x) (hy : rdN b = some y) : cmT a b = match cmM x y with
      | some R => (nmT R, 0)
      | none => ([], 12) := by
  unfold cmT
  rw [if_neg (by simpa using h1), if_neg (by simpa using h2), hx, hy]
theorem zA_take {a b : List Nat} {k : Nat} (h : a.length = b.length) (hk : k < a.length) : (zA a b).take (k + 1) = (zA a b).take k ++ [a[k] &&& b[k]'(by omega)] := by
  have hz : k < (zA a b).length := by rw [zA_len h]; exact hk
  rw [List.take_succ_eq_append_getElem hz, zA_get hz]
theorem feE_2 {x y : Int} (h : feE [x, y] = 0) : x = 0 ∧ y = 0 := by
  simp only [feE] at h
  by_cases h1 : x = 0
  · rw [if_pos h1] at h
    by_cases h2 : y = 0
    · exact ⟨h1, h2⟩
    · rw [if_neg h2] at h; exact ⟨h1, h⟩
  · rw [if_neg h1] at h; exact absurd h h1
set_option maxRecDepth 100000 in
set_option maxHeartbeats 4000000 in
theorem Common_any (s t : List UInt8) (w : World) (hl : s.length ≤ 1000000000000) (hl2 : t.length ≤ 1000000000000) :
    Calls Try.prog 19 #[.string ⟨s.toArray⟩, .string ⟨t.toArray⟩] w (RetB (two (.string ⟨(cmT s t).1.toArray⟩) (.int .i64 (cmT s t).2)) w) := by
  have hr := Lib.hid (fun w => readNames_any s t w hl hl2)
  by_cases h0 : feE [nmE s, nmE t] = 0
  · obtain ⟨h1, h2⟩ := feE_2 h0
    obtain ⟨x, gx, hx, -⟩ := gd_nmE h1
    obtain ⟨y, gy, hy, -⟩ := gd_nmE h2
    rw [cmT_good h1 h2 hx hy]
    have H1 := Lib.hid h1
    have H2 := Lib.hid h2
    have HX := Lib.hid hx
    have HY := Lib.hid hy
    have GX := Lib.hid gx
    have GY := Lib.hid gy
    have lx := gx.2.1
    have ly := gy.2.1
    have HP := Lib.hid (show RN2Post s t = fun w e w' => ∃ a n c a' n' c', e = .returned (three (.slice a n c) (.slice a' n' c') (.int .i64 0)) ∧ n ≤ 25 ∧ n' ≤ 25 ∧ (∀ M, nmE s = 0 → rdN s = some M → ∃ g, a = some ⟨g, 0, none⟩ ∧ n = M.length ∧ SgAt w' g M) ∧
    (∀ M, nmE t = 0 → rdN t = some M → ∃ g, a' = some ⟨g, 0, none⟩ ∧ n' = M.length ∧ SgAt w' g M) ∧ Below w.heap.size w w' by unfold RN2Post; rw [h0])
    clear h0 h1 h2 hx hy gx gy
    by_cases hlen : x.length = y.length
    · have HC := Lib.hid (show cmM x y = if ∀ m ∈ zA x y, m ≠ 0 then some (zA x y) else none by unfold cmM; simp [hlen])
      obtain ⟨R, hR⟩ : ∃ R, (match cmM x y with | some R => (nmT R, (0 : Int)) | none => ([], 12)) = R := ⟨_, rfl⟩
      rw [hR]
      have HR := Lib.hid hR
      have HLn := Lib.hid hlen
      clear hR
      go_enter Try.func19, Try.ntmps19
      go_wp2_with fail
      refine (hr.out _).mono ?_
      rw [HP.out]
      rintro e w1 ⟨a, n, c, a', n', c', rfl, hn, hn', hM, hM', hb⟩
      obtain ⟨g, rfl, rfl, S1⟩ := hM x H1.out HX.out
      obtain ⟨g', rfl, rfl, S2⟩ := hM' y H2.out HY.out
      have HS1 := Lib.hid S1
      have HS2 := Lib.hid S2
      have q1 := hb.size
      clear hM hM' S1 S2
      have hlb : ((x.length : Int) != (y.length : Int)) = false := by simp [hlen]
      clear hlen
      go_wp2_with (first
        | (go_at_call 38; refine (errorIf_any false _ _).mono ?_; rintro e w' ⟨rfl, rfl⟩)
        | (go_at_call 37; refine (firstError_2 0 0 0 rfl _ 2 _ (IntsAt.cons (by simp [go_sem]) (IntsAt.one (by simp [go_sem, eI])))).mono ?_; rintro e w' ⟨rfl, rfl⟩))
      have B0 := Lib.hid (hb.trans (((Below.refl _ w1).alloc (Nat.le_refl _) (.cells #[.int .i64 0, .int .i64 (eI false 12)] 25)).mono q1))
      have T1 := Lib.hid (HS1.out.below ((Below.refl _ w1).alloc (Nat.le_refl _) (.cells #[.int .i64 0, .int .i64 (eI false 12)] 25)))
      have T2 := Lib.hid (HS2.out.below ((Below.refl _ w1).alloc (Nat.le_refl _) (.cells #[.int .i64 0, .int .i64 (eI false 12)] 25)))
      generalize hW0 : w1.alloc (.cells #[.int .i64 0, .int .i64 (eI false 12)] 25) = W0 at *
      clear hW0
      go_loopw [10, 34] (fun tv iv wr => ∃ k : Nat, k ≤ x.length ∧ iv = .int .i64 k ∧ tv = .string ⟨(nmT ((zA x y).take k)).toArray⟩ ∧ Hid (∀ m ∈ (zA x y).take k, m ≠ 0) ∧ Hid (Below W0.heap.size W0 wr)) (fun _ iv _ => x.length - (intOf iv).toNat)
      case atStart => exact ⟨0, Nat.zero_le _, rfl, rfl, Lib.hid (by simp), Lib.hid (Below.refl _ _)⟩
      case round =>
        obtain ⟨k, hk, rfl, rfl, HA, HB⟩ := hrel
        have hsz := HB.out.size
        by_cases hlt : k < x.length
        · have hky : k < y.length := by have := HLn.out; omega
          have hz : k < (zA x y).length := by rw [zA_len HLn.out]; exact hlt
          have a1 := (T1.out.below HB.out).2 k hlt
          have a2 := (T2.out.below HB.out).2 k hky
          have b1 := (GX.out.2.2 _ (List.getElem_mem hlt)).2
          have b2 := (GY.out.2.2 _ (List.getElem_mem hky)).2
          have hand := u64_and_nat x[k] y[k] (Nat.lt_trans b1 (by decide)) (Nat.lt_trans b2 (by decide))
          have HT := Lib.hid (zA_take HLn.out hlt)
          have hzk := Lib.hid (zA_get hz)
          have hzl : x[k] &&& y[k] < 2 ^ 53 := Nat.lt_of_le_of_lt Nat.and_le_left b1
          have hnl := nmT_len ((zA x y).take k)
          have htk : ((zA x y).take k).length ≤ 24 := by rw [List.length_take]; omega
          clear b1 b2
          obtain ⟨z, hzz⟩ : ∃ z, x[k] &&& y[k] = z := ⟨_, rfl⟩
          rw [hzz] at HT hand hzk hzl
          generalize hxk : x[k] = xk at *
          generalize hyk : y[k] = yk at *
          clear hzz hxk hyk
          obtain ⟨X, hX⟩ : ∃ X, nmT ((zA x y).take k) = X := ⟨_, rfl⟩
          have HX2 := Lib.hid hX
          rw [hX] at hnl ⊢
          clear hX
          by_cases h0 : z = 0
          · subst h0
            have HRn := Lib.hid (show (([] : List UInt8), (12 : Int)) = R by
              rw [← HR.out, HC.out, if_neg]
              intro h
              exact h _ (List.getElem_mem hz) hzk.out)
            have e1 := HRn.out
            subst e1
            clear HR hzk
            go_wp2
            go_quiet (fail)
            go_wp2
            go_ret2
            exact ⟨rfl, B0.out.trans (below_n (HB.out.mono (by have := B0.out.size; omega)) _)⟩
          · have hzb : ((z : Int) == 0) = false := by simpa using h0
            have HTx := Lib.hid (fun w => text_any z ⟨Nat.pos_of_ne_zero h0, hzl⟩ w)
            have htl := txt_len z
            have HN := Lib.hid (show nmT ((zA x y).take (k + 1)) = X ++ txt z by rw [HT.out, nmT_snoc, HX2.out])
            have HA2 := Lib.hid (show ∀ m ∈ (zA x y).take (k + 1), m ≠ 0 by
              rw [HT.out]
              intro m hm
              rcases List.mem_append.1 hm with h | h
              · exact HA.out m h
              · rw [List.mem_singleton.1 h]; exact h0)
            obtain ⟨Y, hY⟩ : ∃ Y, txt z = Y := ⟨_, rfl⟩
            rw [hY] at HTx HN htl
            have n1 : ¬ 9223372036854775807 < X.length + Y.length := by omega
            clear hY h0
            go_wp2
            go_quiet (fail)
            go_wp2_with (go_at_call 43; refine (HTx.out _).mono ?_; rintro e w2 ⟨rfl, hb2⟩)
            go_roundw
            case rel => exact ⟨k + 1, by omega, by go_num, by rw [HN.out, bapp]; simp, HA2, Lib.hid ((below_n HB.out _).trans (hb2.mono (by simpa using hsz)))⟩
            case measure => simp [intOf]; omega
        · obtain rfl : k = x.length := by omega
          have HRn := Lib.hid (show (nmT (zA x y), (0 : Int)) = R by
            have h := HA.out
            rw [List.take_of_length_le (by rw [zA_len HLn.out]; exact Nat.le_refl _)] at h
            rw [← HR.out, HC.out, if_pos h])
          have e1 := HRn.out
          subst e1
          have HTk := Lib.hid (show (zA x y).take x.length = zA x y by rw [List.take_of_length_le (by rw [zA_len HLn.out]; exact Nat.le_refl _)])
          clear HR
          go_wp2
          go_ret2
          exact ⟨by rw [HTk.out]; rfl, B0.out.trans (HB.out.mono (by have := B0.out.size; omega))⟩
    · have HC := Lib.hid (show cmM x y = none by unfold cmM; rw [if_neg]; exact fun h => hlen h.1)
      rw [HC.out]
      simp only
      have HLn := Lib.hid hlen
      have hlb : ((x.length : Int) != (y.length : Int)) = true := by simp; omega
      clear hlen
      go_enter Try.func19, Try.ntmps19
      go_wp2_with fail
      refine (hr.out _).mono ?_
      rw [HP.out]
      rintro e w1 ⟨a, n, c, a', n', c', rfl, hn, hn', hM, hM', hb⟩
      obtain ⟨g, rfl, rfl, S1⟩ := hM x H1.out HX.out
      obtain ⟨g', rfl, rfl, S2⟩ := hM' y H2.out HY.out
      have q1 := hb.size
      clear hM hM' S1 S2
      go_wp2_with (first
        | (go_at_call 38; refine (errorIf_any true _ _).mono ?_; rintro e w' ⟨rfl, rfl⟩)
        | (go_at_call 37; refine (firstError_2 0 12 12 rfl _ 2 _ (IntsAt.cons (by simp [go_sem]) (IntsAt.one (by simp [go_sem, eI])))).mono ?_; rintro e w' ⟨rfl, rfl⟩))
      go_ret2
      exact ⟨rfl, hb.alloc q1 _⟩
  · rw [cmT_bad h0]
    simp only
    have h0b : (feE [nmE s, nmE t] != 0) = true := by simpa using h0
    obtain ⟨E, hE⟩ : ∃ E, feE [nmE s, nmE t] = E := ⟨_, rfl⟩
    have HP := Lib.hid (fun w => (hr.out w).mono (R' := fun e w' => ∃ a n c a' n' c', e = .returned (three (.slice a n c) (.slice a' n' c') (.int .i64 E)) ∧ n ≤ 25 ∧ n' ≤ 25 ∧ Below w.heap.size w w')
      (fun e w' ⟨a, n, c, a', n', c', h1, h2, h3, _, _, h4⟩ => ⟨a, n, c, a', n', c', by rw [h1, hE], h2, h3, h4⟩))
    rw [hE] at h0 h0b ⊢
    have HF := Lib.hid (fun (q : Int) => show feE [E, q] = E by simp [feE, h0])
    clear hr hE h0
    go_enter Try.func19, Try.ntmps19
    go_wp2_with fail
    refine (HP.out _).mono ?_
    rintro e w1 ⟨a, n, c, a', n', c', rfl, hn, hn', hb⟩
    have q1 := hb.size
    obtain ⟨q, hq⟩ : ∃ q, ((n : Int) != (n' : Int)) = q := ⟨_, rfl⟩
    go_wp2_with (first
      | (go_at_call 38; refine (errorIf_any q _ _).mono ?_; rintro e w' ⟨rfl, rfl⟩)
      | (go_at_call 37; refine (firstError_2 E _ E (HF.out (eI q 12)) _ 2 _ (IntsAt.cons (by simp [go_sem]) (IntsAt.one (by simp [go_sem])))).mono ?_; rintro e w' ⟨rfl, rfl⟩))
    go_ret2
    exact ⟨rfl, hb.alloc q1 _⟩
end Go.Proofs.Ytfneafofohfdnaa
