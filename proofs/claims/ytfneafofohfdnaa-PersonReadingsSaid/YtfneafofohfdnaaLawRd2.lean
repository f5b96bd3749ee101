/-
  PersonReadings' law: two names of at most 64 readings.
-/
import Derived.Test.YtfneafofohfdnaaNaM
import Derived.Test.YtfneafofohfdnaaLawNam
namespace Go.Proofs.Ytfneafofohfdnaa
theorem rdg_mem_snoc {N : List Nat} {n : Nat} {t : List UInt8} {c : UInt8} : t ++ [c] ∈ rdgM (N ++ [n]) ↔ t ∈ rdgM N ∧ c ∈ lets n := by
  rw [rdgM_snoc]
  unfold bhM
  rw [List.mem_flatMap]
  constructor
  · rintro ⟨s, hs, h⟩
    obtain ⟨d, hd, e⟩ := List.mem_map.1 h
    have e1 := List.append_inj_left' e rfl
    have e2 := List.append_inj_right' e rfl
    subst e1
    obtain rfl : d = c := by simpa using e2
    exact ⟨hs, hd⟩
  · rintro ⟨h1, h2⟩
    exact ⟨t, h1, List.mem_map.2 ⟨c, h2, rfl⟩⟩
theorem zA_snoc (L K : List Nat) (m n : Nat) (h : L.length = K.length) : zA (L ++ [m]) (K ++ [n]) = zA L K ++ [m &&& n] := by
  unfold zA
  rw [List.zipWith_append h]
  rfl
theorem snoc_of {K : List Nat} {l : Nat} (h : K.length = l + 1) : ∃ K0 n, K = K0 ++ [n] ∧ K0.length = l := by
  have hne : K ≠ [] := by intro e; rw [e] at h; simp at h
  exact ⟨K.dropLast, K.getLast hne, (List.dropLast_concat_getLast hne).symm, by rw [List.length_dropLast, h]; rfl⟩
theorem bh_filter (m n : Nat) (N : List Nat) : ∀ T : List (List UInt8), (bhM m T).filter (fun x => decide (x ∈ rdgM (N ++ [n]))) = bhM (m &&& n) (T.filter (fun x => decide (x ∈ rdgM N)))
  | [] => rfl
  | t :: T => by
    have ih := bh_filter m n N T
    have e1 : ∀ (k : Nat) (u : List UInt8) (U : List (List UInt8)), bhM k (u :: U) = (lets k).map (fun c => u ++ [c]) ++ bhM k U := fun k u U => by unfold bhM; rw [List.flatMap_cons]
    rw [e1, List.filter_append, ih, List.filter_map]
    have e2 : (lets m).filter ((fun x => decide (x ∈ rdgM (N ++ [n]))) ∘ fun c => t ++ [c]) = if t ∈ rdgM N then lets (m &&& n) else [] := by
      by_cases h : t ∈ rdgM N
      · rw [if_pos h, ← lets_and]
        refine List.filter_congr fun c _ => ?_
        show decide (t ++ [c] ∈ rdgM (N ++ [n])) = decide (c ∈ lets n)
        congr 1
        exact propext (rdg_mem_snoc.trans ⟨fun h => h.2, fun h2 => ⟨h, h2⟩⟩)
      · rw [if_neg h, List.filter_eq_nil_iff]
        intro c _
        show ¬ decide (t ++ [c] ∈ rdgM (N ++ [n])) = true
        simp only [decide_eq_true_eq]
        exact fun h2 => h (rdg_mem_snoc.1 h2).1
    rw [e2]
    by_cases h : t ∈ rdgM N
    · rw [if_pos h, List.filter_cons_of_pos (by simpa using h), e1]
    · rw [if_neg h, List.filter_cons_of_neg (by simpa using h)]; rfl
theorem rdg_zA (M : List Nat) : ∀ N : List Nat, M.length = N.length → (rdgM M).filter (fun x => decide (x ∈ rdgM N)) = rdgM (zA M N) := by
  induction M using snocRec with
  | nil =>
    intro N h
    obtain rfl : N = [] := List.length_eq_zero_iff.1 h.symm
    rfl
  | snoc L m ih =>
    intro N h
    obtain ⟨K, n, rfl, hk⟩ := snoc_of (K := N) (l := L.length) (by rw [← h]; simp)
    rw [rdgM_snoc L m, bh_filter, ih K hk.symm, zA_snoc L K m n hk.symm, rdgM_snoc]
theorem ct_zA (M : List Nat) : ∀ N : List Nat, M.length = N.length → ctM M ≤ 1000000 → ctM (zA M N) ≤ ctM M := by
  induction M using snocRec with
  | nil =>
    intro N h _
    obtain rfl : N = [] := List.length_eq_zero_iff.1 h.symm
    exact Nat.le_refl _
  | snoc L m ih =>
    intro N h hc
    obtain ⟨K, n, rfl, hk⟩ := snoc_of (K := N) (l := L.length) (by rw [← h]; simp)
    have h1 : ctM L ≤ 1000000 := by
      rcases Nat.lt_or_ge 1000000 (ctM L) with g | g
      · rw [ctM_big g] at hc; omega
      · exact g
    have h2 := ih K hk.symm h1
    rw [zA_snoc L K m n hk.symm, ctM_snoc h1, ctM_snoc (Nat.le_trans h2 h1)]
    refine Nat.mul_le_mul h2 ?_
    rw [← lets_and]
    exact List.length_filter_le _ _
theorem rdg_zero {Z : List Nat} (h : 0 ∈ Z) : rdgM Z = [] := by
  induction Z using snocRec with
  | nil => cases h
  | snoc L m ih =>
    rw [rdgM_snoc]
    rcases List.mem_append.1 h with h' | h'
    · rw [ih h']; rfl
    · have e := List.mem_singleton.1 h'
      subst e
      unfold bhM
      rw [lets_zero]
      simp
/-- what both names have in common -/
theorem rdg_both {M N : List Nat} (gM : gdM M) (hM : ctM M ≤ 64) :
    (cmM M N = none ∧ (rdgM M).filter (fun x => decide (x ∈ rdgM N)) = []) ∨ (∃ R, cmM M N = some R ∧ (rdgM M).filter (fun x => decide (x ∈ rdgM N)) = rdgM R ∧ gdM R ∧ ctM R ≤ 64 ∧ rdgM R ≠ [] ∧ (rdgM R).length ≤ 64) := by
  by_cases hl : M.length = N.length
  · have hf := rdg_zA M N hl
    by_cases hz : ∀ m ∈ zA M N, m ≠ 0
    · refine .inr ⟨zA M N, by unfold cmM; rw [if_pos ⟨hl, hz⟩], hf, ?_⟩
      have gR := cmM_gd gM (show cmM M N = some (zA M N) by unfold cmM; rw [if_pos ⟨hl, hz⟩])
      have hc : ctM (zA M N) ≤ 64 := Nat.le_trans (ct_zA M N hl (by omega)) hM
      have hlen := rdgM_len_le (zA M N) (by omega) gR.2.2
      refine ⟨gR, hc, ?_, by omega⟩
      intro e
      rw [e] at hlen
      have h2 := ctM_mono (zA M N) [] gR.2.2 (by simp; omega)
      have h3 : ctM [] = 1 := rfl
      simp at h2 hlen
      omega
    · refine .inl ⟨by unfold cmM; rw [if_neg (fun h => hz h.2)], ?_⟩
      rw [hf]
      apply rdg_zero
      apply Classical.byContradiction
      intro h
      exact hz fun m hm e => h (e ▸ hm)
  · refine .inl ⟨by unfold cmM; rw [if_neg (fun h => hl h.1)], ?_⟩
    rw [List.filter_eq_nil_iff]
    intro x hx
    simp only [decide_eq_true_eq]
    intro hy
    exact hl ((rdg_el M x hx).symm.trans (rdg_el N x hy))
end Go.Proofs.Ytfneafofohfdnaa
namespace Go.Proofs.Ytfneafofohfdnaa
open Go.RowKit
theorem Readings_gen (s : List UInt8) (w : World) (hl : s.length ≤ 200) : Calls Try.prog 12 #[.string ⟨s.toArray⟩] w (fun e w' => ∃ v, e = .returned (two v (.int .i64 (rdE s))) ∧ Below w.heap.size w w') := by
  by_cases h : rdE s = 0
  · obtain ⟨h1, h2⟩ := rdE_zero h
    have h0 : nmE s = 0 := by
      by_cases c : nmE s = 0
      · exact c
      · rw [cnT_bad c] at h1; exact h1
    obtain ⟨M, gM, hM, -⟩ := gd_nmE h0
    have hct : ctM M ≤ 64 := by
      rw [cnT_good h0 hM] at h1 h2
      by_cases c : 1000000 < ctM M
      · rw [if_pos c] at h1; cases h1
      · rw [if_neg c] at h2; exact h2
    rw [h]
    exact (Readings_good s M w (by omega) h0 gM hM hct).mono fun e w' ⟨v, he, hr⟩ => ⟨v, he, hr.2⟩
  · exact (Readings_bad s w (by omega) h).mono fun e w' ⟨he, hb⟩ => ⟨_, he, hb⟩
set_option maxRecDepth 100000 in
set_option maxHeartbeats 8000000 in
theorem rdg_long (a b : List UInt8) (w : World) (h : ¬ (a.length ≤ 200 ∧ b.length ≤ 200)) : Calls Try.prog 5 #[.string ⟨a.toArray⟩, .string ⟨b.toArray⟩] w (RetB (.bool true) w) := by
  by_cases ha : a.length ≤ 200
  · have ea : decide (a.length ≤ 200) = true := decide_eq_true ha
    have eb : decide (b.length ≤ 200) = false := decide_eq_false (fun hb => h ⟨ha, hb⟩)
    have A1 := Lib.hid (fun W => ea ▸ short_any a W)
    have A2 := Lib.hid (fun W => eb ▸ short_any b W)
    go_enter Try.func5, Try.ntmps5
    go_wp2_with (first
      | (go_at_call 8; refine (awake_any _).mono ?_; rintro e w1 ⟨rfl, hb1⟩)
      | (go_at_call 9; first | (with_reducible refine (A1.out _).mono ?_; rintro e w' ⟨rfl, rfl⟩) | (with_reducible refine (A2.out _).mono ?_; rintro e w' ⟨rfl, rfl⟩)))
    go_ret
    exact ⟨rfl, hb1⟩
  · have ea : decide (a.length ≤ 200) = false := decide_eq_false ha
    have A1 := Lib.hid (fun W => ea ▸ short_any a W)
    go_enter Try.func5, Try.ntmps5
    go_wp2_with (first
        | (go_at_call 8; refine (awake_any _).mono ?_; rintro e w1 ⟨rfl, hb1⟩)
        | (go_at_call 9; refine (A1.out _).mono ?_; rintro e w' ⟨rfl, rfl⟩))
    go_ret
    exact ⟨rfl, hb1⟩
set_option maxRecDepth 100000 in
set_option maxHeartbeats 8000000 in
theorem rdg_bad (a b : List UInt8) (w : World) (la : a.length ≤ 200) (lb : b.length ≤ 200) (h : ¬ (rdE a = 0 ∧ rdE b = 0)) : Calls Try.prog 5 #[.string ⟨a.toArray⟩, .string ⟨b.toArray⟩] w (RetB (.bool true) w) := by
  have A1 := Lib.hid (fun W => (decide_eq_true la : decide (a.length ≤ 200) = true) ▸ short_any a W)
  have A2 := Lib.hid (fun W => (decide_eq_true lb : decide (b.length ≤ 200) = true) ▸ short_any b W)
  have R1 := Lib.hid (fun W => Readings_gen a W la)
  have R2 := Lib.hid (fun W => Readings_gen b W lb)
  generalize rdE a = E at *
  generalize rdE b = F at *
  by_cases h1 : E = 0
  · have h2 : (F != 0) = true := by
      have : F ≠ 0 := fun e => h ⟨h1, e⟩
      simpa using this
    have h3 : (E != 0) = false := by simp [h1]
    clear h h1
    go_enter Try.func5, Try.ntmps5
    go_wp2_with (first
      | (go_at_call 8; refine (awake_any _).mono ?_; rintro e w1 ⟨rfl, hb1⟩)
      | (go_at_call 9; first | (with_reducible refine (A1.out _).mono ?_; rintro e w' ⟨rfl, rfl⟩) | (with_reducible refine (A2.out _).mono ?_; rintro e w' ⟨rfl, rfl⟩))
      | (go_at_call 12; first | (with_reducible refine (R1.out _).mono ?_; rintro e w2 ⟨v2, rfl, hb2⟩) | (with_reducible refine (R2.out _).mono ?_; rintro e w3 ⟨v3, rfl, hb3⟩)))
    go_ret
    exact ⟨rfl, bt' (bt' hb1 hb2) hb3⟩
  · have h3 : (E != 0) = true := by simpa using h1
    clear h h1
    go_enter Try.func5, Try.ntmps5
    go_wp2_with (first
      | (go_at_call 8; refine (awake_any _).mono ?_; rintro e w1 ⟨rfl, hb1⟩)
      | (go_at_call 9; first | (with_reducible refine (A1.out _).mono ?_; rintro e w' ⟨rfl, rfl⟩) | (with_reducible refine (A2.out _).mono ?_; rintro e w' ⟨rfl, rfl⟩))
      | (go_at_call 12; first | (with_reducible refine (R1.out _).mono ?_; rintro e w2 ⟨v2, rfl, hb2⟩) | (with_reducible refine (R2.out _).mono ?_; rintro e w3 ⟨v3, rfl, hb3⟩)))
    go_ret
    exact ⟨rfl, bt' (bt' hb1 hb2) hb3⟩
end Go.Proofs.Ytfneafofohfdnaa
namespace Go.Proofs.Ytfneafofohfdnaa
open Go.RowKit
theorem rdE_good {s : List UInt8} (h : rdE s = 0) : ∃ M, nmE s = 0 ∧ gdM M ∧ rdN s = some M ∧ s = nmT M ∧ ctM M ≤ 64 ∧ (rdgM M).length ≤ 64 := by
  obtain ⟨h1, h2⟩ := rdE_zero h
  have h0 : nmE s = 0 := by
    by_cases c : nmE s = 0
    · exact c
    · rw [cnT_bad c] at h1; exact h1
  obtain ⟨M, gM, hM, hs⟩ := gd_nmE h0
  have hct : ctM M ≤ 64 := by
    rw [cnT_good h0 hM] at h1 h2
    by_cases c : 1000000 < ctM M
    · rw [if_pos c] at h1; cases h1
    · rw [if_neg c] at h2; exact h2
  exact ⟨M, h0, gM, hM, hs, hct, by rw [rdgM_len_le M (by omega) gM.2.2]; exact hct⟩
theorem cmT_self {a : List UInt8} {M : List Nat} (h : nmE a = 0) (gM : gdM M) (hM : rdN a = some M) (ea : a = nmT M) : cmT a a = (a, 0) := by
  have e : cmM M M = some M := cmM_self (fun m hm => by have := (gM.2.2 m hm).1; omega)
  rw [cmT_good h h hM hM, e]
  show (nmT M, (0 : Int)) = (a, 0)
  rw [ea]
theorem flt_step {X Y : List (List UInt8)} {i : Nat} (hi : i < X.length) : ∃ D D2 x, (X.take i).filter (fun x => decide (x ∈ Y)) = D ∧ (X.take (i + 1)).filter (fun x => decide (x ∈ Y)) = D2 ∧ X[i] = x ∧ (D2 = if x ∈ Y then D ++ [x] else D) ∧ D.length ≤ i := by
  refine ⟨_, _, _, rfl, rfl, rfl, ?_, ?_⟩
  · rw [List.take_succ_eq_append_getElem hi, List.filter_append]
    by_cases h : X[i] ∈ Y <;> simp [h]
  · refine Nat.le_trans (List.length_filter_le _ _) ?_
    rw [List.length_take]; omega
set_option maxRecDepth 100000 in
set_option maxHeartbeats 8000000 in
theorem rdg_good (a b : List UInt8) (M N : List Nat) (w : World) (la : a.length ≤ 200) (lb : b.length ≤ 200) (ha : nmE a = 0) (hb : nmE b = 0) (gM : gdM M) (gN : gdM N) (hM : rdN a = some M) (hN : rdN b = some N) (ea : a = nmT M) (cM : ctM M ≤ 64) (cN : ctM N ≤ 64) (lM : (rdgM M).length ≤ 64) (lN : (rdgM N).length ≤ 64) :
    Calls Try.prog 5 #[.string ⟨a.toArray⟩, .string ⟨b.toArray⟩] w (RetB (.bool true) w) := by
  obtain ⟨i0, hi, hz0, hz1, hz2⟩ := info_parts infoS
  have A1 := Lib.hid (fun W => (decide_eq_true la : decide (a.length ≤ 200) = true) ▸ short_any a W)
  have A2 := Lib.hid (fun W => (decide_eq_true lb : decide (b.length ≤ 200) = true) ▸ short_any b W)
  have R1 := Lib.hid (fun W => Readings_good a M W (by omega) ha gM hM cM)
  have R2 := Lib.hid (fun W => Readings_good b N W (by omega) hb gN hN cN)
  have hBoth := Lib.hid (rdg_both (N := N) gM cM)
  generalize hX : rdgM M = X at *
  generalize hY : rdgM N = Y at *
  have EA := Lib.hid ea
  have HA0 := Lib.hid ha
  have HB0 := Lib.hid hb
  have HM := Lib.hid hM
  have HN := Lib.hid hN
  have GM := Lib.hid gM
  have GN := Lib.hid gN
  clear hX hY ea ha hb hM hN gM gN cM cN
  go_enter Try.func5, Try.ntmps5
  go_wp2_with (first
    | (go_at_call 8; refine (awake_any _).mono ?_; rintro e w1 ⟨rfl, hb1⟩)
    | (go_at_call 9; first | (with_reducible refine (A1.out _).mono ?_; rintro e w' ⟨rfl, rfl⟩) | (with_reducible refine (A2.out _).mono ?_; rintro e w' ⟨rfl, rfl⟩))
    | (go_at_call 12; first | ((with_reducible refine (R1.out _).mono ?_); rintro e w2 ⟨v2, rfl, hr2⟩; have hb2 := hr2.2; have T2 := Lib.hid hr2.ti; clear hr2) | ((with_reducible refine (R2.out _).mono ?_); rintro e w3 ⟨v3, rfl, hr3⟩; have hb3 := hr3.2; have T3 := Lib.hid (T2.out.below hb3); have U3 := Lib.hid hr3.ti; clear hr3)))
  obtain ⟨ax, cx, rfl, px⟩ := T3.out
  have PX := Lib.hid px
  have BW := Lib.hid (bt' (bt' hb1 hb2) hb3)
  clear px T2
  go_loopw [9, 10] (fun cv iv wr => ∃ i : Nat, i ≤ X.length ∧ iv = .int .i64 i ∧ Hid (CRow w3 wr ((X.take i).filter (fun x => decide (x ∈ Y))) cv)) (fun _ iv _ => X.length - (intOf iv).toNat)
  case atStart => exact ⟨0, Nat.zero_le _, rfl, Lib.hid ⟨World.ownsRow_nil _ _ _ _, Below.refl _ _⟩⟩
  case round =>
    obtain ⟨i, hi2, rfl, HRow⟩ := hrel
    have hsz := HRow.out.2.size
    have hle : (X.length : Int) ≤ 64 := by omega
    by_cases hlt : i < X.length
    · obtain ⟨D, D2, x, hD, hD2, hx, hif, hDi⟩ := flt_step (Y := Y) hlt
      rw [hD] at HRow
      have HD2 := Lib.hid hD2
      have HIF := Lib.hid hif
      obtain ⟨g, rfl, q1⟩ := PX.out (by rintro rfl; simp at hlt)
      have a1 := (q1.below HRow.out.2).2 i X[i] (by simp [hlt])
      rw [hx] at a1
      have HT := Lib.hid (hasText_any x (U3.out.below HRow.out.2) (by omega))
      have hDl : D.length ≤ 64 := by omega
      have HY : Hid (g < w3.heap.size) := Lib.hid q1.1
      clear hD hD2 hx hif hDi q1
      obtain ⟨a2', c2', rfl, _⟩ := HRow.out.texts
      by_cases hm : x ∈ Y
      · have HE := Lib.hid (show D2 = D ++ [x] by rw [HIF.out, if_pos hm])
        rw [decide_eq_true hm] at HT
        clear hm
        go_wp2_with (first
          | (go_at_call 24; refine HT.out.mono ?_; rintro e w4 ⟨rfl, hb4⟩; have R9 := Lib.hid (HRow.out.below hb4); have hs9 := R9.out.2.size; have a9 := below_keep hb4 a1)
          | (at_builtin; refine wpList_append_own _ rfl _ _ 24 rfl w3.heap.size 9 i0 (.string ⟨#[]⟩) 1 16 Try.underlying24 hi hz0 hz1 hz2 rfl (by decide) _ _ _ rfl (R9.out.1.alloc _) ⟨w4.heap.size, 0, none⟩ 1 1 [strV x] rfl rfl (World.news_of_block (cs := #[strV x]) (heap_alloc_new _ _)) (by simp [strV, Value.oneCell']) (by unfold maxLen; omega) (by omega) (by simp; omega) ?_; intro v5 w5 hown5 hgrow5 _))
        have D5 := Lib.hid (CRow.snoc (x := x) hown5 (R9.out.2.alloc (by omega) _) hgrow5 (R9.out.1.alloc _))
        go_wp2
        go_roundw
        case rel => exact ⟨i + 1, by omega, by go_num, by rw [HD2.out, HE.out]; exact D5⟩
        case measure => simp [intOf]; omega
      · have HE := Lib.hid (show D2 = D by rw [HIF.out, if_neg hm])
        rw [decide_eq_false hm] at HT
        clear hm
        go_wp2_with (go_at_call 24; refine HT.out.mono ?_; rintro e w4 ⟨rfl, hb4⟩; have R9 := Lib.hid (HRow.out.below hb4))
        go_roundw
        case rel => exact ⟨i + 1, by omega, by go_num, by rw [HD2.out, HE.out]; exact R9⟩
        case measure => simp [intOf]; omega
    · obtain rfl : i = X.length := by omega
      rw [List.take_length] at HRow
      have C1 := Lib.hid (fun W => Common_any a b W (by omega) (by omega))
      rcases hBoth.out with ⟨hn, hf⟩ | ⟨R, hs, hf, gR, cR, nR, lR⟩
      · rw [cmT_good HA0.out HB0.out HM.out HN.out, hn] at C1
        rw [hf] at HRow
        obtain ⟨a2', c2', rfl, _⟩ := HRow.out.texts
        clear hn hf
        go_wp2_with (go_at_call 19; refine (C1.out _).mono ?_; rintro e w6 ⟨rfl, hb6⟩)
        go_ret
        exact ⟨rfl, bt' (bt' BW.out HRow.out.2) hb6⟩
      · have C2 := Lib.hid (fun W => Common_any a a W (by omega) (by omega))
        have e1 : cmT a b = (nmT R, 0) := by rw [cmT_good HA0.out HB0.out HM.out HN.out, hs]
        have e2 : cmT a a = (a, 0) := cmT_self HA0.out GM.out HM.out EA.out
        rw [e1] at C1
        rw [e2] at C2
        have R3 := Lib.hid (fun W => Readings_good (nmT R) R W (by have := nmT_len R; have := gR.2.1; omega) (nmE_gd gR) gR (rdN_nmT gR.2.2) cR)
        rw [hf] at HRow
        clear hs hf gR cR e1 e2
        generalize nmT R = Z at *
        generalize rdgM R = Q at *
        have hQ : 0 < Q.length := List.length_pos_iff.2 nR
        have hQb : ((Q.length : Int) == 0) = false := by rw [beq_eq_false_iff_ne]; omega
        obtain ⟨a2', c2', rfl, _⟩ := HRow.out.texts
        have TC := Lib.hid HRow.out.ti
        go_wp2_with (first
          | (go_at_call 19; first | (with_reducible refine (C1.out _).mono ?_; rintro e w6 ⟨rfl, hb6⟩) | (with_reducible refine (C2.out _).mono ?_; rintro e w8 ⟨rfl, hb8⟩))
          | (go_at_call 12; refine (R3.out _).mono ?_; rintro e w7 ⟨v7, rfl, hr7⟩; have hb7 := hr7.2; have T7 := Lib.hid hr7.ti; have TC7 := Lib.hid ((TC.out.below hb6).below hb7); clear hr7)
          | (go_at_call 16; refine (texts_eq (T7.out.below hb8) (TC7.out.below hb8) (by omega)).mono ?_; rintro e w9 ⟨rfl, hb9⟩))
        go_ret
        exact ⟨rfl, bt' (bt' (bt' (bt' (bt' BW.out HRow.out.2) hb6) hb7) hb8) hb9⟩
theorem rdg_any (a b : List UInt8) (w : World) : Calls Try.prog 5 #[.string ⟨a.toArray⟩, .string ⟨b.toArray⟩] w (RetB (.bool true) w) := by
  by_cases h : a.length ≤ 200 ∧ b.length ≤ 200
  · by_cases h2 : rdE a = 0 ∧ rdE b = 0
    · obtain ⟨M, h1, gM, hM, eM, cM, lM⟩ := rdE_good h2.1
      obtain ⟨N, h1', gN, hN, _, cN, lN⟩ := rdE_good h2.2
      exact rdg_good a b M N w h.1 h.2 h1 h1' gM gN hM hN eM cM cN lM lN
    · exact rdg_bad a b w h.1 h.2 h2
  · exact rdg_long a b w h
end Go.Proofs.Ytfneafofohfdnaa
