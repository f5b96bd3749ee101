/-
  Fee of package money on right inputs: a contract for all worlds.
-/
import Derived.Test.YtcimceepkjpggaaMnS
import Derived.Test.YtcimceepkjpggaaMnRm
import Derived.Test.YtcimceepkjpggaaMnRa
import Derived.Test.YtcimceepkjpggaaMnCh
import Derived.Test.YtcimceepkjpggaaTrg
import Derived.OwnWalk
namespace Go.Proofs.Ytcimceepkjpggaa
open Go.RowKit
attribute [local go_sem] set_drewN
/-- a line of a fee -/
structure Ln where
  ch : Int
  rt : Int
  pm : Int
  am : Int
def lnC (l : Ln) : List Value := [.int .i64 l.ch, .int .i64 l.rt, .int .i64 l.pm, .int .i64 l.am]
theorem lnC_len (l : Ln) : (lnC l).length = 4 := rfl
theorem infoLn : (Try.prog.info? 92).map (fun i => (i.zero, i.size, i.bytes)) = some (some (.agg #[.int .i64 0, .int .i64 0, .int .i64 0, .int .i64 0]), 4, 32) := by kernel_rfl
def lnOf (L : List Ra) (R : List Rm) (i : Nat) (c : Cg) : Ln := ⟨i, (rateM L c.nm c.dy).2, remM R c.nm c.dy, c.un * (rateM L c.nm c.dy).2 * (1000 - remM R c.nm c.dy)⟩
/-- the lines of charges, numbered from i on -/
def lnsOf (L : List Ra) (R : List Rm) : Nat → List Cg → List Ln
  | _, [] => []
  | i, c :: l => lnOf L R i c :: lnsOf L R (i + 1) l
theorem lnsOf_len (L : List Ra) (R : List Rm) : ∀ (i : Nat) (C : List Cg), (lnsOf L R i C).length = C.length
  | _, [] => rfl
  | i, c :: l => by rw [lnsOf, List.length_cons, lnsOf_len L R (i + 1) l, List.length_cons]
theorem lnsOf_snoc (L : List Ra) (R : List Rm) : ∀ (i : Nat) (C : List Cg) (c : Cg), lnsOf L R i (C ++ [c]) = lnsOf L R i C ++ [lnOf L R (i + C.length) c]
  | i, [], c => by simp [lnsOf]
  | i, x :: l, c => by
    rw [List.cons_append, lnsOf, lnsOf, lnsOf_snoc L R (i + 1) l c, List.cons_append, List.length_cons]
    rw [show i + 1 + l.length = i + (l.length + 1) by omega]
def sumA : List Ln → Int
  | [] => 0
  | l :: r => l.am + sumA r
theorem sumA_app : ∀ a b : List Ln, sumA (a ++ b) = sumA a + sumA b
  | [], b => by simp [sumA]
  | x :: a, b => by rw [List.cons_append, sumA, sumA, sumA_app a b]; omega
def feeM (L : List Ra) (R : List Rm) (C : List Cg) : Int := (sumA (lnsOf L R 0 C) + 999) / 1000
structure FeeOk (L : List Ra) (R : List Rm) (C : List Cg) : Prop where
  lL : L.length ≤ 100
  lR : R.length ≤ 100
  lC : C.length ≤ 60
  ct : ∀ r ∈ L, 0 ≤ r.ct ∧ r.ct ≤ 1000000
  pm : ∀ r ∈ R, 0 ≤ r.pm ∧ r.pm ≤ 1000
  un : ∀ c ∈ C, 1 ≤ c.un ∧ c.un ≤ 10000
theorem fee_is {L : List Ra} {R : List Rm} {C : List Cg} (h1 : ratesE L = 0) (h2 : remsE R = 0) (h3 : chgsE L C = 0) : FeeOk L R C := by
  have l1 : ¬ 100 < L.length := fun h => by unfold ratesE at h1; rw [if_pos h] at h1; cases h1
  have l2 : ¬ 100 < R.length := fun h => by unfold remsE at h2; rw [if_pos h] at h2; cases h2
  have l3 : ¬ 60 < C.length := fun h => by unfold chgsE at h3; rw [if_pos h] at h3; cases h3
  unfold ratesE at h1; rw [if_neg l1] at h1
  unfold remsE at h2; rw [if_neg l2] at h2
  unfold chgsE at h3; rw [if_neg l3] at h3
  refine ⟨by omega, by omega, by omega, fun r m => ?_, fun r m => ?_, fun c m => ?_⟩
  · obtain ⟨k, hk, rfl⟩ := List.mem_iff_getElem.1 m
    have := feE_all h1 (errR L k) (List.mem_map.2 ⟨k, List.mem_range.2 hk, rfl⟩)
    rw [errR_at hk] at this
    have e := eI0 (by decide) (feE3 this).2.1
    have e2 : (inB L[k].fr 0 200000 && inB L[k].ct 0 1000000) = true := by simpa using e
    exact inB_iff.1 (Bool.and_eq_true_iff.1 e2).2
  · have := feE_all h2 (remE r) (List.mem_map.2 ⟨r, m, rfl⟩)
    have e := eI0 (by decide) (feE3 this).2.1
    have e2 : (inB r.fr 0 200000 && inB r.to 0 200000 && inB r.pm 1 1000) = true := by simpa using e
    have := inB_iff.1 (Bool.and_eq_true_iff.1 e2).2
    omega
  · have := feE_all h3 (chgE L c) (List.mem_map.2 ⟨c, m, rfl⟩)
    have e := eI0 (by decide) (feE3 this).2.1
    have e2 : (inB c.dy 0 200000 && inB c.un 1 10000) = true := by simpa using e
    exact inB_iff.1 (Bool.and_eq_true_iff.1 e2).2
theorem onS_bd {d : Int} : ∀ {l : List Ra} {s : Int × Int}, (∀ r ∈ l, 0 ≤ r.ct ∧ r.ct ≤ 1000000) → 0 ≤ s.2 → s.2 ≤ 1000000 → 0 ≤ (onS d l s).2 ∧ (onS d l s).2 ≤ 1000000
  | [], _, _, h0, h1 => ⟨h0, h1⟩
  | r :: l, s, h, h0, h1 => by
    have hr := h r (by simp)
    rw [onS]
    split
    · exact onS_bd (fun x m => h x (by simp [m])) hr.1 hr.2
    · exact onS_bd (fun x m => h x (by simp [m])) h0 h1
theorem rateM_bd {L : List Ra} (h : ∀ r ∈ L, 0 ≤ r.ct ∧ r.ct ≤ 1000000) (nm : ByteArray) (d : Int) : 0 ≤ (rateM L nm d).2 ∧ (rateM L nm d).2 ≤ 1000000 :=
  onS_bd (fun r m => h r (List.mem_filter.1 m).1) (by decide) (by decide)
theorem remM_bd {R : List Rm} (h : ∀ r ∈ R, 0 ≤ r.pm ∧ r.pm ≤ 1000) (nm : ByteArray) (d : Int) : 0 ≤ remM R nm d ∧ remM R nm d ≤ 1000 := by
  have := remS_bd (nm := nm) (d := d) h
  unfold remM
  omega
theorem am_bd {u r p : Int} (u0 : 1 ≤ u) (u9 : u ≤ 10000) (r0 : 0 ≤ r) (r9 : r ≤ 1000000) (p0 : 0 ≤ p) (p9 : p ≤ 1000) : 0 ≤ u * r ∧ u * r ≤ 10000000000 ∧ 0 ≤ u * r * (1000 - p) ∧ u * r * (1000 - p) ≤ 10000000000000 := by
  have h1 : 0 ≤ u * r := Int.mul_nonneg (by omega) r0
  have h2 : u * r ≤ 10000 * r := Int.mul_le_mul_of_nonneg_right u9 r0
  have h3 : 0 ≤ u * r * (1000 - p) := Int.mul_nonneg h1 (by omega)
  have h4 : u * r * (1000 - p) ≤ u * r * 1000 := Int.mul_le_mul_of_nonneg_left (by omega) h1
  omega
theorem sumA_bd {L : List Ra} {R : List Rm} (hL : ∀ r ∈ L, 0 ≤ r.ct ∧ r.ct ≤ 1000000) (hR : ∀ r ∈ R, 0 ≤ r.pm ∧ r.pm ≤ 1000) : ∀ (i : Nat) (C : List Cg), (∀ c ∈ C, 1 ≤ c.un ∧ c.un ≤ 10000) → 0 ≤ sumA (lnsOf L R i C) ∧ sumA (lnsOf L R i C) ≤ C.length * 10000000000000
  | _, [], _ => by simp [lnsOf, sumA]
  | i, c :: l, h => by
    have ih := sumA_bd hL hR (i + 1) l (fun x m => h x (by simp [m]))
    have hc := h c (by simp)
    have hr := rateM_bd hL c.nm c.dy
    have hp := remM_bd hR c.nm c.dy
    have ha := am_bd hc.1 hc.2 hr.1 hr.2 hp.1 hp.2
    rw [lnsOf, sumA, List.length_cons]
    have e : (lnOf L R i c).am = c.un * (rateM L c.nm c.dy).2 * (1000 - remM R c.nm c.dy) := rfl
    rw [e]
    omega
theorem line_step {L : List Ra} {R : List Rm} {C : List Cg} (ok : FeeOk L R C) {k : Nat} (h : k < C.length) : ∃ X Y S T, lnsOf L R 0 (C.take k) = X ∧ lnsOf L R 0 (C.take (k + 1)) = Y ∧ sumA X = S ∧ sumA Y = T ∧ Y = X ++ [lnOf L R k C[k]] ∧ T = S + (lnOf L R k C[k]).am ∧ X.length = k ∧ 0 ≤ S ∧ S ≤ 1000000000000000 := by
  have hb := sumA_bd ok.ct ok.pm 0 (C.take k) (fun c m => ok.un c (List.mem_of_mem_take m))
  have hl : ((C.take k).length : Int) ≤ 60 := by
    have := List.length_take_le' k C
    have := ok.lC
    omega
  have e : lnsOf L R 0 (C.take (k + 1)) = lnsOf L R 0 (C.take k) ++ [lnOf L R k C[k]] := by
    rw [List.take_succ_eq_append_getElem h, lnsOf_snoc]
    rw [List.length_take, Nat.min_eq_left (Nat.le_of_lt h), Nat.zero_add]
  refine ⟨_, _, _, _, rfl, rfl, rfl, rfl, e, ?_, ?_, hb.1, by omega⟩
  · rw [e, sumA_app]; simp [sumA]
  · rw [lnsOf_len, List.length_take]; omega
set_option maxRecDepth 100000 in
set_option maxHeartbeats 8000000 in
theorem Fee_ok (L : List Ra) (R : List Rm) (C : List Cg) (v1 v2 v3 : Value) (w : World) (h1 : ratesE L = 0) (h2 : remsE R = 0) (h3 : chgsE L C = 0) (hL : ∀ r ∈ L, FitR r) (hR : ∀ r ∈ R, r.nm.size ≤ maxLen) (hC : ∀ r ∈ C, r.nm.size ≤ maxLen)
    (k1 : LG raC 3 w v1 L) (k2 : LG rmC 4 w v2 R) (k3 : LG cgC 3 w v3 C) :
    Calls Try.prog 27 #[v1, v2, v3] w fun e w' => ∃ v, e = .returned (three v (.int .i64 (feeM L R C)) (.int .i64 0)) ∧ LG lnC 4 w' v (lnsOf L R 0 C) ∧ Below w.heap.size w w' := by
  have OK := Lib.hid (fee_is h1 h2 h3)
  have K0 := Lib.hid (show KQ (fun W => LG raC 3 W v1 L ∧ LG rmC 4 W v2 R ∧ LG cgC 3 W v3 C) w w from ⟨fun A B h hb => ⟨h.1.below hb, h.2.1.below hb, h.2.2.below hb⟩, ⟨k1, k2, k3⟩, Below.refl _ _⟩)
  have H1 := Lib.hid h1
  have H2 := Lib.hid h2
  have H3 := Lib.hid h3
  have HL := Lib.hid hL
  have HR := Lib.hid hR
  have HC := Lib.hid hC
  have C1 := Lib.hid (fun W (h : LG raC 3 W v1 L) => CheckRates_any L v1 W (by have := OK.out.lL; omega) hL h)
  have C2 := Lib.hid (fun W (h : LG rmC 4 W v2 R) => CheckRemissions_any R v2 W (by have := OK.out.lR; omega) hR h)
  rw [h1] at C1
  rw [h2] at C2
  obtain ⟨i0, hi, hz0, hz1, hz2⟩ := info_parts infoLn
  clear h1 h2 h3 hL hR hC k1 k2 k3
  go_enter Try.func27, Try.ntmps27
  go_wp2_with fail
  refine (C1.out _ K0.out.q.1).mono ?_
  rintro e w1 ⟨rfl, hb1⟩
  have K1 := Lib.hid (K0.out.bl hb1)
  clear hb1
  go_wp2_with fail
  refine (C2.out _ K1.out.q.2.1).mono ?_
  rintro e w2 ⟨rfl, hb2⟩
  have K2 := Lib.hid (K1.out.bl hb2)
  clear hb2
  go_wp2_with (go_at_call 49; refine (nFirstError_any [0, 0] _ 0 2 _ (by simp) (IntsAt.cons (by simp [go_sem]) (IntsAt.one (by simp [go_sem])))).mono ?_; rintro e w1 ⟨rfl, rfl⟩; rw [show feE [0, 0] = 0 from rfl])
  refine (tariffOf_any L v1 _ (by have := OK.out.lL; omega) HL.out (K2.out.al _).q.1).mono ?_
  rintro e w3 ⟨BM, rfl, hT, hb3⟩
  have K3 := Lib.hid ((K2.out.al _).bl hb3)
  have HT := Lib.hid hT
  clear hb3 hT
  go_wp2_with fail
  refine (each_chg L BM C v3 _ (by have := OK.out.lC; omega) (by have := OK.out.lL; omega) HC.out HT.out K3.out.q.2.2).mono ?_
  rw [H3.out]
  rintro e w4 ⟨rfl, hb4⟩
  have K4 := Lib.hid (K3.out.bl hb4)
  have HT4 := Lib.hid (HT.out.below hb4)
  clear hb4 HT
  obtain ⟨a3, cp3, e3, -, hp3⟩ := K4.out.q.2.2
  have E3 := Lib.hid e3
  have HP3 := Lib.hid hp3
  clear hp3
  subst e3
  go_wp2
  go_loopw [12, 13, 40] (fun lv sv iv wr => ∃ (k : Nat) (S : Int) (X : List Ln), k ≤ C.length ∧ sv = .int .i64 S ∧ iv = .int .i64 k ∧ Hid (lnsOf L R 0 (C.take k) = X) ∧ Hid (sumA X = S) ∧ Hid (wr.ownsRow w4.heap.size 92 4 lv X.length (flatG lnC X)) ∧ Hid (Below w4.heap.size w4 wr)) (fun _ _ iv _ => C.length - (intOf iv).toNat)
  case atStart => exact ⟨0, 0, [], Nat.zero_le _, rfl, rfl, Lib.hid (by simp [lnsOf]), Lib.hid rfl, Lib.hid (World.ownsRow_nil _ _ _ _), Lib.hid (Below.refl _ _)⟩
  case round =>
    obtain ⟨k, S, X, hk, rfl, rfl, HX, HS, HO, HB⟩ := hrel
    have hsz := HB.out.size
    by_cases hlt : k < C.length
    · have hne : C ≠ [] := by rintro rfl; simp at hlt
      obtain ⟨b, o, rfl, hd⟩ := HP3.out hne
      have hd2 := (hd.below HB.out).2 k hlt
      have c0 := hd2 0 _ rfl
      have c1 := hd2 1 _ rfl
      have c2 := hd2 2 _ rfl
      rw [Nat.add_zero] at c0
      obtain ⟨X', Y, S', T, e1, e2, e3, e4, e5, e6, e7, s0, s9⟩ := line_step OK.out hlt
      obtain rfl : X' = X := e1.symm.trans HX.out
      obtain rfl : S' = S := e3.symm.trans HS.out
      have hun := OK.out.un _ (List.getElem_mem hlt)
      have hnm := HC.out _ (List.getElem_mem hlt)
      have hr := rateM_bd OK.out.ct C[k].nm C[k].dy
      have hp := remM_bd OK.out.pm C[k].nm C[k].dy
      have hlo : lnOf L R k C[k] = ⟨k, (rateM L C[k].nm C[k].dy).2, remM R C[k].nm C[k].dy, C[k].un * (rateM L C[k].nm C[k].dy).2 * (1000 - remM R C[k].nm C[k].dy)⟩ := rfl
      rw [hlo] at e5 e6
      have ON := Lib.hid (fun W (hb : Below w4.heap.size w4 W) => on_any L BM C[k].nm C[k].dy W (HT4.out.below hb) hnm (by have := OK.out.lL; omega))
      have RM := Lib.hid (fun W (hb : Below w4.heap.size w4 W) => remitted_any R v2 C[k].nm C[k].dy W (by have := OK.out.lR; omega) OK.out.pm (K4.out.bl hb).q.2.1)
      generalize (rateM L C[k].nm C[k].dy).1 = rf at *
      generalize (rateM L C[k].nm C[k].dy).2 = rt at *
      generalize remM R C[k].nm C[k].dy = pm at *
      clear hd hd2 hlo
      generalize C[k] = ch at *
      obtain ⟨cn, cd, cu⟩ := ch
      simp only at c0 c1 c2 hun hr hp e5 e6 ON RM
      obtain ⟨a0, a1, a2, a3⟩ := am_bd hun.1 hun.2 hr.1 hr.2 hp.1 hp.2
      have E2 := Lib.hid e2
      have E4 := Lib.hid e4
      have E5 := Lib.hid e5
      have E6 := Lib.hid e6
      have E7 := Lib.hid e7
      have hkC := OK.out.lC
      clear e1 e2 e3 e4 e5 e6 e7
      have BQ := Lib.hid (fun ob => HB.out.alloc hsz ob)
      have j2 : ∀ W, Below (wr.alloc (.cells #[.string cn, .int .i64 cd, .int .i64 cu] 53)).heap.size (wr.alloc (.cells #[.string cn, .int .i64 cd, .int .i64 cu] 53)) W → W.cell? ⟨wr.heap.size, 0, none⟩ = some (.string cn) ∧ W.cell? ⟨wr.heap.size, 1, none⟩ = some (.int .i64 cd) ∧ W.cell? ⟨wr.heap.size, 2, none⟩ = some (.int .i64 cu) := fun W hb =>
        ⟨(hb.cell (p := ⟨wr.heap.size, 0, none⟩) (by simp)).trans (by simp [go_sem]), (hb.cell (p := ⟨wr.heap.size, 1, none⟩) (by simp)).trans (by simp [go_sem]), (hb.cell (p := ⟨wr.heap.size, 2, none⟩) (by simp)).trans (by simp [go_sem])⟩
      have J2 := Lib.hid j2
      have O1 := Lib.hid (fun ob => HO.out.alloc ob)
      clear j2
      go_wp2_with fail
      refine (ON.out _ (BQ.out _)).mono ?_
      rintro e w5 ⟨rfl, hb5⟩
      have B5 := Lib.hid ((BQ.out _).trans (hb5.mono (by simp; omega)))
      have O5 := Lib.hid (ownsRow_below (O1.out _) hb5)
      obtain ⟨d0, d1, d2⟩ := J2.out _ hb5
      have HB5 := Lib.hid hb5
      clear hb5
      generalize eI (decide (rf < 0)) 6 = em
      go_wp2_with fail
      refine (RM.out _ B5.out).mono ?_
      rintro e w6 ⟨rfl, hb6⟩
      have B6 := Lib.hid (B5.out.trans (hb6.mono B5.out.size))
      have O6 := Lib.hid (ownsRow_below O5.out hb6)
      obtain ⟨d0', d1', d2'⟩ := J2.out _ (HB5.out.trans (hb6.mono HB5.out.size))
      have W46 := B6.out.size
      have WW := Lib.hid (K4.out.b.trans (B6.out.mono K4.out.b.size))
      clear hb6 d0 d1 d2 B5 O5
      go_wp2_with (at_builtin; refine wpList_append_own _ rfl _ _ 45 rfl w4.heap.size 92 i0 _ 4 32 Try.underlying45 hi hz0 hz1 hz2 rfl (by decide) _ _ _ rfl (O6.out.alloc _) ⟨w6.heap.size, 0, none⟩ 1 1 [.int .i64 k, .int .i64 rt, .int .i64 pm, .int .i64 (cu * rt * (1000 - pm))] rfl rfl ?c1 ?c2 ?c3 ?c4 ?c5 ?_)
      try case c1 => exact World.news_of_block (cs := #[.int .i64 k, .int .i64 rt, .int .i64 pm, .int .i64 (cu * rt * (1000 - pm))]) (heap_alloc_new _ _)
      try case c2 => simp [Value.oneCell']
      case c3 => rw [E7.out]; unfold maxLen; omega
      case c4 => rw [E7.out]; omega
      case c5 => first | omega | (simp; omega)
      intro v7 w7 hown7 hgrow7 _
      have O7 := Lib.hid (show w7.ownsRow w4.heap.size 92 4 v7 Y.length (flatG lnC Y) by rw [E5.out, List.length_append, flatG_app, flatG_one]; exact hown7)
      have OL := Lib.hid (O6.out.alloc (.cells #[.int .i64 k, .int .i64 rt, .int .i64 pm, .int .i64 (cu * rt * (1000 - pm))] 92))
      have G7 := Lib.hid hgrow7
      clear hown7 hgrow7
      have BN := Lib.hid ((B6.out.alloc B6.out.size (.cells #[.int .i64 k, .int .i64 rt, .int .i64 pm, .int .i64 (cu * rt * (1000 - pm))] 92)).grown G7.out (Nat.le_trans B6.out.size (by simp)) (fun k' e' => (World.ownsRow.lt OL.out k' e').1))
      go_wp2
      go_roundw
      case rel => exact ⟨k + 1, T, Y, by omega, by rw [E6.out], by go_num, E2, E4, O7, BN⟩
      case measure => simp [intOf]; omega
    · obtain rfl : k = C.length := by omega
      have HX2 := Lib.hid (show lnsOf L R 0 C = X by have := HX.out; rwa [List.take_of_length_le (Nat.le_refl _)] at this)
      have hbd := sumA_bd OK.out.ct OK.out.pm 0 C OK.out.un
      have hlC : (C.length : Int) ≤ 60 := by have := OK.out.lC; omega
      rw [HX2.out, HS.out] at hbd
      obtain ⟨s0, s9'⟩ := hbd
      have s9 : S ≤ 1000000000000000 := by omega
      have HF := Lib.hid (show feeM L R C = (S + 1000 - 1) / 1000 by unfold feeM; rw [HX2.out, HS.out]; congr 1; omega)
      have HG := Lib.hid (show LG lnC 4 wr _ (lnsOf L R 0 C) by rw [HX2.out]; exact LG.of_own lnC_len HO.out)
      have WB := Lib.hid (K4.out.b.trans (HB.out.mono K4.out.b.size))
      have p0 : 0 ≤ S + 1000 - 1 := by omega
      clear s9'
      go_wp2
      go_ret3
      exact ⟨_, by rw [HF.out]; rfl, HG.out, WB.out⟩
end Go.Proofs.Ytcimceepkjpggaa
