/-
  What ways of package person returns: a map from each entry that chains reach to the last decision of a shortest chain; a contract for all worlds in which the book lies.
-/
import Derived.Test.YtfneafofohfdnaaWl
import Derived.Test.YtfneafofohfdnaaQr
namespace Go.Proofs.Ytfneafofohfdnaa
open Go.RowKit Go.Shelf Go.WideMaps Go.Maps Go.Sort
attribute [local go_sem] set_drewN Oper.semAt_some
set_option maxRecDepth 100000 in
set_option maxHeartbeats 16000000 in
theorem ways_any (bk : Nat) (nE : Nat) (ds : List Dc) (st : List Bool) (frm : Nat) (w : World) (hst : st.length = ds.length) (hln : ds.length ≤ 1000) (hn : nE ≤ 60) (hfrm : frm < nE) (hok : okD nE ds) (hbk : BkAt w.heap.size w bk nE ds st) :
    Calls Try.prog 68 #[.pointer (some ⟨bk, 0, none⟩), .int .i64 frm] w fun e w' => ∃ B D, e = .returned (.map (some B)) ∧ w.heap.size ≤ B ∧ w'.ownsMap Try.prog 3 (plainElem Try.prog 3) B 60 D ∧ AD D (wysM ds st frm) ∧ Below w.heap.size w w' := by
  have hmm := @run_makeMap Try.prog
  have hmx : Try.prog.follows .mixedOrders = true := by kernel_rfl
  obtain ⟨i0, hi, hz0, hz1, hz2⟩ := info_parts infoI
  refine (callsIn_wide (n := 5)).1 ?_
  refine callsIn_of_wp_marks Try.func68 rfl trivial ?_ rfl
  simp only [Try.ntmps68, List.size_toArray, List.length_cons, List.length_nil, Nat.reduceAdd, Nat.reduceSub, Array.replicate_succ, Array.replicate_zero, List.push_toArray, List.append_toArray, List.nil_append, List.cons_append]
  have hm0 : ((w.alloc (.cells #[.pointer (some ⟨bk, 0, none⟩)] 89)).alloc (.map #[] 0)).ownsMap Try.prog 3 (plainElem (H := Unit) Try.prog 3) (w.heap.size + 1) 0 (.map []) := by
    have := World.ownsMap_made (H := Unit) (w.alloc (.cells #[.pointer (some ⟨bk, 0, none⟩)] 89)) Try.prog 3 (plainElem Try.prog 3)
    simpa using this
  gi_wp2_with (refine wpListIn_insert_own _ rfl _ _ _ 92 rfl 3 3 lawI Try.underlying92 _ (w.heap.size + 1) 0 _ rfl hm0 (by unfold maxLen; omega) _ _ _ rfl rfl (keyI (x := (frm : Int)) (by omega) (by omega)) _ [] (plainElem_int Try.underlying3 (wfI (x := -1) (by omega) (by omega))) ?_; intro w1 hown1 hgrow1)
  have hsz1 := hgrow1.size
  simp only [World.size_alloc] at hsz1
  have HB1 := Lib.hid (show Below w.heap.size w w1 from (((Below.refl _ w).alloc (Nat.le_refl _) _).alloc (by simp) _).grown hgrow1 (by simp; omega) (fun k e => by cases e; omega))
  have HbB := Lib.hid (show Boxed w1 w.heap.size 89 (.pointer (some ⟨bk, 0, none⟩)) from ((Boxed.new w 89 (.pointer (some ⟨bk, 0, none⟩))).alloc _).kept hgrow1 (by simp))
  have HO1 := Lib.hid hown1
  have HBK := Lib.hid hbk
  have HOK := Lib.hid hok
  have HST := Lib.hid hst
  clear hown1 hgrow1 hm0 hbk hok hst
  obtain ⟨Bw, hBw⟩ : ∃ Bw, w1.heap.size = Bw := ⟨_, rfl⟩
  obtain ⟨Br, hBr⟩ : ∃ Br, w1.heap.size + 1 + 1 = Br := ⟨_, rfl⟩
  obtain ⟨g0, hg0⟩ : ∃ g0, w1.heap.size + 1 = g0 := ⟨_, rfl⟩
  obtain ⟨Bj, hBj⟩ : ∃ Bj, w1.heap.size + 1 + 1 + 1 = Bj := ⟨_, rfl⟩
  rw [hBj, hBr, hg0, hBw]
  have hBrw : w.heap.size + 2 ≤ Br := by omega
  have hBww : w.heap.size + 2 ≤ Bw := by omega
  refine wpIn_loop (fun a W => ∃ (Bi : Nat) (Ds : List Nat) (i : Nat) (u8 u9 u10 u11 u12 u18 u19 u20 u21 u22 u23 u24 u25 u26 u27 u28 u29 u30 u31 u32 u33 u34 u35 u36 u37 u38 u39 u40 u41 u42 u43 u44 u45 u46 u47 u48 u49 u50 u51 u52 u53 u54 u55 u56 u57 u58 u59 : Value), (i ≤ (wI ds st frm i).length ∧ WL w bk Bw Br Bi i nE Ds (fun v => v.ownBlock ≠ some Bi) (wI ds st frm i) W) ∧ a = { tmps := #[.pointer (some ⟨bk, 0, none⟩), .int .i64 frm, .pointer (some ⟨w.heap.size, 0, none⟩), undef, .map none, .pointer (some ⟨Bw, 0, none⟩), .pointer (some ⟨Br, 0, none⟩), .pointer (some ⟨Bi, 0, none⟩), u8, u9, u10, u11, u12, .map (some (w.heap.size + 1)), .int .i64 frm, .map (some (w.heap.size + 1)), .int .i64 frm, .slice (some ⟨g0, 0, none⟩) 1 1, u18, u19, u20, u21, u22, u23, u24, u25, u26, u27, u28, u29, u30, u31, u32, u33, u34, u35, u36, u37, u38, u39, u40, u41, u42, u43, u44, u45, u46, u47, u48, u49, u50, u51, u52, u53, u54, u55, u56, u57, u58, u59, undef], defers := marks Ds })
    (fun a W => 61 - boxNat (a.tmps.getD 7 undef) W) ?start ?round
  case start =>
    refine ⟨Bj, [], 0, ?_⟩
    (repeat apply Exists.intro)
    refine ⟨⟨Nat.zero_le _, ?_⟩, rfl⟩
    have b1 := Boxed.new w1 92 (.map (some (w.heap.size + 1)))
    have b2 := Boxed.new ((w1.alloc (.cells #[.map (some (w.heap.size + 1))] 92)).alloc (.cells #[.int .i64 frm] 3)) 68 (.slice (some ⟨g0, 0, none⟩) 1 1)
    have b3 := Boxed.new (((w1.alloc (.cells #[.map (some (w.heap.size + 1))] 92)).alloc (.cells #[.int .i64 frm] 3)).alloc (.cells #[.slice (some ⟨g0, 0, none⟩) 1 1] 68)) 3 (.int .i64 0)
    simp only [World.size_alloc] at b1 b2 b3
    rw [hBw] at b1
    rw [hBr] at b2
    rw [hBj] at b3
    have hg := World.alloc_heap_new (w1.alloc (.cells #[.map (some (w.heap.size + 1))] 92)) (.cells #[.int .i64 frm] 3)
    rw [World.size_alloc, hg0] at hg
    refine ⟨⟨_, b2.alloc _, ?_, ?_⟩, ((((HbB.out.alloc _).alloc _).alloc _).alloc _), ((b1.alloc _).alloc _).alloc _, b3, ⟨by simp [wI], fun p hp => ?_⟩, ⟨_, ((((HO1.out.alloc _).alloc _).alloc _).alloc _), ?_⟩, OpenD.nil _ _, (((HB1.out.alloc (by omega) _).alloc (by simp; omega) _).alloc (by simp; omega) _).alloc (by simp; omega) _⟩
    · refine ⟨by simp [wI], .inr ⟨g0, 1, #[.int .i64 frm], rfl, by omega, ?_, Nat.le_refl _, by unfold maxLen; omega, rfl, rfl⟩⟩
      exact (Below.heap_alloc _ _ g0 (by simp; omega)).trans ((Below.heap_alloc _ _ g0 (by simp; omega)).trans hg)
    · simp [Value.ownBlock]; omega
    · have : p = ((frm : Int), -1) := by simpa [wI] using hp
      subst this
      exact ⟨by simp, by simp; omega⟩
    · exact AD_put AD_nil rfl
  case round =>
    rintro a W ⟨Bi, Ds, i, u8, u9, u10, u11, u12, u18, u19, u20, u21, u22, u23, u24, u25, u26, u27, u28, u29, u30, u31, u32, u33, u34, u35, u36, u37, u38, u39, u40, u41, u42, u43, u44, u45, u46, u47, u48, u49, u50, u51, u52, u53, u54, u55, u56, u57, u58, u59, ⟨hi', HW⟩, rfl⟩
    have HWL := Lib.hid HW
    obtain ⟨⟨v, bR, hrow, hNo⟩, bB, bW, bI, hokA, ⟨D, hown, hAD⟩, hOp, hB⟩ := HW
    have hl60 := okA_len hokA
    obtain ⟨L0, hL0⟩ := wI_pos ds st frm i
    have hApos : 0 < (wI ds st frm i).length := by rw [hL0]; simp
    obtain ⟨A, hA⟩ : ∃ A, wI ds st frm i = A := ⟨_, rfl⟩
    have HA := Lib.hid hA
    rw [hA] at HWL hi' hrow hokA hown hAD hl60 hApos
    clear hA hL0
    obtain ⟨g, cap, rfl, hg1, hg2, hcl⟩ := row_shape hrow hApos
    have cR := bR.cell
    have cB := bB.cell
    have cW := bW.cell
    have cI := bI.cell
    have fI := bI.frozen
    have hsz := hB.size
    have hltI := bI.lt
    have HOP := Lib.hid hOp
    have HB := Lib.hid hB
    have HOKA := Lib.hid hokA
    have HMAP := Lib.hid (show ∃ o, W.heap[w.heap.size + 1]? = some o ∧ o.isCells = false ∧ (∀ x, o ≠ .deferred x) by
      obtain ⟨es, ck, hh, _⟩ := hown
      exact ⟨_, hh, rfl, fun x => by simp⟩)
    have hmu := Lib.hid (show boxNat (.pointer (some ⟨Bi, 0, none⟩)) W = i by simp [boxNat, cI, intOf])
    have hltm : w.heap.size + 1 < W.heap.size := by
      obtain ⟨o, ho, _⟩ := HMAP.out
      exact (Array.getElem?_eq_some_iff.1 ho).1
    clear hown hAD hokA hB hOp hrow hNo
    by_cases hlt : i < A.length
    · gi_wp2_with (refine ⟨trivial, ?_⟩; gi_at_call 79; refine (callsIn_wide.2 (standing_any _ _ _)).mono ?_; rintro e w' ⟨rfl, rfl⟩)
      obtain ⟨B1, hB1⟩ : ∃ B1, W.heap.size = B1 := ⟨_, rfl⟩
      obtain ⟨x, hx⟩ : ∃ x, (A[i]).1 = x := ⟨_, rfl⟩
      have HX := Lib.hid hx
      clear hx
      have W0b : Below W.heap.size W ((W.alloc (.cells #[.pointer (some ⟨bk, 0, none⟩)] 89)).alloc (.cells #[.int .i64 0] 3)) := ((Below.refl _ _).alloc (Nat.le_refl _) _).alloc (by simp) _
      have n1 := Boxed.new W 89 (.pointer (some ⟨bk, 0, none⟩))
      have n2 := Boxed.new (W.alloc (.cells #[.pointer (some ⟨bk, 0, none⟩)] 89)) 3 (.int .i64 0)
      simp only [World.size_alloc] at n2
      have n1 := n1.alloc (.cells #[.int .i64 0] 3)
      have hW0s : ((W.alloc (.cells #[.pointer (some ⟨bk, 0, none⟩)] 89)).alloc (.cells #[.int .i64 0] 3)).heap.size = B1 + 2 := by simp; omega
      have HWL0 := Lib.hid ((HWL.out.imp (No' := fun v => v.ownBlock ≠ some Bi ∧ v.ownBlock ≠ some (B1 + 1)) (fun v hl hv => ⟨hv, fun e => by have := hl _ e; omega⟩)).up W0b hsz)
      have HBK0 := Lib.hid ((HBK.out.below HB.out).below (W0b.mono hsz))
      rw [hB1] at n1 n2 ⊢
      have hB1' := hB1
      generalize hW0 : (W.alloc (.cells #[.pointer (some ⟨bk, 0, none⟩)] 89)).alloc (.cells #[.int .i64 0] 3) = W0 at *
      have HW0b := Lib.hid W0b
      clear hW0 W0b
      refine wpIn_rangeFunc_ownG (F := Fence.wide) (n := 5) rfl (by omega) (gf := 88) (lb := #[.pointer (some ⟨B1, 0, none⟩), .pointer (some ⟨B1 + 1, 0, none⟩)]) rfl trivial (enters_of Try.func88 (by kernel_rfl) rfl)
        (std_stops 4 (by omega) B1 (B1 + 1) w.heap.size bk 0 nE ds st HST.out hln W0 (by omega) (by omega) (by omega) n1.cell n2.cell HBK0.out) KpS.trans (KpS.put (by omega) (by omega) (by omega)) (Below.refl _ _) (fun _ => rfl)
        (fun pre W' => WL w bk Bw Br Bi i nE Ds (fun v => v.ownBlock ≠ some Bi ∧ v.ownBlock ≠ some (B1 + 1)) (fW ds st x A pre) W' ∧ Boxed W' B1 89 (.pointer (some ⟨bk, 0, none⟩)) ∧ Boxed W' (B1 + 1) 3 (.int .i64 0))
        (fun _ _ _ => False)
        (OwnFrom.and (WL.own (fW ds st x A) (by omega) (fun D m => by have := HOP.out.lt D m; omega)) (OwnFrom.and (Own.from (boxed_own B1 89 (fun _ => .pointer (some ⟨bk, 0, none⟩))) _) (Own.from (boxed_own (B1 + 1) 3 (fun _ => .int .i64 0)) _)))
        (fun _ _ _ _ _ hs _ _ => hs)
        ⟨HWL0.out, n1, n2⟩
        (fun y => { tmps := #[.pointer (some ⟨bk, 0, none⟩), .int .i64 frm, .pointer (some ⟨w.heap.size, 0, none⟩), undef, .map none, .pointer (some ⟨Bw, 0, none⟩), .pointer (some ⟨Br, 0, none⟩), .pointer (some ⟨Bi, 0, none⟩), .int .i64 (y.1 : Int), u9, u10, u11, u12, .map (some (w.heap.size + 1)), .int .i64 frm, .map (some (w.heap.size + 1)), .int .i64 frm, .slice (some ⟨g0, 0, none⟩) 1 1, .int .i64 i, .slice (some ⟨g, 0, none⟩) A.length cap, .int .i64 (A.length : Int), .bool true, u22, u23, .pointer (some ⟨bk, 0, none⟩), .func (.func 88) #[] #[.pointer (some ⟨B1, 0, none⟩), .pointer (some ⟨B1 + 1, 0, none⟩)], .int .i64 (y.1 : Int), u27, u28, u29, u30, u31, u32, u33, u34, u35, u36, u37, u38, u39, u40, u41, u42, u43, u44, u45, u46, u47, u48, u49, u50, u51, u52, u53, u54, u55, u56, u57, u58, u59, undef], defers := [] }) ?assign ?body ?done ?stop
      case assign =>
        intro l y W' K hK
        gi_wp2
        exact hK
      case body =>
        rintro l pre y W' ⟨HW', p1, p2⟩ hpre
        have HWL' := Lib.hid HW'
        have hSN := fW_snoc (ds := ds) (st := st) (x := x) (A := A) pre y
        have hy := y.2
        obtain ⟨j, hjy⟩ : ∃ j, y.1 = j := ⟨_, rfl⟩
        rw [hjy] at hy hSN ⊢
        obtain ⟨hj, hsb⟩ := hy
        have HSN := Lib.hid hSN
        clear hSN hjy
        obtain ⟨Lp, hLp⟩ := fW_pre ds st x pre A
        obtain ⟨⟨v', r1, r2, r3⟩, r4, r5, r6, r7, ⟨D', r8, r9⟩, r10, r11⟩ := HW'
        obtain ⟨A', hA'⟩ : ∃ A', fW ds st x A pre = A' := ⟨_, rfl⟩
        rw [hA'] at HWL' HSN hLp r2 r7 r8 r9
        clear hA'
        have hAl : A.length ≤ A'.length := by rw [hLp]; simp
        have hl60' := okA_len r7
        have hxat := Lib.hid (show A'[i]? = some (A[i]) by rw [hLp, List.getElem?_append_left hlt, List.getElem?_eq_getElem hlt])
        clear hLp
        obtain ⟨g', cap', rfl, hg1', hg2', hcl'⟩ := row_shape r2 (by omega)
        have hcx := hcl' i (.int .i64 x) (by rw [List.getElem?_map, hxat.out, ← HX.out]; rfl)
        have z1 := r1.cell
        have z1f := r1.frozen
        have z4 := r4.cell
        have z5 := r5.cell
        have z6 := r6.cell
        have hsz' := r11.size
        have hne : ds ≠ [] := fun e => by rw [e] at hj; simp at hj
        obtain ⟨hbl, _, ⟨a1, cap1, c1, s1⟩, _⟩ := HBK.out.below r11
        obtain ⟨gd, rfl, hgd, Dd⟩ := s1 hne
        obtain ⟨e0, e1, e2⟩ := Dd j hj
        have hjst : j < st.length := by rw [HST.out]; exact hj
        have hk0 : ds[j].k = 0 := by
          rw [sd_at hj hjst] at hsb
          simp at hsb
          exact hsb.2
        have hdr := Lib.hid (HOK.out ds[j] (List.getElem_mem hj) (by rw [hk0]; decide))
        have hdj : ds[((j : Nat) : Int).toNat]? = some ds[j] := by simp [List.getElem?_eq_getElem hj]
        have HDJ := Lib.hid hdj
        have HOD := Lib.hid r9
        have HOO := Lib.hid r10
        have HBB := Lib.hid r11
        have HR2 := Lib.hid r2
        have HR3 := Lib.hid r3
        have HR7 := Lib.hid r7
        have hcap1 : j < ds.length := hj
        clear Dd s1 hcl' hdj hsb hk0 hjst hne r9 r10 r11 r2 r3 r7
        obtain ⟨d, hd⟩ : ∃ d, ds[j] = d := ⟨_, rfl⟩
        rw [hd] at e0 e1 e2 hdr HDJ
        clear hd
        have HAC := Lib.hid (fun W => across_any d x W)
        obtain ⟨dk, da, db⟩ := d
        simp only at e0 e1 e2
        have k1 := cell_regrown z1
        have k4 := cell_regrown z4
        have k5 := cell_regrown z5
        have k6 := cell_regrown z6
        have kx := cell_regrown hcx
        have kc := cell_regrown c1
        have ke0 := cell_regrown e0
        have ke1 := cell_regrown e1
        have ke2 := cell_regrown e2
        have hiA : i < A'.length := by omega
        have hkey0 : ∀ t : Int, acM ⟨dk, da, db⟩ x = some t → 0 ≤ t ∧ t < (nE : Int) := fun t ht => acM_range hdr.out ht
        have HKEY := Lib.hid hkey0
        clear hkey0
        cases hac : acM ⟨dk, da, db⟩ x with
        | none =>
          have hav : acV ⟨dk, da, db⟩ x = two (.int .i64 0) (.bool false) := by unfold acV; rw [hac]
          rw [hav] at HAC
          have HSK := Lib.hid (HSN.out.trans (stepW_none HDJ.out hac))
          clear hav hac
          gi_wp2
          have cAC : ∀ d os, CallsIn (Fence.wide.inRound l) (3 - 1) Try.prog 80 #[.agg #[.int .i64 dk, .int .i64 da, .int .i64 db], .int .i64 x] (grow (redrawn W' d) os) fun e w'' => e = .returned (two (.int .i64 0) (.bool false)) ∧ ∃ p : Regrown, w'' = grow (redrawn W' p.d) p.os := fun d os => CallsIn.regrown_of (CallsIn.inRound l (callsIn_wide.2 (HAC.out _)))
          refine wpIn_region_quiet_belowR (by kernel_rfl) hmx (by kernel_rfl) ?_
          repeat (refine wpQuietIn_step (fun _ _ _ _ => trivial) (fun K hK => ?_); go_simp; first | (refine hK _ ?_; clear hK K) | (apply Exists.intro; refine ⟨fun _ => ?_, hK _ ?_⟩; (first | exact ⟨fun h => by cases h, cAC _ _⟩ | exact cAC _ _); clear hK K))
          refine wpQuietIn_nil ?_
          intro _ hw'
          obtain ⟨⟨dq, osq⟩, hw''⟩ := hw'
          subst hw''
          have hbq := Lib.hid (below_regrown W' dq osq)
          have HWn := Lib.hid (HWL'.out.up (below_regrown W' dq osq) hsz')
          have P1 := Lib.hid (boxed_up p1 (below_regrown W' dq osq))
          have P2 := Lib.hid (boxed_up p2 (below_regrown W' dq osq))
          gi_wp2
          exact ⟨keeps_below hbq.out, ⟨hbq.out.mono hsz', (show _ = _ from P1.out).trans (show W'.heap[B1]? = _ from p1).symm, (show _ = _ from P2.out).trans (show W'.heap[B1 + 1]? = _ from p2).symm⟩, by rw [HSK.out]; exact HWn.out, P1.out, P2.out⟩
        | some t =>
          have hav : acV ⟨dk, da, db⟩ x = two (.int .i64 t) (.bool true) := by unfold acV; rw [hac]
          rw [hav] at HAC
          obtain ⟨ht0, ht1⟩ := HKEY.out t hac
          have hkey := keyI (x := t) (by omega) (by omega)
          have cAC : ∀ d os, CallsIn (Fence.wide.inRound l) (3 - 1) Try.prog 80 #[.agg #[.int .i64 dk, .int .i64 da, .int .i64 db], .int .i64 x] (grow (redrawn W' d) os) fun e w'' => e = .returned (two (.int .i64 t) (.bool true)) ∧ ∃ p : Regrown, w'' = grow (redrawn W' p.d) p.os := fun d os => CallsIn.regrown_of (CallsIn.inRound l (callsIn_wide.2 (HAC.out _)))
          cases hh : hasA A' t with
          | true =>
            have HSK := Lib.hid (HSN.out.trans (stepW_has HDJ.out hac hh))
            have hhas : Maps.has D' (.int .i64 t) = true := by rw [(HOD.out.2 t).1, hh]
            clear hav hac hh
            gi_wp2
            refine wpIn_region_quiet_belowR (by kernel_rfl) hmx (by kernel_rfl) ?_
            repeat (refine wpQuietIn_step (fun _ _ _ _ => trivial) (fun K hK => ?_); go_simp; first | (refine hK _ ?_; clear hK K) | (apply Exists.intro; refine ⟨fun _ => ?_, hK _ ?_⟩; (first | exact ⟨fun h => by cases h, cAC _ _⟩ | exact cAC _ _); clear hK K))
            refine wpQuietIn_nil ?_
            intro _ hw'
            obtain ⟨⟨dq, osq⟩, hw''⟩ := hw'
            subst hw''
            have hbq := Lib.hid (below_regrown W' dq osq)
            have HWn := Lib.hid (HWL'.out.up (below_regrown W' dq osq) hsz')
            have P1 := Lib.hid (boxed_up p1 (below_regrown W' dq osq))
            have P2 := Lib.hid (boxed_up p2 (below_regrown W' dq osq))
            have hownq := r8.kept (grown_of_below (below_regrown W' dq osq)) (by simp)
            have kq5 := k5 dq osq
            gi_wp2_with (gi_at_lookup; refine wpListIn_lookup_own_ok_int _ rfl _ _ 92 rfl 3 3 .i64 lawI Try.underlying92 Try.underlying3 (zeroI _) (w.heap.size + 1) A'.length D' rfl hownq _ _ rfl hkey ?_; intro c hat hwc; rw [hhas]; clear hat hwc)
            exact ⟨keeps_below hbq.out, ⟨hbq.out.mono hsz', (show _ = _ from P1.out).trans (show W'.heap[B1]? = _ from p1).symm, (show _ = _ from P2.out).trans (show W'.heap[B1 + 1]? = _ from p2).symm⟩, by rw [HSK.out]; exact HWn.out, P1.out, P2.out⟩
          | false =>
            have HSK := Lib.hid (HSN.out.trans (stepW_new HDJ.out hac hh))
            have hhas : Maps.has D' (.int .i64 t) = false := by rw [(HOD.out.2 t).1, hh]
            have HHH := Lib.hid hh
            clear hav hac hh
            gi_wp2
            refine wpIn_region_quiet_belowR (by kernel_rfl) hmx (by kernel_rfl) ?_
            repeat (refine wpQuietIn_step (fun _ _ _ _ => trivial) (fun K hK => ?_); go_simp; first | (refine hK _ ?_; clear hK K) | (apply Exists.intro; refine ⟨fun _ => ?_, hK _ ?_⟩; (first | exact ⟨fun h => by cases h, cAC _ _⟩ | exact cAC _ _); clear hK K))
            refine wpQuietIn_nil ?_
            intro _ hw'
            obtain ⟨⟨dq, osq⟩, hw''⟩ := hw'
            subst hw''
            have hbq := Lib.hid (below_regrown W' dq osq)
            have P1 := Lib.hid (boxed_up p1 hbq.out)
            have P2 := Lib.hid (boxed_up p2 hbq.out)
            have Q1 := Lib.hid (boxed_up r1 hbq.out)
            have Q4 := Lib.hid (boxed_up r4 hbq.out)
            have Q5 := Lib.hid (boxed_up r5 hbq.out)
            have Q6 := Lib.hid (boxed_up r6 hbq.out)
            have QR := Lib.hid (own_up HR2.out hbq.out)
            have QO := Lib.hid (HOO.out.up hbq.out)
            have QB := Lib.hid (HBB.out.trans (hbq.out.mono hsz'))
            have hownq := r8.kept (grown_of_below hbq.out) (by simp)
            have kq5 := k5 dq osq
            have kqs := Lib.hid hbq.out.size
            generalize hWq : grow (redrawn W' dq) osq = Wq at *
            clear hWq
            have QM := Lib.hid (show ∃ o, Wq.heap[w.heap.size + 1]? = some o ∧ o.isCells = false ∧ (∀ x, o ≠ .deferred x) by
              obtain ⟨es, ck, hh, _⟩ := hownq
              exact ⟨_, hh, rfl, fun x => by simp⟩)
            have hwj := wfI (x := (j : Int)) (by omega) (by omega)
            have sq := Nat.le_trans hsz' kqs.out
            gi_wp2_with (first
              | (gi_at_lookup; refine wpListIn_lookup_own_ok_int _ rfl _ _ 92 rfl 3 3 .i64 lawI Try.underlying92 Try.underlying3 (zeroI _) (w.heap.size + 1) A'.length D' rfl hownq _ _ rfl hkey ?_; intro c hat hwc; rw [hhas]; clear hat hwc)
              | (gi_at_mapUpdate; refine wpListIn_mapUpdate_own _ rfl _ _ _ 92 rfl 3 3 lawI Try.underlying92 _ (w.heap.size + 1) A'.length D' rfl hownq (by unfold maxLen; omega) _ _ _ rfl rfl hkey _ [] (plainElem_int Try.underlying3 hwj) ?_; intro W4 hown4 hgrow4; have R4 := Q1.out.kept hgrow4 (fun e => by injection e; omega); have kR4 := R4.cell; have row4 := (QR.out.kept hgrow4 (.inr (fun e => by have := Q1.out.lt; exact absurd e (row_map QR.out QM.out)))); have sz4 := hgrow4.size)
              | (gi_at_builtin; refine wpListIn_append_own_at _ rfl _ _ 68 rfl w.heap.size 3 i0 (.int .i64 0) 1 8 Try.underlying68 hi hz0 hz1 hz2 rfl (by decide) _ _ _ rfl (row4.alloc _) ⟨W4.heap.size, 0, none⟩ 1 1 [.int .i64 t] rfl rfl (cell_one_new _ _ _) (by simp [Value.oneCell']) (by unfold maxLen; omega) (by omega) (by simp; omega) ?_; intro v5 w5 hown5 hgrow5 _ hloc5; obtain ⟨g5, cap5, rfl⟩ := ownsRow_succ hown5; have R5 := ((R4.alloc _).kept hgrow5 (R4.not_row (by decide) row4)); have kR5 := R5.cell; have fR5 := R5.frozen))
            have fin := WL.push Q1.out QR.out HR3.out Q4.out Q5.out Q6.out HR7.out HOD.out QO.out QB.out P1.out P2.out QM.out (by omega) HHH.out ⟨ht0, ht1⟩ hown4 hgrow4 hown5 hgrow5 (hloc5.imp (fun h => h) (fun h => by rw [h, World.size_alloc]))
            have fin3 : Boxed (w5.setCell ⟨Br, 0, none⟩ (.slice (some ⟨g5, 0, none⟩) (A'.length + 1) cap5)) B1 89 (.pointer (some ⟨bk, 0, none⟩)) := (show _ = _ from fin.2.1.2.1).trans P1.out
            have fin4 : Boxed (w5.setCell ⟨Br, 0, none⟩ (.slice (some ⟨g5, 0, none⟩) (A'.length + 1) cap5)) (B1 + 1) 3 (.int .i64 0) := (show _ = _ from fin.2.1.2.2).trans P2.out
            exact ⟨(keeps_below hbq.out).trans ⟨fin.2.2.size, fun k o hk => fin.2.2.same k o (by omega)⟩, KpS.trans ⟨hbq.out.mono hsz', (show _ = _ from P1.out).trans (show W'.heap[B1]? = _ from p1).symm, (show _ = _ from P2.out).trans (show W'.heap[B1 + 1]? = _ from p2).symm⟩ fin.2.1, by rw [HSK.out]; exact fin.1, fin3, fin4⟩
      case done =>
        rintro D xs W' hD rfl ⟨HW', p1, p2⟩ hK
        rw [fW_row] at HW'
        have HNX := Lib.hid (show wI ds st frm (i + 1) = rowW ds st A x by
          have h1 := HA.out
          have h2 := HX.out
          subst h1
          subst h2
          exact wI_step hlt)
        rw [← HNX.out] at HW'
        have HWn := Lib.hid HW'
        obtain ⟨L1, hL1⟩ := fW_pre ds st x (sdA ds st 0 ds.length) A
        have HLen := Lib.hid (show i + 1 ≤ (wI ds st frm (i + 1)).length by rw [HNX.out, ← fW_row, hL1]; simp; omega)
        have r6 := HW'.2.2.2.1
        have z6 := r6.cell
        have hsz' := HW'.2.2.2.2.2.2.2.size
        clear hL1 HW'
        gi_wp2
        refine ⟨⟨W'.heap.size, D :: Ds, i + 1, ?_⟩, ?_⟩
        · (repeat apply Exists.intro)
          refine ⟨⟨HLen.out, ?_⟩, rfl⟩
          obtain ⟨⟨v, h1, h2, h3⟩, h4, h5, h6, h7, ⟨D', h8, h9⟩, h10, h11⟩ := HWn.out
          exact ⟨⟨v, h1.alloc _, h2.alloc _, fun e => by have := (h2.lt _ e).2; omega⟩, h4.alloc _, h5.alloc _, Boxed.new W' 3 (.int .i64 ((i : Int) + 1)), h7, ⟨D', h8.alloc _, h9⟩, (OpenD.cons h10 HOP.out (by omega) hsz hK).alloc _, h11.alloc hsz' _⟩
        · show 61 - boxNat (.pointer (some ⟨W'.heap.size, 0, none⟩)) _ < 61 - boxNat (.pointer (some ⟨Bi, 0, none⟩)) W
          have e1 : boxNat (.pointer (some ⟨W'.heap.size, 0, none⟩)) (W'.alloc (.cells #[.int .i64 ((i : Int) + 1)] 3)) = i + 1 := by
            have := (Boxed.new W' 3 (.int .i64 ((i : Int) + 1))).cell
            unfold boxNat
            simp only [this, intOf]
            omega
          rw [hmu.out, e1]
          omega
      case stop =>
        rintro D c pre W' _ _ h _
        exact h.elim
    · have hstop := Lib.hid (show wI ds st frm i = wysM ds st frm from wys_stop (by rw [HA.out]; omega) (by omega))
      have HWY := Lib.hid (HA.out.symm.trans hstop.out)
      gi_wp2
      refine leaves_marks (fun W => (∃ D, W.ownsMap Try.prog 3 (plainElem Try.prog 3) (w.heap.size + 1) 60 D ∧ AD D (wysM ds st frm)) ∧ Below w.heap.size w W) ?_ ?_ Ds W HOP.out ?_
      · rintro W2 D2 ⟨⟨D3, h1, h2⟩, h3⟩ hD2 hk2
        refine ⟨⟨D3, h1.kept (grownBy_putObj' W2 D2 _) (fun e => ?_), h2⟩, h3.trans (belowK_b (w := w) (Nat.le_refl _) W2 D2 _ _ hD2 hk2 rfl rfl)⟩
        obtain ⟨es, ck, hh, _⟩ := h1
        injection e with e
        exact open_ne hk2 hh (fun x => by simp) e
      · rintro W2 ⟨⟨D3, h1, h2⟩, h3⟩
        exact ⟨_, results_tmp rfl _ _ _, w.heap.size + 1, D3, rfl, by omega, h1, h2, h3⟩
      · obtain ⟨_, _, _, _, _, ⟨D', h8, h9⟩, _, h11⟩ := HWL.out
        exact ⟨⟨D', h8.mono (by omega), by rw [← HWY.out]; exact h9⟩, h11⟩
end Go.Proofs.Ytfneafofohfdnaa
