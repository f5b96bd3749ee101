/-
  What checkNote and CheckNotes of the specification, and CheckNotes of package person, return: contracts, each for all worlds in which the entries lie.
-/
import Derived.Test.YtfneafofohfdnaaCkN
namespace Go.Proofs.Ytfneafofohfdnaa
open Go.RowKit
attribute [local go_sem] set_drewN
theorem cn_name {nm : List UInt8} {bf bt df dt : Int} (h : nmE nm ≠ 0) : cnE nm bf bt df dt = nmE nm := by
  unfold cnE; simp [feE, h]
theorem cn_rest {nm : List UInt8} {bf bt df dt : Int} (h : nmE nm = 0) : cnE nm bf bt df dt = feE [eI (!(inB bf 0 200000 && inB bt 0 200000)) 2, eI (!(inB df 0 200000 && inB dt 0 200000)) 2, eI (decide (bt < bf) || decide (dt < df)) 9, eI (decide (dt < bf)) 13] := by
  unfold cnE
  rw [h]
  have e1 : (!decide (bf ≤ bt)) = decide (bt < bf) := by
    by_cases g : bf ≤ bt
    · have g2 : ¬ bt < bf := by omega
      simp [g, g2]
    · have g2 : bt < bf := by omega
      simp [g, g2]
  have e2 : (!decide (df ≤ dt)) = decide (dt < df) := by
    by_cases g : df ≤ dt
    · have g2 : ¬ dt < df := by omega
      simp [g, g2]
    · have g2 : dt < df := by omega
      simp [g, g2]
  rw [e1, e2]
  cases (inB bf 0 200000 && inB bt 0 200000) <;> cases (inB df 0 200000 && inB dt 0 200000) <;> simp [feE, eI]
set_option maxRecDepth 100000 in
set_option maxHeartbeats 2000000 in
theorem xCheckNote_any (nm : List UInt8) (bf bt df dt : Int) (w : World) (hl : nm.length ≤ 2000000) :
    Calls Try.prog 50 #[.agg #[.string ⟨nm.toArray⟩, .int .i64 bf, .int .i64 bt, .int .i64 df, .int .i64 dt]] w (RetB (.int .i64 (cnE nm bf bt df dt)) w) := by
  have HN := Lib.hid (fun w => xCheckName_any nm w hl)
  have HB0 := Lib.hid ((Below.refl w.heap.size w).alloc (Nat.le_refl _) (.cells #[.string ⟨nm.toArray⟩, .int .i64 bf, .int .i64 bt, .int .i64 df, .int .i64 dt] 50))
  by_cases h0 : nmE nm = 0
  · rw [cn_rest h0]
    rw [h0] at HN
    have H1 := Lib.hid (fun w => checkSpan_any bf bt w)
    have H2 := Lib.hid (fun w => checkSpan_any df dt w)
    obtain ⟨p1, hp1⟩ : ∃ p, (inB bf 0 200000 && inB bt 0 200000) = p := ⟨_, rfl⟩
    obtain ⟨p2, hp2⟩ : ∃ p, (inB df 0 200000 && inB dt 0 200000) = p := ⟨_, rfl⟩
    rw [hp1] at H1 ⊢
    rw [hp2] at H2 ⊢
    clear hp1 hp2 h0
    have N0 := Lib.hid (fun (W : World) (hb : Below (w.alloc (.cells #[.string ⟨nm.toArray⟩, .int .i64 bf, .int .i64 bt, .int .i64 df, .int .i64 dt] 50)).heap.size (w.alloc (.cells #[.string ⟨nm.toArray⟩, .int .i64 bf, .int .i64 bt, .int .i64 df, .int .i64 dt] 50)) W) => show NoteS w nm bf bt df dt W from
      noteS_below (W := (w.alloc (.cells #[.string ⟨nm.toArray⟩, .int .i64 bf, .int .i64 bt, .int .i64 df, .int .i64 dt] 50)).drew) (noteS_new w nm bf bt df dt) ⟨hb.os, hb.tape, hb.output, hb.size, hb.block⟩)
    cases p1
    · go_enter Try.func50, Try.ntmps50
      go_wp2_with fail
      refine (HN.out _).mono ?_
      rintro e w1 ⟨rfl, hb1⟩
      obtain ⟨⟨c0, c1, c2, c3, c4⟩, ⟨B1, l1⟩⟩ := N0.out w1 hb1
      go_wp2_with fail
      refine (H1.out _).mono ?_
      rintro e w2 ⟨rfl, hb2⟩
      have e2 : eI (!false) 2 = 2 := rfl
      simp only [e2]
      go_wp2
      go_ret
      exact ⟨rfl, B1.trans (hb2.mono B1.size)⟩
    · have K1 : Hid (∀ w, Calls Try.prog 64 #[spV bf bt] w (RetB (.int .i64 0) w)) := H1
      have e0 : feE [eI (!true) 2, eI (!p2) 2, eI (decide (bt < bf) || decide (dt < df)) 9, eI (decide (dt < bf)) 13] = feE [eI (!p2) 2, eI (decide (bt < bf) || decide (dt < df)) 9, eI (decide (dt < bf)) 13] := rfl
      rw [e0]
      clear e0 H1
      cases p2
      · have K2 : Hid (∀ w, Calls Try.prog 64 #[spV df dt] w (RetB (.int .i64 2) w)) := H2
        have e0 : feE [eI (!false) 2, eI (decide (bt < bf) || decide (dt < df)) 9, eI (decide (dt < bf)) 13] = 2 := rfl
        rw [e0]
        clear e0 H2
        go_enter Try.func50, Try.ntmps50
        go_wp2_with fail
        refine (HN.out _).mono ?_
        rintro e w1 ⟨rfl, hb1⟩
        obtain ⟨⟨c0, c1, c2, c3, c4⟩, ⟨B1, l1⟩⟩ := N0.out w1 hb1
        go_wp2_with fail
        refine (K1.out _).mono ?_
        rintro e w2 ⟨rfl, hb2⟩
        have d3 := below_keep hb2 c3
        have d4 := below_keep hb2 c4
        go_wp2_with fail
        refine (K2.out _).mono ?_
        rintro e w3 ⟨rfl, hb3⟩
        go_wp2
        go_ret
        exact ⟨rfl, (B1.trans (hb2.mono B1.size)).trans (hb3.mono (Nat.le_trans B1.size hb2.size))⟩
      · have K2 : Hid (∀ w, Calls Try.prog 64 #[spV df dt] w (RetB (.int .i64 0) w)) := H2
        have e0 : feE [eI (!true) 2, eI (decide (bt < bf) || decide (dt < df)) 9, eI (decide (dt < bf)) 13] = feE [eI (decide (bt < bf) || decide (dt < df)) 9, eI (decide (dt < bf)) 13] := rfl
        rw [e0]
        clear e0 H2
        by_cases g1 : bt < bf
        · have e1 : feE [eI (decide (bt < bf) || decide (dt < df)) 9, eI (decide (dt < bf)) 13] = 9 := by simp [g1, feE, eI]
          rw [e1]
          have d1 : decide (bt < bf) = true := decide_eq_true g1
          clear e1
          go_enter Try.func50, Try.ntmps50
          go_wp2_with fail
          refine (HN.out _).mono ?_
          rintro e w1 ⟨rfl, hb1⟩
          obtain ⟨⟨c0, c1, c2, c3, c4⟩, ⟨B1, l1⟩⟩ := N0.out w1 hb1
          go_wp2_with fail
          refine (K1.out _).mono ?_
          rintro e w2 ⟨rfl, hb2⟩
          have d1' := below_keep hb2 c1
          have d2' := below_keep hb2 c2
          have d3 := below_keep hb2 c3
          have d4 := below_keep hb2 c4
          go_wp2_with fail
          refine (K2.out _).mono ?_
          rintro e w3 ⟨rfl, hb3⟩
          have f1 := below_keep hb3 d1'
          have f2 := below_keep hb3 d2'
          go_wp2
          go_ret
          exact ⟨rfl, (B1.trans (hb2.mono B1.size)).trans (hb3.mono (Nat.le_trans B1.size hb2.size))⟩
        · have d1 : decide (bt < bf) = false := decide_eq_false g1
          by_cases g2 : dt < df
          · have e1 : feE [eI (decide (bt < bf) || decide (dt < df)) 9, eI (decide (dt < bf)) 13] = 9 := by simp [g1, g2, feE, eI]
            rw [e1]
            have d2 : decide (dt < df) = true := decide_eq_true g2
            clear e1
            go_enter Try.func50, Try.ntmps50
            go_wp2_with fail
            refine (HN.out _).mono ?_
            rintro e w1 ⟨rfl, hb1⟩
            obtain ⟨⟨c0, c1, c2, c3, c4⟩, ⟨B1, l1⟩⟩ := N0.out w1 hb1
            go_wp2_with fail
            refine (K1.out _).mono ?_
            rintro e w2 ⟨rfl, hb2⟩
            have d1' := below_keep hb2 c1
            have d2' := below_keep hb2 c2
            have d3 := below_keep hb2 c3
            have d4 := below_keep hb2 c4
            go_wp2_with fail
            refine (K2.out _).mono ?_
            rintro e w3 ⟨rfl, hb3⟩
            have f1 := below_keep hb3 d1'
            have f2 := below_keep hb3 d2'
            have f3 := below_keep hb3 d3
            have f4 := below_keep hb3 d4
            go_wp2
            go_ret
            exact ⟨rfl, (B1.trans (hb2.mono B1.size)).trans (hb3.mono (Nat.le_trans B1.size hb2.size))⟩
          · have d2 : decide (dt < df) = false := decide_eq_false g2
            have e1 : feE [eI (decide (bt < bf) || decide (dt < df)) 9, eI (decide (dt < bf)) 13] = eI (decide (dt < bf)) 13 := by cases h : decide (dt < bf) <;> simp [g1, g2, feE, eI]
            rw [e1]
            clear e1
            by_cases g3 : dt < bf
            all_goals
              first
                | (have d3 : decide (dt < bf) = true := decide_eq_true g3; rw [d3]; rw [eI_t])
                | (have d3 : decide (dt < bf) = false := decide_eq_false g3; rw [d3]; rw [eI_f])
              go_enter Try.func50, Try.ntmps50
              go_wp2_with fail
              refine (HN.out _).mono ?_
              rintro e w1 ⟨rfl, hb1⟩
              obtain ⟨⟨c0, c1, c2, c3, c4⟩, ⟨B1, l1⟩⟩ := N0.out w1 hb1
              go_wp2_with fail
              refine (K1.out _).mono ?_
              rintro e w2 ⟨rfl, hb2⟩
              have d1' := below_keep hb2 c1
              have d2' := below_keep hb2 c2
              have d3' := below_keep hb2 c3
              have d4' := below_keep hb2 c4
              go_wp2_with fail
              refine (K2.out _).mono ?_
              rintro e w3 ⟨rfl, hb3⟩
              have f1 := below_keep hb3 d1'
              have f2 := below_keep hb3 d2'
              have f3 := below_keep hb3 d3'
              have f4 := below_keep hb3 d4'
              go_wp2
              go_ret
              exact ⟨rfl, (B1.trans (hb2.mono B1.size)).trans (hb3.mono (Nat.le_trans B1.size hb2.size))⟩
  · rw [cn_name h0]
    have h0b : (nmE nm != 0) = true := by simpa using h0
    obtain ⟨E, hE⟩ : ∃ E, nmE nm = E := ⟨_, rfl⟩
    rw [hE] at HN h0b ⊢
    clear hE h0
    go_enter Try.func50, Try.ntmps50
    go_wp2_with (go_at_call 13; refine (HN.out _).mono ?_; rintro e w1 ⟨rfl, hb1⟩)
    go_ret
    exact ⟨rfl, HB0.out.trans (hb1.mono (by simp))⟩
end Go.Proofs.Ytfneafofohfdnaa
