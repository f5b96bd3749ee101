/-
  What Consolidated of the specification of package rule returns: contracts for all worlds in which the list lies in one block.
-/
import Derived.Test.YtfphedcgmaakjaaGreatDoorTxt
import Derived.Test.YtfphedcgmaakjaaGreatDoorRefHas
import Derived.Deep.RegionHeld3
import Derived.Test.YtfphedcgmaakjaaGreatDoorCons0
import Derived.Test.YtfphedcgmaakjaaGreatDoorDec
namespace Go.Proofs.YtfphedcgmaakjaaGreatDoor
open Go.RowKit
attribute [local go_sem] set_drewN
theorem ltlt {a b : List UInt8} (h : ¬ b < a) (hne : a ≠ b) : a < b := by
  by_cases h3 : a < b
  · exact h3
  · exact absurd (List.le_antisymm (List.not_lt.1 h) (List.not_lt.1 h3)) hne
theorem gtrS (t : TypeId) (a b : List UInt8) : binOp .gtr t (.string ⟨a.toArray⟩) (.string ⟨b.toArray⟩) = pure (.bool (decide (b < a))) := by
  rw [binOp_string_gtr, Lib.toList_data, Lib.toList_data, bytesLess_eq]
  congr 2
  simp only
  by_cases h : b < a
  · have h1 : ¬ a < b := fun c => List.lt_irrefl _ (List.lt_trans h c)
    have h2 : ¬ a = b := fun c => by subst c; exact List.lt_irrefl _ h
    simp [h, h1, h2]
  · by_cases e : a = b
    · subst e; simp [List.lt_irrefl]
    · have := ltlt h e
      simp [h, this]
attribute [local go_sem] gtrS
theorem addc' (b j : Nat) : Addr.add ⟨b, 0, none⟩ j = ⟨b, 0 + j, none⟩ := addc b j
theorem own_base {w : World} {b0 b1 : Nat} {e : TypeId} {size n : Nat} {v : Value} {xs : List Value} (h : w.ownsRow b1 e size v n xs) (hb : b0 ≤ b1) : w.ownsRow b0 e size v n xs := by
  refine ⟨h.1, ?_⟩
  rcases h.2 with h | ⟨g, cap, cur, e1, hb1, h2⟩
  · exact .inl h
  · exact .inr ⟨g, cap, cur, e1, Nat.le_trans hb hb1, h2⟩
theorem addd (b o j : Nat) : Addr.add ⟨b, o, none⟩ j = ⟨b, o + j, none⟩ := by
  unfold Addr.add
  split
  · rename_i e; subst e; rfl
  · rfl
theorem addo' (b o j : Nat) : (Addr.add ⟨b, o, none⟩ j).block = b := by
  unfold Addr.add
  split
  · rename_i e; subst e; rfl
  · rfl
theorem ownsRow_below' {w w' : World} {base : Nat} {e : TypeId} {size n : Nat} {v : Value} {xs : List Value} (h : w.ownsRow base e size v n xs) (hb : Below w.heap.size w w') : w'.ownsRow base e size v n xs :=
  h.kept (row := none) ⟨hb.os, hb.tape, hb.output, hb.size, fun j hj _ => hb.block j hj⟩ (by cases v.ownBlock <;> simp)
theorem heap_new_at' {w : World} {o : Obj} {n : Nat} (h : n = w.heap.size) : (w.alloc o).heap[n]? = some o := by subst h; exact heap_alloc_new _ _
/-- a row of texts of one's own -/
def SRow (w0 W : World) (F : List (List UInt8)) (v : Value) : Prop := W.ownsRow w0.heap.size 9 1 v F.length (F.map encStr) ∧ NilS F v ∧ Below w0.heap.size w0 W
theorem SRow.keep {w0 W W' : World} {F : List (List UInt8)} {v : Value} (h : SRow w0 W F v) (hb : Below W.heap.size W W') : SRow w0 W' F v :=
  ⟨ownsRow_below' h.1 hb, h.2.1, h.2.2.trans (hb.mono h.2.2.size)⟩
theorem SRow.closed {w0 W : World} {F : List (List UInt8)} {v : Value} (h : SRow w0 W F v) : (F = [] ∧ v = .slice none 0 0) ∨ (∃ g cap, v = .slice (some ⟨g, 0, none⟩) F.length cap ∧ w0.heap.size ≤ g ∧ g < W.heap.size ∧ ∀ j (h : j < F.length), W.cell? ⟨g, 0 + j, none⟩ = some (encStr F[j])) := by
  obtain ⟨ho, hn, hb⟩ := h
  by_cases hF : F = []
  · exact .inl ⟨hF, hn hF⟩
  · rcases ho.2 with ⟨_, h0⟩ | ⟨g, cap, cur, rfl, hbase, hr⟩
    · exact absurd (List.length_eq_zero_iff.1 h0) hF
    · refine .inr ⟨g, cap, rfl, hbase, (ho.lt g rfl).2, fun j hj => ?_⟩
      have := ho.cells (g := g) rfl j (encStr F[j]) (by rw [List.getElem?_map, List.getElem?_eq_getElem hj]; rfl)
      rwa [addc] at this
theorem SRow.strv {w0 W : World} {F : List (List UInt8)} {v : Value} (h : SRow w0 W F v) : StrV W w0.heap.size v F := by
  rcases h.closed with h | ⟨g, cap, e, h0, h1, h2⟩
  · exact .inl h
  · refine .inr ⟨g, cap, e, h0, h1, fun j x hj => ?_⟩
    obtain ⟨hlt, e2⟩ := List.getElem?_eq_some_iff.1 hj
    have := h2 j hlt
    rw [Nat.zero_add, e2] at this
    exact this
set_option maxRecDepth 100000 in
set_option maxHeartbeats 40000000 in
theorem xNames_any (l : List Pv) (a0 a1 : Int) (b o cap : Nat) (w : World) (hl : l.length ≤ 1000) (hc : PvsAt w b o l) :
    Calls Tryz.prog 10 #[.slice (some ⟨b, o, none⟩) l.length cap, .agg #[.int .i64 a0, .int .i64 a1]] w (fun e w' => ∃ v, e = .returned v ∧ StrV w' w.heap.size v (nmsOf l a0 a1) ∧ Below w.heap.size w w') := by
  obtain ⟨i0, hi, hz0, hz1, hz2⟩ := info_parts infoStr
  have hc' := hc.below ((Below.refl _ w).alloc (Nat.le_refl _) (.cells #[.int .i64 a0, .int .i64 a1] 23))
  have hB0 := (Below.refl _ w).alloc (Nat.le_refl _) (.cells #[.int .i64 a0, .int .i64 a1] 23)
  have hA0 := At2.new w a0 a1
  obtain ⟨W0, hW0⟩ : ∃ W0, w.alloc (.cells #[.int .i64 a0, .int .i64 a1] 23) = W0 := ⟨_, rfl⟩
  rw [hW0] at hc' hB0 hA0
  have HC := Lib.hid hc'
  have HB0 := Lib.hid hB0
  have HA0 := Lib.hid hA0
  have hw0 : w.heap.size ≤ W0.heap.size := hB0.size
  clear hc hc' hB0 hA0
  go_enter Tryz.func10, Tryz.ntmps10
  go_wp2
  try rw [hW0]
  clear hW0
  go_loopw [5, 6] (fun v i wr => ∃ k : Nat, k ≤ l.length ∧ i = .int .i64 k ∧ SRow W0 wr (rfN l a0 a1 k) v) (fun _ i _ => l.length - (intOf i).toNat)
  case atStart => exact ⟨0, Nat.zero_le _, rfl, by rw [rfN_0]; exact World.ownsRow_nil _ _ _ _, fun _ => rfl, Below.refl _ _⟩
  case round =>
    obtain ⟨k, hk, rfl, hrow⟩ := hrel
    by_cases hlt : k < l.length
    · obtain ⟨⟨c0, _, _, _, _⟩, hsz⟩ := (HC.out.below hrow.2.2).2 k hlt
      obtain ⟨_, A0', A1'⟩ := HA0.out.below hrow.2.2
      have bl := (HC.out.below hrow.2.2).1
      have hxH := fun W (hW : PvsAt W b o l) => xHas_hv l l[k].name a0 a1 b o cap W (by omega) hW
      have sk := @rfN_skip l a0 a1 k l[k] hlt rfl
      have si := fun j => @rfN_ins l a0 a1 k l[k] j hlt rfl
      have fl := rfN_len l a0 a1 k
      have srt := rfN_sorted l a0 a1 k
      have enm := nmOf_bsOf l[k].name
      have hhv : hasV l a0 a1 (bsOf l[k].name) = (hv l l[k].name a1 a0).2 := by unfold hasV; rw [enm]
      rw [hhv] at sk si
      rw [← enm] at c0 hxH
      generalize bsOf l[k].name = x at *
      rw [enm] at hxH
      rw [← enm] at hxH sk si
      generalize hv l (nmOf x) a1 a0 = q at *
      obtain ⟨q1, q2⟩ := q
      simp only at hxH sk si
      have hrow' := hrow
      generalize hFL : rfN l a0 a1 k = L at hrow fl srt sk si
      have HH := Lib.hid hxH
      have SK := Lib.hid sk
      have SI := Lib.hid si
      have sorted := Lib.hid srt
      have DR0 := Lib.hid hrow
      have hB00 := hrow.2.2
      have hs00 := hrow.2.2.size
      clear hxH sk si srt hrow hrow' hFL hhv enm
      have hW3 : w.heap.size < W0.heap.size := HA0.out.1
      cases hq : q2
      · subst hq
        go_wp2
        go_region_held3 (fun w' => w'.cell? ⟨w.heap.size, 0, none⟩ = some (.int .i64 a0) ∧ w'.cell? ⟨w.heap.size, 1, none⟩ = some (.int .i64 a1) ∧ w'.cell? ⟨b, o + k * 5, none⟩ = some (.string ⟨x.toArray⟩)) (first | exact ⟨A0', A1', c0⟩ | exact ⟨k0, k1, k2⟩ | go_keep)
          (first
            | (go_at_call 26; refine (HH.out _ (HC.out.below (below_dr hB00))).mono ?_; rintro e w1 ⟨rfl, hb1⟩; have k0 : w1.cell? ⟨w.heap.size, 0, none⟩ = some (.int .i64 a0) := (hb1.cell (p := ⟨w.heap.size, 0, none⟩) (by simp; omega)).trans (by simpa [go_sem] using A0'); have k1 : w1.cell? ⟨w.heap.size, 1, none⟩ = some (.int .i64 a1) := (hb1.cell (p := ⟨w.heap.size, 1, none⟩) (by simp; omega)).trans (by simpa [go_sem] using A1'); have k2 : w1.cell? ⟨b, o + k * 5, none⟩ = some (.string ⟨x.toArray⟩) := (hb1.cell (p := ⟨b, o + k * 5, none⟩) (by simpa using bl)).trans (by simpa [go_sem] using c0)))
        all_goals
          have DR := Lib.hid (DR0.out.keep ((below_dr (Below.refl _ _)).trans (hb1.mono (by simp))))
          go_wp2
          go_roundw
          case rel => exact ⟨k + 1, by omega, by go_num, by rw [SK.out (.inl trivial)]; exact DR.out⟩
          case measure => simp [intOf]; omega
      · subst hq
        go_wp2
        go_region_held3 (fun w' => w'.cell? ⟨w.heap.size, 0, none⟩ = some (.int .i64 a0) ∧ w'.cell? ⟨w.heap.size, 1, none⟩ = some (.int .i64 a1) ∧ w'.cell? ⟨b, o + k * 5, none⟩ = some (.string ⟨x.toArray⟩)) (first | exact ⟨A0', A1', c0⟩ | exact ⟨k0, k1, k2⟩ | go_keep)
          (first
            | (go_at_call 26; refine (HH.out _ (HC.out.below (below_dr hB00))).mono ?_; rintro e w1 ⟨rfl, hb1⟩; have k0 : w1.cell? ⟨w.heap.size, 0, none⟩ = some (.int .i64 a0) := (hb1.cell (p := ⟨w.heap.size, 0, none⟩) (by simp; omega)).trans (by simpa [go_sem] using A0'); have k1 : w1.cell? ⟨w.heap.size, 1, none⟩ = some (.int .i64 a1) := (hb1.cell (p := ⟨w.heap.size, 1, none⟩) (by simp; omega)).trans (by simpa [go_sem] using A1'); have k2 : w1.cell? ⟨b, o + k * 5, none⟩ = some (.string ⟨x.toArray⟩) := (hb1.cell (p := ⟨b, o + k * 5, none⟩) (by simpa using bl)).trans (by simpa [go_sem] using c0)))
        all_goals
          have DR := Lib.hid (DR0.out.keep ((below_dr (Below.refl _ _)).trans (hb1.mono (by simp))))
          have hB := DR.out.2.2
          have hs := hB.size
          have c0 := k2
          have bl : b < w1.heap.size := by have := hb1.size; simp at this; omega
          have INSF := Lib.hid (fun j h1 h2 h3 => SI.out j (by first | exact rfl | exact trivial) h1 h2 h3)
          clear DR0 hB00 hs00 hb1 k0 k1 k2
          cases hr : decide (x ∈ L)
          · have HX := Lib.hid (show x ∉ L by simpa using hr)
            clear hr
            have HS := Lib.hid (hasText_any DR.out.strv (by omega) x false (by simpa using HX.out))
            rcases DR.out.closed with ⟨e, hu⟩ | ⟨g, cap', rfl, hg1, hg2, hI⟩
            · obtain ⟨AA, hAA⟩ : ∃ AA : Option Addr, AA = none := ⟨_, rfl⟩
              have hu' : u5 = .slice AA 0 0 := by rw [hAA]; exact hu
              clear hu hAA
              subst hu'
              have INS := Lib.hid (show [x] = rfN l a0 a1 (k + 1) by
                have := INSF.out 0 (Nat.zero_le _) (fun i hi _ => by rw [e] at hi; simp at hi) (fun i hi h => absurd h (by omega))
                rw [e] at this; simpa using this)
              clear INSF
              go_wp2_with (go_at_call 27; refine HS.out.mono ?_; rintro e w3 ⟨rfl, hb3⟩)
              have B3 := Lib.hid (hB.trans (hb3.mono hs))
              have s3 := hb3.size
              have k3 := (hb3.cell (p := ⟨b, o + k * 5, none⟩) bl).trans c0
              clear hb3
              go_loopw [9] (fun jv wi => jv = .int .i64 0 ∧ Below w3.heap.size w3 wi) (fun _ _ => 0)
              case atStart => exact ⟨rfl, Below.refl _ _⟩
              case round =>
                obtain ⟨rfl, hBi⟩ := hrel
                go_wp2
                go_quiet (fail)
                obtain ⟨w4, hw4⟩ : ∃ w4, wr.drewN nq = w4 := ⟨_, rfl⟩
                have B4 := Lib.hid (show Below W0.heap.size W0 w4 by rw [← hw4]; exact B3.out.trans ((below_n hBi _).mono (by omega)))
                have k2 : w4.cell? ⟨b, o + k * 5, none⟩ = some (.string ⟨x.toArray⟩) := by rw [← hw4]; exact (hBi.cell (p := ⟨b, o + k * 5, none⟩) (by simp only; omega)).trans k3
                have hb4 : b < w4.heap.size := by rw [← hw4]; exact Nat.lt_of_lt_of_le (by omega) hBi.size
                clear hBi
                go_wp2_with fail
                rw [hw4]
                clear hw4
                go_region_held3 (fun w' => w'.cell? ⟨b, o + k * 5, none⟩ = some (.string ⟨x.toArray⟩)) (first | exact k2 | exact m2 | exact r2 | exact s2 | go_keep)
                  (first
                    | (refine step_app rfl (.tmp 57) (.tmp 60) _ rfl w4.heap.size (v := .slice (some ⟨_, 0, none⟩) 0 0) (n := 0) (m := 0) (xs := []) (news := []) Tryz.underlying26 hi hz0 hz1 hz2 rfl (by decide) rfl rfl ?_ ?_ ?_ ?_ ?_ ?_ ?_ ?_ ?_
                       · first | exact World.ownsRow_made w4 #[] 0 (Nat.le_refl _) (Nat.zero_le _) (by simp) | exact (World.ownsRow_made w4 #[] 0 (Nat.le_refl _) (Nat.zero_le _) (by simp)).alloc _ | (rw [← World.size_alloc w4 (.cells #[.string ⟨x.toArray⟩] 9)]; exact World.ownsRow_made (w4.alloc (.cells #[.string ⟨x.toArray⟩] 9)) #[] 0 (by simp) (Nat.zero_le _) (by simp)) | exact World.ownsRow_made (w4.alloc (.cells #[.string ⟨x.toArray⟩] 9)) #[] 0 (by simp) (Nat.zero_le _) (by simp)
                       · simp
                       · intro ad _ i u hi; simp at hi
                       · intro _; rfl
                       · simp [Value.oneCell']
                       · unfold maxLen; omega
                       · omega
                       · first | (simp; done) | (simp; omega)
                       intro v5 w5 hown5 hgrow5
                       have B5 : Hid (Below w4.heap.size w4 w5) := Lib.hid (by first | exact Below.grown (below_dr ((Below.refl _ _).alloc (Nat.le_refl _) _)) hgrow5 (by first | (simp; done) | (simp; omega)) (by intro k' e'; simp [Value.ownBlock] at e'; omega) | exact Below.grown (below_dr (((Below.refl _ _).alloc (Nat.le_refl _) _).alloc (by simp) _)) hgrow5 (by simp; omega) (by intro k' e'; simp [Value.ownBlock] at e'; omega))
                       have b5s := B5.out.size
                       have g5s := hgrow5.size
                       have m2 : w5.cell? ⟨b, o + k * 5, none⟩ = some (.string ⟨x.toArray⟩) := (B5.out.cell (p := ⟨b, o + k * 5, none⟩) hb4).trans k2)
                    | (refine step_app rfl (.tmp 61) (.tmp 67) _ rfl w4.heap.size (v := v5) (n := 0 + 0) (m := 1) (xs := [] ++ []) (news := [.string ⟨x.toArray⟩]) Tryz.underlying26 hi hz0 hz1 hz2 rfl (by decide) rfl rfl ?_ ?_ ?_ ?_ ?_ ?_ ?_ ?_ ?_
                       · first | exact hown5 | exact hown5.alloc _
                       · rfl
                       · intro ad hs
                         obtain rfl := Option.some.inj hs
                         first | exact World.news_of_block (cs := #[.string ⟨x.toArray⟩]) (heap_alloc_new _ _) | exact World.news_of_block (cs := #[.string ⟨x.toArray⟩]) ((hgrow5.block _ (by simp) (by simp [Value.ownBlock])).trans (heap_new_at' (by simp))) | exact World.news_of_block (cs := #[.string ⟨x.toArray⟩]) ((hgrow5.block _ (by simp; omega) (by simp [Value.ownBlock])).trans ((heap_alloc_old _ _ (by simp)).trans (heap_new_at' (by simp))))
                       · intro c; cases c
                       · simp [Value.oneCell']
                       · unfold maxLen; omega
                       · omega
                       · first | omega | (simp; omega)
                       intro v6 w6 hown6 hgrow6
                       have B6 : Hid (Below w4.heap.size w4 w6) := Lib.hid (by first | exact Below.grown B5.out hgrow6 (by first | omega | (simp; omega)) (fun k' e' => (hown5.lt k' e').1) | exact Below.grown (B5.out.alloc (by first | omega | (simp; omega)) _) hgrow6 (by first | omega | (simp; omega)) (fun k' e' => (hown5.lt k' e').1))
                       have b6s := B6.out.size
                       have r2 : w6.cell? ⟨b, o + k * 5, none⟩ = some (.string ⟨x.toArray⟩) := (B6.out.cell (p := ⟨b, o + k * 5, none⟩) hb4).trans k2)
                    | (refine step_app rfl (.tmp 68) (.tmp 71) _ rfl w4.heap.size (v := v6) (n := 0 + 0 + 1) (m := 0) (xs := [] ++ [] ++ [.string ⟨x.toArray⟩]) (news := []) Tryz.underlying26 hi hz0 hz1 hz2 rfl (by decide) rfl rfl ?_ ?_ ?_ ?_ ?_ ?_ ?_ ?_ ?_
                       · exact hown6
                       · simp
                       · intro ad _ i u hi; simp at hi
                       · intro _; rfl
                       · simp [Value.oneCell']
                       · unfold maxLen; omega
                       · omega
                       · omega
                       intro v7 w7 hown7 hgrow7
                       have B7 : Hid (Below w4.heap.size w4 w7) := Lib.hid (Below.grown B6.out hgrow7 (by omega) (fun k' e' => (hown6.lt k' e').1))
                       have s2 : w7.cell? ⟨b, o + k * 5, none⟩ = some (.string ⟨x.toArray⟩) := (B7.out.cell (p := ⟨b, o + k * 5, none⟩) hb4).trans k2))
                all_goals
                  have DN : Hid (SRow W0 w7 (rfN l a0 a1 (k + 1)) v7) := Lib.hid (by
                    refine ⟨?_, fun c => ?_, B4.out.trans (B7.out.mono B4.out.size)⟩
                    · have hq7 := own_base hown7 B4.out.size
                      rw [← INS.out]
                      simpa using hq7
                    · exfalso
                      rw [← INS.out] at c
                      simp at c)
                  clear hown7 hgrow7 hown6 hgrow6 hown5 hgrow5
                  go_wp2
                  go_roundw
                  case rel => exact ⟨k + 1, by omega, by go_num, DN.out⟩
                  case measure => simp [intOf]; omega
            · have HI := Lib.hid hI
              have fln : L.length ≤ k := fl
              have hcap : L.length ≤ cap' := by
                rcases DR.out.1.2 with ⟨hv, _⟩ | ⟨_, _, _, hv, _, _, hnc, _⟩
                · cases hv
                · cases hv; exact hnc
              clear hI
              have HXL : Hid (x ∉ L) := HX
              go_wp2_with (go_at_call 27; refine HS.out.mono ?_; rintro e w3 ⟨rfl, hb3⟩)
              have B3 := Lib.hid (hB.trans (hb3.mono hs))
              have s3 := hb3.size
              have k3 := (hb3.cell (p := ⟨b, o + k * 5, none⟩) bl).trans c0
              have I3 := Lib.hid (fun j (hj : j < L.length) => (hb3.cell (p := ⟨g, 0 + j, none⟩) hg2).trans (HI.out j hj))
              clear hb3
              go_loopw [9] (fun jv wi => ∃ j : Nat, j ≤ L.length ∧ jv = .int .i64 (j : Nat) ∧ (∀ i (hi : i < L.length), j ≤ i → x < L[i]) ∧ Below w3.heap.size w3 wi) (fun jv _ => (intOf jv).toNat)
              case atStart => exact ⟨L.length, Nat.le_refl _, rfl, fun i hi h => absurd h (by omega), Below.refl _ _⟩
              case round =>
                obtain ⟨j, hj, rfl, hup, hBi⟩ := hrel
                have HU := Lib.hid hup
                clear hup
                by_cases hz : j = 0
                · have LT : Hid (∀ i (hi : i < L.length), i < j → L[i] < x) := Lib.hid (fun i hi h => absurd h (by omega))
                  have j0' : decide (0 < j) = false := by simp; omega
                  have jb1 : (0 : Int) ≤ j := by omega
                  have jb2 : (j : Int) ≤ L.length := by omega
                  have jb3 : (j : Int) ≤ cap' := by omega
                  have JZ := Lib.hid hz
                  clear hz
                  go_wp2
                  go_quiet (fail)
                  have INS := Lib.hid (INSF.out j (by omega) HU.out LT.out)
                  obtain ⟨w4, hw4⟩ : ∃ w4, wr.drewN nq = w4 := ⟨_, rfl⟩
                  have Bi4 := Lib.hid (show Below w3.heap.size w3 w4 by rw [← hw4]; exact below_n hBi _)
                  have B4 := Lib.hid (B3.out.trans (Bi4.out.mono (by omega)))
                  have k2 : w4.cell? ⟨b, o + k * 5, none⟩ = some (.string ⟨x.toArray⟩) := (Bi4.out.cell (p := ⟨b, o + k * 5, none⟩) (by simp only; omega)).trans k3
                  have b4s := Bi4.out.size
                  have hb4 : b < w4.heap.size := by omega
                  have hg4 : g < w4.heap.size := by omega
                  have C4 := Lib.hid (fun i (hi : i < L.length) => (Bi4.out.cell (p := ⟨g, 0 + i, none⟩) (by simp only; omega)).trans (I3.out i hi))
                  have S1 := Lib.hid (show ∀ i u, ((L.take j).map encStr)[i]? = some u → w4.cell? (Addr.add ⟨g, 0, none⟩ i) = some u by
                    intro i u hu
                    rw [List.getElem?_map] at hu
                    obtain ⟨z, hz, rfl⟩ := Option.map_eq_some_iff.1 hu
                    obtain ⟨h1, h2⟩ := List.getElem?_eq_some_iff.1 hz
                    rw [List.length_take] at h1
                    rw [addc, C4.out i (by omega), ← h2, List.getElem_take])
                  have S3 := Lib.hid (show ∀ i u, ((L.drop j).map encStr)[i]? = some u → w4.cell? (Addr.add ⟨g, j, none⟩ i) = some u by
                    intro i u hu
                    rw [List.getElem?_map] at hu
                    obtain ⟨z, hz, rfl⟩ := Option.map_eq_some_iff.1 hu
                    obtain ⟨h1, h2⟩ := List.getElem?_eq_some_iff.1 hz
                    rw [List.length_drop] at h1
                    have := C4.out (j + i) (by omega)
                    rw [Nat.zero_add] at this
                    rw [addd, this, ← h2, List.getElem_drop])
                  clear hBi
                  go_wp2_with fail
                  rw [hw4]
                  clear hw4
                  go_region_held3 (fun w' => w'.cell? ⟨b, o + k * 5, none⟩ = some (.string ⟨x.toArray⟩)) (first | exact k2 | exact m2 | exact r2 | exact s2 | go_keep)
                    (first
                      | (refine step_app rfl (.tmp 57) (.tmp 60) _ rfl w4.heap.size (v := .slice (some ⟨_, 0, none⟩) 0 0) (n := 0) (m := j) (xs := []) (news := (L.take j).map encStr) Tryz.underlying26 hi hz0 hz1 hz2 rfl (by decide) rfl rfl ?_ ?_ ?_ ?_ ?_ ?_ ?_ ?_ ?_
                         · first | exact World.ownsRow_made w4 #[] 0 (Nat.le_refl _) (Nat.zero_le _) (by simp) | exact (World.ownsRow_made w4 #[] 0 (Nat.le_refl _) (Nat.zero_le _) (by simp)).alloc _ | (rw [← World.size_alloc w4 (.cells #[.string ⟨x.toArray⟩] 9)]; exact World.ownsRow_made (w4.alloc (.cells #[.string ⟨x.toArray⟩] 9)) #[] 0 (by simp) (Nat.zero_le _) (by simp)) | exact World.ownsRow_made (w4.alloc (.cells #[.string ⟨x.toArray⟩] 9)) #[] 0 (by simp) (Nat.zero_le _) (by simp)
                         · simp; omega
                         · intro ad hs i u hi; obtain rfl := Option.some.inj hs; first | exact Lib.cell?_alloc_some _ (S1.out i u hi) | exact Lib.cell?_alloc_some _ (Lib.cell?_alloc_some _ (S1.out i u hi))
                         · intro c; cases c
                         · intro u hu; obtain ⟨z, _, rfl⟩ := List.mem_map.1 hu; rfl
                         · unfold maxLen; omega
                         · omega
                         · first | (simp; done) | (simp; omega)
                         intro v5 w5 hown5 hgrow5
                         have B5 : Hid (Below w4.heap.size w4 w5) := Lib.hid (by first | exact Below.grown (below_dr ((Below.refl _ _).alloc (Nat.le_refl _) _)) hgrow5 (by first | (simp; done) | (simp; omega)) (by intro k' e'; simp [Value.ownBlock] at e'; omega) | exact Below.grown (below_dr (((Below.refl _ _).alloc (Nat.le_refl _) _).alloc (by simp) _)) hgrow5 (by simp; omega) (by intro k' e'; simp [Value.ownBlock] at e'; omega))
                         have b5s := B5.out.size
                         have g5s := hgrow5.size
                         have m2 : w5.cell? ⟨b, o + k * 5, none⟩ = some (.string ⟨x.toArray⟩) := (B5.out.cell (p := ⟨b, o + k * 5, none⟩) hb4).trans k2)
                      | (refine step_app rfl (.tmp 61) (.tmp 67) _ rfl w4.heap.size (v := v5) (n := 0 + j) (m := 1) (xs := [] ++ (L.take j).map encStr) (news := [.string ⟨x.toArray⟩]) Tryz.underlying26 hi hz0 hz1 hz2 rfl (by decide) rfl rfl ?_ ?_ ?_ ?_ ?_ ?_ ?_ ?_ ?_
                         · first | exact hown5 | exact hown5.alloc _
                         · rfl
                         · intro ad hs
                           obtain rfl := Option.some.inj hs
                           first | exact World.news_of_block (cs := #[.string ⟨x.toArray⟩]) (heap_alloc_new _ _) | exact World.news_of_block (cs := #[.string ⟨x.toArray⟩]) ((hgrow5.block _ (by simp) (by simp [Value.ownBlock])).trans (heap_new_at' (by simp))) | exact World.news_of_block (cs := #[.string ⟨x.toArray⟩]) ((hgrow5.block _ (by simp; omega) (by simp [Value.ownBlock])).trans ((heap_alloc_old _ _ (by simp)).trans (heap_new_at' (by simp))))
                         · intro c; cases c
                         · simp [Value.oneCell']
                         · unfold maxLen; omega
                         · omega
                         · first | omega | (simp; omega)
                         intro v6 w6 hown6 hgrow6
                         have B6 : Hid (Below w4.heap.size w4 w6) := Lib.hid (by first | exact Below.grown B5.out hgrow6 (by first | omega | (simp; omega)) (fun k' e' => (hown5.lt k' e').1) | exact Below.grown (B5.out.alloc (by first | omega | (simp; omega)) _) hgrow6 (by first | omega | (simp; omega)) (fun k' e' => (hown5.lt k' e').1))
                         have b6s := B6.out.size
                         have r2 : w6.cell? ⟨b, o + k * 5, none⟩ = some (.string ⟨x.toArray⟩) := (B6.out.cell (p := ⟨b, o + k * 5, none⟩) hb4).trans k2)
                      | (refine step_app rfl (.tmp 68) (.tmp 71) _ rfl w4.heap.size (v := v6) (n := 0 + j + 1) (m := L.length - j) (xs := [] ++ (L.take j).map encStr ++ [.string ⟨x.toArray⟩]) (news := (L.drop j).map encStr) Tryz.underlying26 hi hz0 hz1 hz2 rfl (by decide) rfl rfl ?_ ?_ ?_ ?_ ?_ ?_ ?_ ?_ ?_
                         · exact hown6
                         · simp
                         · intro ad hs i u hi
                           by_cases hcj : cap' = j
                           · rw [List.drop_of_length_le (by omega)] at hi; simp at hi
                           · rw [if_neg hcj] at hs
                             obtain rfl := Option.some.inj hs
                             exact (B6.out.cell (p := Addr.add _ i) (by rw [addo']; exact hg4)).trans (S3.out i u hi)
                         · intro c; split at c <;> cases c
                         · intro u hu; obtain ⟨z, _, rfl⟩ := List.mem_map.1 hu; rfl
                         · unfold maxLen; omega
                         · omega
                         · omega
                         intro v7 w7 hown7 hgrow7
                         have B7 : Hid (Below w4.heap.size w4 w7) := Lib.hid (Below.grown B6.out hgrow7 (by omega) (fun k' e' => (hown6.lt k' e').1))
                         have s2 : w7.cell? ⟨b, o + k * 5, none⟩ = some (.string ⟨x.toArray⟩) := (B7.out.cell (p := ⟨b, o + k * 5, none⟩) hb4).trans k2))
                  all_goals
                    have DN : Hid (SRow W0 w7 (rfN l a0 a1 (k + 1)) v7) := Lib.hid (by
                      refine ⟨?_, fun c => ?_, B4.out.trans (B7.out.mono B4.out.size)⟩
                      · have hq7 := own_base hown7 B4.out.size
                        rw [← INS.out]
                        rw [show (L.take j ++ [x] ++ L.drop j).length = 0 + j + 1 + (L.length - j) from by simp; omega, show (L.take j ++ [x] ++ L.drop j).map encStr = [] ++ (L.take j).map encStr ++ [.string ⟨x.toArray⟩] ++ (L.drop j).map encStr from by simp]; exact hq7
                      · exfalso
                        rw [← INS.out] at c
                        simp at c)
                    clear hown7 hgrow7 hown6 hgrow6 hown5 hgrow5
                    go_wp2
                    go_roundw
                    case rel => exact ⟨k + 1, by omega, by go_num, DN.out⟩
                    case measure => simp [intOf]; omega
                · obtain ⟨j, rfl⟩ : ∃ j', j = j' + 1 := ⟨j - 1, by omega⟩
                  have hjl : j < L.length := by omega
                  have cj := (hBi.cell (p := ⟨g, 0 + j, none⟩) (by simp only; omega)).trans (I3.out j hjl)
                  rw [Nat.zero_add] at cj
                  simp only [encStr] at cj
                  have ci2 := (hBi.cell (p := ⟨b, o + k * 5, none⟩) (by simp only; omega)).trans k3
                  by_cases hgt : x < L[j]
                  · have EX := Lib.hid (show ∀ i (hi : i < L.length), j ≤ i → x < L[i] by
                      intro i hi h
                      by_cases e : i = j
                      · subst e; exact hgt
                      · exact HU.out i hi (by omega))
                    have g1 : Op.bytesLess L[j] x = false := by
                      rw [bytesLess_eq]
                      simpa using fun c => List.lt_irrefl _ (List.lt_trans hgt c)
                    have g2 : (L[j] == x) = false := by simpa using fun c => List.lt_irrefl x (by rw [c] at hgt; exact hgt)
                    generalize L[j] = X at *
                    go_wp2
                    go_quiet (fail)
                    go_wp2
                    go_roundw
                    case rel => exact ⟨j, by omega, by first | go_num | (congr 1; omega), EX.out, below_n hBi _⟩
                    case measure => first | (simp [intOf]; done) | (simp [intOf]; omega)
                  · have LT := Lib.hid (show ∀ i (hi : i < L.length), i < j + 1 → L[i] < x by
                      have hne : L[j] ≠ x := fun c => HXL.out (by rw [← c]; exact List.getElem_mem hjl)
                      intro i hi h
                      by_cases e : i = j
                      · subst e; exact ltlt hgt hne
                      · exact List.lt_trans ((List.pairwise_iff_getElem.1 sorted.out) i j hi hjl (by omega)) (ltlt hgt hne))
                    have g1 : Op.bytesLess L[j] x = true := by
                      rw [bytesLess_eq]
                      simpa using ltlt hgt (fun c => HXL.out (by rw [← c]; exact List.getElem_mem hjl))
                    generalize L[j] = X at *
                    go_wp2
                    go_quiet (fail)
                    obtain ⟨J, hJ⟩ : ∃ J : Nat, j + 1 = J := ⟨_, rfl⟩
                    have jb1 : (0 : Int) ≤ J := by omega
                    have jb2 : (J : Int) ≤ L.length := by omega
                    have jb3 : (J : Int) ≤ cap' := by omega
                    have hJL : J ≤ L.length := by omega
                    have hJi : (j : Int) + 1 = J := by omega
                    have HU := Lib.hid (show ∀ i (hi : i < L.length), J ≤ i → x < L[i] from fun i hi h => HU.out i hi (by omega))
                    have LT := Lib.hid (show ∀ i (hi : i < L.length), i < J → L[i] < x from fun i hi h => LT.out i hi (by omega))
                    first | simp only [hJi] | simp only [hJ]
                    clear hJi hJ
                    have INS := Lib.hid (INSF.out J (by omega) HU.out LT.out)
                    obtain ⟨w4, hw4⟩ : ∃ w4, wr.drewN nq = w4 := ⟨_, rfl⟩
                    have Bi4 := Lib.hid (show Below w3.heap.size w3 w4 by rw [← hw4]; exact below_n hBi _)
                    have B4 := Lib.hid (B3.out.trans (Bi4.out.mono (by omega)))
                    have k2 : w4.cell? ⟨b, o + k * 5, none⟩ = some (.string ⟨x.toArray⟩) := (Bi4.out.cell (p := ⟨b, o + k * 5, none⟩) (by simp only; omega)).trans k3
                    have b4s := Bi4.out.size
                    have hb4 : b < w4.heap.size := by omega
                    have hg4 : g < w4.heap.size := by omega
                    have C4 := Lib.hid (fun i (hi : i < L.length) => (Bi4.out.cell (p := ⟨g, 0 + i, none⟩) (by simp only; omega)).trans (I3.out i hi))
                    have S1 := Lib.hid (show ∀ i u, ((L.take J).map encStr)[i]? = some u → w4.cell? (Addr.add ⟨g, 0, none⟩ i) = some u by
                      intro i u hu
                      rw [List.getElem?_map] at hu
                      obtain ⟨z, hz, rfl⟩ := Option.map_eq_some_iff.1 hu
                      obtain ⟨h1, h2⟩ := List.getElem?_eq_some_iff.1 hz
                      rw [List.length_take] at h1
                      rw [addc, C4.out i (by omega), ← h2, List.getElem_take])
                    have S3 := Lib.hid (show ∀ i u, ((L.drop J).map encStr)[i]? = some u → w4.cell? (Addr.add ⟨g, J, none⟩ i) = some u by
                      intro i u hu
                      rw [List.getElem?_map] at hu
                      obtain ⟨z, hz, rfl⟩ := Option.map_eq_some_iff.1 hu
                      obtain ⟨h1, h2⟩ := List.getElem?_eq_some_iff.1 hz
                      rw [List.length_drop] at h1
                      have := C4.out (J + i) (by omega)
                      rw [Nat.zero_add] at this
                      rw [addd, this, ← h2, List.getElem_drop])
                    clear hBi
                    go_wp2_with fail
                    rw [hw4]
                    clear hw4
                    go_region_held3 (fun w' => w'.cell? ⟨b, o + k * 5, none⟩ = some (.string ⟨x.toArray⟩)) (first | exact k2 | exact m2 | exact r2 | exact s2 | go_keep)
                      (first
                        | (refine step_app rfl (.tmp 57) (.tmp 60) _ rfl w4.heap.size (v := .slice (some ⟨_, 0, none⟩) 0 0) (n := 0) (m := J) (xs := []) (news := (L.take J).map encStr) Tryz.underlying26 hi hz0 hz1 hz2 rfl (by decide) rfl rfl ?_ ?_ ?_ ?_ ?_ ?_ ?_ ?_ ?_
                           · first | exact World.ownsRow_made w4 #[] 0 (Nat.le_refl _) (Nat.zero_le _) (by simp) | exact (World.ownsRow_made w4 #[] 0 (Nat.le_refl _) (Nat.zero_le _) (by simp)).alloc _ | (rw [← World.size_alloc w4 (.cells #[.string ⟨x.toArray⟩] 9)]; exact World.ownsRow_made (w4.alloc (.cells #[.string ⟨x.toArray⟩] 9)) #[] 0 (by simp) (Nat.zero_le _) (by simp)) | exact World.ownsRow_made (w4.alloc (.cells #[.string ⟨x.toArray⟩] 9)) #[] 0 (by simp) (Nat.zero_le _) (by simp)
                           · simp; omega
                           · intro ad hs i u hi; obtain rfl := Option.some.inj hs; first | exact Lib.cell?_alloc_some _ (S1.out i u hi) | exact Lib.cell?_alloc_some _ (Lib.cell?_alloc_some _ (S1.out i u hi))
                           · intro c; cases c
                           · intro u hu; obtain ⟨z, _, rfl⟩ := List.mem_map.1 hu; rfl
                           · unfold maxLen; omega
                           · omega
                           · first | (simp; done) | (simp; omega)
                           intro v5 w5 hown5 hgrow5
                           have B5 : Hid (Below w4.heap.size w4 w5) := Lib.hid (by first | exact Below.grown (below_dr ((Below.refl _ _).alloc (Nat.le_refl _) _)) hgrow5 (by first | (simp; done) | (simp; omega)) (by intro k' e'; simp [Value.ownBlock] at e'; omega) | exact Below.grown (below_dr (((Below.refl _ _).alloc (Nat.le_refl _) _).alloc (by simp) _)) hgrow5 (by simp; omega) (by intro k' e'; simp [Value.ownBlock] at e'; omega))
                           have b5s := B5.out.size
                           have g5s := hgrow5.size
                           have m2 : w5.cell? ⟨b, o + k * 5, none⟩ = some (.string ⟨x.toArray⟩) := (B5.out.cell (p := ⟨b, o + k * 5, none⟩) hb4).trans k2)
                        | (refine step_app rfl (.tmp 61) (.tmp 67) _ rfl w4.heap.size (v := v5) (n := 0 + J) (m := 1) (xs := [] ++ (L.take J).map encStr) (news := [.string ⟨x.toArray⟩]) Tryz.underlying26 hi hz0 hz1 hz2 rfl (by decide) rfl rfl ?_ ?_ ?_ ?_ ?_ ?_ ?_ ?_ ?_
                           · first | exact hown5 | exact hown5.alloc _
                           · rfl
                           · intro ad hs
                             obtain rfl := Option.some.inj hs
                             first | exact World.news_of_block (cs := #[.string ⟨x.toArray⟩]) (heap_alloc_new _ _) | exact World.news_of_block (cs := #[.string ⟨x.toArray⟩]) ((hgrow5.block _ (by simp) (by simp [Value.ownBlock])).trans (heap_new_at' (by simp))) | exact World.news_of_block (cs := #[.string ⟨x.toArray⟩]) ((hgrow5.block _ (by simp; omega) (by simp [Value.ownBlock])).trans ((heap_alloc_old _ _ (by simp)).trans (heap_new_at' (by simp))))
                           · intro c; cases c
                           · simp [Value.oneCell']
                           · unfold maxLen; omega
                           · omega
                           · first | omega | (simp; omega)
                           intro v6 w6 hown6 hgrow6
                           have B6 : Hid (Below w4.heap.size w4 w6) := Lib.hid (by first | exact Below.grown B5.out hgrow6 (by first | omega | (simp; omega)) (fun k' e' => (hown5.lt k' e').1) | exact Below.grown (B5.out.alloc (by first | omega | (simp; omega)) _) hgrow6 (by first | omega | (simp; omega)) (fun k' e' => (hown5.lt k' e').1))
                           have b6s := B6.out.size
                           have r2 : w6.cell? ⟨b, o + k * 5, none⟩ = some (.string ⟨x.toArray⟩) := (B6.out.cell (p := ⟨b, o + k * 5, none⟩) hb4).trans k2)
                        | (refine step_app rfl (.tmp 68) (.tmp 71) _ rfl w4.heap.size (v := v6) (n := 0 + J + 1) (m := L.length - J) (xs := [] ++ (L.take J).map encStr ++ [.string ⟨x.toArray⟩]) (news := (L.drop J).map encStr) Tryz.underlying26 hi hz0 hz1 hz2 rfl (by decide) rfl rfl ?_ ?_ ?_ ?_ ?_ ?_ ?_ ?_ ?_
                           · exact hown6
                           · simp
                           · intro ad hs i u hi
                             by_cases hcj : cap' = J
                             · rw [List.drop_of_length_le (by omega)] at hi; simp at hi
                             · rw [if_neg hcj] at hs
                               obtain rfl := Option.some.inj hs
                               exact (B6.out.cell (p := Addr.add _ i) (by rw [addo']; exact hg4)).trans (S3.out i u hi)
                           · intro c; split at c <;> cases c
                           · intro u hu; obtain ⟨z, _, rfl⟩ := List.mem_map.1 hu; rfl
                           · unfold maxLen; omega
                           · omega
                           · omega
                           intro v7 w7 hown7 hgrow7
                           have B7 : Hid (Below w4.heap.size w4 w7) := Lib.hid (Below.grown B6.out hgrow7 (by omega) (fun k' e' => (hown6.lt k' e').1))
                           have s2 : w7.cell? ⟨b, o + k * 5, none⟩ = some (.string ⟨x.toArray⟩) := (B7.out.cell (p := ⟨b, o + k * 5, none⟩) hb4).trans k2))
                    all_goals
                      have DN : Hid (SRow W0 w7 (rfN l a0 a1 (k + 1)) v7) := Lib.hid (by
                        refine ⟨?_, fun c => ?_, B4.out.trans (B7.out.mono B4.out.size)⟩
                        · have hq7 := own_base hown7 B4.out.size
                          rw [← INS.out]
                          rw [show (L.take J ++ [x] ++ L.drop J).length = 0 + J + 1 + (L.length - J) from by simp; omega, show (L.take J ++ [x] ++ L.drop J).map encStr = [] ++ (L.take J).map encStr ++ [.string ⟨x.toArray⟩] ++ (L.drop J).map encStr from by simp]; exact hq7
                        · exfalso
                          rw [← INS.out] at c
                          simp at c)
                      clear hown7 hgrow7 hown6 hgrow6 hown5 hgrow5
                      go_wp2
                      go_roundw
                      case rel => exact ⟨k + 1, by omega, by go_num, DN.out⟩
                      case measure => simp [intOf]; omega
          · have SX := Lib.hid (SK.out (.inr (by simpa using hr)))
            have HS := Lib.hid (hasText_any DR.out.strv (by omega) x true hr)
            clear hr
            go_wp2_with (go_at_call 27; refine HS.out.mono ?_; rintro e w3 ⟨rfl, hb3⟩)
            go_roundw
            case rel => exact ⟨k + 1, by omega, by go_num, by rw [SX.out]; exact DR.out.keep hb3⟩
            case measure => simp [intOf]; omega
    · obtain rfl : k = l.length := by omega
      rw [rfN_all] at hrow
      have DR := Lib.hid hrow
      clear hrow
      go_wp2
      go_ret
      exact ⟨_, rfl, by
        rcases DR.out.strv with h | ⟨g, c, e, h0, h⟩
        · exact .inl h
        · exact .inr ⟨g, c, e, Nat.le_trans hw0 h0, h⟩, HB0.out.trans (DR.out.2.2.mono hw0)⟩
end Go.Proofs.YtfphedcgmaakjaaGreatDoor
namespace Go.Proofs.YtfphedcgmaakjaaGreatDoor
open Go.RowKit Go.WideMaps Go.Maps Go.Sort
attribute [local go_sem] set_drewN
set_option maxRecDepth 100000 in
set_option maxHeartbeats 8000000 in
theorem xConsolidated_any (l : List Pv) (a0 a1 : Int) (b o cap : Nat) (w : World) (hl : l.length ≤ 1000) (hc : PvsAt w b o l) (hn : ∀ p ∈ l, p.name.size ≤ 30) (he : srcE l a0 a1 = 0) :
    Calls Tryz.prog 11 #[.slice (some ⟨b, o, none⟩) l.length cap, .agg #[.int .i64 a0, .int .i64 a1]] w (RetB (.string (conT l a0 a1)) w) := by
  have HE := Lib.hid he
  have HC := Lib.hid hc
  clear hc he
  go_enter Tryz.func11, Tryz.ntmps11
  go_wp2_with fail
  refine (xNames_any l a0 a1 b o cap _ hl (by exact HC.out.below ((Below.refl _ _).alloc (Nat.le_refl _) _))).mono ?_
  rintro e w1 ⟨v, rfl, hS, hb1⟩
  have A1 := Lib.hid ((At2.new w a0 a1).below hb1)
  have B1 := Lib.hid (((Below.refl _ w).alloc (Nat.le_refl _) _).trans (hb1.mono (by simp)))
  obtain ⟨al1, a10, a11⟩ := A1.out
  have q1 := hb1.size
  simp only [World.size_alloc] at q1
  have hTl := nmsOf_len l a0 a1
  have hTm := Lib.hid (fun x => (nmsOf_mem l a0 a1 x).1)
  have hcon := Lib.hid (show conT l a0 a1 = ⟨(consT (fun nm => hv l nm a1 a0) (nmsOf l a0 a1)).toArray⟩ from rfl)
  clear hb1
  generalize nmsOf l a0 a1 = T at *
  generalize conT l a0 a1 = tx at *
  rcases hS with ⟨hT, rfl⟩ | ⟨g, gc, rfl, hg, hS⟩
  · go_wp2
    go_loopw [5, 7] (fun t i wr => t = .string ⟨#[]⟩ ∧ i = .int .i64 0 ∧ Below w.heap.size w wr) (fun _ _ _ => 0)
    case atStart => exact ⟨rfl, rfl, B1.out⟩
    case round =>
      obtain ⟨rfl, rfl, hB⟩ := hrel
      go_wp2
      go_ret
      exact ⟨by rw [hcon.out, hT]; rfl, hB⟩
  · have S1 := Lib.hid hS
    have hgl := hS.1
    have C1 := Lib.hid (HC.out.below B1.out)
    simp only [World.size_alloc] at hg
    clear hS
    go_wp2
    go_loopw [5, 7] (fun t i wr => ∃ k : Nat, k ≤ T.length ∧ t = .string ⟨(consT (fun nm => hv l nm a1 a0) (T.take k)).toArray⟩ ∧ i = .int .i64 k ∧ Below w1.heap.size w1 wr) (fun _ i _ => T.length - (intOf i).toNat)
    case atStart => exact ⟨0, Nat.zero_le _, rfl, rfl, Below.refl _ _⟩
    case round =>
      obtain ⟨k, hk, rfl, rfl, hB⟩ := hrel
      by_cases hlt : k < T.length
      · obtain ⟨x, hx⟩ : ∃ x, T[k] = x := ⟨_, rfl⟩
        have c0 : wr.cell? ⟨g, k, none⟩ = some (.string ⟨x.toArray⟩) := by
          rw [← hx]; exact (S1.out.below hB).2 k _ (List.getElem?_eq_getElem hlt)
        have hmem := hTm.out x (by rw [← hx]; exact List.getElem_mem hlt)
        obtain ⟨i, hil, hdi, hri, hvi⟩ := hv_dec hmem
        obtain ⟨_, hnm⟩ := dec_name l a0 a1 _ _ i hdi
        have hn30 := hn l[i] (List.getElem_mem hil)
        rw [hnm] at hn30
        obtain ⟨hr0, hr1⟩ := pv_range (cpE_pv (srcE_cp HE.out) hil)
        have hst := consT_take (fun nm => hv l nm a1 a0) hlt
        rw [hx] at hst
        unfold lineT at hst
        simp only at hst
        rw [hvi] at hst
        simp only at hst
        have HST := Lib.hid hst
        have hxH := Lib.hid (fun W (hW : PvsAt W b o l) => by have := xHas_hv l (nmOf x) a0 a1 b o cap W (by omega) hW; rw [hvi] at this; exact this)
        obtain ⟨vv, hvv⟩ : ∃ vv, l[i].value = vv := ⟨_, rfl⟩
        rw [hvv] at hr0 hr1 HST hxH
        have hit := itoa_len vv (by omega) (by omega)
        obtain ⟨_, A0', A1'⟩ := A1.out.below hB
        have hs4 := hB.size
        have hx30 := hn30
        rw [size_nmOf] at hx30
        have hct : (consT (fun nm => hv l nm a1 a0) (T.take k)).length ≤ 400 * (T.take k).length := consT_len (fun y hy => lineT_le hn HE.out (hTm.out y (List.mem_of_mem_take hy)))
        have htk : (T.take k).length ≤ 1000 := by rw [List.length_take]; omega
        generalize hct' : consT (fun nm => hv l nm a1 a0) (T.take k) = ct at *
        have n0 : ¬ 9223372036854775807 < ct.length + x.length := by omega
        have n1 : ¬ 9223372036854775807 < ct.length + x.length + 1 := by omega
        have n2 : ¬ 9223372036854775807 < ct.length + x.length + 1 + (Lib.itoa vv).length := by omega
        have n3 : ¬ 9223372036854775807 < ct.length + x.length + 1 + (Lib.itoa vv).length + 1 := by omega
        clear hst hvi hdi hri hnm hmem hx hct htk hct' hvv
        go_wp2
        go_region_held3 (fun w' => w'.cell? ⟨w.heap.size, 0, none⟩ = some (.int .i64 a0) ∧ w'.cell? ⟨w.heap.size, 1, none⟩ = some (.int .i64 a1) ∧ w'.cell? ⟨g, k, none⟩ = some (.string ⟨x.toArray⟩)) (first | exact ⟨A0', A1', c0⟩ | exact ⟨k0, k1, k2⟩ | go_keep)
          (first
            | (go_at_call 26; refine (hxH.out _ (C1.out.below (below_dr hB))).mono ?_; rintro e w2 ⟨rfl, hb2⟩; have k0 : w2.cell? ⟨w.heap.size, 0, none⟩ = some (.int .i64 a0) := (hb2.cell (p := ⟨w.heap.size, 0, none⟩) (by simp; omega)).trans (by simpa [go_sem] using A0'); have k1 : w2.cell? ⟨w.heap.size, 1, none⟩ = some (.int .i64 a1) := (hb2.cell (p := ⟨w.heap.size, 1, none⟩) (by simp; omega)).trans (by simpa [go_sem] using A1'); have k2 : w2.cell? ⟨g, k, none⟩ = some (.string ⟨x.toArray⟩) := (hb2.cell (p := ⟨g, k, none⟩) (by simp; omega)).trans (by simpa [go_sem] using c0)))
        all_goals
          have hb3 := (below_dr hB).trans (hb2.mono (by simpa using hs4))
          clear k0 k1 A0' A1' c0
          have q3 := hb3.size
          have q4 := hb2.size
          simp only [World.size_drew] at q4
          have k2' := k2
          go_wp2
          go_region_held3 (fun w' => w'.cell? ⟨g, k, none⟩ = some (.string ⟨x.toArray⟩)) (first | exact k2' | exact k3 | go_keep)
            (first
              | (go_at_call 28; refine (decimal_any vv _ (by omega) (by omega)).mono ?_; rintro e w4 ⟨rfl, hb4⟩; have k3 : w4.cell? ⟨g, k, none⟩ = some (.string ⟨x.toArray⟩) := (hb4.cell (p := ⟨g, k, none⟩) (by simp; omega)).trans (by simpa [go_sem] using k2')))
          all_goals
            go_wp2
            go_roundw
            case rel => exact ⟨k + 1, by omega, by rw [HST.out, bapp, bapp, bapp, bapp]; simp, by go_num, (below_dr hb3).trans (hb4.mono (by simp; omega))⟩
            case measure => simp [intOf]; omega
      · obtain rfl : k = T.length := by omega
        go_wp2
        go_ret
        exact ⟨by rw [hcon.out, List.take_length]; rfl, B1.out.trans (hB.mono (by omega))⟩
set_option maxRecDepth 100000 in
theorem xNames_0 (a0 a1 : Int) (a : Option Addr) (cap : Nat) (w : World) :
    Calls Tryz.prog 10 #[.slice a 0 cap, .agg #[.int .i64 a0, .int .i64 a1]] w (RetB (.slice none 0 0) w) := by
  go_enter Tryz.func10, Tryz.ntmps10
  go_wp2
  go_loopw [5, 6] (fun v i wr => v = .slice none 0 0 ∧ i = .int .i64 0 ∧ Below w.heap.size w wr) (fun _ _ _ => 0)
  case atStart => exact ⟨rfl, rfl, (Below.refl _ _).alloc (Nat.le_refl _) _⟩
  case round =>
    obtain ⟨rfl, rfl, hB⟩ := hrel
    go_wp2
    go_ret
    exact ⟨rfl, hB⟩
set_option maxRecDepth 100000 in
theorem xConsolidated_0 (a0 a1 : Int) (a : Option Addr) (cap : Nat) (w : World) :
    Calls Tryz.prog 11 #[.slice a 0 cap, .agg #[.int .i64 a0, .int .i64 a1]] w (RetB (.string (conT [] a0 a1)) w) := by
  have hT : nmsOf [] a0 a1 = [] := by simp [nmsOf, nmSet, dd]
  have hcon := Lib.hid (show conT [] a0 a1 = ⟨#[]⟩ by unfold conT; rw [hT]; rfl)
  clear hT
  go_enter Tryz.func11, Tryz.ntmps11
  go_wp2_with fail
  refine (xNames_0 a0 a1 a cap _).mono ?_
  rintro e w1 ⟨rfl, hb1⟩
  have B1 := ((Below.refl _ w).alloc (Nat.le_refl _) (.cells #[.int .i64 a0, .int .i64 a1] 23)).trans (hb1.mono (by simp))
  go_wp2
  go_loopw [5, 7] (fun t i wr => t = .string ⟨#[]⟩ ∧ i = .int .i64 0 ∧ Below w.heap.size w wr) (fun _ _ _ => 0)
  case atStart => exact ⟨rfl, rfl, B1⟩
  case round =>
    obtain ⟨rfl, rfl, hB⟩ := hrel
    go_wp2
    go_ret
    exact ⟨by rw [hcon.out]; rfl, hB⟩
set_option maxRecDepth 100000 in
theorem Consolidated_err (l : List Pv) (a0 a1 : Int) (b o cap : Nat) (w : World) (hl : l.length ≤ 1000000) (hc : PvsAt w b o l) (he : srcE l a0 a1 ≠ 0) :
    Calls Tryz.prog 7 #[.slice (some ⟨b, o, none⟩) l.length cap, .agg #[.int .i64 a0, .int .i64 a1]] w (RetB (two (.string ⟨#[]⟩) (.int .i64 (srcE l a0 a1))) w) := by
  have hs := Names_err l a0 a1 b o cap (w.alloc (.cells #[.int .i64 a0, .int .i64 a1] 23)) hl (hc.below ((Below.refl _ _).alloc (Nat.le_refl _) _)) he
  generalize hr : srcE l a0 a1 = r at *
  have hrb : (r != 0) = true := by simpa using he
  have HS := Lib.hid hs
  clear hc hr he hs
  go_enter Tryz.func7, Tryz.ntmps7
  go_wp2_with (go_at_call 6; refine (HS.out).mono ?_; rintro e w1 ⟨rfl, hb1⟩)
  go_ret2
  exact ⟨rfl, ((Below.refl _ _).alloc (Nat.le_refl _) _).trans (hb1.mono (by simp))⟩
set_option maxRecDepth 100000 in
theorem Consolidated_err_0 (a0 a1 : Int) (a : Option Addr) (cap : Nat) (w : World) (he : srcE [] a0 a1 ≠ 0) :
    Calls Tryz.prog 7 #[.slice a 0 cap, .agg #[.int .i64 a0, .int .i64 a1]] w (RetB (two (.string ⟨#[]⟩) (.int .i64 (srcE [] a0 a1))) w) := by
  have hs := Names_err_0 a0 a1 a cap (w.alloc (.cells #[.int .i64 a0, .int .i64 a1] 23)) he
  generalize hr : srcE [] a0 a1 = r at *
  have hrb : (r != 0) = true := by simpa using he
  have HS := Lib.hid hs
  clear hr he hs
  go_enter Tryz.func7, Tryz.ntmps7
  go_wp2_with (go_at_call 6; refine (HS.out).mono ?_; rintro e w1 ⟨rfl, hb1⟩)
  go_ret2
  exact ⟨rfl, ((Below.refl _ _).alloc (Nat.le_refl _) _).trans (hb1.mono (by simp))⟩
end Go.Proofs.YtfphedcgmaakjaaGreatDoor
