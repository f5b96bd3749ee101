/-
  What Changes of the specification of package rule returns: a contract for all worlds in which the list lies in one block.
-/
import Derived.Test.YtfphedcgmaakjaaRefChgM
import Derived.Test.YtfphedcgmaakjaaChg
import Derived.Test.YtfphedcgmaakjaaHv
import Derived.Test.YtfphedcgmaakjaaApp
namespace Go.Proofs.Ytfphedcgmaakjaa
open Go.RowKit
attribute [local go_sem] set_drewN
theorem addd (b o j : Nat) : Addr.add ⟨b, o, none⟩ j = ⟨b, o + j, none⟩ := by
  unfold Addr.add
  split
  · rename_i e; subst e; rfl
  · rfl
theorem addo' (b o j : Nat) : (Addr.add ⟨b, o, none⟩ j).block = b := by
  unfold Addr.add
  split
  · rename_i e; subst e; rfl
  · rfl
/-- a row of days of one's own -/
def DRow (w0 W : World) (F : List Int) (v : Value) : Prop := W.ownsRow w0.heap.size 3 1 v F.length (F.map (Value.int .i64)) ∧ NilIf F v ∧ Below w0.heap.size w0 W
theorem DRow.keep {w0 W W' : World} {F : List Int} {v : Value} (h : DRow w0 W F v) (hb : Below W.heap.size W W') : DRow w0 W' F v :=
  ⟨ownsRow_below' h.1 hb, h.2.1, h.2.2.trans (hb.mono h.2.2.size)⟩
theorem DRow.closed {w0 W : World} {F : List Int} {v : Value} (h : DRow w0 W F v) : Closed W w0.heap.size v F := by
  obtain ⟨ho, hn, hb⟩ := h
  by_cases hF : F = []
  · exact .inl ⟨hF, hn hF⟩
  · rcases ho.2 with ⟨_, h0⟩ | ⟨g, cap, cur, rfl, hbase, hr⟩
    · exact absurd (List.length_eq_zero_iff.1 h0) hF
    · refine .inr ⟨g, cap, rfl, hbase, (ho.lt g rfl).2, fun j hj => ?_⟩
      have := ho.cells (g := g) rfl j (.int .i64 F[j]) (by rw [List.getElem?_map, List.getElem?_eq_getElem hj]; rfl)
      rwa [addc] at this
theorem own_base {w : World} {b0 b1 : Nat} {e : TypeId} {size n : Nat} {v : Value} {xs : List Value} (h : w.ownsRow b1 e size v n xs) (hb : b0 ≤ b1) : w.ownsRow b0 e size v n xs := by
  refine ⟨h.1, ?_⟩
  rcases h.2 with h | ⟨g, cap, cur, e1, hb1, h2⟩
  · exact .inl h
  · exact .inr ⟨g, cap, cur, e1, Nat.le_trans hb hb1, h2⟩
set_option maxRecDepth 100000 in
set_option maxHeartbeats 40000000 in
theorem xChanges_days (l : List Pv) (nm : ByteArray) (known : Int) (b o cap : Nat) (w : World) (hl : l.length ≤ 1000) (hm : nm.size ≤ maxLen) (hc : PvsAt w b o l) :
    Calls Try.prog 61 #[.slice (some ⟨b, o, none⟩) l.length cap, .string nm, .int .i64 known] w (fun e w' => ∃ v, e = .returned (two v (.bool (decide (0 < (once (frs l nm known)).length)))) ∧ ChgAt w' w.heap.size v (chk (hv l nm known) (once (frs l nm known)) (once (frs l nm known)).length) ∧ Below w.heap.size w w') := by
  obtain ⟨i0, hi, hz0, hz1, hz2⟩ := info_parts infoInt
  obtain ⟨j0, hj, jz0, jz1, jz2⟩ := info_parts infoCh
  have HC := Lib.hid hc
  clear hc
  go_enter Try.func61, Try.ntmps61
  go_wp2
  go_loopw [8, 9] (fun v i wr => ∃ k : Nat, k ≤ l.length ∧ i = .int .i64 k ∧ DRow w wr (once (frs (l.take k) nm known)) v) (fun _ i _ => l.length - (intOf i).toNat)
  case atStart => exact ⟨0, Nat.zero_le _, rfl, by simpa [frs, once, Lib.compact, Lib.compactUpTo] using World.ownsRow_nil _ _ _ _, fun _ => rfl, Below.refl _ _⟩
  case round =>
    obtain ⟨k, hk, rfl, hrow⟩ := hrel
    have hB := hrow.2.2
    have hs := hB.size
    have DR := Lib.hid hrow
    clear hrow
    by_cases hlt : k < l.length
    · obtain ⟨⟨c0, c1, c2, c3, c4⟩, hsz⟩ := (HC.out.below hB).2 k hlt
      obtain ⟨p, hp⟩ : ∃ p, l[k] = p := ⟨_, rfl⟩
      rw [hp] at c0 c1 c2 c3 c4 hsz
      have sn := frs_snoc (nm := nm) (known := known) hlt hp
      clear hp
      have fl := Nat.le_trans (onc_len _) (frs_le l nm known k)
      generalize hF : frs (l.take k) nm known = F at *
      clear hF
      obtain ⟨pn, pv, pf, pe, pr⟩ := p
      simp only at c0 c1 c2 c3 c4 hsz sn
      by_cases hn : pn = nm
      · by_cases he : pe ≤ known
        · rw [if_pos ⟨hn, he⟩] at sn
          have SN := Lib.hid sn
          clear sn
          subst hn
          have he' : decide (known < pe) = false := by simpa using he
          cases hq : decide (pf ∈ once F)
          · have hx : pf ∉ once F := by simpa using hq
            have HX := Lib.hid hx
            have HS := Lib.hid (bHas_closed DR.out.closed (by omega) pf false hq)
            have bl := (HC.out.below hB).1
            rcases DR.out.closed with ⟨e, hu⟩ | ⟨g, cap', rfl, hg1, hg2, hI⟩
            · obtain ⟨AA, hAA⟩ : ∃ AA : Option Addr, AA = none := ⟨_, rfl⟩
              have hu' : u8 = .slice AA 0 0 := by rw [hAA]; exact hu
              clear hu hAA
              subst hu'
              have INS := Lib.hid (show [pf] = once (F ++ [pf]) by
                have := once_ins (F := F) (x := pf) (j := 0) (Nat.zero_le _) (fun i hi _ => by rw [e] at hi; simp at hi) (fun i hi h => absurd h (by omega))
                rw [e] at this; simpa using this)
              clear hq hx
              go_wp2_with (go_at_call 95; refine HS.out.mono ?_; rintro e w3 ⟨rfl, hb3⟩)
              have B3 := Lib.hid (hB.trans (hb3.mono hs))
              have s3 := hb3.size
              have k3 := (hb3.cell (p := ⟨b, o + k * 5 + 2, none⟩) bl).trans c2
              clear hb3
              go_loopw [10] (fun jv wi => jv = .int .i64 0 ∧ Below w3.heap.size w3 wi) (fun _ _ => 0)
              case atStart => exact ⟨rfl, Below.refl _ _⟩
              case round =>
                obtain ⟨rfl, hBi⟩ := hrel
                go_wp2
                go_quiet (fail)
                obtain ⟨w4, hw4⟩ : ∃ w4, wr.drewN nq = w4 := ⟨_, rfl⟩
                have B4 := Lib.hid (show Below w.heap.size w w4 by rw [← hw4]; exact B3.out.trans ((below_n hBi _).mono (by omega)))
                have k2 : w4.cell? ⟨b, o + k * 5 + 2, none⟩ = some (.int .i64 pf) := by rw [← hw4]; exact (hBi.cell (p := ⟨b, o + k * 5 + 2, none⟩) (by simp only; omega)).trans k3
                have hb4 : b < w4.heap.size := by rw [← hw4]; exact Nat.lt_of_lt_of_le (by omega) hBi.size
                clear hBi
                go_wp2_with fail
                rw [hw4]
                clear hw4
                go_region_held3 (fun w' => w'.cell? ⟨b, o + k * 5 + 2, none⟩ = some (.int .i64 pf)) (first | exact k2 | exact m2 | exact r2 | exact s2 | go_keep)
                  (first
                    | (refine step_app rfl (.tmp 66) (.tmp 69) _ rfl w4.heap.size (v := .slice (some ⟨_, 0, none⟩) 0 0) (n := 0) (m := 0) (xs := []) (news := []) Try.underlying48 hi hz0 hz1 hz2 rfl (by decide) rfl rfl ?_ ?_ ?_ ?_ ?_ ?_ ?_ ?_ ?_
                       · first | exact World.ownsRow_made w4 #[] 0 (Nat.le_refl _) (Nat.zero_le _) (by simp) | exact (World.ownsRow_made w4 #[] 0 (Nat.le_refl _) (Nat.zero_le _) (by simp)).alloc _ | (rw [← World.size_alloc w4 (.cells #[.int .i64 pf] 3)]; exact World.ownsRow_made (w4.alloc (.cells #[.int .i64 pf] 3)) #[] 0 (by simp) (Nat.zero_le _) (by simp)) | exact World.ownsRow_made (w4.alloc (.cells #[.int .i64 pf] 3)) #[] 0 (by simp) (Nat.zero_le _) (by simp)
                       · simp
                       · intro ad _ i u hi; simp at hi
                       · intro _; rfl
                       · simp [Value.oneCell']
                       · unfold maxLen; omega
                       · omega
                       · first | (simp; done) | (simp; omega)
                       intro v5 w5 hown5 hgrow5
                       have B5 : Hid (Below w4.heap.size w4 w5) := Lib.hid (by first | exact Below.grown (below_dr ((Below.refl _ _).alloc (Nat.le_refl _) _)) hgrow5 (by first | (simp; done) | (simp; omega)) (by intro k' e'; simp [Value.ownBlock] at e'; omega) | exact Below.grown (below_dr (((Below.refl _ _).alloc (Nat.le_refl _) _).alloc (by simp) _)) hgrow5 (by simp; omega) (by intro k' e'; simp [Value.ownBlock] at e'; omega))
                       have b5s := B5.out.size
                       have g5s := hgrow5.size
                       have m2 : w5.cell? ⟨b, o + k * 5 + 2, none⟩ = some (.int .i64 pf) := (B5.out.cell (p := ⟨b, o + k * 5 + 2, none⟩) hb4).trans k2)
                    | (refine step_app rfl (.tmp 70) (.tmp 76) _ rfl w4.heap.size (v := v5) (n := 0 + 0) (m := 1) (xs := [] ++ []) (news := [.int .i64 pf]) Try.underlying48 hi hz0 hz1 hz2 rfl (by decide) rfl rfl ?_ ?_ ?_ ?_ ?_ ?_ ?_ ?_ ?_
                       · first | exact hown5 | exact hown5.alloc _
                       · rfl
                       · intro ad hs
                         obtain rfl := Option.some.inj hs
                         first | exact World.news_of_block (cs := #[.int .i64 pf]) (heap_alloc_new _ _) | exact World.news_of_block (cs := #[.int .i64 pf]) ((hgrow5.block _ (by simp) (by simp [Value.ownBlock])).trans (heap_new_at' (by simp))) | exact World.news_of_block (cs := #[.int .i64 pf]) ((hgrow5.block _ (by simp; omega) (by simp [Value.ownBlock])).trans ((heap_alloc_old _ _ (by simp)).trans (heap_new_at' (by simp))))
                       · intro c; cases c
                       · simp [Value.oneCell']
                       · unfold maxLen; omega
                       · omega
                       · first | omega | (simp; omega)
                       intro v6 w6 hown6 hgrow6
                       have B6 : Hid (Below w4.heap.size w4 w6) := Lib.hid (by first | exact Below.grown B5.out hgrow6 (by first | omega | (simp; omega)) (fun k' e' => (hown5.lt k' e').1) | exact Below.grown (B5.out.alloc (by first | omega | (simp; omega)) _) hgrow6 (by first | omega | (simp; omega)) (fun k' e' => (hown5.lt k' e').1))
                       have b6s := B6.out.size
                       have r2 : w6.cell? ⟨b, o + k * 5 + 2, none⟩ = some (.int .i64 pf) := (B6.out.cell (p := ⟨b, o + k * 5 + 2, none⟩) hb4).trans k2)
                    | (refine step_app rfl (.tmp 77) (.tmp 80) _ rfl w4.heap.size (v := v6) (n := 0 + 0 + 1) (m := 0) (xs := [] ++ [] ++ [.int .i64 pf]) (news := []) Try.underlying48 hi hz0 hz1 hz2 rfl (by decide) rfl rfl ?_ ?_ ?_ ?_ ?_ ?_ ?_ ?_ ?_
                       · exact hown6
                       · simp
                       · intro ad _ i u hi; simp at hi
                       · intro _; rfl
                       · simp [Value.oneCell']
                       · unfold maxLen; omega
                       · omega
                       · omega
                       intro v7 w7 hown7 hgrow7
                       have B7 : Hid (Below w4.heap.size w4 w7) := Lib.hid (Below.grown B6.out hgrow7 (by omega) (fun k' e' => (hown6.lt k' e').1))
                       have s2 : w7.cell? ⟨b, o + k * 5 + 2, none⟩ = some (.int .i64 pf) := (B7.out.cell (p := ⟨b, o + k * 5 + 2, none⟩) hb4).trans k2))
                all_goals
                  have DN : Hid (DRow w w7 (once (F ++ [pf])) v7) := Lib.hid (by
                    refine ⟨?_, fun c => ?_, B4.out.trans (B7.out.mono B4.out.size)⟩
                    · have hq7 := own_base hown7 B4.out.size
                      rw [← INS.out]
                      simpa using hq7
                    · exfalso
                      rw [← INS.out] at c
                      simp at c)
                  clear hown7 hgrow7 hown6 hgrow6 hown5 hgrow5
                  go_wp2
                  go_roundw
                  case rel => exact ⟨k + 1, by omega, by go_num, by rw [SN.out]; exact DN.out⟩
                  case measure => simp [intOf]; omega
            · have HI := Lib.hid hI
              have fln : (once F).length ≤ k := fl
              have hcap : (once F).length ≤ cap' := by
                rcases DR.out.1.2 with ⟨hv, _⟩ | ⟨_, _, _, hv, _, _, hnc, _⟩
                · cases hv
                · cases hv; exact hnc
              clear hq hx hI
              have sorted := Lib.hid ((once_spec F).1)
              generalize hL : once F = L at *
              have HXL : Hid (pf ∉ L) := HX
              have HL := Lib.hid hL
              clear hL
              go_wp2_with (go_at_call 95; refine HS.out.mono ?_; rintro e w3 ⟨rfl, hb3⟩)
              have B3 := Lib.hid (hB.trans (hb3.mono hs))
              have s3 := hb3.size
              have k3 := (hb3.cell (p := ⟨b, o + k * 5 + 2, none⟩) bl).trans c2
              have I3 := Lib.hid (fun j (hj : j < L.length) => (hb3.cell (p := ⟨g, 0 + j, none⟩) hg2).trans (HI.out j hj))
              clear hb3
              go_loopw [10] (fun jv wi => ∃ j : Nat, j ≤ L.length ∧ jv = .int .i64 (j : Nat) ∧ (∀ i (hi : i < L.length), j ≤ i → pf < L[i]) ∧ Below w3.heap.size w3 wi) (fun jv _ => (intOf jv).toNat)
              case atStart => exact ⟨L.length, Nat.le_refl _, rfl, fun i hi h => absurd h (by omega), Below.refl _ _⟩
              case round =>
                obtain ⟨j, hj, rfl, hup, hBi⟩ := hrel
                have HU := Lib.hid hup
                clear hup
                by_cases hz : j = 0
                · have LT : Hid (∀ i (hi : i < L.length), i < j → L[i] < pf) := Lib.hid (fun i hi h => absurd h (by omega))
                  have j0' : decide (0 < j) = false := by simp; omega
                  have jb1 : (0 : Int) ≤ j := by omega
                  have jb2 : (j : Int) ≤ L.length := by omega
                  have jb3 : (j : Int) ≤ cap' := by omega
                  have JZ := Lib.hid hz
                  clear hz
                  go_wp2
                  go_quiet (fail)
                  have INS := Lib.hid (show L.take j ++ [pf] ++ L.drop j = once (F ++ [pf]) by
                    rw [← HL.out]
                    exact once_ins (by rw [HL.out]; omega) (fun i hi h => by simp only [HL.out]; exact HU.out i (by rw [← HL.out]; exact hi) h) (fun i hi h => by simp only [HL.out]; exact LT.out i (by rw [← HL.out]; exact hi) h))
                  obtain ⟨w4, hw4⟩ : ∃ w4, wr.drewN nq = w4 := ⟨_, rfl⟩
                  have Bi4 := Lib.hid (show Below w3.heap.size w3 w4 by rw [← hw4]; exact below_n hBi _)
                  have B4 := Lib.hid (B3.out.trans (Bi4.out.mono (by omega)))
                  have k2 : w4.cell? ⟨b, o + k * 5 + 2, none⟩ = some (.int .i64 pf) := (Bi4.out.cell (p := ⟨b, o + k * 5 + 2, none⟩) (by simp only; omega)).trans k3
                  have b4s := Bi4.out.size
                  have hb4 : b < w4.heap.size := by omega
                  have hg4 : g < w4.heap.size := by omega
                  have C4 := Lib.hid (fun i (hi : i < L.length) => (Bi4.out.cell (p := ⟨g, 0 + i, none⟩) (by simp only; omega)).trans (I3.out i hi))
                  have S1 := Lib.hid (show ∀ i u, ((L.take j).map (Value.int .i64))[i]? = some u → w4.cell? (Addr.add ⟨g, 0, none⟩ i) = some u by
                    intro i u hu
                    rw [List.getElem?_map] at hu
                    obtain ⟨z, hz, rfl⟩ := Option.map_eq_some_iff.1 hu
                    obtain ⟨h1, h2⟩ := List.getElem?_eq_some_iff.1 hz
                    rw [List.length_take] at h1
                    rw [addc, C4.out i (by omega), ← h2, List.getElem_take])
                  have S3 := Lib.hid (show ∀ i u, ((L.drop j).map (Value.int .i64))[i]? = some u → w4.cell? (Addr.add ⟨g, j, none⟩ i) = some u by
                    intro i u hu
                    rw [List.getElem?_map] at hu
                    obtain ⟨z, hz, rfl⟩ := Option.map_eq_some_iff.1 hu
                    obtain ⟨h1, h2⟩ := List.getElem?_eq_some_iff.1 hz
                    rw [List.length_drop] at h1
                    have := C4.out (j + i) (by omega)
                    rw [Nat.zero_add] at this
                    rw [addd, this, ← h2, List.getElem_drop])
                  clear hBi
                  go_wp2_with fail
                  rw [hw4]
                  clear hw4
                  go_region_held3 (fun w' => w'.cell? ⟨b, o + k * 5 + 2, none⟩ = some (.int .i64 pf)) (first | exact k2 | exact m2 | exact r2 | exact s2 | go_keep)
                    (first
                      | (refine step_app rfl (.tmp 66) (.tmp 69) _ rfl w4.heap.size (v := .slice (some ⟨_, 0, none⟩) 0 0) (n := 0) (m := j) (xs := []) (news := (L.take j).map (Value.int .i64)) Try.underlying48 hi hz0 hz1 hz2 rfl (by decide) rfl rfl ?_ ?_ ?_ ?_ ?_ ?_ ?_ ?_ ?_
                         · first | exact World.ownsRow_made w4 #[] 0 (Nat.le_refl _) (Nat.zero_le _) (by simp) | exact (World.ownsRow_made w4 #[] 0 (Nat.le_refl _) (Nat.zero_le _) (by simp)).alloc _ | (rw [← World.size_alloc w4 (.cells #[.int .i64 pf] 3)]; exact World.ownsRow_made (w4.alloc (.cells #[.int .i64 pf] 3)) #[] 0 (by simp) (Nat.zero_le _) (by simp)) | exact World.ownsRow_made (w4.alloc (.cells #[.int .i64 pf] 3)) #[] 0 (by simp) (Nat.zero_le _) (by simp)
                         · simp; omega
                         · intro ad hs i u hi; obtain rfl := Option.some.inj hs; first | exact Lib.cell?_alloc_some _ (S1.out i u hi) | exact Lib.cell?_alloc_some _ (Lib.cell?_alloc_some _ (S1.out i u hi))
                         · intro c; cases c
                         · intro u hu; obtain ⟨z, _, rfl⟩ := List.mem_map.1 hu; rfl
                         · unfold maxLen; omega
                         · omega
                         · first | (simp; done) | (simp; omega)
                         intro v5 w5 hown5 hgrow5
                         have B5 : Hid (Below w4.heap.size w4 w5) := Lib.hid (by first | exact Below.grown (below_dr ((Below.refl _ _).alloc (Nat.le_refl _) _)) hgrow5 (by first | (simp; done) | (simp; omega)) (by intro k' e'; simp [Value.ownBlock] at e'; omega) | exact Below.grown (below_dr (((Below.refl _ _).alloc (Nat.le_refl _) _).alloc (by simp) _)) hgrow5 (by simp; omega) (by intro k' e'; simp [Value.ownBlock] at e'; omega))
                         have b5s := B5.out.size
                         have g5s := hgrow5.size
                         have m2 : w5.cell? ⟨b, o + k * 5 + 2, none⟩ = some (.int .i64 pf) := (B5.out.cell (p := ⟨b, o + k * 5 + 2, none⟩) hb4).trans k2)
                      | (refine step_app rfl (.tmp 70) (.tmp 76) _ rfl w4.heap.size (v := v5) (n := 0 + j) (m := 1) (xs := [] ++ (L.take j).map (Value.int .i64)) (news := [.int .i64 pf]) Try.underlying48 hi hz0 hz1 hz2 rfl (by decide) rfl rfl ?_ ?_ ?_ ?_ ?_ ?_ ?_ ?_ ?_
                         · first | exact hown5 | exact hown5.alloc _
                         · rfl
                         · intro ad hs
                           obtain rfl := Option.some.inj hs
                           first | exact World.news_of_block (cs := #[.int .i64 pf]) (heap_alloc_new _ _) | exact World.news_of_block (cs := #[.int .i64 pf]) ((hgrow5.block _ (by simp) (by simp [Value.ownBlock])).trans (heap_new_at' (by simp))) | exact World.news_of_block (cs := #[.int .i64 pf]) ((hgrow5.block _ (by simp; omega) (by simp [Value.ownBlock])).trans ((heap_alloc_old _ _ (by simp)).trans (heap_new_at' (by simp))))
                         · intro c; cases c
                         · simp [Value.oneCell']
                         · unfold maxLen; omega
                         · omega
                         · first | omega | (simp; omega)
                         intro v6 w6 hown6 hgrow6
                         have B6 : Hid (Below w4.heap.size w4 w6) := Lib.hid (by first | exact Below.grown B5.out hgrow6 (by first | omega | (simp; omega)) (fun k' e' => (hown5.lt k' e').1) | exact Below.grown (B5.out.alloc (by first | omega | (simp; omega)) _) hgrow6 (by first | omega | (simp; omega)) (fun k' e' => (hown5.lt k' e').1))
                         have b6s := B6.out.size
                         have r2 : w6.cell? ⟨b, o + k * 5 + 2, none⟩ = some (.int .i64 pf) := (B6.out.cell (p := ⟨b, o + k * 5 + 2, none⟩) hb4).trans k2)
                      | (refine step_app rfl (.tmp 77) (.tmp 80) _ rfl w4.heap.size (v := v6) (n := 0 + j + 1) (m := L.length - j) (xs := [] ++ (L.take j).map (Value.int .i64) ++ [.int .i64 pf]) (news := (L.drop j).map (Value.int .i64)) Try.underlying48 hi hz0 hz1 hz2 rfl (by decide) rfl rfl ?_ ?_ ?_ ?_ ?_ ?_ ?_ ?_ ?_
                         · exact hown6
                         · simp
                         · intro ad hs i u hi
                           by_cases hcj : cap' = j
                           · rw [List.drop_of_length_le (by omega)] at hi; simp at hi
                           · rw [if_neg hcj] at hs
                             obtain rfl := Option.some.inj hs
                             exact (B6.out.cell (p := Addr.add _ i) (by rw [addo']; exact hg4)).trans (S3.out i u hi)
                         · intro c; split at c <;> cases c
                         · intro u hu; obtain ⟨z, _, rfl⟩ := List.mem_map.1 hu; rfl
                         · unfold maxLen; omega
                         · omega
                         · omega
                         intro v7 w7 hown7 hgrow7
                         have B7 : Hid (Below w4.heap.size w4 w7) := Lib.hid (Below.grown B6.out hgrow7 (by omega) (fun k' e' => (hown6.lt k' e').1))
                         have s2 : w7.cell? ⟨b, o + k * 5 + 2, none⟩ = some (.int .i64 pf) := (B7.out.cell (p := ⟨b, o + k * 5 + 2, none⟩) hb4).trans k2))
                  all_goals
                    have DN : Hid (DRow w w7 (once (F ++ [pf])) v7) := Lib.hid (by
                      refine ⟨?_, fun c => ?_, B4.out.trans (B7.out.mono B4.out.size)⟩
                      · have hq7 := own_base hown7 B4.out.size
                        rw [← INS.out]
                        rw [show (L.take j ++ [pf] ++ L.drop j).length = 0 + j + 1 + (L.length - j) from by simp; omega, show (L.take j ++ [pf] ++ L.drop j).map (Value.int .i64) = [] ++ (L.take j).map (Value.int .i64) ++ [.int .i64 pf] ++ (L.drop j).map (Value.int .i64) from by simp]; exact hq7
                      · exfalso
                        rw [← INS.out] at c
                        simp at c)
                    clear hown7 hgrow7 hown6 hgrow6 hown5 hgrow5
                    go_wp2
                    go_roundw
                    case rel => exact ⟨k + 1, by omega, by go_num, by rw [SN.out]; exact DN.out⟩
                    case measure => simp [intOf]; omega
                · obtain ⟨j, rfl⟩ : ∃ j', j = j' + 1 := ⟨j - 1, by omega⟩
                  have hjl : j < L.length := by omega
                  have cj := (hBi.cell (p := ⟨g, 0 + j, none⟩) (by simp only; omega)).trans (I3.out j hjl)
                  rw [Nat.zero_add] at cj
                  have ci2 := (hBi.cell (p := ⟨b, o + k * 5 + 2, none⟩) (by simp only; omega)).trans k3
                  by_cases hgt : pf < L[j]
                  · have EX := Lib.hid (show ∀ i (hi : i < L.length), j ≤ i → pf < L[i] by
                      intro i hi h
                      by_cases e : i = j
                      · subst e; exact hgt
                      · exact HU.out i hi (by omega))
                    generalize L[j] = X at *
                    go_wp2
                    go_quiet (fail)
                    go_wp2
                    go_roundw
                    case rel => exact ⟨j, by omega, by first | go_num | (congr 1; omega), EX.out, below_n hBi _⟩
                    case measure => first | (simp [intOf]; done) | (simp [intOf]; omega)
                  · have LT := Lib.hid (show ∀ i (hi : i < L.length), i < j + 1 → L[i] < pf by
                      have hne : L[j] ≠ pf := fun c => HXL.out (by rw [← c]; exact List.getElem_mem hjl)
                      intro i hi h
                      by_cases e : i = j
                      · subst e; omega
                      · have := (List.pairwise_iff_getElem.1 sorted.out) i j hi hjl (by omega)
                        omega)
                    have hgt' : decide (pf < L[j]) = false := by simpa using hgt
                    generalize L[j] = X at *
                    go_wp2
                    go_quiet (fail)
                    obtain ⟨J, hJ⟩ : ∃ J : Nat, j + 1 = J := ⟨_, rfl⟩
                    have jb1 : (0 : Int) ≤ J := by omega
                    have jb2 : (J : Int) ≤ L.length := by omega
                    have jb3 : (J : Int) ≤ cap' := by omega
                    have hJL : J ≤ L.length := by omega
                    have hJi : (j : Int) + 1 = J := by omega
                    have HU := Lib.hid (show ∀ i (hi : i < L.length), J ≤ i → pf < L[i] from fun i hi h => HU.out i hi (by omega))
                    have LT := Lib.hid (show ∀ i (hi : i < L.length), i < J → L[i] < pf from fun i hi h => LT.out i hi (by omega))
                    simp only [hJi]
                    clear hJi hJ
                    have INS := Lib.hid (show L.take J ++ [pf] ++ L.drop J = once (F ++ [pf]) by
                      rw [← HL.out]
                      exact once_ins (by rw [HL.out]; omega) (fun i hi h => by simp only [HL.out]; exact HU.out i (by rw [← HL.out]; exact hi) h) (fun i hi h => by simp only [HL.out]; exact LT.out i (by rw [← HL.out]; exact hi) h))
                    obtain ⟨w4, hw4⟩ : ∃ w4, wr.drewN nq = w4 := ⟨_, rfl⟩
                    have Bi4 := Lib.hid (show Below w3.heap.size w3 w4 by rw [← hw4]; exact below_n hBi _)
                    have B4 := Lib.hid (B3.out.trans (Bi4.out.mono (by omega)))
                    have k2 : w4.cell? ⟨b, o + k * 5 + 2, none⟩ = some (.int .i64 pf) := (Bi4.out.cell (p := ⟨b, o + k * 5 + 2, none⟩) (by simp only; omega)).trans k3
                    have b4s := Bi4.out.size
                    have hb4 : b < w4.heap.size := by omega
                    have hg4 : g < w4.heap.size := by omega
                    have C4 := Lib.hid (fun i (hi : i < L.length) => (Bi4.out.cell (p := ⟨g, 0 + i, none⟩) (by simp only; omega)).trans (I3.out i hi))
                    have S1 := Lib.hid (show ∀ i u, ((L.take J).map (Value.int .i64))[i]? = some u → w4.cell? (Addr.add ⟨g, 0, none⟩ i) = some u by
                      intro i u hu
                      rw [List.getElem?_map] at hu
                      obtain ⟨z, hz, rfl⟩ := Option.map_eq_some_iff.1 hu
                      obtain ⟨h1, h2⟩ := List.getElem?_eq_some_iff.1 hz
                      rw [List.length_take] at h1
                      rw [addc, C4.out i (by omega), ← h2, List.getElem_take])
                    have S3 := Lib.hid (show ∀ i u, ((L.drop J).map (Value.int .i64))[i]? = some u → w4.cell? (Addr.add ⟨g, J, none⟩ i) = some u by
                      intro i u hu
                      rw [List.getElem?_map] at hu
                      obtain ⟨z, hz, rfl⟩ := Option.map_eq_some_iff.1 hu
                      obtain ⟨h1, h2⟩ := List.getElem?_eq_some_iff.1 hz
                      rw [List.length_drop] at h1
                      have := C4.out (J + i) (by omega)
                      rw [Nat.zero_add] at this
                      rw [addd, this, ← h2, List.getElem_drop])
                    clear hBi
                    go_wp2_with fail
                    rw [hw4]
                    clear hw4
                    go_region_held3 (fun w' => w'.cell? ⟨b, o + k * 5 + 2, none⟩ = some (.int .i64 pf)) (first | exact k2 | exact m2 | exact r2 | exact s2 | go_keep)
                      (first
                        | (refine step_app rfl (.tmp 66) (.tmp 69) _ rfl w4.heap.size (v := .slice (some ⟨_, 0, none⟩) 0 0) (n := 0) (m := J) (xs := []) (news := (L.take J).map (Value.int .i64)) Try.underlying48 hi hz0 hz1 hz2 rfl (by decide) rfl rfl ?_ ?_ ?_ ?_ ?_ ?_ ?_ ?_ ?_
                           · first | exact World.ownsRow_made w4 #[] 0 (Nat.le_refl _) (Nat.zero_le _) (by simp) | exact (World.ownsRow_made w4 #[] 0 (Nat.le_refl _) (Nat.zero_le _) (by simp)).alloc _ | (rw [← World.size_alloc w4 (.cells #[.int .i64 pf] 3)]; exact World.ownsRow_made (w4.alloc (.cells #[.int .i64 pf] 3)) #[] 0 (by simp) (Nat.zero_le _) (by simp)) | exact World.ownsRow_made (w4.alloc (.cells #[.int .i64 pf] 3)) #[] 0 (by simp) (Nat.zero_le _) (by simp)
                           · simp; omega
                           · intro ad hs i u hi; obtain rfl := Option.some.inj hs; first | exact Lib.cell?_alloc_some _ (S1.out i u hi) | exact Lib.cell?_alloc_some _ (Lib.cell?_alloc_some _ (S1.out i u hi))
                           · intro c; cases c
                           · intro u hu; obtain ⟨z, _, rfl⟩ := List.mem_map.1 hu; rfl
                           · unfold maxLen; omega
                           · omega
                           · first | (simp; done) | (simp; omega)
                           intro v5 w5 hown5 hgrow5
                           have B5 : Hid (Below w4.heap.size w4 w5) := Lib.hid (by first | exact Below.grown (below_dr ((Below.refl _ _).alloc (Nat.le_refl _) _)) hgrow5 (by first | (simp; done) | (simp; omega)) (by intro k' e'; simp [Value.ownBlock] at e'; omega) | exact Below.grown (below_dr (((Below.refl _ _).alloc (Nat.le_refl _) _).alloc (by simp) _)) hgrow5 (by simp; omega) (by intro k' e'; simp [Value.ownBlock] at e'; omega))
                           have b5s := B5.out.size
                           have g5s := hgrow5.size
                           have m2 : w5.cell? ⟨b, o + k * 5 + 2, none⟩ = some (.int .i64 pf) := (B5.out.cell (p := ⟨b, o + k * 5 + 2, none⟩) hb4).trans k2)
                        | (refine step_app rfl (.tmp 70) (.tmp 76) _ rfl w4.heap.size (v := v5) (n := 0 + J) (m := 1) (xs := [] ++ (L.take J).map (Value.int .i64)) (news := [.int .i64 pf]) Try.underlying48 hi hz0 hz1 hz2 rfl (by decide) rfl rfl ?_ ?_ ?_ ?_ ?_ ?_ ?_ ?_ ?_
                           · first | exact hown5 | exact hown5.alloc _
                           · rfl
                           · intro ad hs
                             obtain rfl := Option.some.inj hs
                             first | exact World.news_of_block (cs := #[.int .i64 pf]) (heap_alloc_new _ _) | exact World.news_of_block (cs := #[.int .i64 pf]) ((hgrow5.block _ (by simp) (by simp [Value.ownBlock])).trans (heap_new_at' (by simp))) | exact World.news_of_block (cs := #[.int .i64 pf]) ((hgrow5.block _ (by simp; omega) (by simp [Value.ownBlock])).trans ((heap_alloc_old _ _ (by simp)).trans (heap_new_at' (by simp))))
                           · intro c; cases c
                           · simp [Value.oneCell']
                           · unfold maxLen; omega
                           · omega
                           · first | omega | (simp; omega)
                           intro v6 w6 hown6 hgrow6
                           have B6 : Hid (Below w4.heap.size w4 w6) := Lib.hid (by first | exact Below.grown B5.out hgrow6 (by first | omega | (simp; omega)) (fun k' e' => (hown5.lt k' e').1) | exact Below.grown (B5.out.alloc (by first | omega | (simp; omega)) _) hgrow6 (by first | omega | (simp; omega)) (fun k' e' => (hown5.lt k' e').1))
                           have b6s := B6.out.size
                           have r2 : w6.cell? ⟨b, o + k * 5 + 2, none⟩ = some (.int .i64 pf) := (B6.out.cell (p := ⟨b, o + k * 5 + 2, none⟩) hb4).trans k2)
                        | (refine step_app rfl (.tmp 77) (.tmp 80) _ rfl w4.heap.size (v := v6) (n := 0 + J + 1) (m := L.length - J) (xs := [] ++ (L.take J).map (Value.int .i64) ++ [.int .i64 pf]) (news := (L.drop J).map (Value.int .i64)) Try.underlying48 hi hz0 hz1 hz2 rfl (by decide) rfl rfl ?_ ?_ ?_ ?_ ?_ ?_ ?_ ?_ ?_
                           · exact hown6
                           · simp
                           · intro ad hs i u hi
                             by_cases hcj : cap' = J
                             · rw [List.drop_of_length_le (by omega)] at hi; simp at hi
                             · rw [if_neg hcj] at hs
                               obtain rfl := Option.some.inj hs
                               exact (B6.out.cell (p := Addr.add _ i) (by rw [addo']; exact hg4)).trans (S3.out i u hi)
                           · intro c; split at c <;> cases c
                           · intro u hu; obtain ⟨z, _, rfl⟩ := List.mem_map.1 hu; rfl
                           · unfold maxLen; omega
                           · omega
                           · omega
                           intro v7 w7 hown7 hgrow7
                           have B7 : Hid (Below w4.heap.size w4 w7) := Lib.hid (Below.grown B6.out hgrow7 (by omega) (fun k' e' => (hown6.lt k' e').1))
                           have s2 : w7.cell? ⟨b, o + k * 5 + 2, none⟩ = some (.int .i64 pf) := (B7.out.cell (p := ⟨b, o + k * 5 + 2, none⟩) hb4).trans k2))
                    all_goals
                      have DN : Hid (DRow w w7 (once (F ++ [pf])) v7) := Lib.hid (by
                        refine ⟨?_, fun c => ?_, B4.out.trans (B7.out.mono B4.out.size)⟩
                        · have hq7 := own_base hown7 B4.out.size
                          rw [← INS.out]
                          rw [show (L.take J ++ [pf] ++ L.drop J).length = 0 + J + 1 + (L.length - J) from by simp; omega, show (L.take J ++ [pf] ++ L.drop J).map (Value.int .i64) = [] ++ (L.take J).map (Value.int .i64) ++ [.int .i64 pf] ++ (L.drop J).map (Value.int .i64) from by simp]; exact hq7
                        · exfalso
                          rw [← INS.out] at c
                          simp at c)
                      clear hown7 hgrow7 hown6 hgrow6 hown5 hgrow5
                      go_wp2
                      go_roundw
                      case rel => exact ⟨k + 1, by omega, by go_num, by rw [SN.out]; exact DN.out⟩
                      case measure => simp [intOf]; omega
          · have hx : pf ∈ once F := by simpa using hq
            have SX := Lib.hid (once_dup hx)
            have HS := Lib.hid (bHas_closed DR.out.closed (by omega) pf true hq)
            clear hq hx
            go_wp2_with (go_at_call 95; refine HS.out.mono ?_; rintro e w3 ⟨rfl, hb3⟩)
            go_roundw
            case rel => exact ⟨k + 1, by omega, by go_num, by rw [SN.out, SX.out]; exact DR.out.keep hb3⟩
            case measure => simp [intOf]; omega
        · rw [if_neg (fun c => he c.2), List.append_nil] at sn
          have SN := Lib.hid sn
          clear sn
          subst hn
          have he' : decide (known < pe) = true := by simp; omega
          go_wp2
          go_roundw
          case rel => exact ⟨k + 1, by omega, by go_num, by rw [SN.out]; exact DR.out⟩
          case measure => simp [intOf]; omega
      · rw [if_neg (fun c => hn c.1), List.append_nil] at sn
        have SN := Lib.hid sn
        clear sn
        have hn1 := str_ne hn
        go_wp2
        go_roundw
        case rel => exact ⟨k + 1, by omega, by go_num, by rw [SN.out]; exact DR.out⟩
        case measure => simp [intOf]; omega
    · obtain rfl : k = l.length := by omega
      rw [List.take_length] at DR
      rcases DR.out.closed with ⟨e, rfl⟩ | ⟨g, cap', rfl, hg1, hg2, hI⟩
      · go_wp2
        go_loopw [11, 13] (fun v i wi => v = .slice none 0 0 ∧ i = .int .i64 0 ∧ Below wr.heap.size wr wi) (fun _ _ _ => 0)
        case atStart => exact ⟨rfl, rfl, (Below.refl _ _).alloc (Nat.le_refl _) _⟩
        case round =>
          obtain ⟨rfl, rfl, hBi⟩ := hrel
          go_wp2
          go_ret2
          exact ⟨_, by rw [e]; rfl, .inl ⟨by rw [e]; rfl, rfl⟩, hB.trans (hBi.mono hs)⟩
      · have HI := Lib.hid hI
        clear hI
        have fln := Nat.le_trans (onc_len _) (frs_le l nm known l.length)
        rw [List.take_length] at fln
        have CHs := Lib.hid (fun W d (hW : PvsAt W b o l) => xHas_hv l nm d known b o cap W (by omega) hW)
        generalize hL3 : once (frs l nm known) = L at *
        generalize hH3 : hv l nm known = H at *
        have HL3 := Lib.hid hL3
        have HH3 := Lib.hid hH3
        clear hL3 hH3
        obtain ⟨B0, hB0⟩ : ∃ B0, wr.heap.size = B0 := ⟨_, rfl⟩
        have hs0 : w.heap.size ≤ B0 := by omega
        have hg0 : g < B0 := by omega
        go_wp2
        try rw [hB0]
        go_loopw [11, 13] (fun v i wi => ∃ jj : Nat, jj ≤ L.length ∧ i = .int .i64 jj ∧ wi.ownsRow (B0 + 1) 92 3 v (chk H L jj).length (chcs (chk H L jj)) ∧ NilC (chk H L jj) v ∧ ∃ dd, LstI B0 wr wi dd (prv H L jj)) (fun _ i _ => L.length - (intOf i).toNat)
        case atStart => exact ⟨0, Nat.zero_le _, rfl, World.ownsRow_nil _ _ _ _, fun _ => rfl, 0, by rw [← hB0]; exact ⟨(Below.refl _ _).alloc (Nat.le_refl _) _, by simp, by simp [go_sem], by simp [go_sem, prv], by simp [go_sem, prv], by simp [go_sem], by simp [go_sem], by simp [go_sem]⟩⟩
        case round =>
          obtain ⟨jj, hjj, rfl, hown, hnil, dd, hLI⟩ := hrel
          have hBi := hLI.1
          have hsw := hLI.2.1
          have CI := Lib.hid hLI
          have HN := Lib.hid hnil
          have OW := Lib.hid hown
          have fl := chk_len H L jj
          clear hnil hLI hown
          by_cases hlt : jj < L.length
          · have e0 : wr.cell? ⟨g, jj, none⟩ = some (.int .i64 (L.getD jj 0)) := by
              have := (hBi.cell (p := ⟨g, 0 + jj, none⟩) hg0).trans (HI.out jj hlt)
              rw [Nat.zero_add] at this
              rw [this, List.getD_eq_getElem?_getD, List.getElem?_eq_getElem hlt]; rfl
            have CH := Lib.hid (CHs.out wr (L.getD jj 0) ((HC.out.below hB).below (hB0 ▸ hBi)))
            by_cases heq : H (L.getD jj 0) = prv H L jj
            · have SN := Lib.hid (chk_same heq)
              have PN := Lib.hid (show prv H L (jj + 1) = prv H L jj from heq)
              rw [heq] at CH
              generalize hq : prv H L jj = q at *
              generalize L.getD jj 0 = d at *
              clear heq hq
              obtain ⟨a, h⟩ := q
              simp only at CH
              go_wp2_with fail
              refine CH.out.mono ?_
              rintro e w3 ⟨rfl, hb3⟩
              have s3 := hb3.size
              have I4 := Lib.hid (CI.out.keep hb3)
              have O4 := Lib.hid (ownsRow_below' OW.out hb3)
              obtain ⟨_, z9, z0, z1, z2, y0, y1, y2⟩ := I4.out
              simp only at z1 z2
              go_wp2
              go_roundw
              case rel => exact ⟨jj + 1, by omega, by go_num, by rw [SN.out]; exact O4.out, by rw [SN.out]; exact HN.out, by rw [PN.out]; exact ⟨_, I4.out⟩⟩
              case measure => simp [intOf]; omega
            · have SN := Lib.hid (chk_new heq)
              have PN := Lib.hid (show prv H L (jj + 1) = H (L.getD jj 0) from rfl)
              generalize hq : prv H L jj = q at *
              generalize L.getD jj 0 = d at *
              generalize hH : H d = r at *
              generalize chk H L jj = FF at *
              clear hq hH
              obtain ⟨a, h⟩ := r
              obtain ⟨pa, ph⟩ := q
              simp only at CH
              have cs : (h = ph ∧ (a != pa) = true) ∨ (h = true ∧ ph = false) ∨ (h = false ∧ ph = true) := by
                cases h <;> cases ph <;> simp at heq ⊢ <;> exact heq
              clear heq
              rcases cs with ⟨rfl, na⟩ | ⟨rfl, rfl⟩ | ⟨rfl, rfl⟩
              · go_wp2_with fail
                refine CH.out.mono ?_
                rintro e w3 ⟨rfl, hb3⟩
                have s3 := hb3.size
                have e3 : w3.cell? ⟨g, jj, none⟩ = some (.int .i64 d) := (hb3.cell (p := ⟨g, jj, none⟩) (by simp only; omega)).trans e0
                have I4 := Lib.hid (CI.out.keep hb3)
                have O4 := Lib.hid (own_set3 (ownsRow_below' OW.out hb3) (Nat.lt_succ_self _) (.int .i64 d) (.int .i64 a) (.bool h))
                obtain ⟨_, z9, z0, z1, z2, y0, y1, y2⟩ := I4.out
                simp only at z1 z2
                have I5 := Lib.hid (I4.out.set d a h)
                obtain ⟨_, _, x0, x1, x2, _⟩ := I5.out
                simp only at x1 x2
                go_wp2_with (at_builtin; refine wpList_append_own _ rfl _ _ 85 rfl (B0 + 1) 92 j0 _ 3 24 Try.underlying85 hj jz0 jz1 jz2 rfl (by decide) _ _ _ rfl (O4.out.alloc _) ⟨w3.heap.size, 0, none⟩ 1 1 [.int .i64 d, .int .i64 a, .bool h] rfl rfl ?c1 ?c2 ?c3 ?c4 ?c5 ?_)
                case c1 => exact World.news_of_block (cs := #[.int .i64 d, .int .i64 a, .bool h]) (heap_new_at' (by simp))
                case c2 => simp [Value.oneCell']
                case c3 => unfold maxLen; omega
                case c4 => omega
                case c5 => simp; omega
                intro v5 w5 hown5 hgrow5 _
                have I6 := Lib.hid ((I5.out.keep ((Below.refl _ _).alloc (Nat.le_refl _) _)).grown hgrow5 (fun k' e' => by have := (OW.out.lt k' e').1; omega))
                have O6 := Lib.hid hown5
                clear hown5 hgrow5
                go_wp2
                go_roundw
                case rel =>
                  refine ⟨jj + 1, by omega, by go_num, ?_, ?_, ?_⟩
                  · rw [SN.out, chcs_app, chcs_one, List.length_append]; exact O6.out
                  · rw [SN.out]; intro c; simp at c
                  · rw [PN.out]; exact ⟨_, I6.out⟩
                case measure => simp [intOf]; omega
              · go_wp2_with fail
                refine CH.out.mono ?_
                rintro e w3 ⟨rfl, hb3⟩
                have s3 := hb3.size
                have e3 : w3.cell? ⟨g, jj, none⟩ = some (.int .i64 d) := (hb3.cell (p := ⟨g, jj, none⟩) (by simp only; omega)).trans e0
                have I4 := Lib.hid (CI.out.keep hb3)
                have O4 := Lib.hid (own_set3 (ownsRow_below' OW.out hb3) (Nat.lt_succ_self _) (.int .i64 d) (.int .i64 a) (.bool true))
                obtain ⟨_, z9, z0, z1, z2, y0, y1, y2⟩ := I4.out
                simp only at z1 z2
                have I5 := Lib.hid (I4.out.set d a true)
                obtain ⟨_, _, x0, x1, x2, _⟩ := I5.out
                simp only at x1 x2
                go_wp2_with (at_builtin; refine wpList_append_own _ rfl _ _ 85 rfl (B0 + 1) 92 j0 _ 3 24 Try.underlying85 hj jz0 jz1 jz2 rfl (by decide) _ _ _ rfl (O4.out.alloc _) ⟨w3.heap.size, 0, none⟩ 1 1 [.int .i64 d, .int .i64 a, .bool true] rfl rfl ?c1 ?c2 ?c3 ?c4 ?c5 ?_)
                case c1 => exact World.news_of_block (cs := #[.int .i64 d, .int .i64 a, .bool true]) (heap_new_at' (by simp))
                case c2 => simp [Value.oneCell']
                case c3 => unfold maxLen; omega
                case c4 => omega
                case c5 => simp; omega
                intro v5 w5 hown5 hgrow5 _
                have I6 := Lib.hid ((I5.out.keep ((Below.refl _ _).alloc (Nat.le_refl _) _)).grown hgrow5 (fun k' e' => by have := (OW.out.lt k' e').1; omega))
                have O6 := Lib.hid hown5
                clear hown5 hgrow5
                go_wp2
                go_roundw
                case rel =>
                  refine ⟨jj + 1, by omega, by go_num, ?_, ?_, ?_⟩
                  · rw [SN.out, chcs_app, chcs_one, List.length_append]; exact O6.out
                  · rw [SN.out]; intro c; simp at c
                  · rw [PN.out]; exact ⟨_, I6.out⟩
                case measure => simp [intOf]; omega
              · go_wp2_with fail
                refine CH.out.mono ?_
                rintro e w3 ⟨rfl, hb3⟩
                have s3 := hb3.size
                have e3 : w3.cell? ⟨g, jj, none⟩ = some (.int .i64 d) := (hb3.cell (p := ⟨g, jj, none⟩) (by simp only; omega)).trans e0
                have I4 := Lib.hid (CI.out.keep hb3)
                have O4 := Lib.hid (own_set3 (ownsRow_below' OW.out hb3) (Nat.lt_succ_self _) (.int .i64 d) (.int .i64 a) (.bool false))
                obtain ⟨_, z9, z0, z1, z2, y0, y1, y2⟩ := I4.out
                simp only at z1 z2
                have I5 := Lib.hid (I4.out.set d a false)
                obtain ⟨_, _, x0, x1, x2, _⟩ := I5.out
                simp only at x1 x2
                go_wp2_with (at_builtin; refine wpList_append_own _ rfl _ _ 85 rfl (B0 + 1) 92 j0 _ 3 24 Try.underlying85 hj jz0 jz1 jz2 rfl (by decide) _ _ _ rfl (O4.out.alloc _) ⟨w3.heap.size, 0, none⟩ 1 1 [.int .i64 d, .int .i64 a, .bool false] rfl rfl ?c1 ?c2 ?c3 ?c4 ?c5 ?_)
                case c1 => exact World.news_of_block (cs := #[.int .i64 d, .int .i64 a, .bool false]) (heap_new_at' (by simp))
                case c2 => simp [Value.oneCell']
                case c3 => unfold maxLen; omega
                case c4 => omega
                case c5 => simp; omega
                intro v5 w5 hown5 hgrow5 _
                have I6 := Lib.hid ((I5.out.keep ((Below.refl _ _).alloc (Nat.le_refl _) _)).grown hgrow5 (fun k' e' => by have := (OW.out.lt k' e').1; omega))
                have O6 := Lib.hid hown5
                clear hown5 hgrow5
                go_wp2
                go_roundw
                case rel =>
                  refine ⟨jj + 1, by omega, by go_num, ?_, ?_, ?_⟩
                  · rw [SN.out, chcs_app, chcs_one, List.length_append]; exact O6.out
                  · rw [SN.out]; intro c; simp at c
                  · rw [PN.out]; exact ⟨_, I6.out⟩
                case measure => simp [intOf]; omega
          · obtain rfl : jj = L.length := by omega
            go_wp2
            go_ret2
            rw [HL3.out, HH3.out]
            exact ⟨_, rfl, (ChgAt.of_own OW.out HN.out).mono (Nat.le_succ_of_le hs0), hB.trans (hBi.mono hs0)⟩
end Go.Proofs.Ytfphedcgmaakjaa
