/-
  What firsts of package person returns: a map from each entry to the first one of its class; a contract for all worlds in which the book lies.
-/
import Derived.Test.YtfneafofohfdnaaWays
import Derived.Maps.RangeWalk
namespace Go.Proofs.Ytfneafofohfdnaa
open Go.RowKit Go.WideMaps Go.Maps
attribute [local go_sem] set_drewN
/-- a map as it reads is a function -/
def MD (D : DataW Unit) (G : Int → Option Int) : Prop := IsMap D ∧ ∀ x : Int, Maps.has D (.int .i64 x) = (G x).isSome ∧ ∀ v, G x = some v → ∀ z, D.atKey (.int .i64 x) z = .lit (.int .i64 v)
theorem MD_nil : MD (.map []) (fun _ => none) := ⟨⟨[], rfl⟩, fun _ => ⟨rfl, fun _ h => by cases h⟩⟩
theorem MD_put {D : DataW Unit} {G : Int → Option Int} {t v : Int} (h : MD D G) : MD (D.put (.int .i64 t) (.lit (.int .i64 v))) (fun x => if x = t then some v else G x) := by
  refine ⟨Maps.IsMap.put h.1 _ _, fun x => ?_⟩
  by_cases e : x = t
  · subst e
    refine ⟨by rw [has_put_same h.1 (isKI _)]; simp, fun u hu z => ?_⟩
    simp at hu
    subst hu
    rw [atKey_put_same h.1 (isKI _)]
  · have e' := litI_ne e
    simp only [if_neg e]
    exact ⟨by rw [has_put_other e', (h.2 x).1], fun u hu z => by rw [atKey_put_other e']; exact (h.2 x).2 u hu z⟩
/-- the firsts while the entries that are reached from e come, in whatever order -/
def gM (F : Int → Option Int) (A : List (Int × Int)) (e : Int) (left : Lit → Bool) (x : Int) : Option Int := if hasA A x && !left (.int .i64 x) then some e else F x
theorem gM_start {F : Int → Option Int} {A : List (Int × Int)} {e : Int} {D : DataW Unit} (h : AD D A) : gM F A e (Maps.has D) = F := by
  funext x
  unfold gM
  rw [(h.2 x).1]
  simp
theorem gM_end {F : Int → Option Int} {A : List (Int × Int)} {e : Int} {left : Lit → Bool} (h : ∀ kl, left kl = false) : gM F A e left = fun x => if hasA A x then some e else F x := by
  funext x
  unfold gM
  rw [h]
  simp
theorem gM_step {F : Int → Option Int} {A : List (Int × Int)} {e k : Int} {left : Lit → Bool} (hk : hasA A k = true) : (fun x => if x = k then some e else gM F A e left x) = gM F A e (fun z => left z && !z.sameKey (.int .i64 k)) := by
  funext x
  unfold gM
  by_cases c : x = k
  · subst c
    have hs : (Lit.int .i64 x).sameKey (.int .i64 x) = true := by simp [Lit.sameKey]
    simp [hk, hs]
  · have hs : (Lit.int .i64 x).sameKey (.int .i64 k) = false := sameKey_ne (litI_ne c)
    simp [c, hs]
set_option maxRecDepth 100000 in
set_option maxHeartbeats 8000000 in
theorem firsts_any (bk : Nat) (nE : Nat) (ds : List Dc) (st : List Bool) (w : World) (hst : st.length = ds.length) (hln : ds.length ≤ 1000) (hn : nE ≤ 60) (hok : okD nE ds) (hbk : BkAt w.heap.size w bk nE ds st) :
    Calls Try.prog 53 #[.pointer (some ⟨bk, 0, none⟩)] w fun e w' => ∃ D, e = .returned (.map (some w.heap.size)) ∧ w'.ownsMap Try.prog 3 (plainElem Try.prog 3) w.heap.size 3600 D ∧ MD D (fM ds st nE) ∧ Below w.heap.size w w' := by
  have hmm := @run_makeMap Try.prog
  have HBK := Lib.hid hbk
  have HOK := Lib.hid hok
  have HST := Lib.hid hst
  have c0 := Lib.cell?_alloc_some (.map #[] 0) hbk.c0
  clear hbk hok hst
  go_enter Try.func53, Try.ntmps53
  go_wp2
  go_loopw [13] (fun iv wr => ∃ (e : Nat) (D : DataW Unit) (n : Nat), e ≤ nE ∧ iv = .int .i64 e ∧ n ≤ e * 60 ∧ Hid (wr.ownsMap Try.prog 3 (plainElem Try.prog 3) w.heap.size n D) ∧ Hid (MD D (fM ds st e)) ∧ Hid (Below w.heap.size w wr)) (fun iv _ => nE - (intOf iv).toNat)
  case atStart => exact ⟨0, _, 0, Nat.zero_le _, rfl, Nat.le_refl _, Lib.hid (World.ownsMap_made w Try.prog 3 (plainElem Try.prog 3)), Lib.hid MD_nil, Lib.hid ((Below.refl _ _).alloc (Nat.le_refl _) _)⟩
  case round =>
    obtain ⟨e, D, n, he, rfl, hne, HO, HM, HB⟩ := hrel
    have hsz := HB.out.size
    have hbm := HO.out.lt
    by_cases hlt : e < nE
    · have hkey := keyI (x := (e : Int)) (by omega) (by omega)
      have hown := HO.out
      cases hk : (fM ds st e (e : Int)).isSome with
      | true =>
        have hhas : Maps.has D (.int .i64 (e : Int)) = true := by rw [(HM.out.2 _).1, hk]
        have HN := Lib.hid (fM_known hk)
        clear hk
        go_wp2_with (at_lookup; refine wpList_lookup_own_ok_int _ rfl _ _ 92 rfl 3 3 .i64 lawI Try.underlying92 Try.underlying3 (zeroI _) w.heap.size n D rfl hown _ _ rfl hkey ?_; intro c hat hwc; rw [hhas]; clear hat hwc)
        go_roundw
        case rel => exact ⟨e + 1, D, n, by omega, by go_num, by omega, HO, by rw [HN.out]; exact HM, HB⟩
        case measure => simp [intOf]; omega
      | false =>
        have hhas : Maps.has D (.int .i64 (e : Int)) = false := by rw [(HM.out.2 _).1, hk]
        have HN := Lib.hid (fM_new hk)
        clear hk
        have HW := Lib.hid (ways_any bk nE ds st e wr HST.out hln hn hlt HOK.out ((HBK.out.below HB.out).mono hsz))
        go_wp2_with (first
          | (at_lookup; refine wpList_lookup_own_ok_int _ rfl _ _ 92 rfl 3 3 .i64 lawI Try.underlying92 Try.underlying3 (zeroI _) w.heap.size n D rfl hown _ _ rfl hkey ?_; intro c hat hwc; rw [hhas]; clear hat hwc)
          | (go_at_call 68; refine HW.out.mono ?_; rintro e' w2 ⟨B2, D2, rfl, hB2, hown2, hAD2, hbel2⟩; have HAD := Lib.hid hAD2; have HB2 := Lib.hid hbel2; clear hAD2 hbel2)
          | (at_range; refine wpList_range_own _ rfl _ 92 rfl 3 3 lawI Try.underlying92 _ B2 60 D2 rfl hown2 ?_; intro w0 hrg0 hg0 hs0))
        go_frame
        have hz2 := HB2.out.size
        have OW0 := Lib.hid ((HO.out.kept (grown_of_below HB2.out) (by simp)).kept hg0 (by simp))
        have BB0 := Lib.hid ((HB.out.trans (HB2.out.mono hsz)).grown hg0 (by omega) (fun j hj => by cases hj))
        have hcnt := hown2.size_le
        clear hown
        go_loopw [7] (fun _ wi => ∃ (left : Lit → Bool) (cnt : Nat) (D' : DataW Unit) (n' : Nat), wi.ranges Try.prog 3 (plainElem Try.prog 3) B2 w2.heap.size 60 D2 left cnt ∧ n' + cnt ≤ (e + 1) * 60 ∧ Hid (wi.ownsMap Try.prog 3 (plainElem Try.prog 3) w.heap.size n' D') ∧ Hid (MD D' (gM (fM ds st e) (wysM ds st e) e left)) ∧ Hid (Below w.heap.size w wi)) (fun _ wi => wi.rangeLeft B2 w2.heap.size)
        case atStart => exact ⟨_, _, D, n, hrg0, by omega, OW0, Lib.hid (by rw [gM_start HAD.out]; exact HM.out), BB0⟩
        case round =>
          obtain ⟨left, cnt, D', n', hrg, hcs, HO', HM', HBi⟩ := hrel
          go_wp2_with (at_next; refine wpList_next_ranges_ii _ rfl _ rfl 3 3 .i64 .i64 lawI Try.underlying3 Try.underlying3 B2 w2.heap.size 60 _ _ _ rfl hrg ?_ ?_)
          · intro hc0 hl0
            have HE := Lib.hid (show gM (fM ds st e) (wysM ds st e) e left = fM ds st (e + 1) by rw [gM_end hl0, HN.out])
            clear hrg hl0
            go_wp2
            go_roundw
            case rel => exact ⟨e + 1, D', n', by omega, by go_num, by omega, HO', by rw [← HE.out]; exact HM', HBi⟩
            case measure => simp [intOf]; omega
          · intro x c w3 cnt3 hwx hwc hlk hat hrg3 hlt3 hg3 hs3 hen
            have HX := Lib.hid (show hasA (wysM ds st e) x = true by rw [← (HAD.out.2 x).1]; exact has_true_of_atKey hat)
            have hkx := Maps.keyOf_int_mk Try.underlying3 hwx
            have hown3 := HO'.out.kept hg3 (fun e => by injection e; omega)
            have B3 := Lib.hid (HBi.out.grown hg3 HBi.out.size (fun j hj => by cases hj; omega))
            have hwe := wfI (x := (e : Int)) (by omega) (by omega)
            have HL := Lib.hid hrg.left_eq
            have HR3 := Lib.hid hrg3
            have hz3 := HR3.out.lt
            clear hs3 hlk hat hg3 hrg hrg3 hwc
            go_wp2_with (at_mapUpdate; refine wpList_mapUpdate_own _ rfl _ _ _ 92 rfl 3 3 lawI Try.underlying92 _ w.heap.size n' D' rfl hown3 (by unfold maxLen; omega) _ _ _ rfl rfl hkx _ [] (plainElem_int Try.underlying3 hwe) ?_; intro w4 hown4 hgrow4)
            have HR4 := Lib.hid (HR3.out.kept hgrow4 (fun e => by injection e; omega) (fun e => by injection e; omega))
            have HM4 := Lib.hid (MD_put (t := x) (v := (e : Int)) HM'.out)
            have HB4 := Lib.hid (B3.out.grown hgrow4 B3.out.size (fun j hj => by cases hj; exact Nat.le_refl _))
            have HO4 := Lib.hid hown4
            clear hown4 hgrow4
            go_frame
            go_roundw
            case rel => exact ⟨_, cnt3, _, n' + 1, HR4.out, by omega, HO4, by rw [← gM_step HX.out]; exact HM4, HB4⟩
            case measure => rw [HR4.out.left_eq, HL.out]; exact hlt3
    · obtain rfl : e = nE := by omega
      go_wp2
      go_ret
      exact ⟨D, rfl, HO.out.mono (by omega), HM.out, HB.out⟩
end Go.Proofs.Ytfneafofohfdnaa
