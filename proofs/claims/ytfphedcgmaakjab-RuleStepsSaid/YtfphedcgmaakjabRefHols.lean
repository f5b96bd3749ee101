/-
  What CheckHolidays of the specification of package rule returns: a contract for all worlds in which the list lies in one block.
-/
import Derived.Test.YtfphedcgmaakjabRefHol
import Derived.Test.YtfphedcgmaakjabRefSrc2
import Derived.Deep.LoopGhost
namespace Go.Proofs.Ytfphedcgmaakjab
open Go.RowKit
attribute [local go_sem] set_drewN
theorem hsn_yes {l : List Hd} {k j : Nat} {nm : ByteArray} (hj : j < k) (hjl : j < l.length) (h : l[j].name = nm) : hsn l k nm = true := by
  unfold hsn
  rw [List.any_eq_true]
  exact ⟨l[j], by rw [List.mem_take_iff_getElem]; exact ⟨j, by omega, rfl⟩, by simpa using h⟩
theorem hsn_no {l : List Hd} {k : Nat} {nm : ByteArray} (h : ∀ j (hj : j < l.length), j < k → l[j].name ≠ nm) : hsn l k nm = false := by
  unfold hsn
  rw [List.any_eq_false]
  intro x hx
  rw [List.mem_take_iff_getElem] at hx
  obtain ⟨j, hj, rfl⟩ := hx
  simpa using h j (by omega) (by omega)
set_option maxRecDepth 100000 in
set_option maxHeartbeats 2000000 in
theorem xCheckHolidays_any (l : List Hd) (b o cap : Nat) (w : World) (hl : l.length ≤ maxLen) (hc : HdsAt w b o l) :
    Calls Try.prog 6 #[.slice (some ⟨b, o, none⟩) l.length cap] w (RetB (.int .i64 (chE l)) w) := by
  unfold maxLen at hl
  by_cases h2 : 40 < l.length
  · have e : chE l = 8 := by unfold chE; rw [if_pos h2]
    rw [e]
    clear e hc
    go_enter Try.func6, Try.ntmps6
    go_wp2
    go_ret
    exact ⟨rfl, Below.refl _ _⟩
  · have HC := Lib.hid hc
    clear hc
    go_enter Try.func6, Try.ntmps6
    go_wp2
    go_loopw [3] (fun i wr => ∃ k : Nat, k ≤ l.length ∧ i = .int .i64 k ∧ (∀ j, j < k → hbE l j = 0) ∧ Below w.heap.size w wr) (fun i _ => l.length - (intOf i).toNat)
    case atStart => exact ⟨0, Nat.zero_le _, rfl, fun j h => absurd h (by omega), Below.refl _ _⟩
    case round =>
      obtain ⟨k, hk, rfl, hall, hB⟩ := hrel
      have HA := Lib.hid hall
      clear hall
      obtain ⟨wo, rfl⟩ : ∃ wo : World, wo = wr := ⟨_, rfl⟩
      by_cases hlt : k < l.length
      · have HW := Lib.hid (HC.out.below hB)
        obtain ⟨⟨c0, c1, c2, c3, c4⟩, hsz⟩ := HW.out.2 k hlt
        obtain ⟨p, hp⟩ : ∃ p, l[k] = p := ⟨_, rfl⟩
        rw [hp] at c0 c1 c2 c3 c4 hsz
        have hbk := hbE_at hlt hp
        clear hp
        cases hn : nameB p.name
        · have e4 : hbE l k = 4 := by rw [hbk]; unfold hdE; rw [hn]; rfl
          have e9 := Lib.hid ((chE_no h2 hlt HA.out (by rw [e4]; decide)).trans e4)
          clear hbk e4
          obtain ⟨nm, kd, mo, dy, wd⟩ := p
          simp only at c0 c1 c2 c3 c4 hsz hn
          go_wp2_with (go_at_call 17; refine (bIsName_any _ _ hsz).mono ?_; rintro e w' ⟨rfl, rfl⟩)
          go_ret
          exact ⟨ret_i e9.out.symm, hB⟩
        · have hbk2 : hbE l k = if hsn l k p.name then 5 else hkE p := by rw [hbk]; unfold hdE; rw [hn]; rfl
          have HBK := Lib.hid hbk2
          have HX := Lib.hid (fun W => xHolidayErr_any p W)
          clear hbk hbk2
          obtain ⟨nm, kd, mo, dy, wd⟩ := p
          simp only at c0 c1 c2 c3 c4 hsz hn
          go_wp2_with (go_at_call 17; refine (bIsName_any _ _ hsz).mono ?_; rintro e w' ⟨rfl, rfl⟩)
          go_loopw [4] (fun i wi => ∃ j : Nat, j ≤ k ∧ i = .int .i64 j ∧ (∀ t (ht : t < l.length), t < j → l[t].name ≠ nm) ∧ Below wo.heap.size wo wi) (fun i _ => k - (intOf i).toNat)
          case atStart => exact ⟨0, Nat.zero_le _, rfl, fun t _ h => absurd h (by omega), Below.refl _ _⟩
          case round =>
            obtain ⟨j, hj, rfl, hne, hBi⟩ := hrel
            have HNE := Lib.hid hne
            clear hne
            have d0 := (hBi.cell (p := ⟨b, o + k * 5, none⟩) HW.out.1).trans c0
            have d1 := (hBi.cell (p := ⟨b, o + k * 5 + 1, none⟩) HW.out.1).trans c1
            have d2 := (hBi.cell (p := ⟨b, o + k * 5 + 2, none⟩) HW.out.1).trans c2
            have d3 := (hBi.cell (p := ⟨b, o + k * 5 + 3, none⟩) HW.out.1).trans c3
            have d4 := (hBi.cell (p := ⟨b, o + k * 5 + 4, none⟩) HW.out.1).trans c4
            by_cases hjk : j < k
            · obtain ⟨⟨q0, _, _, _, _⟩, _⟩ := (HW.out.below hBi).2 j (by omega)
              by_cases heq : l[j].name = nm
              · have e5 : hbE l k = 5 := by rw [HBK.out, hsn_yes hjk (by omega) heq]; rfl
                have e9 := Lib.hid ((chE_no h2 hlt HA.out (by rw [e5]; decide)).trans e5)
                rw [heq] at q0
                clear heq e5
                go_wp2
                go_quiet (fail)
                go_wp2
                go_ret
                exact ⟨ret_i e9.out.symm, below_n (hB.trans (hBi.mono hB.size)) _⟩
              · have hn1 := str_ne heq
                have NE2 : Hid (∀ t (ht : t < l.length), t < j + 1 → l[t].name ≠ nm) := Lib.hid (fun t ht h => by
                  by_cases g : t = j
                  · subst g; exact heq
                  · exact HNE.out t ht (by omega))
                clear heq
                go_wp2
                go_quiet (fail)
                go_wp2
                go_roundw
                case rel => exact ⟨j + 1, by omega, by go_num, NE2.out, below_n hBi _⟩
                case measure => simp [intOf]; omega
            · obtain rfl : j = k := by omega
              have hno := hsn_no (k := j) HNE.out
              have hb2 : hbE l j = hkE ⟨nm, kd, mo, dy, wd⟩ := by rw [HBK.out, hno]; rfl
              by_cases hz : hkE ⟨nm, kd, mo, dy, wd⟩ = 0
              · have H2 : Hid (∀ t, t < j + 1 → hbE l t = 0) := Lib.hid (fun t ht => by
                  by_cases g : t = j
                  · subst g; rw [hb2]; exact hz
                  · exact HA.out t (by omega))
                rw [hz] at HX
                clear hb2 hz hno
                go_wp2_with (go_at_call 18; refine (HX.out _).mono ?_; rintro e w1 ⟨rfl, hb1⟩)
                go_roundw
                case rel => exact ⟨j + 1, by omega, by go_num, H2.out, (hB.trans (hBi.mono hB.size)).trans (hb1.mono (Nat.le_trans hB.size hBi.size))⟩
                case measure => simp [intOf]; omega
              · have e9 := Lib.hid ((chE_no h2 hlt HA.out (by rw [hb2]; exact hz)).trans hb2)
                generalize hkE ⟨nm, kd, mo, dy, wd⟩ = r at *
                have hzb : (r != 0) = true := by simpa using hz
                clear hb2 hz hno
                go_wp2_with (go_at_call 18; refine (HX.out _).mono ?_; rintro e w1 ⟨rfl, hb1⟩)
                go_ret
                exact ⟨ret_i e9.out.symm, (hB.trans (hBi.mono hB.size)).trans (hb1.mono (Nat.le_trans hB.size hBi.size))⟩
      · go_wp2
        go_ret
        exact ⟨ret_i (chE_ok h2 (fun j hj => HA.out j (by omega))).symm, hB⟩
end Go.Proofs.Ytfphedcgmaakjab
