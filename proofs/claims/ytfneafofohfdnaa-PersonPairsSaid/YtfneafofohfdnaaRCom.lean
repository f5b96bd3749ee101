/-
  Common of the reference on rows of letters: a contract.
-/
import Derived.Test.YtfneafofohfdnaaBoth
import Derived.Test.YtfneafofohfdnaaCom
import Derived.Test.YtfneafofohfdnaaNaM
import Derived.StillTailTactics
namespace Go.Proofs.Ytfneafofohfdnaa
open Go.RowKit
/-- what Common of the reference returns -/
def rcPost (x y : List Nat) (w : World) (e : Ending) (w' : World) : Prop := Below w.heap.size w w' ∧ ((∃ R v, cmM x y = some R ∧ e = .returned (two v (.bool true)) ∧ CRow w w' (R.map lets) v) ∨ (cmM x y = none ∧ e = .returned (two (.slice none 0 0) (.bool false))))
set_option maxRecDepth 100000 in
set_option maxHeartbeats 4000000 in
theorem rCommon_any (w : World) (x y : List Nat) (b1 c1 b2 c2 : Nat) (lx : x.length ≤ 24) (hx : ∀ m ∈ x, okM m) (hxy : x.length = y.length) (h1 : TxAt w b1 (x.map lets)) (h2 : TxAt w b2 (y.map lets)) :
    Calls Try.prog 21 #[.slice (some ⟨b1, 0, none⟩) x.length c1, .slice (some ⟨b2, 0, none⟩) y.length c2] w (rcPost x y w) := by
  obtain ⟨i0, hi, hz0, hz1, hz2⟩ := info_parts infoS
  have H1 := Lib.hid h1
  have H2 := Lib.hid h2
  have HX := Lib.hid hx
  have HXY := Lib.hid hxy
  have HC := Lib.hid (show cmM x y = if ∀ m ∈ zA x y, m ≠ 0 then some (zA x y) else none by unfold cmM; simp [hxy])
  clear h1 h2 hx
  rw [← hxy]
  clear hxy
  go_enter Try.func21, Try.ntmps21
  go_wp2
  go_loopw [6, 7] (fun ov iv wr => ∃ k : Nat, k ≤ x.length ∧ iv = .int .i64 k ∧ Hid (∀ m ∈ (zA x y).take k, m ≠ 0) ∧ Hid (CRow w wr (((zA x y).take k).map lets) ov)) (fun _ iv _ => x.length - (intOf iv).toNat)
  case atStart => exact ⟨0, Nat.zero_le _, rfl, Lib.hid (by simp), Lib.hid ⟨World.ownsRow_nil _ _ _ _, Below.refl _ _⟩⟩
  case round =>
    obtain ⟨k, hk, rfl, HA, HRow⟩ := hrel
    have HB := Lib.hid HRow.out.2
    have hsz := HB.out.size
    by_cases hlt : k < x.length
    · have hky : k < y.length := by have := HXY.out; omega
      have hz : k < (zA x y).length := by rw [zA_len HXY.out]; exact hlt
      have a1 := (H1.out.below HB.out).2 k (lets x[k]) (by simp [hlt])
      have a2 := (H2.out.below HB.out).2 k (lets y[k]) (by simp [hky])
      have HT := Lib.hid (zA_take HXY.out hlt)
      have hzk := Lib.hid (zA_get hz)
      have bx := (HX.out _ (List.getElem_mem hlt)).2
      have HBo := Lib.hid (fun W => both_any (lets x[k]) (lets y[k]) W (Nat.le_trans (lets_len _) (by omega)) (Nat.le_trans (lets_len _) (by omega)))
      rw [lets_and] at HBo
      have hzl : x[k] &&& y[k] < 2 ^ 53 := Nat.lt_of_le_of_lt Nat.and_le_left bx
      obtain ⟨z, hzz⟩ : ∃ z, x[k] &&& y[k] = z := ⟨_, rfl⟩
      rw [hzz] at HT hzk hzl HBo
      generalize lets x[k] = X1 at *
      generalize lets y[k] = X2 at *
      clear hzz bx
      have hD : (((zA x y).take k).map lets).length ≤ 24 := by rw [List.length_map, List.length_take]; omega
      obtain ⟨a2', c2', rfl, _⟩ := HRow.out.texts
      by_cases h0 : z = 0
      · subst h0
        rw [lets_zero] at HBo
        have HN := Lib.hid (show cmM x y = none by
          rw [HC.out, if_neg]
          intro h
          exact h _ (List.getElem_mem hz) hzk.out)
        generalize ((zA x y).take k).map lets = D at *
        go_wp2
        go_still_tail 8, (by kernel_rfl)
        change wpList _ _ _ _ _ wr.drew
        generalize hwd : wr.drew = wd
        have HBd := Lib.hid (show Below w.heap.size w wd by rw [← hwd]; exact below_n HB.out 1)
        clear hwd
        go_wp2_with (go_at_call 45; refine (HBo.out _).mono ?_; rintro e w2 ⟨rfl, hb2⟩)
        go_ret2
        exact ⟨HBd.out.trans (hb2.mono HBd.out.size), .inr ⟨HN.out, rfl⟩⟩
      · have hne := lets_ne hzl h0
        have hzl2 := lets_len z
        have HT2 := Lib.hid (show ((zA x y).take (k + 1)).map lets = ((zA x y).take k).map lets ++ [lets z] by rw [HT.out, List.map_append]; rfl)
        have HA2 := Lib.hid (show ∀ m ∈ (zA x y).take (k + 1), m ≠ 0 by
          rw [HT.out]
          intro m hm
          rcases List.mem_append.1 hm with h | h
          · exact HA.out m h
          · rw [List.mem_singleton.1 h]; exact h0)
        generalize lets z = Z at *
        generalize ((zA x y).take k).map lets = D at *
        have hze : Z.isEmpty = false := by cases Z with | nil => exact absurd rfl hne | cons a l => rfl
        go_wp2
        go_still_tail 8, (by kernel_rfl)
        change wpList _ _ _ _ _ wr.drew
        generalize hwd : wr.drew = wd
        have HRd := Lib.hid (show CRow w wd D (.slice a2' D.length c2') by rw [← hwd]; exact HRow.out.below (below_n (Below.refl _ wr) 1))
        clear hwd
        go_wp2_with (first
          | (go_at_call 45; refine (HBo.out _).mono ?_; rintro e w2 ⟨rfl, hb2⟩; have R9 := Lib.hid (HRd.out.below hb2); have hs9 := R9.out.2.size)
          | (at_builtin; refine wpList_append_own _ rfl _ _ 24 rfl w.heap.size 9 i0 (.string ⟨#[]⟩) 1 16 Try.underlying24 hi hz0 hz1 hz2 rfl (by decide) _ _ _ rfl (R9.out.1.alloc _) ⟨w2.heap.size, 0, none⟩ 1 1 [strV Z] rfl rfl (World.news_of_block (cs := #[strV Z]) (heap_alloc_new _ _)) (by simp [strV, Value.oneCell']) (by unfold maxLen; omega) (by omega) (by simp; omega) ?_; intro v3 w3 hown3 hgrow3 _))
        have D3 := Lib.hid (CRow.snoc (x := Z) hown3 (R9.out.2.alloc (by omega) _) hgrow3 (R9.out.1.alloc _))
        go_wp2
        go_roundw
        case rel => exact ⟨k + 1, by omega, by go_num, HA2, by rw [HT2.out]; exact D3⟩
        case measure => simp [intOf]; omega
    · obtain rfl : k = x.length := by omega
      have e1 : (zA x y).take x.length = zA x y := List.take_of_length_le (by rw [zA_len HXY.out]; exact Nat.le_refl _)
      rw [e1] at HA HRow
      have HN := Lib.hid (show cmM x y = some (zA x y) by rw [HC.out, if_pos HA.out])
      go_wp2
      go_ret2
      exact ⟨HB.out, .inl ⟨_, _, HN.out, rfl, HRow.out⟩⟩
theorem rCommon_no (w : World) (x y : List Nat) (a1 a2 : Option Addr) (c1 c2 : Nat) (hxy : x.length ≠ y.length) :
    Calls Try.prog 21 #[.slice a1 x.length c1, .slice a2 y.length c2] w (rcPost x y w) := by
  have HN := Lib.hid (show cmM x y = none by unfold cmM; rw [if_neg]; exact fun h => hxy h.1)
  have hb : ((x.length : Int) != (y.length : Int)) = true := by simp; omega
  go_enter Try.func21, Try.ntmps21
  go_wp2
  go_ret2
  exact ⟨Below.refl _ _, .inr ⟨HN.out, rfl⟩⟩
end Go.Proofs.Ytfneafofohfdnaa
