/-
  Signs of package person at a right name; base.Texts at equal texts; Count of the reference: contracts.
-/
import Derived.Test.YtfneafofohfdnaaDis
import Derived.Test.YtfneafofohfdnaaSigns
import Derived.Test.YtfneafofohfdnaaNaM
import Derived.StillTailTactics
namespace Go.Proofs.Ytfneafofohfdnaa
open Go.RowKit
theorem map_take {R : List Nat} {k : Nat} (h : k < R.length) : ∃ D D2 X, (R.take k).map lets = D ∧ (R.take (k + 1)).map lets = D2 ∧ lets R[k] = X ∧ D2 = D ++ [X] ∧ D.length = k := by
  refine ⟨_, _, _, rfl, rfl, rfl, ?_, ?_⟩
  · rw [List.take_succ_eq_append_getElem h, List.map_append]; rfl
  · rw [List.length_map, List.length_take]; omega
theorem ownsRow_mono {w : World} {base base' : Nat} {e : TypeId} {size : Nat} {v : Value} {n : Nat} {xs : List Value} (h : w.ownsRow base e size v n xs) (hb : base' ≤ base) : w.ownsRow base' e size v n xs := by
  refine ⟨h.1, ?_⟩
  rcases h.2 with h2 | ⟨g, cap, cur, e1, h3, h4⟩
  · exact .inl h2
  · exact .inr ⟨g, cap, cur, e1, Nat.le_trans hb h3, h4⟩
theorem CRow.up {w0 w1 W : World} {D : List (List UInt8)} {v : Value} (h : CRow w1 W D v) (hb : Below w0.heap.size w0 w1) : CRow w0 W D v := ⟨ownsRow_mono h.1 hb.size, hb.trans (h.2.mono hb.size)⟩
/-- a row of texts is returned -/
def TPost (T : List (List UInt8)) (w : World) (e : Ending) (w' : World) : Prop := ∃ v, e = .returned (two v (.int .i64 0)) ∧ CRow w w' T v
set_option maxRecDepth 100000 in
set_option maxHeartbeats 4000000 in
theorem SignsP_good (s : List UInt8) (M : List Nat) (w : World) (hl : s.length ≤ 1000000000000) (h : nmE s = 0) (gM : gdM M) (hM : rdN s = some M) : Calls Try.prog 10 #[.string ⟨s.toArray⟩] w (TPost (M.map lets) w) := by
  obtain ⟨i0, hi, hz0, hz1, hz2⟩ := info_parts infoS
  have hr := Lib.hid (readName_any s w hl)
  have H0 := Lib.hid h
  have HM := Lib.hid hM
  have GM := Lib.hid gM
  have lM := gM.2.1
  clear h hM gM
  go_enter Try.func10, Try.ntmps10
  go_wp2_with fail
  refine hr.out.mono ?_
  rintro e w1 ⟨a, n, c, rfl, hn, hM, hb1⟩
  obtain ⟨g, rfl, rfl, S1⟩ := hM M H0.out HM.out
  rw [H0.out]
  have HS := Lib.hid S1
  have q1 := hb1.size
  clear hM S1
  go_wp2
  go_loopw [6, 18] (fun ov iv wr => ∃ k : Nat, k ≤ M.length ∧ iv = .int .i64 k ∧ Hid (CRow w1 wr ((M.take k).map lets) ov)) (fun _ iv _ => M.length - (intOf iv).toNat)
  case atStart => exact ⟨0, Nat.zero_le _, rfl, Lib.hid ⟨World.ownsRow_nil _ _ _ _, Below.refl _ _⟩⟩
  case round =>
    obtain ⟨k, hk, rfl, HRow⟩ := hrel
    have HB := Lib.hid HRow.out.2
    have hsz := HRow.out.2.size
    by_cases hlt : k < M.length
    · have a1 := (HS.out.below HB.out).2 k hlt
      have hok := GM.out.2.2 _ (List.getElem_mem hlt)
      have HP := Lib.hid (fun W => spelt_any M[k] hok.2 (by have := hok.1; omega) W)
      obtain ⟨D, D2, X, hD, hD2, hX, hDX, hDl⟩ := map_take hlt
      rw [hX] at HP
      rw [hD] at HRow
      have HD2 := Lib.hid hD2
      have HDX := Lib.hid hDX
      have hDk : D.length ≤ 24 := by omega
      clear hD hD2 hX hDX hok hDl
      generalize M[k] = m at *
      obtain ⟨a2', c2', rfl, _⟩ := HRow.out.texts
      go_wp2_with (first
        | (go_at_call 35; refine (HP.out _).mono ?_; rintro e w2 ⟨rfl, hb2⟩; have R9 := Lib.hid (HRow.out.below hb2); have B9 := Lib.hid (HB.out.trans (hb2.mono HB.out.size)); have hs9 := hb2.size)
        | (at_builtin; refine wpList_append_own _ rfl _ _ 24 rfl w1.heap.size 9 i0 (.string ⟨#[]⟩) 1 16 Try.underlying24 hi hz0 hz1 hz2 rfl (by decide) _ _ _ rfl (R9.out.1.alloc _) ⟨w2.heap.size, 0, none⟩ 1 1 [strV X] rfl rfl (World.news_of_block (cs := #[strV X]) (heap_alloc_new _ _)) (by simp [strV, Value.oneCell']) (by unfold maxLen; omega) (by omega) (by simp; omega) ?_; intro v3 w3 hown3 hgrow3 _))
      have D3 := Lib.hid (CRow.snoc (x := X) hown3 (R9.out.2.alloc (by omega) _) hgrow3 (R9.out.1.alloc _))
      go_wp2
      go_roundw
      case rel => exact ⟨k + 1, by omega, by go_num, by rw [HD2.out, HDX.out]; exact D3⟩
      case measure => simp [intOf]; omega
    · obtain rfl : k = M.length := by omega
      rw [List.take_length] at HRow
      go_wp2
      go_ret2
      exact ⟨_, rfl, HRow.out.up hb1⟩
end Go.Proofs.Ytfneafofohfdnaa
