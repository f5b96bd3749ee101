/-
  Readings of the reference: all readings, row by row; a contract.
-/
import Derived.Test.YtfneafofohfdnaaTxs
import Derived.Test.YtfneafofohfdnaaBoth
import Derived.Test.YtfneafofohfdnaaApp
import Derived.Deep.RegionHeld3
namespace Go.Proofs.Ytfneafofohfdnaa
open Go.RowKit
/-- texts with each of some letters behind each of them -/
def bhL (L : List UInt8) (T : List (List UInt8)) : List (List UInt8) := T.flatMap fun t => L.map fun c => t ++ [c]
theorem bhL_len (L : List UInt8) (T : List (List UInt8)) : (bhL L T).length = T.length * L.length := by
  unfold bhL
  induction T with
  | nil => simp
  | cons t T ih => rw [List.flatMap_cons, List.length_append, ih, List.length_map, List.length_cons, Nat.add_mul]; omega
theorem bhL_take {L : List UInt8} {T : List (List UInt8)} {k : Nat} (h : k < T.length) : bhL L (T.take (k + 1)) = bhL L (T.take k) ++ L.map (fun c => T[k] ++ [c]) := by
  rw [List.take_succ_eq_append_getElem h]
  unfold bhL
  rw [List.flatMap_append]
  simp
/-- so far: the texts of the rows before, and of the row k the first j letters -/
def bhJ (L : List UInt8) (T : List (List UInt8)) (k j : Nat) : List (List UInt8) := bhL L (T.take k) ++ (L.take j).map (fun c => T.getD k [] ++ [c])
theorem bhJ_zero (L : List UInt8) (T : List (List UInt8)) (k : Nat) : bhJ L T k 0 = bhL L (T.take k) := by simp [bhJ]
theorem bhJ_end {L : List UInt8} {T : List (List UInt8)} {k : Nat} (hk : k < T.length) : bhJ L T k L.length = bhL L (T.take (k + 1)) := by
  unfold bhJ
  rw [bhL_take hk, List.take_length]
  simp [hk]
theorem bhJ_step {L : List UInt8} {T : List (List UInt8)} {k j : Nat} (hk : k < T.length) (hj : j < L.length) (h64 : (bhL L T).length ≤ 64) :
    ∃ D X x, bhJ L T k j = D ∧ T[k] = X ∧ L[j] = x ∧ bhJ L T k (j + 1) = D ++ [X ++ [x]] ∧ D.length ≤ 64 := by
  refine ⟨_, _, _, rfl, rfl, rfl, ?_, ?_⟩
  · unfold bhJ
    rw [List.take_succ_eq_append_getElem hj, List.map_append, List.append_assoc]
    simp [hk]
  · have h1 : (bhL L (T.take (k + 1))).length ≤ (bhL L T).length := by
      rw [bhL_len, bhL_len, List.length_take]
      exact Nat.mul_le_mul_right _ (by omega)
    rw [bhL_take hk] at h1
    refine Nat.le_trans (Nat.le_trans ?_ h1) h64
    unfold bhJ
    simp
    omega
theorem sl_one {L : List UInt8} {j : Nat} {x : UInt8} (hj : j < L.length) (hx : L[j] = x) (W : World) : (Instr.slice 9 (.string ⟨L.toArray⟩) (some (.int .i64 (j : Int))) (some (.int .i64 ((j : Int) + 1))) none).run Try.prog W = .ok (.string ⟨#[x]⟩) W := by
  subst hx
  have hs : (⟨L.toArray⟩ : ByteArray).size = L.length := by show L.toArray.size = _; simp
  rw [run_slice_string W 9 ⟨L.toArray⟩ .i64 .i64 (j : Int) ((j : Int) + 1) Try.underlying9 (by omega) (by omega) (by rw [hs]; omega)]
  rw [show (j : Int).toNat = j by omega, show ((j : Int) + 1).toNat = j + 1 by omega, ext1 L j hj]
theorem below_dra {w W : World} (h : Below w.heap.size w W) (o : Obj) : Below w.heap.size w (W.drew.alloc o) := (below_n h 1).alloc h.size o
theorem keep_app {Wi wr w3 : World} {D : List (List UInt8)} {v : Value} {o : Obj} (hrow : CRow Wi wr D v) (hg : ((wr.drew).alloc o).grownBy w3 v.ownBlock) {B j : Nat} {u : Value} (hB : B < Wi.heap.size) (hc : wr.cell? ⟨B, j, none⟩ = some u) : w3.cell? ⟨B, j, none⟩ = some u := by
  have hs := hrow.2.size
  have h1 : (wr.drew.alloc o).heap[B]? = wr.heap[B]? := heap_alloc_old wr.drew o (show B < wr.drew.heap.size from Nat.lt_of_lt_of_le hB hs)
  have h2 := hg.block B (by simp; exact Nat.lt_succ_of_lt (Nat.lt_of_lt_of_le hB hs)) (fun c => by have := (hrow.1.lt B c.symm).1; omega)
  exact (World.cell?_of_block (h2.trans h1)).trans hc
theorem rdg_step {M : List Nat} {i : Nat} (hi : i < M.length) (hok : ∀ m ∈ M, okM m) (hct : ctM M ≤ 64) :
    ∃ T T2 L, rdgM (M.take i) = T ∧ rdgM (M.take (i + 1)) = T2 ∧ lets M[i] = L ∧ L.length ≤ 53 ∧ bhL L T = T2 ∧ T2.length ≤ 64 ∧ (∀ t ∈ T, t.length ≤ M.length) ∧ T ≠ [] ∧ T.length ≤ 64 := by
  have e : rdgM (M.take (i + 1)) = bhM M[i] (rdgM (M.take i)) := by rw [List.take_succ_eq_append_getElem hi, rdgM_snoc]
  have hk : ∀ n, ∀ m ∈ M.take n, okM m := fun n m hm => hok m (List.mem_of_mem_take hm)
  have hc : ∀ n, ctM (M.take n) ≤ 64 := fun n => by
    have h := ctM_mono (M.drop n) (M.take n) (fun m hm => hok m (List.mem_of_mem_drop hm)) (by rw [List.take_append_drop]; omega)
    rw [List.take_append_drop] at h
    omega
  refine ⟨_, _, _, rfl, rfl, rfl, lets_len _, e.symm, ?_, ?_, ?_, ?_⟩
  · rw [rdgM_len_le _ (by have := hc (i + 1); omega) (hk _)]; exact hc _
  · intro t ht
    rw [rdg_el _ t ht, List.length_take]; omega
  · intro h0
    have h1 := rdgM_len_le (M.take i) (by have := hc i; omega) (hk _)
    have h2 := ctM_mono (M.take i) [] (hk i) (by have := hc i; simp; omega)
    rw [h0] at h1
    have h3 : ctM [] = 1 := rfl
    simp at h1 h2
    omega
  · rw [rdgM_len_le _ (by have := hc i; omega) (hk _)]; exact hc _
theorem CRow.one (w : World) (x : List UInt8) (e : TypeId) (he : e = 9) : CRow w (w.alloc (.cells #[strV x] e)) [x] (.slice (some ⟨w.heap.size, 0, none⟩) 1 1) := by
  subst he
  exact ⟨World.ownsRow_lit w #[strV x] 1 (Nat.le_refl _) (by unfold maxLen; omega) rfl, (Below.refl _ _).alloc (Nat.le_refl _) _⟩
set_option maxRecDepth 100000 in
set_option maxHeartbeats 8000000 in
theorem rReadings_any (w : World) (M : List Nat) (b c : Nat) (lM : M.length ≤ 24) (hok : ∀ m ∈ M, okM m) (hct : ctM M ≤ 64) (h : TxAt w b (M.map lets)) :
    Calls Try.prog 18 #[.slice (some ⟨b, 0, none⟩) M.length c] w (fun e w' => ∃ v, e = .returned v ∧ CRow w w' (rdgM M) v) := by
  obtain ⟨i0, hi, hz0, hz1, hz2⟩ := info_parts infoS
  have H := Lib.hid h
  have HOK := Lib.hid hok
  have HCT := Lib.hid hct
  have R1 := Lib.hid (CRow.one w [] _ rfl)
  clear h hok hct
  go_enter Try.func18, Try.ntmps18
  go_wp2
  go_loopw [3, 4] (fun ov iv wr => ∃ i : Nat, i ≤ M.length ∧ iv = .int .i64 i ∧ Hid (CRow w wr (rdgM (M.take i)) ov)) (fun _ iv _ => M.length - (intOf iv).toNat)
  case atStart => exact ⟨0, Nat.zero_le _, rfl, R1⟩
  case round =>
    obtain ⟨i, hi2, rfl, HRow⟩ := hrel
    have hsz := HRow.out.2.size
    by_cases hlt : i < M.length
    · obtain ⟨T, T2, L, hT, hT2, hL, hll, hbh, hl64, hte, hne, hTl⟩ := rdg_step hlt HOK.out HCT.out
      rw [hT] at HRow
      have HT2 := Lib.hid hT2
      have H64 := Lib.hid (show (bhL L T).length ≤ 64 by rw [hbh]; exact hl64)
      have HBH := Lib.hid hbh
      have HTE := Lib.hid hte
      obtain ⟨g, cap, rfl, hg, hTx⟩ := HRow.out.closed hne
      have HTx := Lib.hid hTx
      have HB := Lib.hid HRow.out.2
      have hbW := Lib.hid (H.out.below HB.out).1
      have a0 := Lib.hid ((H.out.below HB.out).2 i (lets M[i]) (by simp [hlt]))
      rw [hL] at a0
      clear hT hT2 hbh hte hTx HRow hL
      obtain ⟨Wi, rfl⟩ : ∃ W : World, W = wr := ⟨_, rfl⟩
      go_wp2
      go_loopw [5, 6] (fun nv kv wk => ∃ k : Nat, k ≤ T.length ∧ kv = .int .i64 k ∧ Hid (CRow Wi wk (bhL L (T.take k)) nv)) (fun _ kv _ => T.length - (intOf kv).toNat)
      case atStart => exact ⟨0, Nat.zero_le _, rfl, Lib.hid ⟨World.ownsRow_nil _ _ _ _, Below.refl _ _⟩⟩
      case round =>
        obtain ⟨k, hk, rfl, HRk⟩ := hrel
        by_cases hlk : k < T.length
        · rw [← bhJ_zero] at HRk
          go_wp2
          go_loopw [5, 7] (fun nv jv wj => ∃ j : Nat, j ≤ L.length ∧ jv = .int .i64 j ∧ Hid (CRow Wi wj (bhJ L T k j) nv)) (fun _ jv _ => L.length - (intOf jv).toNat)
          case atStart => exact ⟨0, Nat.zero_le _, rfl, HRk⟩
          case round =>
            obtain ⟨j, hj, rfl, HRj⟩ := hrel
            have a1 := below_keep HRj.out.2 a0.out
            by_cases hlj : j < L.length
            · obtain ⟨D, X, x, hD, hX, hx, hS, hDl⟩ := bhJ_step hlk hlj H64.out
              have hsl := sl_one hlj hx
              have a2 := (HTx.out.below HRj.out.2).2 k T[k] (by simp [hlk])
              have htl : X.length ≤ M.length := by rw [← hX]; exact HTE.out _ (List.getElem_mem hlk)
              rw [hX] at a2
              rw [hD] at HRj
              have HS := Lib.hid hS
              clear hD hX hx hS
              obtain ⟨a2', c2', rfl, _⟩ := HRj.out.texts
              have n1 : ¬ 9223372036854775807 < X.length + 1 := by omega
              have w1 : IntKind.i64.wrap ((j : Int) + 1) = (j : Int) + 1 := by rw [IntKind.wrap_i64]; omega
              have hsd := HRj.out.2.size
              obtain ⟨Y, hY⟩ : ∃ Y : List UInt8, X ++ [x] = Y := ⟨_, rfl⟩
              have HYV := Lib.hid (show (Value.string ((⟨X.toArray⟩ : ByteArray) ++ (⟨#[x]⟩ : ByteArray))) = strV Y by rw [← hY, bapp]; unfold strV; simp)
              rw [hY] at HS
              clear hY
              go_wp2
              go_region_held3 (fun w' => w'.cell? ⟨g, k, none⟩ = some (.string ⟨X.toArray⟩) ∧ w'.cell? ⟨b, i, none⟩ = some (.string ⟨L.toArray⟩)) (first | exact ⟨a2, a1⟩ | exact j3 | go_keep)
                (first
                  | (refine step_app rfl (.tmp 30) (.tmp 44) _ rfl Wi.heap.size (v := .slice a2' D.length c2') (n := D.length) (m := 1) (xs := D.map strV) (news := [strV Y]) Try.underlying24 hi hz0 hz1 hz2 rfl (by decide) rfl rfl ?_ ?_ ?_ ?_ ?_ ?_ ?_ ?_ ?_
                     · exact HRj.out.1.drew.alloc _
                     · rfl
                     · intro ad hs
                       obtain rfl := Option.some.inj hs
                       rw [← HYV.out]
                       exact World.news_of_block (cs := #[.string ((⟨X.toArray⟩ : ByteArray) ++ (⟨#[x]⟩ : ByteArray))]) (heap_alloc_new _ _)
                     · intro c; cases c
                     · simp [strV, Value.oneCell']
                     · unfold maxLen; omega
                     · omega
                     · simp; omega
                     intro v3 w3 hown3 hgrow3
                     have j3 : w3.cell? ⟨g, k, none⟩ = some (.string ⟨X.toArray⟩) ∧ w3.cell? ⟨b, i, none⟩ = some (.string ⟨L.toArray⟩) := ⟨keep_app HRj.out hgrow3 HTx.out.1 a2, keep_app HRj.out hgrow3 hbW.out a1⟩
                     have D3 := Lib.hid (CRow.snoc (x := Y) hown3 (below_dra HRj.out.2 _) hgrow3 (HRj.out.1.drew.alloc _))))
              all_goals
                go_wp2
                go_roundw
                case rel => exact ⟨j + 1, by omega, by go_num, by rw [HS.out]; exact D3⟩
                case measure => simp [intOf]; omega
            · obtain rfl : j = L.length := by omega
              rw [bhJ_end hlk] at HRj
              go_wp2
              go_roundw
              case rel => exact ⟨k + 1, by omega, by go_num, HRj⟩
              case measure => simp [intOf]; omega
        · obtain rfl : k = T.length := by omega
          rw [List.take_length, HBH.out, ← HT2.out] at HRk
          have HRz := Lib.hid (HRk.out.up HB.out)
          go_wp2
          go_roundw
          case rel => exact ⟨i + 1, by omega, by go_num, HRz⟩
          case measure => simp [intOf]; omega
    · obtain rfl : i = M.length := by omega
      rw [List.take_length] at HRow
      go_wp2
      go_ret
      exact ⟨_, rfl, HRow.out⟩
end Go.Proofs.Ytfneafofohfdnaa
