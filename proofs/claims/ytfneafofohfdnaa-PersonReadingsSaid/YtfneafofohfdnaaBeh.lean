/-
  behind: texts with each letter of a sign behind each of them; a contract.
-/
import Derived.Test.YtfneafofohfdnaaSpl
import Derived.Test.YtfneafofohfdnaaMark
import Derived.Test.YtfneafofohfdnaaRRdg
import Derived.Laws.Runes
import Derived.Maps.OwnIn
namespace Go.Proofs.Ytfneafofohfdnaa
open Go.RowKit Go.Shelf Go.Maps
attribute [local go_sem] set_drewN Oper.semAt_some
/-- bytes as a list -/
def bytesL (b : ByteArray) : List UInt8 := b.data.toList
theorem bytesL_str (b : ByteArray) : b = ⟨(bytesL b).toArray⟩ := by cases b; simp [bytesL]
/-- the bytes of a letter as a text -/
def enc (c : UInt8) : List UInt8 := bytesL (Utf8.encode (c.toNat : Int))
theorem enc_str (c : UInt8) : Utf8.encode (c.toNat : Int) = ⟨(enc c).toArray⟩ := bytesL_str _
theorem enc_two : ∀ n m : Fin 16, (enc (UInt8.ofNat (16 * n.val + m.val))).length ≤ 2 := by decide +kernel
theorem enc_len (c : UInt8) : (enc c).length ≤ 2 := by
  have h : c.toNat < 256 := UInt8.toNat_lt c
  have h1 := enc_two ⟨c.toNat / 16, by omega⟩ ⟨c.toNat % 16, by omega⟩
  have e : 16 * (c.toNat / 16) + c.toNat % 16 = c.toNat := by omega
  simp only [e] at h1
  have e2 : UInt8.ofNat c.toNat = c := by simp
  rw [e2] at h1
  exact h1
theorem enc_AB : ∀ c ∈ AB, enc c = [c] := by decide +kernel
theorem bhL_part {L : List UInt8} {T : List (List UInt8)} {k : Nat} (hk : k < T.length) (h : (bhL L T).length ≤ 64) : (bhL L (T.take k)).length ≤ 64 := by
  refine Nat.le_trans ?_ h
  rw [bhL_len, bhL_len, List.length_take]
  exact Nat.mul_le_mul_right _ (by omega)
/-- rows so far -/
def rowE (D : List (List UInt8)) (X pre : List UInt8) : List (List UInt8) := D ++ pre.map (fun c => X ++ enc c)
theorem rowE_len (D : List (List UInt8)) (X pre : List UInt8) : (rowE D X pre).length = D.length + pre.length := by simp [rowE]
theorem rowE_snoc (D : List (List UInt8)) (X pre : List UInt8) (x : UInt8) : rowE D X (pre ++ [x]) = rowE D X pre ++ [X ++ enc x] := by simp [rowE]
set_option maxRecDepth 100000 in
theorem rowE_end {L X : List UInt8} {T : List (List UInt8)} {k : Nat} (hk : k < T.length) (hA : ∀ c ∈ L, c ∈ AB) (hX : T[k] = X) : rowE (bhL L (T.take k)) X L = bhL L (T.take (k + 1)) := by
  rw [bhL_take hk, hX]
  unfold rowE
  have e : L.map (fun c => X ++ enc c) = L.map (fun c => X ++ [c]) := List.map_congr_left fun c hc => congrArg (fun y => X ++ y) (enc_AB c (hA c hc))
  rw [e]
/-- a row of texts in a box, open marks -/
def BHI (w : World) (Ds : List Nat) (R : List (List UInt8)) (W : World) : Prop :=
  (∃ v, Boxed W w.heap.size 24 v ∧ W.ownsRow w.heap.size 9 1 v R.length (R.map strV)) ∧ OpenD w.heap.size Ds W ∧ Below w.heap.size w W
set_option maxRecDepth 100000 in
set_option maxHeartbeats 8000000 in
theorem behind_any (m : Nat) (L : List UInt8) (T : List (List UInt8)) (b c : Nat) (w : World) (hm : m < 2 ^ 53) (hL : lets m = L) (h : TxAt w b T) (h64 : (bhL L T).length ≤ 64) (hTl : T.length ≤ 64) (hTe : ∀ t ∈ T, t.length ≤ 24) :
    Calls Try.prog 39 #[.int .u64 m, .slice (some ⟨b, 0, none⟩) T.length c] w (fun e w' => ∃ v, e = .returned v ∧ CRow w w' (bhL L T) v) := by
  obtain ⟨i0, hi, hz0, hz1, hz2⟩ := info_parts infoS
  refine (callsIn_wide (n := 5)).1 ?_
  refine callsIn_of_wp_marks Try.func39 rfl trivial ?_ rfl
  simp only [Try.ntmps39, List.size_toArray, List.length_cons, List.length_nil, Nat.reduceAdd, Nat.reduceSub, Array.replicate_succ, Array.replicate_zero, List.push_toArray, List.append_toArray, List.nil_append, List.cons_append]
  gi_wp2
  have H := Lib.hid h
  have HM := Lib.hid hm
  have HL := Lib.hid hL
  have H64 := Lib.hid h64
  have HTE := Lib.hid hTe
  clear h hm hL h64 hTe
  refine wpIn_loop (fun a W => ∃ (Ds : List Nat) (k : Nat) (u7 u8 u12 u13 u14 u15 u16 u17 u18 u19 u20 u21 u22 u23 u24 u25 u26 : Value), (k ≤ T.length ∧ BHI w Ds (bhL L (T.take k)) W) ∧ a = { tmps := #[.int .u64 m, .slice (some ⟨b, 0, none⟩) T.length c, undef, undef, .slice none 0 0, .pointer (some ⟨w.heap.size, 0, none⟩), undef, u7, u8, .slice (some ⟨b, 0, none⟩) T.length c, .int .i64 (T.length : Int), .int .i64 k, u12, u13, u14, u15, u16, u17, u18, u19, u20, u21, u22, u23, u24, u25, u26], defers := marks Ds })
    (fun a _ => T.length - (intOf (a.tmps.getD 11 undef)).toNat) ?start ?round
  case start =>
    refine ⟨[], 0, ?_⟩
    (repeat apply Exists.intro)
    refine ⟨⟨Nat.zero_le _, ⟨⟨_, Boxed.new w _ _, World.ownsRow_nil _ _ _ _⟩, OpenD.nil _ _, (Below.refl _ _).alloc (Nat.le_refl _) _⟩⟩, rfl⟩
  case round =>
    rintro a W ⟨Ds, k, u7, u8, u12, u13, u14, u15, u16, u17, u18, u19, u20, u21, u22, u23, u24, u25, u26, ⟨hk, HW⟩, rfl⟩
    obtain ⟨⟨v, hv, hrow⟩, hop, hB⟩ := HW
    have hsz := hB.size
    by_cases hlt : k < T.length
    · have a1 := (H.out.below hB).2 k T[k] (by simp [hlt])
      gi_wp2
      obtain ⟨X, hX⟩ : ∃ X, T[k] = X := ⟨_, rfl⟩
      have hXl : X.length ≤ 24 := by rw [← hX]; exact HTE.out _ (List.getElem_mem hlt)
      have HX := Lib.hid hX
      rw [hX]
      clear hX a1
      obtain ⟨D0, hD0⟩ : ∃ D0, bhL L (T.take k) = D0 := ⟨_, rfl⟩
      have hDl := Lib.hid (bhL_part (L := L) hlt H64.out)
      rw [hD0] at hrow hDl
      have HD0 := Lib.hid hD0
      clear hD0
      have n7 := Boxed.new W 9 (strV X)
      have hv' := hv.alloc (.cells #[strV X] 9)
      have hrow' := hrow.alloc (.cells #[strV X] 9)
      have hNo : v.ownBlock ≠ some W.heap.size := fun e => by have := (hrow.lt _ e).2; omega
      have hop' := hop.alloc (.cells #[strV X] 9)
      have hB' := hB.alloc hsz (.cells #[strV X] 9)
      have hs7 : W.heap.size + 1 = (W.alloc (.cells #[strV X] 9)).heap.size := by simp
      have hvlt := hv.lt
      change Code.wpIn _ _ _ _ _ _ (W.alloc (.cells #[strV X] 9))
      obtain ⟨B7, hB7⟩ : ∃ B7, W.heap.size = B7 := ⟨_, rfl⟩
      have hopl := hop.lt
      rw [hB7] at n7 hNo hs7 hvlt hsz hopl ⊢
      generalize hW1 : W.alloc (.cells #[strV X] 9) = W1 at *
      have HHop := Lib.hid hopl
      clear hW1 hv hrow hop hB hopl
      refine wpIn_rangeFirst (F := Fence.wide) (n := 5) (gf := 59) (rv := .int .u64 m) rfl (by omega) rfl trivial (enters_of Try.func59 (by kernel_rfl) rfl)
        (encs := fun x : UInt8 => #[.int .u8 (x.toNat : Int)]) (S := fun xs => xs = L) (N := 53) (fun _ => rfl)
        (fun l J W _ _ hY h0 => (let_in 4 (by omega) l m HM.out J W hY h0).mono (fun _ _ ⟨hv, xs, hx, hj⟩ => ⟨hv, xs, hx.trans HL.out, hj⟩))
        (fun (pre : List UInt8) W' => (∃ v, Boxed W' w.heap.size 24 v ∧ W'.ownsRow w.heap.size 9 1 v (rowE D0 X pre).length ((rowE D0 X pre).map strV) ∧ v.ownBlock ≠ some B7) ∧ Boxed W' B7 9 (strV X) ∧ OpenD w.heap.size Ds W' ∧ Below w.heap.size w W')
        (OwnFrom.and (Own.from (holdsRow_own w.heap.size w.heap.size 24 9 1 (fun pre => (rowE D0 X pre).length) (fun pre => (rowE D0 X pre).map strV) (fun _ v => v.ownBlock ≠ some B7)) _) (OwnFrom.and (Own.from (boxed_own B7 9 (fun _ => strV X)) _) (OwnFrom.and (OpenD.own (fun D hD => by have := HHop.out D hD; omega)) (ownFrom_below (Nat.le_refl _) (by omega)))))
        ⟨⟨v, hv', by simpa [rowE] using hrow', hNo⟩, n7, hop', hB'⟩
        (fun x => { tmps := #[.int .u64 m, .slice (some ⟨b, 0, none⟩) T.length c, undef, undef, .slice none 0 0, .pointer (some ⟨w.heap.size, 0, none⟩), undef, .pointer (some ⟨B7, 0, none⟩), .int .u8 (x.toNat : Int), .slice (some ⟨b, 0, none⟩) T.length c, .int .i64 (T.length : Int), .int .i64 k, .bool true, .pointer (some ⟨b, k, none⟩), .string ⟨X.toArray⟩, .int .u64 m, .func (.func 59) #[.int .u64 m] #[], .int .u8 (x.toNat : Int), u18, u19, u20, u21, u22, u23, u24, u25, u26], defers := [] }) ?assign ?body ?done
      case assign =>
        intro l x W' K hK
        gi_wp2
        exact hK
      case body =>
        rintro l pre x W' ⟨⟨v', hv1, hrow1, hNo1⟩, h7, hop1, hB1⟩ hlen
        have hc := hv1.cell
        have hf := hv1.frozen
        have hc7 : W'.cell? ⟨B7, 0, none⟩ = some (.string ⟨X.toArray⟩) := h7.cell
        have hsz' := hB1.size
        have hrl : (rowE D0 X pre).length ≤ 117 := by rw [rowE_len]; have := hDl.out; omega
        obtain ⟨E, hE, hEl⟩ : ∃ E, enc x = E ∧ E.length ≤ 2 := ⟨_, rfl, enc_len x⟩
        have hEs : Utf8.encode (x.toNat : Int) = ⟨E.toArray⟩ := by rw [enc_str, hE]
        have HS := Lib.hid (rowE_snoc D0 X pre x)
        rw [hE] at HS
        generalize rowE D0 X pre = R at *
        obtain ⟨N, hN⟩ : ∃ N : Int, (x.toNat : Int) = N := ⟨_, rfl⟩
        rw [hN] at hEs ⊢
        clear hE hN
        have n1 : ¬ 9223372036854775807 < X.length + E.length := by omega
        obtain ⟨Y, hY⟩ : ∃ Y : List UInt8, X ++ E = Y := ⟨_, rfl⟩
        have hcat : (⟨X.toArray⟩ : ByteArray) ++ (⟨E.toArray⟩ : ByteArray) = ⟨Y.toArray⟩ := by rw [bapp, ← hY]; simp
        rw [hY] at HS
        clear hY
        gi_wp2_with (gi_at_builtin; refine wpListIn_append_own_at _ rfl _ _ 24 rfl w.heap.size 9 i0 (.string ⟨#[]⟩) 1 16 Try.underlying24 hi hz0 hz1 hz2 rfl (by decide) v' R.length (R.map strV) rfl (hrow1.alloc _) ⟨W'.heap.size, 0, none⟩ 1 1 [strV Y] rfl rfl (World.news_of_block (cs := #[strV Y]) (heap_alloc_new _ _)) (by simp [strV, Value.oneCell']) (by unfold maxLen; omega) (by omega) (by simp; omega) ?_; intro v5 w5 hown5 hgrow5 _ hloc5; obtain ⟨g', cap', rfl⟩ := ownsRow_succ hown5; obtain ⟨hv1', hv2, hr2, hk2, hb2⟩ := hv1.appended (by decide) hrow1 hsz' (Nat.le_refl _) hown5 hgrow5; have hc1 := hv1'.cell; have hf1 := hv1'.frozen)
        have hN5 : (Value.slice (some ⟨g', 0, none⟩) (R.length + 1) cap').ownBlock ≠ some B7 := by
          rcases hloc5 with e | e
          · rw [e]; exact hNo1
          · rw [e]
            have := h7.lt
            intro e2
            injection e2 with e2
            simp at e2
            omega
        exact ⟨hk2, ⟨_, hv2, by rw [HS.out]; simpa using hr2, hN5⟩, ((h7.alloc _).kept hgrow5 (fun e => hNo1 e.symm)).other (show B7 ≠ w.heap.size by omega) _, hop1.kept hk2, hB1.trans (hb2.mono (Nat.le_refl _))⟩
      case done =>
        rintro D xs W' hD hxs ⟨⟨v', hv1, hrow1, hNo1⟩, h7, hop1, hB1⟩ hK
        have hR := rowE_end (L := L) (X := X) hlt (fun c hc => (lets_set m).1 c (by rw [HL.out]; exact hc)) HX.out
        rw [HD0.out] at hR
        rw [hxs, hR] at hrow1
        clear hxs hR
        have HR1 := Lib.hid hrow1
        clear hrow1
        gi_wp2
        refine ⟨⟨D :: Ds, k + 1, ?_⟩, ?_⟩
        · (repeat apply Exists.intro)
          exact ⟨⟨by omega, ⟨⟨_, hv1, HR1.out⟩, OpenD.cons hop1 hop' hD (by omega) hK, hB1⟩⟩, rfl⟩
        · simp [intOf]; omega
    · obtain rfl : k = T.length := by omega
      rw [List.take_length] at hrow
      have HRW := Lib.hid hrow
      have HOP := Lib.hid hop
      have HBB := Lib.hid hB
      have hc := hv.cell
      clear hrow hop hB
      gi_wp2
      refine leaves_marks (fun W2 => W2.ownsRow w.heap.size 9 1 v (bhL L T).length ((bhL L T).map strV) ∧ Below w.heap.size w W2) ?_ ?_ Ds W HOP.out ⟨HRW.out, HBB.out⟩
      · rintro W2 D2 ⟨h1, h3⟩ hD2 hk2
        refine ⟨h1.kept (grownBy_putObj' W2 D2 _) ?_, h3.trans (belowK_b (w := w) (Nat.le_refl _) W2 D2 _ _ hD2 hk2 rfl rfl)⟩
        rcases h1.2 with ⟨rfl, _⟩ | ⟨g, cap, cur, rfl, _, hgb, _⟩
        · exact .inl rfl
        · refine .inr fun e => ?_
          injection e with e
          exact open_ne hk2 hgb (fun x => by simp) e
      · rintro W2 ⟨h1, h3⟩
        exact ⟨_, results_tmp rfl _ _ _, v, rfl, h1, h3⟩
end Go.Proofs.Ytfneafofohfdnaa
