/-
  dayOf and Open of package money: contracts for all worlds and lists.
-/
import Derived.Test.YtcimceepkjpggaaMnF
namespace Go.Proofs.Ytcimceepkjpggaa
open Go.RowKit
attribute [local go_sem] set_drewN
theorem below_dr {B : Nat} {a w : World} (h : Below B a w) : Below B a w.drew := ⟨h.os, h.tape, h.output, h.size, h.block⟩
/-- what holds of a world and of all that grow out of it, and what lay in w lies as it lay -/
def KQ (Q : World → Prop) (w W : World) : Prop := (∀ A B, Q A → Below A.heap.size A B → Q B) ∧ Q W ∧ Below w.heap.size w W
theorem KQ.bl {Q : World → Prop} {w W W' : World} (h : KQ Q w W) (hb : Below W.heap.size W W') : KQ Q w W' := ⟨h.1, h.1 _ _ h.2.1 hb, h.2.2.trans (hb.mono h.2.2.size)⟩
theorem KQ.al {Q : World → Prop} {w W : World} (h : KQ Q w W) (o : Obj) : KQ Q w (W.alloc o) := h.bl ((Below.refl _ _).alloc (Nat.le_refl _) _)
theorem KQ.dr {Q : World → Prop} {w W : World} (h : KQ Q w W) : KQ Q w W.drew := h.bl (below_dr (Below.refl _ _))
theorem KQ.q {Q : World → Prop} {w W : World} (h : KQ Q w W) : Q W := h.2.1
theorem KQ.b {Q : World → Prop} {w W : World} (h : KQ Q w W) : Below w.heap.size w W := h.2.2
/-- a number lies in a box -/
def BoxI (B : Nat) (c : Int) (W : World) : Prop := W.cell? ⟨B, 0, none⟩ = some (.int .i64 c)
theorem BoxI.keep {B : Nat} {c : Int} {W W' : World} (h : BoxI B c W) (hb : Below W.heap.size W W') : BoxI B c W' := (hb.cell (p := ⟨B, 0, none⟩) (World.block_lt_of_cell? _ _ h)).trans h
theorem begD_len (t : Int) (l : List Du) : (begD t l).length ≤ l.length := by
  obtain ⟨k, hk⟩ := begD_pre (t := t) l
  rw [hk]; exact List.length_take_le' _ _
theorem begD_rt {t : Int} {l : List Du} (h : Rt l) : Rt (begD t l) := by
  obtain ⟨k, hk⟩ := begD_pre (t := t) l
  rw [hk]; exact h.take k
set_option maxRecDepth 100000 in
theorem dayOf1_any (L : List Du) (v : Value) (c : Int) (Bc : Nat) (w : World) (hl : L.length ≤ 1000) (hr : Rt L) (hv : LD w v L) (hc : BoxI Bc c w) : Calls Try.prog 84 #[v, .pointer (some ⟨Bc, 0, none⟩)] w (RetB (.bool (decide (sumD L < c))) w) := by
  have HK := Lib.hid (show KQ (fun W => LD W v L ∧ BoxI Bc c W) w w from ⟨fun A B h hb => ⟨h.1.below hb, h.2.keep hb⟩, ⟨hv, hc⟩, Below.refl _ _⟩)
  have HR := Lib.hid hr
  clear hv hc hr
  go_enter Try.func84, Try.ntmps84
  go_wp2
  refine wp_region_held_drew (S := (KQ (fun W => LD W v L ∧ BoxI Bc c W) w)) (by kernel_rfl) ?_ (fun hHeld => ?_)
  · exact HK.out.dr
  refine wpAnyH_take (i := 0) (oi := { dst := some 4, op := Go.Op.move (Go.Operand.tmp 0), type := 60, pos := "dues.go:85", after := #[], guard := none }) (v := ?_) rfl (by kernel_rfl) (by kernel_rfl) (by kernel_rfl) (fun _ _ _ h => h) (Or.inl ⟨by rfl, ?_⟩) (by assumption) ?_
  rotate_left
  · intro W hSw
    go_simp
    try with_reducible rfl
  try simp only [Act.put, List.setIfInBounds_toArray, List.set_cons_zero, List.set_cons_succ]
  refine wpAnyH_take (i := 2) (oi := { dst := some 6, op := Go.Op.load 3 (Go.Operand.tmp 1), type := 3, pos := "dues.go:85", after := #[], guard := none }) (v := ?_) rfl (by kernel_rfl) (by kernel_rfl) (by kernel_rfl) (fun _ _ _ h => h) (Or.inl ⟨by rfl, ?_⟩) (by assumption) ?_
  rotate_left
  · intro W hSw
    have q0 := hSw.q.2
    unfold BoxI at q0
    go_simp
    try with_reducible rfl
  try simp only [Act.put, List.setIfInBounds_toArray, List.set_cons_zero, List.set_cons_succ]
  refine wpAnyH_ready (rs := [1]) (by kernel_rfl) (by simp) ?_
  refine AllReadyH.cons (o := { dst := some 5, op := Go.Op.call { callee := Go.Callee.value (Go.Operand.func 69), args := #[Go.Operand.tmp 4], argTypes := #[60] }, type := 3, pos := "dues.go:85", after := #[{ on := 0, ground := Go.Ground.data }], guard := none }) rfl (fun K hK => ?_) AllReadyH.nil
  go_simp
  go_at_call 69
  refine (sumOf_any L v _ hl HR.out hHeld.q.1).mono ?_
  rintro e w1 ⟨rfl, hb⟩
  go_wp2_with fail
  refine hK.out _ _ ?_ (fun hHeld' => ?_)
  · exact hHeld.bl hb
  clear hK K hHeld
  have hHeld := hHeld'
  clear hHeld'
  try simp only [Act.put, List.setIfInBounds_toArray, List.set_cons_zero, List.set_cons_succ]
  refine wpAnyH_take (i := 3) (oi := { dst := some 7, op := Go.Op.binOp Go.BinOp.lss 3 (Go.Operand.tmp 5) (Go.Operand.tmp 6) 3, type := 4, pos := "dues.go:85", after := #[{ on := 1, ground := Go.Ground.data }, { on := 2, ground := Go.Ground.data }], guard := none }) (v := ?_) rfl (by kernel_rfl) (by kernel_rfl) (by kernel_rfl) (fun _ _ _ h => h) (Or.inl ⟨by rfl, ?_⟩) (by assumption) ?_
  rotate_left
  · intro W hSw
    go_simp
    try with_reducible rfl
  try simp only [Act.put, List.setIfInBounds_toArray, List.set_cons_zero, List.set_cons_succ]
  refine wpAnyH_take (i := 4) (oi := { dst := some 3, op := Go.Op.assign (Go.Operand.tmp 7), type := 4, pos := "dues.go:85", after := #[{ on := 3, ground := Go.Ground.data }, { on := 1, ground := Go.Ground.chain }, { on := 0, ground := Go.Ground.phase }, { on := 1, ground := Go.Ground.phase }, { on := 2, ground := Go.Ground.phase }, { on := 3, ground := Go.Ground.phase }], guard := none }) (v := ?_) rfl (by kernel_rfl) (by kernel_rfl) (by kernel_rfl) (fun _ _ _ h => h) (Or.inl ⟨by rfl, ?_⟩) (by assumption) ?_
  rotate_left
  · intro W hSw
    go_simp
    try with_reducible rfl
  try simp only [Act.put, List.setIfInBounds_toArray, List.set_cons_zero, List.set_cons_succ]
  refine wpAnyH_done (by kernel_rfl) ?_ _
  have HH := Lib.hid hHeld
  clear hHeld
  go_wp2
  go_ret
  exact ⟨rfl, HH.out.b⟩
set_option maxRecDepth 100000 in
theorem dayOf_any (L : List Du) (v : Value) (c : Int) (w : World) (hl : L.length ≤ 1000) (hr : Rt L) (hv : LD w v L) : Calls Try.prog 71 #[v, .int .i64 c] w (RetB (.int .i64 (dayM L c)) w) := by
  obtain ⟨a, cp, rfl, hcp, hp⟩ := hv
  have HP := Lib.hid hp
  have HR := Lib.hid hr
  have hcz : (L.length : Int) ≤ cp := by omega
  have hB := Lib.hid (fun W (h : W = w.alloc (.cells #[.int .i64 c] 3)) => (show BoxI w.heap.size c W ∧ Below w.heap.size w W from by
    subst h
    exact ⟨by simp [BoxI, go_sem], (Below.refl _ _).alloc (Nat.le_refl _) _⟩))
  clear hp hr
  by_cases h0 : 0 < c
  · have e : dayM L c = dayG 0 c L := by unfold dayM; rw [if_pos h0]
    obtain ⟨R, hR⟩ : ∃ R, dayG 0 c L = R := ⟨_, rfl⟩
    rw [e, hR]
    have HRR := Lib.hid hR
    have C0 := Lib.hid (fun W (hb : BoxI w.heap.size c W) => dayOf1_any [] (.slice none 0 0) c w.heap.size W (by simp) (fun _ m => by simp at m) (LD.nil W) hb)
    have d0 : decide (sumD [] < c) = true := decide_eq_true (by simpa [sumD] using h0)
    rw [d0] at C0
    have H0 := Lib.hid h0
    clear e hR d0 h0
    go_enter Try.func71, Try.ntmps71
    go_wp2_with fail
    refine (C0.out _ (hB.out _ rfl).1).mono ?_
    rintro e w1 ⟨rfl, hb1⟩
    have B1 := Lib.hid ((hB.out _ rfl).2.trans (hb1.mono (by simp)))
    have X1 := Lib.hid ((hB.out _ rfl).1.keep hb1)
    clear hb1
    go_wp2
    go_loopw [14] (fun iv wr => ∃ k : Nat, k ≤ L.length ∧ iv = .int .i64 k ∧ Hid (∀ i, i < k → 0 + sumD (L.take (i + 1)) < c) ∧ Hid (BoxI w.heap.size c wr) ∧ Hid (Below w.heap.size w wr)) (fun iv _ => L.length - (intOf iv).toNat)
    case atStart => exact ⟨0, Nat.zero_le _, rfl, Lib.hid (fun i h => absurd h (by omega)), Lib.hid X1.out, Lib.hid B1.out⟩
    case round =>
      obtain ⟨k, hk, rfl, HA, HX, HB⟩ := hrel
      have hsz := HB.out.size
      by_cases hlt : k < L.length
      · have hne : L ≠ [] := by rintro rfl; simp at hlt
        obtain ⟨b, o, rfl, hd⟩ := HP.out hne
        have hd2 := hd.below HB.out
        obtain ⟨c0, c1⟩ := hd2.2 k hlt
        have CK := Lib.hid (fun W (hb : Below wr.heap.size wr W) => dayOf1_any (L.take (k + 1)) (.slice (some ⟨b, o, none⟩) (k + 1) cp) c w.heap.size W (Nat.le_trans (List.length_take_le' _ _) hl) (HR.out.take _) (LD.pre (by omega) hcp (fun _ => ⟨b, o, rfl, hd2.below hb⟩)) (HX.out.keep hb))
        have KZ : ((k + 1 : Nat) : Int) ≤ cp := by omega
        clear hd hd2
        by_cases hz : sumD (L.take (k + 1)) < c
        · have HA2 := Lib.hid (show ∀ i, i < k + 1 → 0 + sumD (L.take (i + 1)) < c by
            intro i hi
            by_cases hik : i = k
            · subst hik; omega
            · exact HA.out i (by omega))
          rw [decide_eq_true hz] at CK
          clear hz
          generalize L[k] = d at *
          go_wp2_with (go_at_call 84; refine (CK.out _ ((Below.refl _ _).alloc (Nat.le_refl _) _)).mono ?_; rintro e w2 ⟨rfl, hb2⟩; have q2 := hb2.size; have B2 := Lib.hid hb2; clear hb2)
          go_roundw
          case rel => exact ⟨k + 1, by omega, by go_num, HA2, Lib.hid ((HX.out.keep ((Below.refl _ _).alloc (Nat.le_refl _) _)).keep B2.out), Lib.hid ((HB.out.alloc hsz _).trans (B2.out.mono (by simp; omega)))⟩
          case measure => simp [intOf]; omega
        · have HE := Lib.hid ((dayG_at hlt HA.out (by omega)).symm.trans HRR.out)
          rw [decide_eq_false hz] at CK
          clear hz
          generalize L[k] = d at *
          go_wp2_with fail
          refine (CK.out _ ((Below.refl _ _).alloc (Nat.le_refl _) _)).mono ?_
          rintro e w2 ⟨rfl, hb2⟩
          have j0 : w2.cell? ⟨wr.heap.size, 0, none⟩ = some (.int .i64 d.day) := (hb2.cell (p := ⟨wr.heap.size, 0, none⟩) (by simp)).trans (by simp [go_sem])
          have q2 := hb2.size
          have B2 := Lib.hid hb2
          clear hb2
          go_wp2
          go_ret
          exact ⟨ret_i HE.out, (HB.out.alloc hsz _).trans (B2.out.mono (by simp; omega))⟩
      · obtain rfl : k = L.length := by omega
        have HE := Lib.hid ((dayG_none HA.out).symm.trans HRR.out)
        go_wp2
        go_ret
        exact ⟨ret_i HE.out, HB.out⟩
  · have e : dayM L c = 0 := by unfold dayM; rw [if_neg h0]
    rw [e]
    have C0 := Lib.hid (fun W (hb : BoxI w.heap.size c W) => dayOf1_any [] (.slice none 0 0) c w.heap.size W (by simp) (fun _ m => by simp at m) (LD.nil W) hb)
    have d0 : decide (sumD [] < c) = false := decide_eq_false (by simpa [sumD] using h0)
    rw [d0] at C0
    clear e d0 h0
    go_enter Try.func71, Try.ntmps71
    go_wp2_with fail
    refine (C0.out _ (hB.out _ rfl).1).mono ?_
    rintro e w1 ⟨rfl, hb1⟩
    have B1 := Lib.hid ((hB.out _ rfl).2.trans (hb1.mono (by simp)))
    clear hb1
    go_wp2
    go_ret
    exact ⟨rfl, B1.out⟩
end Go.Proofs.Ytcimceepkjpggaa
