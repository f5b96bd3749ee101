/-
  Open of package money: a contract for all worlds and lists.
-/
import Derived.Test.YtcimceepkjpggaaMnG
import Derived.OwnWalk
namespace Go.Proofs.Ytcimceepkjpggaa
open Go.RowKit
attribute [local go_sem] set_drewN
/-- what lies for Open: both lists, and the day in its box -/
def OpQ (v1 v2 : Value) (D P : List Du) (B : Nat) (t : Int) (W : World) : Prop := LD W v1 D ∧ LD W v2 P ∧ BoxI B t W
theorem OpQ.new {v1 v2 : Value} {D P : List Du} {w : World} (t : Int) (h1 : LD w v1 D) (h2 : LD w v2 P) : KQ (OpQ v1 v2 D P w.heap.size t) w (w.alloc (.cells #[.int .i64 t] 3)) := by
  have hb := (Below.refl w.heap.size w).alloc (Nat.le_refl _) (.cells #[.int .i64 t] 3)
  exact ⟨fun A B h hb => ⟨h.1.below hb, h.2.1.below hb, h.2.2.keep hb⟩, ⟨h1.below hb, h2.below hb, by simp [BoxI, go_sem]⟩, hb⟩
theorem ret3_i {a b c a' b' : Int} (h : a = a') (h2 : b = b') : Ending.returned (three (.int .i64 a) (.int .i64 b) (.int .i64 c)) = .returned (three (.int .i64 a') (.int .i64 b') (.int .i64 c)) := by rw [h, h2]
/-- what is open, and what is left -/
def openM (t : Int) (D P : List Du) : Int := max 0 (sumD (begD t D) - sumD (begD t P))
def leftM (t : Int) (D P : List Du) : Int := max 0 (sumD D - sumD (begD t P))
set_option maxRecDepth 100000 in
set_option maxHeartbeats 8000000 in
theorem Open_ok (v1 v2 : Value) (D P : List Du) (t : Int) (w : World) (h1 : LD w v1 D) (h2 : LD w v2 P) (hR : feE [duesE D, duesE P, cdE [t]] = 0) (lD : D.length ≤ 1000) (lP : P.length ≤ 1000) (rD : Rt D) (rP : Rt P) :
    Calls Try.prog 36 #[v1, v2, .int .i64 t] w (RetB (three (.int .i64 (openM t D P)) (.int .i64 (leftM t D P)) (.int .i64 0)) w) := by
  have HK := Lib.hid (OpQ.new t h1 h2)
  have HR := Lib.hid hR
  have RD := Lib.hid rD
  have RP := Lib.hid rP
  clear h1 h2 hR
  go_enter Try.func36, Try.ntmps36
  go_wp2
  refine wp_region_held_drew (S := (KQ (OpQ v1 v2 D P w.heap.size t) w)) (by kernel_rfl) ?_ (fun hHeld => ?_)
  · exact HK.out.dr
  refine wpAnyH_take (i := 0) (oi := { dst := some 12, op := Go.Op.move (Go.Operand.tmp 0), type := 60, pos := "dues.go:54", after := #[], guard := none }) (v := ?_) rfl (by kernel_rfl) (by kernel_rfl) (by kernel_rfl) (fun _ _ _ h => h) (Or.inl ⟨by rfl, ?_⟩) (by assumption) ?_
  rotate_left
  · intro W hSw
    go_simp
    try with_reducible rfl
  try simp only [Act.put, List.setIfInBounds_toArray, List.set_cons_zero, List.set_cons_succ]
  refine wpAnyH_take (i := 2) (oi := { dst := some 14, op := Go.Op.move (Go.Operand.tmp 1), type := 60, pos := "dues.go:54", after := #[], guard := none }) (v := ?_) rfl (by kernel_rfl) (by kernel_rfl) (by kernel_rfl) (fun _ _ _ h => h) (Or.inl ⟨by rfl, ?_⟩) (by assumption) ?_
  rotate_left
  · intro W hSw
    go_simp
    try with_reducible rfl
  try simp only [Act.put, List.setIfInBounds_toArray, List.set_cons_zero, List.set_cons_succ]
  refine wpAnyH_take (i := 4) (oi := { dst := some 16, op := Go.Op.load 3 (Go.Operand.tmp 5), type := 3, pos := "dues.go:54", after := #[], guard := none }) (v := ?_) rfl (by kernel_rfl) (by kernel_rfl) (by kernel_rfl) (fun _ _ _ h => h) (Or.inl ⟨by rfl, ?_⟩) (by assumption) ?_
  rotate_left
  · intro W hSw
    have q0 := hSw.q.2.2
    unfold BoxI at q0
    go_simp
    try with_reducible rfl
  try simp only [Act.put, List.setIfInBounds_toArray, List.set_cons_zero, List.set_cons_succ]
  refine wpAnyH_ready (rs := [1]) (by kernel_rfl) (by simp) ?_
  refine AllReadyH.cons (o := { dst := some 13, op := Go.Op.call { callee := Go.Callee.value (Go.Operand.func 39), args := #[Go.Operand.tmp 12], argTypes := #[60] }, type := 25, pos := "dues.go:54", after := #[{ on := 0, ground := Go.Ground.data }], guard := none }) rfl (fun K hK => ?_) AllReadyH.nil
  go_simp
  go_at_call 39
  refine (CheckDues_any D v1 _ (by omega) hHeld.q.1).mono ?_
  rintro e w1 ⟨rfl, hb⟩
  go_wp2_with fail
  refine hK.out _ _ ?_ (fun hHeld' => ?_)
  · exact hHeld.bl hb
  clear hK K hHeld
  have hHeld := hHeld'
  clear hHeld'
  try simp only [Act.put, List.setIfInBounds_toArray, List.set_cons_zero, List.set_cons_succ]
  refine wpAnyH_ready (rs := [3]) (by kernel_rfl) (by simp) ?_
  refine AllReadyH.cons (o := { dst := some 15, op := Go.Op.call { callee := Go.Callee.value (Go.Operand.func 39), args := #[Go.Operand.tmp 14], argTypes := #[60] }, type := 25, pos := "dues.go:54", after := #[{ on := 2, ground := Go.Ground.data }, { on := 1, ground := Go.Ground.chain }], guard := none }) rfl (fun K hK => ?_) AllReadyH.nil
  go_simp
  go_at_call 39
  refine (CheckDues_any P v2 _ (by omega) hHeld.q.2.1).mono ?_
  rintro e w1 ⟨rfl, hb⟩
  go_wp2_with fail
  refine hK.out _ _ ?_ (fun hHeld' => ?_)
  · exact hHeld.bl hb
  clear hK K hHeld
  have hHeld := hHeld'
  clear hHeld'
  try simp only [Act.put, List.setIfInBounds_toArray, List.set_cons_zero, List.set_cons_succ]
  refine wpAnyH_ready (rs := [5]) (by kernel_rfl) (by simp) ?_
  refine AllReadyH.cons (o := { dst := some 17, op := Go.Op.call { callee := Go.Callee.value (Go.Operand.func 51), args := #[Go.Operand.tmp 16], argTypes := #[3] }, type := 25, pos := "dues.go:54", after := #[{ on := 4, ground := Go.Ground.data }, { on := 3, ground := Go.Ground.chain }], guard := none }) rfl (fun K hK => ?_) AllReadyH.nil
  go_simp
  go_at_call 51
  refine (nCheckDay_any _ _).mono ?_
  rintro e w1 ⟨rfl, rfl⟩
  go_wp2_with fail
  refine hK.out _ _ ?_ (fun hHeld' => ?_)
  · exact hHeld
  clear hK K hHeld
  have hHeld := hHeld'
  clear hHeld'
  try simp only [Act.put, List.setIfInBounds_toArray, List.set_cons_zero, List.set_cons_succ]
  refine wpAnyH_ready (rs := [6]) (by kernel_rfl) (by simp) ?_
  refine AllReadyH.cons (o := { dst := some 18, op := Go.Op.buildSlice 121 3 #[(0, Go.Operand.tmp 13), (1, Go.Operand.tmp 15), (2, Go.Operand.tmp 17)], type := 121, pos := "dues.go:54", after := #[{ on := 1, ground := Go.Ground.data }, { on := 3, ground := Go.Ground.data }, { on := 5, ground := Go.Ground.data }], guard := none }) rfl (fun K hK => ?_) AllReadyH.nil
  go_simp
  have KH := Lib.hid hHeld
  refine hK.out _ _ ?_ (fun hHeld' => ?_)
  · exact KH.out.al _
  clear hK K hHeld
  have hHeld := hHeld'
  clear hHeld'
  try simp only [Act.put, List.setIfInBounds_toArray, List.set_cons_zero, List.set_cons_succ]
  refine wpAnyH_ready (rs := [7]) (by kernel_rfl) (by simp) ?_
  refine AllReadyH.cons (o := { dst := some 19, op := Go.Op.call { callee := Go.Callee.value (Go.Operand.func 49), args := #[Go.Operand.tmp 18], argTypes := #[121] }, type := 25, pos := "dues.go:54", after := #[{ on := 6, ground := Go.Ground.data }, { on := 5, ground := Go.Ground.chain }], guard := none }) rfl (fun K hK => ?_) AllReadyH.nil
  go_simp
  go_at_call 49
  refine (nFirstError_any [duesE D, duesE P, cdE [t]] _ 0 3 _ (by simp) (IntsAt.cons (by simp [go_sem]) (IntsAt.cons (by simp [go_sem]) (IntsAt.one (by simp [go_sem]))))).mono ?_
  rintro e w1 ⟨rfl, rfl⟩
  rw [HR.out]
  go_wp2_with fail
  refine hK.out _ _ ?_ (fun hHeld' => ?_)
  · exact hHeld
  clear hK K hHeld
  have hHeld := hHeld'
  clear hHeld'
  try simp only [Act.put, List.setIfInBounds_toArray, List.set_cons_zero, List.set_cons_succ]
  refine wpAnyH_take (i := 8) (oi := { dst := some 9, op := Go.Op.assign (Go.Operand.tmp 19), type := 25, pos := "dues.go:54", after := #[{ on := 7, ground := Go.Ground.data }, { on := 7, ground := Go.Ground.chain }, { on := 0, ground := Go.Ground.phase }, { on := 1, ground := Go.Ground.phase }, { on := 2, ground := Go.Ground.phase }, { on := 3, ground := Go.Ground.phase }, { on := 4, ground := Go.Ground.phase }, { on := 5, ground := Go.Ground.phase }, { on := 6, ground := Go.Ground.phase }, { on := 7, ground := Go.Ground.phase }], guard := none }) (v := ?_) rfl (by kernel_rfl) (by kernel_rfl) (by kernel_rfl) (fun _ _ _ h => h) (Or.inl ⟨by rfl, ?_⟩) (by assumption) ?_
  rotate_left
  · intro W hSw
    go_simp
    try with_reducible rfl
  try simp only [Act.put, List.setIfInBounds_toArray, List.set_cons_zero, List.set_cons_succ]
  refine wpAnyH_done (by kernel_rfl) ?_ _
  have Q0 := Lib.hid hHeld
  clear hHeld
  go_wp2_with fail
  refine (beginning_any P v2 t w.heap.size _ (by omega) Q0.out.q.2.1 Q0.out.q.2.2).mono ?_
  rintro e w1 ⟨u1, rfl, L1, hb1⟩
  have Q1 := Lib.hid (Q0.out.bl hb1)
  clear hb1
  go_wp2_with fail
  refine (sumOf_any _ u1 _ (Nat.le_trans (begD_len _ _) lP) (begD_rt RP.out) L1).mono ?_
  rintro e w2 ⟨rfl, hb2⟩
  have Q2 := Lib.hid (Q1.out.bl hb2)
  clear hb2 L1
  go_wp2_with fail
  refine (beginning_any D v1 t w.heap.size _ (by omega) Q2.out.q.1 Q2.out.q.2.2).mono ?_
  rintro e w3 ⟨u3, rfl, L3, hb3⟩
  have Q3 := Lib.hid (Q2.out.bl hb3)
  clear hb3
  go_wp2_with fail
  refine (sumOf_any _ u3 _ (Nat.le_trans (begD_len _ _) lD) (begD_rt RD.out) L3).mono ?_
  rintro e w4 ⟨rfl, hb4⟩
  have Q4 := Lib.hid (Q3.out.bl hb4)
  clear hb4 L3
  have S1 := sumD_pos (begD_rt (t := t) RP.out)
  have S2 := sumD_pos (begD_rt (t := t) RD.out)
  have S3 := sumD_pos RD.out
  have T1 := sumD_le (begD_rt (t := t) RP.out)
  have T2 := sumD_le (begD_rt (t := t) RD.out)
  have T3 := sumD_le RD.out
  have N1 := begD_len t P
  have N2 := begD_len t D
  have M1 : sumD (begD t P) ≤ 1000000000000000 := by omega
  have M2 : sumD (begD t D) ≤ 1000000000000000 := by omega
  have M3 : sumD D ≤ 1000000000000000 := by omega
  clear T1 T2 T3 N1 N2
  have M4 := sumD_pos (begD_rt (t := t) RP.out)
  obtain ⟨A1, h1⟩ : ∃ A1, sumD (begD t P) = A1 := ⟨_, rfl⟩
  obtain ⟨A2, h2⟩ : ∃ A2, sumD (begD t D) = A2 := ⟨_, rfl⟩
  obtain ⟨A3, h3⟩ : ∃ A3, sumD D = A3 := ⟨_, rfl⟩
  have HO := Lib.hid (show openM t D P = max 0 (A2 - A1) by unfold openM; rw [h1, h2])
  have HL := Lib.hid (show leftM t D P = max 0 (A3 - A1) by unfold leftM; rw [h1, h3])
  have H3 := Lib.hid h3
  rw [h1] at S1 M1 M4 ⊢
  rw [h2] at S2 M2 ⊢
  rw [h3] at S3 M3
  clear h1 h2 h3
  rcases (show A1 < A2 ∨ A2 ≤ A1 by omega) with a | a
  all_goals rcases (show A1 < A3 ∨ A3 ≤ A1 by omega) with b | b
  · have HO2 := Lib.hid (HO.out.trans (show max 0 (A2 - A1) = A2 - A1 by omega))
    have HL2 := Lib.hid (HL.out.trans (show max 0 (A3 - A1) = A3 - A1 by omega))
    clear HO HL
    go_wp2_with fail
    refine (sumOf_any D v1 _ lD RD.out Q4.out.q.1).mono ?_
    rintro e w5 ⟨rfl, hb5⟩
    have Q5 := Lib.hid (Q4.out.bl hb5)
    clear hb5
    rw [H3.out]
    go_wp2
    go_ret3
    exact ⟨ret3_i HO2.out.symm HL2.out.symm, Q5.out.b⟩
  · have HO2 := Lib.hid (HO.out.trans (show max 0 (A2 - A1) = A2 - A1 by omega))
    have HL2 := Lib.hid (HL.out.trans (show max 0 (A3 - A1) = 0 by omega))
    clear HO HL
    go_wp2_with fail
    refine (sumOf_any D v1 _ lD RD.out Q4.out.q.1).mono ?_
    rintro e w5 ⟨rfl, hb5⟩
    have Q5 := Lib.hid (Q4.out.bl hb5)
    clear hb5
    rw [H3.out]
    go_wp2
    go_ret3
    exact ⟨ret3_i HO2.out.symm HL2.out.symm, Q5.out.b⟩
  · have HO2 := Lib.hid (HO.out.trans (show max 0 (A2 - A1) = 0 by omega))
    have HL2 := Lib.hid (HL.out.trans (show max 0 (A3 - A1) = A3 - A1 by omega))
    clear HO HL
    go_wp2_with fail
    refine (sumOf_any D v1 _ lD RD.out Q4.out.q.1).mono ?_
    rintro e w5 ⟨rfl, hb5⟩
    have Q5 := Lib.hid (Q4.out.bl hb5)
    clear hb5
    rw [H3.out]
    go_wp2
    go_ret3
    exact ⟨ret3_i HO2.out.symm HL2.out.symm, Q5.out.b⟩
  · have HO2 := Lib.hid (HO.out.trans (show max 0 (A2 - A1) = 0 by omega))
    have HL2 := Lib.hid (HL.out.trans (show max 0 (A3 - A1) = 0 by omega))
    clear HO HL
    go_wp2_with fail
    refine (sumOf_any D v1 _ lD RD.out Q4.out.q.1).mono ?_
    rintro e w5 ⟨rfl, hb5⟩
    have Q5 := Lib.hid (Q4.out.bl hb5)
    clear hb5
    rw [H3.out]
    go_wp2
    go_ret3
    exact ⟨ret3_i HO2.out.symm HL2.out.symm, Q5.out.b⟩
end Go.Proofs.Ytcimceepkjpggaa
