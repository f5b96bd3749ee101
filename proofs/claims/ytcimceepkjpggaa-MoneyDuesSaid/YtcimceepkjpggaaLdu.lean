/-
  Open and Cover of package money for every list: contracts.
-/
import Derived.Test.YtcimceepkjpggaaRDc
namespace Go.Proofs.Ytcimceepkjpggaa
open Go.RowKit
attribute [local go_sem] set_drewN
set_option maxRecDepth 100000 in
set_option maxHeartbeats 8000000 in
theorem Open_bad (v1 v2 : Value) (D P : List Du) (t : Int) (w : World) (h1 : LD w v1 D) (h2 : LD w v2 P) (R : Int) (hR : feE [duesE D, duesE P, cdE [t]] = R) (hz : R ≠ 0) (lD : D.length ≤ 1000000000000) (lP : P.length ≤ 1000000000000) :
    Calls Try.prog 36 #[v1, v2, .int .i64 t] w (RetB (three (.int .i64 0) (.int .i64 0) (.int .i64 R)) w) := by
  have HK := Lib.hid (OpQ.new t h1 h2)
  have HR := Lib.hid hR
  have hzb : (R != 0) = true := by simpa using hz
  clear h1 h2 hR
  go_enter Try.func36, Try.ntmps36
  go_wp2
  refine wp_region_held_drew (S := (KQ (OpQ v1 v2 D P w.heap.size t) w)) (by kernel_rfl) ?_ (fun hHeld => ?_)
  · exact HK.out.dr
  refine wpAnyH_take (i := 0) (oi := { dst := some 12, op := Go.Op.move (Go.Operand.tmp 0), type := 60, pos := "dues.go:54", after := #[], guard := none }) (v := ?_) rfl (by kernel_rfl) (by kernel_rfl) (by kernel_rfl) (fun _ _ _ h => h) (Or.inl ⟨by rfl, ?_⟩) (by assumption) ?_
  rotate_left
  · intro W hSw
    go_simp
    try with_reducible rfl
  try simp only [Act.put, List.setIfInBounds_toArray, List.set_cons_zero, List.set_cons_succ]
  refine wpAnyH_take (i := 2) (oi := { dst := some 14, op := Go.Op.move (Go.Operand.tmp 1), type := 60, pos := "dues.go:54", after := #[], guard := none }) (v := ?_) rfl (by kernel_rfl) (by kernel_rfl) (by kernel_rfl) (fun _ _ _ h => h) (Or.inl ⟨by rfl, ?_⟩) (by assumption) ?_
  rotate_left
  · intro W hSw
    go_simp
    try with_reducible rfl
  try simp only [Act.put, List.setIfInBounds_toArray, List.set_cons_zero, List.set_cons_succ]
  refine wpAnyH_take (i := 4) (oi := { dst := some 16, op := Go.Op.load 3 (Go.Operand.tmp 5), type := 3, pos := "dues.go:54", after := #[], guard := none }) (v := ?_) rfl (by kernel_rfl) (by kernel_rfl) (by kernel_rfl) (fun _ _ _ h => h) (Or.inl ⟨by rfl, ?_⟩) (by assumption) ?_
  rotate_left
  · intro W hSw
    have q0 := hSw.q.2.2
    unfold BoxI at q0
    go_simp
    try with_reducible rfl
  try simp only [Act.put, List.setIfInBounds_toArray, List.set_cons_zero, List.set_cons_succ]
  refine wpAnyH_ready (rs := [1]) (by kernel_rfl) (by simp) ?_
  refine AllReadyH.cons (o := { dst := some 13, op := Go.Op.call { callee := Go.Callee.value (Go.Operand.func 39), args := #[Go.Operand.tmp 12], argTypes := #[60] }, type := 25, pos := "dues.go:54", after := #[{ on := 0, ground := Go.Ground.data }], guard := none }) rfl (fun K hK => ?_) AllReadyH.nil
  go_simp
  go_at_call 39
  refine (CheckDues_any D v1 _ (by omega) hHeld.q.1).mono ?_
  rintro e w1 ⟨rfl, hb⟩
  go_wp2_with fail
  refine hK.out _ _ ?_ (fun hHeld' => ?_)
  · exact hHeld.bl hb
  clear hK K hHeld
  have hHeld := hHeld'
  clear hHeld'
  try simp only [Act.put, List.setIfInBounds_toArray, List.set_cons_zero, List.set_cons_succ]
  refine wpAnyH_ready (rs := [3]) (by kernel_rfl) (by simp) ?_
  refine AllReadyH.cons (o := { dst := some 15, op := Go.Op.call { callee := Go.Callee.value (Go.Operand.func 39), args := #[Go.Operand.tmp 14], argTypes := #[60] }, type := 25, pos := "dues.go:54", after := #[{ on := 2, ground := Go.Ground.data }, { on := 1, ground := Go.Ground.chain }], guard := none }) rfl (fun K hK => ?_) AllReadyH.nil
  go_simp
  go_at_call 39
  refine (CheckDues_any P v2 _ (by omega) hHeld.q.2.1).mono ?_
  rintro e w1 ⟨rfl, hb⟩
  go_wp2_with fail
  refine hK.out _ _ ?_ (fun hHeld' => ?_)
  · exact hHeld.bl hb
  clear hK K hHeld
  have hHeld := hHeld'
  clear hHeld'
  try simp only [Act.put, List.setIfInBounds_toArray, List.set_cons_zero, List.set_cons_succ]
  refine wpAnyH_ready (rs := [5]) (by kernel_rfl) (by simp) ?_
  refine AllReadyH.cons (o := { dst := some 17, op := Go.Op.call { callee := Go.Callee.value (Go.Operand.func 51), args := #[Go.Operand.tmp 16], argTypes := #[3] }, type := 25, pos := "dues.go:54", after := #[{ on := 4, ground := Go.Ground.data }, { on := 3, ground := Go.Ground.chain }], guard := none }) rfl (fun K hK => ?_) AllReadyH.nil
  go_simp
  go_at_call 51
  refine (nCheckDay_any _ _).mono ?_
  rintro e w1 ⟨rfl, rfl⟩
  go_wp2_with fail
  refine hK.out _ _ ?_ (fun hHeld' => ?_)
  · exact hHeld
  clear hK K hHeld
  have hHeld := hHeld'
  clear hHeld'
  try simp only [Act.put, List.setIfInBounds_toArray, List.set_cons_zero, List.set_cons_succ]
  refine wpAnyH_ready (rs := [6]) (by kernel_rfl) (by simp) ?_
  refine AllReadyH.cons (o := { dst := some 18, op := Go.Op.buildSlice 121 3 #[(0, Go.Operand.tmp 13), (1, Go.Operand.tmp 15), (2, Go.Operand.tmp 17)], type := 121, pos := "dues.go:54", after := #[{ on := 1, ground := Go.Ground.data }, { on := 3, ground := Go.Ground.data }, { on := 5, ground := Go.Ground.data }], guard := none }) rfl (fun K hK => ?_) AllReadyH.nil
  go_simp
  have KH := Lib.hid hHeld
  refine hK.out _ _ ?_ (fun hHeld' => ?_)
  · exact KH.out.al _
  clear hK K hHeld
  have hHeld := hHeld'
  clear hHeld'
  try simp only [Act.put, List.setIfInBounds_toArray, List.set_cons_zero, List.set_cons_succ]
  refine wpAnyH_ready (rs := [7]) (by kernel_rfl) (by simp) ?_
  refine AllReadyH.cons (o := { dst := some 19, op := Go.Op.call { callee := Go.Callee.value (Go.Operand.func 49), args := #[Go.Operand.tmp 18], argTypes := #[121] }, type := 25, pos := "dues.go:54", after := #[{ on := 6, ground := Go.Ground.data }, { on := 5, ground := Go.Ground.chain }], guard := none }) rfl (fun K hK => ?_) AllReadyH.nil
  go_simp
  go_at_call 49
  refine (nFirstError_any [duesE D, duesE P, cdE [t]] _ 0 3 _ (by simp) (IntsAt.cons (by simp [go_sem]) (IntsAt.cons (by simp [go_sem]) (IntsAt.one (by simp [go_sem]))))).mono ?_
  rintro e w1 ⟨rfl, rfl⟩
  rw [HR.out]
  go_wp2_with fail
  refine hK.out _ _ ?_ (fun hHeld' => ?_)
  · exact hHeld
  clear hK K hHeld
  have hHeld := hHeld'
  clear hHeld'
  try simp only [Act.put, List.setIfInBounds_toArray, List.set_cons_zero, List.set_cons_succ]
  refine wpAnyH_take (i := 8) (oi := { dst := some 9, op := Go.Op.assign (Go.Operand.tmp 19), type := 25, pos := "dues.go:54", after := #[{ on := 7, ground := Go.Ground.data }, { on := 7, ground := Go.Ground.chain }, { on := 0, ground := Go.Ground.phase }, { on := 1, ground := Go.Ground.phase }, { on := 2, ground := Go.Ground.phase }, { on := 3, ground := Go.Ground.phase }, { on := 4, ground := Go.Ground.phase }, { on := 5, ground := Go.Ground.phase }, { on := 6, ground := Go.Ground.phase }, { on := 7, ground := Go.Ground.phase }], guard := none }) (v := ?_) rfl (by kernel_rfl) (by kernel_rfl) (by kernel_rfl) (fun _ _ _ h => h) (Or.inl ⟨by rfl, ?_⟩) (by assumption) ?_
  rotate_left
  · intro W hSw
    go_simp
    try with_reducible rfl
  try simp only [Act.put, List.setIfInBounds_toArray, List.set_cons_zero, List.set_cons_succ]
  refine wpAnyH_done (by kernel_rfl) ?_ _
  have HH := Lib.hid hHeld
  clear hHeld
  go_wp2
  go_ret3
  exact ⟨rfl, HH.out.b⟩

/-- what Open answers -/
def oE (t : Int) (D P : List Du) : Int := feE [duesE D, duesE P, cdE [t]]
def cE (D P : List Du) : Int := feE [duesE D, duesE P]
def oX (t : Int) (D P : List Du) : Int := if oE t D P = 0 then openM t D P else 0
def oY (t : Int) (D P : List Du) : Int := if oE t D P = 0 then leftM t D P else 0
def cL (D P : List Du) : List Int := if cE D P = 0 then coverM D P D.length else []
theorem cE_ok {D P : List Du} (h : cE D P = 0) : duesE D = 0 ∧ duesE P = 0 := by
  have := feE_alls h
  exact ⟨this _ (by simp), this _ (by simp)⟩
theorem oE_ok {t : Int} {D P : List Du} (h : oE t D P = 0) : duesE D = 0 ∧ duesE P = 0 := by
  have := feE_alls h
  exact ⟨this _ (by simp), this _ (by simp)⟩
theorem Open_all (v1 v2 : Value) (D P : List Du) (t : Int) (w : World) (h1 : LD w v1 D) (h2 : LD w v2 P) (lD : D.length ≤ 1000) (lP : P.length ≤ 1000) :
    Calls Try.prog 36 #[v1, v2, .int .i64 t] w (RetB (three (.int .i64 (oX t D P)) (.int .i64 (oY t D P)) (.int .i64 (oE t D P))) w) := by
  by_cases h : oE t D P = 0
  · obtain ⟨a, b⟩ := oE_ok h
    have := Open_ok v1 v2 D P t w h1 h2 h lD lP (du_is a).rt (du_is b).rt
    unfold oX oY
    rw [h]
    exact this
  · have := Open_bad v1 v2 D P t w h1 h2 _ rfl h (by omega) (by omega)
    unfold oX oY
    rw [if_neg h, if_neg h]
    exact this
theorem Cover_all (v1 v2 : Value) (D P : List Du) (w : World) (h1 : LD w v1 D) (h2 : LD w v2 P) (lD : D.length ≤ 1000) (lP : P.length ≤ 1000) :
    Calls Try.prog 37 #[v1, v2] w fun e w' => ∃ v, e = .returned (two v (.int .i64 (cE D P))) ∧ LI w' v (cL D P) ∧ Below w.heap.size w w' := by
  by_cases h : cE D P = 0
  · obtain ⟨a, b⟩ := cE_ok h
    refine (Cover_ok v1 v2 D P w h1 h2 h lD lP (du_is a).rt (du_is b).rt).mono ?_
    rintro e w' ⟨v, rfl, hI⟩
    unfold cL
    rw [if_pos h, h]
    exact ⟨v, rfl, hI.out.LI, hI.out.2⟩
  · refine (Cover_bad v1 v2 D P w h1 h2 _ rfl h (by omega) (by omega)).mono ?_
    rintro e w' ⟨rfl, hb⟩
    unfold cL
    rw [if_neg h]
    exact ⟨_, rfl, LI.nil _, hb⟩
end Go.Proofs.Ytcimceepkjpggaa
