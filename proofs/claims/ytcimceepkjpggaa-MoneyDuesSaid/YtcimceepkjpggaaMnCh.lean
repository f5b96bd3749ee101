/-
  The check of charges (package money): contracts.
-/
import Derived.Test.YtcimceepkjpggaaMnOn
import Derived.Deep.RegionHeld
namespace Go.Proofs.Ytcimceepkjpggaa
open Go.RowKit
attribute [local go_sem] set_drewN
/-- a charge in a box -/
def CgB (B : Nat) (r : Cg) (W : World) : Prop := W.cell? ⟨B, 0, none⟩ = some (.string r.nm) ∧ W.cell? ⟨B, 1, none⟩ = some (.int .i64 r.dy) ∧ W.cell? ⟨B, 2, none⟩ = some (.int .i64 r.un)
theorem CgB.keep {B : Nat} {r : Cg} {W W' : World} (h : CgB B r W) (hb : Below W.heap.size W W') : CgB B r W' := by
  have l := World.block_lt_of_cell? _ _ h.1
  exact ⟨(hb.cell (p := ⟨B, 0, none⟩) l).trans h.1, (hb.cell (p := ⟨B, 1, none⟩) l).trans h.2.1, (hb.cell (p := ⟨B, 2, none⟩) l).trans h.2.2⟩
theorem CgB.new (w : World) (r : Cg) : KQ (CgB w.heap.size r) w (w.alloc (.cells #[.string r.nm, .int .i64 r.dy, .int .i64 r.un] 53)) := by
  refine ⟨fun A B h hb => h.keep hb, ?_, (Below.refl _ _).alloc (Nat.le_refl _) _⟩
  unfold CgB
  simp [go_sem]
def chgE (L : List Ra) (r : Cg) : Int := feE [eI (!nameB r.nm) 4, eI (!(inB r.dy 0 200000 && inB r.un 1 10000)) 2, eI (decide ((rateM L r.nm r.dy).1 < 0)) 6]
def chgsE (L : List Ra) (C : List Cg) : Int := if 60 < C.length then 8 else feE (C.map (chgE L))
set_option maxRecDepth 100000 in
set_option maxHeartbeats 8000000 in
theorem chg1_n (L : List Ra) (BM : Nat) (r : Cg) (w : World) (R eM : Int) (hs : r.nm.size ≤ maxLen) (hl : L.length ≤ 200) (hT : TA L BM w) (h1 : inB r.dy 0 200000 = false) (hM : eI (decide ((rateM L r.nm r.dy).1 < 0)) 6 = eM) (hR : feE [eI (!nameB r.nm) 4, eI true 2, eM] = R) :
    Calls Try.prog 65 #[.map (some BM), r.val] w (RetB (.int .i64 R) w) := by
  have HK := Lib.hid (CgB.new w r)
  have HR := Lib.hid hR
  have H1 := Lib.hid h1
  have HM := Lib.hid hM
  have HT := Lib.hid hT
  clear hR h1 hM hT
  go_enter Try.func65, Try.ntmps65
  go_wp2_with fail
  refine (on_any L BM r.nm r.dy _ (HT.out.below ((Below.refl _ _).alloc (Nat.le_refl _) _)) hs hl).mono ?_
  rw [HM.out]
  rintro e w1 ⟨rfl, hb1⟩
  have HK1 := Lib.hid (HK.out.bl hb1)
  clear hb1 HK
  generalize (rateM L r.nm r.dy).2 = ct
  go_wp2_with fail
  refine wp_region_held_drew (S := (KQ (CgB w.heap.size r) w)) (by kernel_rfl) ?_ (fun hHeld => ?_)
  · exact HK1.out.dr
  refine wpAnyH_take (i := 0) (oi := { dst := some 16, op := Go.Op.fieldAddr 53 (Go.Operand.tmp 3) 0, type := 0, pos := "tariff.go:131", after := #[], guard := none }) (v := ?_) rfl (by kernel_rfl) (by kernel_rfl) (by kernel_rfl) (fun _ _ _ h => h) (Or.inl ⟨by rfl, ?_⟩) (by assumption) ?_
  rotate_left
  · intro W hSw
    go_simp
    try with_reducible rfl
  try simp only [Act.put, List.setIfInBounds_toArray, List.set_cons_zero, List.set_cons_succ]
  refine wpAnyH_take (i := 1) (oi := { dst := some 17, op := Go.Op.load 9 (Go.Operand.tmp 16), type := 9, pos := "tariff.go:131", after := #[{ on := 0, ground := Go.Ground.data }], guard := none }) (v := ?_) rfl (by kernel_rfl) (by kernel_rfl) (by kernel_rfl) (fun _ _ _ h => h) (Or.inl ⟨by rfl, ?_⟩) (by assumption) ?_
  rotate_left
  · intro W hSw
    obtain ⟨q0, q1, q2⟩ := hSw.q
    go_simp
    try with_reducible rfl
  try simp only [Act.put, List.setIfInBounds_toArray, List.set_cons_zero, List.set_cons_succ]
  refine wpAnyH_take (i := 3) (oi := { dst := some 19, op := Go.Op.fieldAddr 53 (Go.Operand.tmp 3) 1, type := 0, pos := "tariff.go:131", after := #[], guard := none }) (v := ?_) rfl (by kernel_rfl) (by kernel_rfl) (by kernel_rfl) (fun _ _ _ h => h) (Or.inl ⟨by rfl, ?_⟩) (by assumption) ?_
  rotate_left
  · intro W hSw
    go_simp
    try with_reducible rfl
  try simp only [Act.put, List.setIfInBounds_toArray, List.set_cons_zero, List.set_cons_succ]
  refine wpAnyH_take (i := 4) (oi := { dst := some 20, op := Go.Op.load 3 (Go.Operand.tmp 19), type := 3, pos := "tariff.go:131", after := #[{ on := 3, ground := Go.Ground.data }], guard := none }) (v := ?_) rfl (by kernel_rfl) (by kernel_rfl) (by kernel_rfl) (fun _ _ _ h => h) (Or.inl ⟨by rfl, ?_⟩) (by assumption) ?_
  rotate_left
  · intro W hSw
    obtain ⟨q0, q1, q2⟩ := hSw.q
    go_simp
    try with_reducible rfl
  try simp only [Act.put, List.setIfInBounds_toArray, List.set_cons_zero, List.set_cons_succ]
  refine wpAnyH_take (i := 14) (oi := { dst := some 30, op := Go.Op.move (Go.Operand.tmp 6), type := 25, pos := "tariff.go:131", after := #[], guard := none }) (v := ?_) rfl (by kernel_rfl) (by kernel_rfl) (by kernel_rfl) (fun _ _ _ h => h) (Or.inl ⟨by rfl, ?_⟩) (by assumption) ?_
  rotate_left
  · intro W hSw
    go_simp
    try with_reducible rfl
  try simp only [Act.put, List.setIfInBounds_toArray, List.set_cons_zero, List.set_cons_succ]
  refine wpAnyH_ready (rs := [2]) (by kernel_rfl) (by simp) ?_
  refine AllReadyH.cons (o := { dst := some 18, op := Go.Op.call { callee := Go.Callee.value (Go.Operand.func 50), args := #[Go.Operand.tmp 17], argTypes := #[9] }, type := 25, pos := "tariff.go:132", after := #[{ on := 1, ground := Go.Ground.data }], guard := none }) rfl (fun K hK => ?_) AllReadyH.nil
  go_simp
  go_at_call 50
  refine (nCheckName_any _ _ hs).mono ?_
  rintro e w1 ⟨rfl, rfl⟩
  go_wp2_with fail
  refine hK.out _ _ ?_ (fun hHeld' => ?_)
  · exact hHeld
  clear hK K hHeld
  have hHeld := hHeld'
  clear hHeld'
  try simp only [Act.put, List.setIfInBounds_toArray, List.set_cons_zero, List.set_cons_succ]
  refine wpAnyH_ready (rs := [5]) (by kernel_rfl) (by simp) ?_
  refine AllReadyH.cons (o := { dst := some 21, op := Go.Op.call { callee := Go.Callee.value (Go.Operand.func 54), args := #[Go.Operand.tmp 20], argTypes := #[3] }, type := 4, pos := "tariff.go:133", after := #[{ on := 4, ground := Go.Ground.data }, { on := 2, ground := Go.Ground.chain }], guard := none }) rfl (fun K hK => ?_) AllReadyH.nil
  go_simp
  go_at_call 54
  refine (nIsDay_any _ _).mono ?_
  rintro e w1 ⟨rfl, rfl⟩
  rw [H1.out]
  go_wp2_with fail
  refine hK.out _ _ ?_ (fun hHeld' => ?_)
  · exact hHeld
  clear hK K hHeld
  have hHeld := hHeld'
  clear hHeld'
  try simp only [Act.put, List.setIfInBounds_toArray, List.set_cons_zero, List.set_cons_succ]
  refine wpAnyH_take (i := 6) (oi := { dst := some 22, op := Go.Op.unOp Go.UnOp.not 4 (Go.Operand.tmp 21), type := 4, pos := "tariff.go:131", after := #[{ on := 5, ground := Go.Ground.data }], guard := none }) (v := ?_) rfl (by kernel_rfl) (by kernel_rfl) (by kernel_rfl) (fun _ _ _ h => h) (Or.inl ⟨by rfl, ?_⟩) (by assumption) ?_
  rotate_left
  · intro W hSw
    go_simp
    try with_reducible rfl
  try simp only [Act.put, List.setIfInBounds_toArray, List.set_cons_zero, List.set_cons_succ]
  refine wpAnyH_take (i := 7) (oi := { dst := some 23, op := Go.Op.move (Go.Operand.tmp 22), type := 4, pos := "tariff.go:131", after := #[{ on := 6, ground := Go.Ground.data }, { on := 5, ground := Go.Ground.chain }], guard := none }) (v := ?_) rfl (by kernel_rfl) (by kernel_rfl) (by kernel_rfl) (fun _ _ _ h => h) (Or.inl ⟨by rfl, ?_⟩) (by assumption) ?_
  rotate_left
  · intro W hSw
    go_simp
    try with_reducible rfl
  try simp only [Act.put, List.setIfInBounds_toArray, List.set_cons_zero, List.set_cons_succ]
  refine wpAnyH_take (i := 8) (oi := { dst := some 24, op := Go.Op.fieldAddr 53 (Go.Operand.tmp 3) 2, type := 0, pos := "tariff.go:131", after := #[{ on := 7, ground := Go.Ground.guard }], guard := some (7, false) }) (v := undef) rfl (by kernel_rfl) (by kernel_rfl) (by kernel_rfl) (fun _ _ _ h => h) (Or.inr ⟨by rfl, rfl⟩) (by assumption) ?_
  try simp only [Act.put, List.setIfInBounds_toArray, List.set_cons_zero, List.set_cons_succ]
  refine wpAnyH_take (i := 9) (oi := { dst := some 25, op := Go.Op.load 3 (Go.Operand.tmp 24), type := 3, pos := "tariff.go:131", after := #[{ on := 8, ground := Go.Ground.data }, { on := 7, ground := Go.Ground.guard }], guard := some (7, false) }) (v := undef) rfl (by kernel_rfl) (by kernel_rfl) (by kernel_rfl) (fun _ _ _ h => h) (Or.inr ⟨by rfl, rfl⟩) (by assumption) ?_
  try simp only [Act.put, List.setIfInBounds_toArray, List.set_cons_zero, List.set_cons_succ]
  refine wpAnyH_take (i := 10) (oi := { dst := some 26, op := Go.Op.call { callee := Go.Callee.value (Go.Operand.func 60), args := #[Go.Operand.tmp 25, Go.Operand.const (Go.Value.int Go.IntKind.i64 1), Go.Operand.const (Go.Value.int Go.IntKind.i64 10000)], argTypes := #[3, 3, 3] }, type := 4, pos := "tariff.go:133", after := #[{ on := 9, ground := Go.Ground.data }, { on := 7, ground := Go.Ground.chain }, { on := 7, ground := Go.Ground.guard }], guard := some (7, false) }) (v := undef) rfl (by kernel_rfl) (by kernel_rfl) (by kernel_rfl) (fun _ _ _ h => h) (Or.inr ⟨by rfl, rfl⟩) (by assumption) ?_
  try simp only [Act.put, List.setIfInBounds_toArray, List.set_cons_zero, List.set_cons_succ]
  refine wpAnyH_take (i := 11) (oi := { dst := some 27, op := Go.Op.unOp Go.UnOp.not 4 (Go.Operand.tmp 26), type := 4, pos := "tariff.go:131", after := #[{ on := 10, ground := Go.Ground.data }, { on := 7, ground := Go.Ground.guard }], guard := some (7, false) }) (v := undef) rfl (by kernel_rfl) (by kernel_rfl) (by kernel_rfl) (fun _ _ _ h => h) (Or.inr ⟨by rfl, rfl⟩) (by assumption) ?_
  try simp only [Act.put, List.setIfInBounds_toArray, List.set_cons_zero, List.set_cons_succ]
  refine wpAnyH_take (i := 12) (oi := { dst := some 28, op := Go.Op.pick (Go.Operand.tmp 23) (Go.Operand.const (Go.Value.bool true)) (Go.Operand.tmp 27), type := 4, pos := "tariff.go:131", after := #[{ on := 7, ground := Go.Ground.data }, { on := 11, ground := Go.Ground.data }], guard := none }) (v := ?_) rfl (by kernel_rfl) (by kernel_rfl) (by kernel_rfl) (fun _ _ _ h => h) (Or.inl ⟨by rfl, ?_⟩) (by assumption) ?_
  rotate_left
  · intro W hSw
    go_simp
    try with_reducible rfl
  try simp only [Act.put, List.setIfInBounds_toArray, List.set_cons_zero, List.set_cons_succ]
  refine wpAnyH_ready (rs := [13]) (by kernel_rfl) (by simp) ?_
  refine AllReadyH.cons (o := { dst := some 29, op := Go.Op.call { callee := Go.Callee.value (Go.Operand.func 59), args := #[Go.Operand.tmp 28, Go.Operand.const (Go.Value.int Go.IntKind.i64 2)], argTypes := #[4, 25] }, type := 25, pos := "tariff.go:133", after := #[{ on := 12, ground := Go.Ground.data }, { on := 10, ground := Go.Ground.chain }], guard := none }) rfl (fun K hK => ?_) AllReadyH.nil
  go_simp
  go_at_call 59
  refine (nErrorIf_any _ _ _).mono ?_
  rintro e w1 ⟨rfl, rfl⟩
  go_wp2_with fail
  refine hK.out _ _ ?_ (fun hHeld' => ?_)
  · exact hHeld
  clear hK K hHeld
  have hHeld := hHeld'
  clear hHeld'
  try simp only [Act.put, List.setIfInBounds_toArray, List.set_cons_zero, List.set_cons_succ]
  refine wpAnyH_ready (rs := [15]) (by kernel_rfl) (by simp) ?_
  refine AllReadyH.cons (o := { dst := some 31, op := Go.Op.buildSlice 121 3 #[(0, Go.Operand.tmp 18), (1, Go.Operand.tmp 29), (2, Go.Operand.tmp 30)], type := 121, pos := "tariff.go:131", after := #[{ on := 2, ground := Go.Ground.data }, { on := 13, ground := Go.Ground.data }, { on := 14, ground := Go.Ground.data }], guard := none }) rfl (fun K hK => ?_) AllReadyH.nil
  go_simp
  have KH := Lib.hid hHeld
  refine hK.out _ _ ?_ (fun hHeld' => ?_)
  · exact KH.out.al _
  clear hK K hHeld
  have hHeld := hHeld'
  clear hHeld'
  try simp only [Act.put, List.setIfInBounds_toArray, List.set_cons_zero, List.set_cons_succ]
  refine wpAnyH_ready (rs := [16]) (by kernel_rfl) (by simp) ?_
  refine AllReadyH.cons (o := { dst := some 32, op := Go.Op.call { callee := Go.Callee.value (Go.Operand.func 49), args := #[Go.Operand.tmp 31], argTypes := #[121] }, type := 25, pos := "tariff.go:131", after := #[{ on := 15, ground := Go.Ground.data }, { on := 13, ground := Go.Ground.chain }], guard := none }) rfl (fun K hK => ?_) AllReadyH.nil
  go_simp
  go_at_call 49
  refine (nFirstError_any [eI (!nameB r.nm) 4, eI true 2, eM] _ 0 3 _ (by simp) (IntsAt.cons (by simp [go_sem]) (IntsAt.cons (by simp [go_sem]) (IntsAt.one (by simp [go_sem]))))).mono ?_
  rintro e w1 ⟨rfl, rfl⟩
  rw [HR.out]
  go_wp2_with fail
  refine hK.out _ _ ?_ (fun hHeld' => ?_)
  · exact hHeld
  clear hK K hHeld
  have hHeld := hHeld'
  clear hHeld'
  try simp only [Act.put, List.setIfInBounds_toArray, List.set_cons_zero, List.set_cons_succ]
  refine wpAnyH_take (i := 17) (oi := { dst := some 4, op := Go.Op.assign (Go.Operand.tmp 32), type := 25, pos := "tariff.go:131", after := #[{ on := 16, ground := Go.Ground.data }, { on := 16, ground := Go.Ground.chain }, { on := 0, ground := Go.Ground.phase }, { on := 1, ground := Go.Ground.phase }, { on := 2, ground := Go.Ground.phase }, { on := 3, ground := Go.Ground.phase }, { on := 4, ground := Go.Ground.phase }, { on := 5, ground := Go.Ground.phase }, { on := 6, ground := Go.Ground.phase }, { on := 7, ground := Go.Ground.phase }, { on := 8, ground := Go.Ground.phase }, { on := 9, ground := Go.Ground.phase }, { on := 10, ground := Go.Ground.phase }, { on := 11, ground := Go.Ground.phase }, { on := 12, ground := Go.Ground.phase }, { on := 13, ground := Go.Ground.phase }, { on := 14, ground := Go.Ground.phase }, { on := 15, ground := Go.Ground.phase }, { on := 16, ground := Go.Ground.phase }], guard := none }) (v := ?_) rfl (by kernel_rfl) (by kernel_rfl) (by kernel_rfl) (fun _ _ _ h => h) (Or.inl ⟨by rfl, ?_⟩) (by assumption) ?_
  rotate_left
  · intro W hSw
    go_simp
    try with_reducible rfl
  try simp only [Act.put, List.setIfInBounds_toArray, List.set_cons_zero, List.set_cons_succ]
  refine wpAnyH_done (by kernel_rfl) ?_ _
  have HH := Lib.hid hHeld
  clear hHeld
  go_wp2
  go_ret
  exact ⟨rfl, HH.out.b⟩
set_option maxRecDepth 100000 in
set_option maxHeartbeats 8000000 in
theorem chg1_y (L : List Ra) (BM : Nat) (r : Cg) (w : World) (R eM : Int) (hs : r.nm.size ≤ maxLen) (hl : L.length ≤ 200) (hT : TA L BM w) (h1 : inB r.dy 0 200000 = true) (c : Bool) (hc : inB r.un 1 10000 = c) (hM : eI (decide ((rateM L r.nm r.dy).1 < 0)) 6 = eM) (hR : feE [eI (!nameB r.nm) 4, eI (!c) 2, eM] = R) :
    Calls Try.prog 65 #[.map (some BM), r.val] w (RetB (.int .i64 R) w) := by
  have HK := Lib.hid (CgB.new w r)
  have HR := Lib.hid hR
  have H1 := Lib.hid h1
  have HM := Lib.hid hM
  have HT := Lib.hid hT
  have HC := Lib.hid hc
  clear hR h1 hM hT hc
  go_enter Try.func65, Try.ntmps65
  go_wp2_with fail
  refine (on_any L BM r.nm r.dy _ (HT.out.below ((Below.refl _ _).alloc (Nat.le_refl _) _)) hs hl).mono ?_
  rw [HM.out]
  rintro e w1 ⟨rfl, hb1⟩
  have HK1 := Lib.hid (HK.out.bl hb1)
  clear hb1 HK
  generalize (rateM L r.nm r.dy).2 = ct
  go_wp2_with fail
  refine wp_region_held_drew (S := (KQ (CgB w.heap.size r) w)) (by kernel_rfl) ?_ (fun hHeld => ?_)
  · exact HK1.out.dr
  refine wpAnyH_take (i := 0) (oi := { dst := some 16, op := Go.Op.fieldAddr 53 (Go.Operand.tmp 3) 0, type := 0, pos := "tariff.go:131", after := #[], guard := none }) (v := ?_) rfl (by kernel_rfl) (by kernel_rfl) (by kernel_rfl) (fun _ _ _ h => h) (Or.inl ⟨by rfl, ?_⟩) (by assumption) ?_
  rotate_left
  · intro W hSw
    go_simp
    try with_reducible rfl
  try simp only [Act.put, List.setIfInBounds_toArray, List.set_cons_zero, List.set_cons_succ]
  refine wpAnyH_take (i := 1) (oi := { dst := some 17, op := Go.Op.load 9 (Go.Operand.tmp 16), type := 9, pos := "tariff.go:131", after := #[{ on := 0, ground := Go.Ground.data }], guard := none }) (v := ?_) rfl (by kernel_rfl) (by kernel_rfl) (by kernel_rfl) (fun _ _ _ h => h) (Or.inl ⟨by rfl, ?_⟩) (by assumption) ?_
  rotate_left
  · intro W hSw
    obtain ⟨q0, q1, q2⟩ := hSw.q
    go_simp
    try with_reducible rfl
  try simp only [Act.put, List.setIfInBounds_toArray, List.set_cons_zero, List.set_cons_succ]
  refine wpAnyH_take (i := 3) (oi := { dst := some 19, op := Go.Op.fieldAddr 53 (Go.Operand.tmp 3) 1, type := 0, pos := "tariff.go:131", after := #[], guard := none }) (v := ?_) rfl (by kernel_rfl) (by kernel_rfl) (by kernel_rfl) (fun _ _ _ h => h) (Or.inl ⟨by rfl, ?_⟩) (by assumption) ?_
  rotate_left
  · intro W hSw
    go_simp
    try with_reducible rfl
  try simp only [Act.put, List.setIfInBounds_toArray, List.set_cons_zero, List.set_cons_succ]
  refine wpAnyH_take (i := 4) (oi := { dst := some 20, op := Go.Op.load 3 (Go.Operand.tmp 19), type := 3, pos := "tariff.go:131", after := #[{ on := 3, ground := Go.Ground.data }], guard := none }) (v := ?_) rfl (by kernel_rfl) (by kernel_rfl) (by kernel_rfl) (fun _ _ _ h => h) (Or.inl ⟨by rfl, ?_⟩) (by assumption) ?_
  rotate_left
  · intro W hSw
    obtain ⟨q0, q1, q2⟩ := hSw.q
    go_simp
    try with_reducible rfl
  try simp only [Act.put, List.setIfInBounds_toArray, List.set_cons_zero, List.set_cons_succ]
  refine wpAnyH_take (i := 14) (oi := { dst := some 30, op := Go.Op.move (Go.Operand.tmp 6), type := 25, pos := "tariff.go:131", after := #[], guard := none }) (v := ?_) rfl (by kernel_rfl) (by kernel_rfl) (by kernel_rfl) (fun _ _ _ h => h) (Or.inl ⟨by rfl, ?_⟩) (by assumption) ?_
  rotate_left
  · intro W hSw
    go_simp
    try with_reducible rfl
  try simp only [Act.put, List.setIfInBounds_toArray, List.set_cons_zero, List.set_cons_succ]
  refine wpAnyH_ready (rs := [2]) (by kernel_rfl) (by simp) ?_
  refine AllReadyH.cons (o := { dst := some 18, op := Go.Op.call { callee := Go.Callee.value (Go.Operand.func 50), args := #[Go.Operand.tmp 17], argTypes := #[9] }, type := 25, pos := "tariff.go:132", after := #[{ on := 1, ground := Go.Ground.data }], guard := none }) rfl (fun K hK => ?_) AllReadyH.nil
  go_simp
  go_at_call 50
  refine (nCheckName_any _ _ hs).mono ?_
  rintro e w1 ⟨rfl, rfl⟩
  go_wp2_with fail
  refine hK.out _ _ ?_ (fun hHeld' => ?_)
  · exact hHeld
  clear hK K hHeld
  have hHeld := hHeld'
  clear hHeld'
  try simp only [Act.put, List.setIfInBounds_toArray, List.set_cons_zero, List.set_cons_succ]
  refine wpAnyH_ready (rs := [5]) (by kernel_rfl) (by simp) ?_
  refine AllReadyH.cons (o := { dst := some 21, op := Go.Op.call { callee := Go.Callee.value (Go.Operand.func 54), args := #[Go.Operand.tmp 20], argTypes := #[3] }, type := 4, pos := "tariff.go:133", after := #[{ on := 4, ground := Go.Ground.data }, { on := 2, ground := Go.Ground.chain }], guard := none }) rfl (fun K hK => ?_) AllReadyH.nil
  go_simp
  go_at_call 54
  refine (nIsDay_any _ _).mono ?_
  rintro e w1 ⟨rfl, rfl⟩
  rw [H1.out]
  go_wp2_with fail
  refine hK.out _ _ ?_ (fun hHeld' => ?_)
  · exact hHeld
  clear hK K hHeld
  have hHeld := hHeld'
  clear hHeld'
  try simp only [Act.put, List.setIfInBounds_toArray, List.set_cons_zero, List.set_cons_succ]
  refine wpAnyH_take (i := 6) (oi := { dst := some 22, op := Go.Op.unOp Go.UnOp.not 4 (Go.Operand.tmp 21), type := 4, pos := "tariff.go:131", after := #[{ on := 5, ground := Go.Ground.data }], guard := none }) (v := ?_) rfl (by kernel_rfl) (by kernel_rfl) (by kernel_rfl) (fun _ _ _ h => h) (Or.inl ⟨by rfl, ?_⟩) (by assumption) ?_
  rotate_left
  · intro W hSw
    go_simp
    try with_reducible rfl
  try simp only [Act.put, List.setIfInBounds_toArray, List.set_cons_zero, List.set_cons_succ]
  refine wpAnyH_take (i := 7) (oi := { dst := some 23, op := Go.Op.move (Go.Operand.tmp 22), type := 4, pos := "tariff.go:131", after := #[{ on := 6, ground := Go.Ground.data }, { on := 5, ground := Go.Ground.chain }], guard := none }) (v := ?_) rfl (by kernel_rfl) (by kernel_rfl) (by kernel_rfl) (fun _ _ _ h => h) (Or.inl ⟨by rfl, ?_⟩) (by assumption) ?_
  rotate_left
  · intro W hSw
    go_simp
    try with_reducible rfl
  try simp only [Act.put, List.setIfInBounds_toArray, List.set_cons_zero, List.set_cons_succ]
  refine wpAnyH_take (i := 8) (oi := { dst := some 24, op := Go.Op.fieldAddr 53 (Go.Operand.tmp 3) 2, type := 0, pos := "tariff.go:131", after := #[{ on := 7, ground := Go.Ground.guard }], guard := some (7, false) }) (v := ?_) rfl (by kernel_rfl) (by kernel_rfl) (by kernel_rfl) (fun _ _ _ h => h) (Or.inl ⟨by rfl, ?_⟩) (by assumption) ?_
  rotate_left
  · intro W hSw
    go_simp
    try with_reducible rfl
  try simp only [Act.put, List.setIfInBounds_toArray, List.set_cons_zero, List.set_cons_succ]
  refine wpAnyH_take (i := 9) (oi := { dst := some 25, op := Go.Op.load 3 (Go.Operand.tmp 24), type := 3, pos := "tariff.go:131", after := #[{ on := 8, ground := Go.Ground.data }, { on := 7, ground := Go.Ground.guard }], guard := some (7, false) }) (v := ?_) rfl (by kernel_rfl) (by kernel_rfl) (by kernel_rfl) (fun _ _ _ h => h) (Or.inl ⟨by rfl, ?_⟩) (by assumption) ?_
  rotate_left
  · intro W hSw
    obtain ⟨q0, q1, q2⟩ := hSw.q
    go_simp
    try with_reducible rfl
  try simp only [Act.put, List.setIfInBounds_toArray, List.set_cons_zero, List.set_cons_succ]
  refine wpAnyH_ready (rs := [10]) (by kernel_rfl) (by simp) ?_
  refine AllReadyH.cons (o := { dst := some 26, op := Go.Op.call { callee := Go.Callee.value (Go.Operand.func 60), args := #[Go.Operand.tmp 25, Go.Operand.const (Go.Value.int Go.IntKind.i64 1), Go.Operand.const (Go.Value.int Go.IntKind.i64 10000)], argTypes := #[3, 3, 3] }, type := 4, pos := "tariff.go:133", after := #[{ on := 9, ground := Go.Ground.data }, { on := 7, ground := Go.Ground.chain }, { on := 7, ground := Go.Ground.guard }], guard := some (7, false) }) rfl (fun K hK => ?_) AllReadyH.nil
  go_simp
  go_at_call 60
  refine (nIsFromTo_any _ _ _ _).mono ?_
  rintro e w1 ⟨rfl, rfl⟩
  rw [HC.out]
  go_wp2_with fail
  refine hK.out _ _ ?_ (fun hHeld' => ?_)
  · exact hHeld
  clear hK K hHeld
  have hHeld := hHeld'
  clear hHeld'
  try simp only [Act.put, List.setIfInBounds_toArray, List.set_cons_zero, List.set_cons_succ]
  refine wpAnyH_take (i := 11) (oi := { dst := some 27, op := Go.Op.unOp Go.UnOp.not 4 (Go.Operand.tmp 26), type := 4, pos := "tariff.go:131", after := #[{ on := 10, ground := Go.Ground.data }, { on := 7, ground := Go.Ground.guard }], guard := some (7, false) }) (v := ?_) rfl (by kernel_rfl) (by kernel_rfl) (by kernel_rfl) (fun _ _ _ h => h) (Or.inl ⟨by rfl, ?_⟩) (by assumption) ?_
  rotate_left
  · intro W hSw
    go_simp
    try with_reducible rfl
  try simp only [Act.put, List.setIfInBounds_toArray, List.set_cons_zero, List.set_cons_succ]
  refine wpAnyH_take (i := 12) (oi := { dst := some 28, op := Go.Op.pick (Go.Operand.tmp 23) (Go.Operand.const (Go.Value.bool true)) (Go.Operand.tmp 27), type := 4, pos := "tariff.go:131", after := #[{ on := 7, ground := Go.Ground.data }, { on := 11, ground := Go.Ground.data }], guard := none }) (v := ?_) rfl (by kernel_rfl) (by kernel_rfl) (by kernel_rfl) (fun _ _ _ h => h) (Or.inl ⟨by rfl, ?_⟩) (by assumption) ?_
  rotate_left
  · intro W hSw
    go_simp
    try with_reducible rfl
  try simp only [Act.put, List.setIfInBounds_toArray, List.set_cons_zero, List.set_cons_succ]
  refine wpAnyH_ready (rs := [13]) (by kernel_rfl) (by simp) ?_
  refine AllReadyH.cons (o := { dst := some 29, op := Go.Op.call { callee := Go.Callee.value (Go.Operand.func 59), args := #[Go.Operand.tmp 28, Go.Operand.const (Go.Value.int Go.IntKind.i64 2)], argTypes := #[4, 25] }, type := 25, pos := "tariff.go:133", after := #[{ on := 12, ground := Go.Ground.data }, { on := 10, ground := Go.Ground.chain }], guard := none }) rfl (fun K hK => ?_) AllReadyH.nil
  go_simp
  go_at_call 59
  refine (nErrorIf_any _ _ _).mono ?_
  rintro e w1 ⟨rfl, rfl⟩
  go_wp2_with fail
  refine hK.out _ _ ?_ (fun hHeld' => ?_)
  · exact hHeld
  clear hK K hHeld
  have hHeld := hHeld'
  clear hHeld'
  try simp only [Act.put, List.setIfInBounds_toArray, List.set_cons_zero, List.set_cons_succ]
  refine wpAnyH_ready (rs := [15]) (by kernel_rfl) (by simp) ?_
  refine AllReadyH.cons (o := { dst := some 31, op := Go.Op.buildSlice 121 3 #[(0, Go.Operand.tmp 18), (1, Go.Operand.tmp 29), (2, Go.Operand.tmp 30)], type := 121, pos := "tariff.go:131", after := #[{ on := 2, ground := Go.Ground.data }, { on := 13, ground := Go.Ground.data }, { on := 14, ground := Go.Ground.data }], guard := none }) rfl (fun K hK => ?_) AllReadyH.nil
  go_simp
  have KH := Lib.hid hHeld
  refine hK.out _ _ ?_ (fun hHeld' => ?_)
  · exact KH.out.al _
  clear hK K hHeld
  have hHeld := hHeld'
  clear hHeld'
  try simp only [Act.put, List.setIfInBounds_toArray, List.set_cons_zero, List.set_cons_succ]
  refine wpAnyH_ready (rs := [16]) (by kernel_rfl) (by simp) ?_
  refine AllReadyH.cons (o := { dst := some 32, op := Go.Op.call { callee := Go.Callee.value (Go.Operand.func 49), args := #[Go.Operand.tmp 31], argTypes := #[121] }, type := 25, pos := "tariff.go:131", after := #[{ on := 15, ground := Go.Ground.data }, { on := 13, ground := Go.Ground.chain }], guard := none }) rfl (fun K hK => ?_) AllReadyH.nil
  go_simp
  go_at_call 49
  refine (nFirstError_any [eI (!nameB r.nm) 4, eI (!c) 2, eM] _ 0 3 _ (by simp) (IntsAt.cons (by simp [go_sem]) (IntsAt.cons (by simp [go_sem]) (IntsAt.one (by simp [go_sem]))))).mono ?_
  rintro e w1 ⟨rfl, rfl⟩
  rw [HR.out]
  go_wp2_with fail
  refine hK.out _ _ ?_ (fun hHeld' => ?_)
  · exact hHeld
  clear hK K hHeld
  have hHeld := hHeld'
  clear hHeld'
  try simp only [Act.put, List.setIfInBounds_toArray, List.set_cons_zero, List.set_cons_succ]
  refine wpAnyH_take (i := 17) (oi := { dst := some 4, op := Go.Op.assign (Go.Operand.tmp 32), type := 25, pos := "tariff.go:131", after := #[{ on := 16, ground := Go.Ground.data }, { on := 16, ground := Go.Ground.chain }, { on := 0, ground := Go.Ground.phase }, { on := 1, ground := Go.Ground.phase }, { on := 2, ground := Go.Ground.phase }, { on := 3, ground := Go.Ground.phase }, { on := 4, ground := Go.Ground.phase }, { on := 5, ground := Go.Ground.phase }, { on := 6, ground := Go.Ground.phase }, { on := 7, ground := Go.Ground.phase }, { on := 8, ground := Go.Ground.phase }, { on := 9, ground := Go.Ground.phase }, { on := 10, ground := Go.Ground.phase }, { on := 11, ground := Go.Ground.phase }, { on := 12, ground := Go.Ground.phase }, { on := 13, ground := Go.Ground.phase }, { on := 14, ground := Go.Ground.phase }, { on := 15, ground := Go.Ground.phase }, { on := 16, ground := Go.Ground.phase }], guard := none }) (v := ?_) rfl (by kernel_rfl) (by kernel_rfl) (by kernel_rfl) (fun _ _ _ h => h) (Or.inl ⟨by rfl, ?_⟩) (by assumption) ?_
  rotate_left
  · intro W hSw
    go_simp
    try with_reducible rfl
  try simp only [Act.put, List.setIfInBounds_toArray, List.set_cons_zero, List.set_cons_succ]
  refine wpAnyH_done (by kernel_rfl) ?_ _
  have HH := Lib.hid hHeld
  clear hHeld
  go_wp2
  go_ret
  exact ⟨rfl, HH.out.b⟩
theorem chg1_any (L : List Ra) (BM : Nat) (r : Cg) (w : World) (hs : r.nm.size ≤ maxLen) (hl : L.length ≤ 200) (hT : TA L BM w) :
    Calls Try.prog 65 #[.map (some BM), r.val] w (RetB (.int .i64 (chgE L r)) w) := by
  cases h1 : inB r.dy 0 200000
  · exact chg1_n L BM r w _ _ hs hl hT h1 rfl (by unfold chgE; rw [h1]; rfl)
  · exact chg1_y L BM r w _ _ hs hl hT h1 _ rfl rfl (by unfold chgE; rw [h1]; rfl)
set_option maxRecDepth 100000 in
set_option maxHeartbeats 2000000 in
theorem each_chg (Lr : List Ra) (BM : Nat) (L : List Cg) (v : Value) (w : World) (hl : L.length ≤ 1000000000000) (hlr : Lr.length ≤ 200) (hn : ∀ r ∈ L, r.nm.size ≤ maxLen) (hT : TA Lr BM w) (hv : LG cgC 3 w v L) :
    Calls Try.prog 64 #[v, .int .i64 60, .func (.func 65) #[.map (some BM)] #[]] w (RetB (.int .i64 (chgsE Lr L)) w) := by
  obtain ⟨a, cp, rfl, -, hp⟩ := hv
  have HP := Lib.hid hp
  have HN := Lib.hid hn
  have HT := Lib.hid hT
  clear hp hn hT
  by_cases h2 : 60 < L.length
  · have e : chgsE Lr L = 8 := by unfold chgsE; rw [if_pos h2]
    rw [e]
    clear e
    go_enter Try.func64, Try.ntmps64
    go_wp2
    go_ret
    exact ⟨rfl, Below.refl _ _⟩
  · have e : chgsE Lr L = feE (L.map (chgE Lr)) := by unfold chgsE; rw [if_neg h2]
    obtain ⟨R, hR⟩ : ∃ R, feE (L.map (chgE Lr)) = R := ⟨_, rfl⟩
    rw [e, hR]
    have HR := Lib.hid hR
    have d100 : decide (60 < L.length) = false := decide_eq_false h2
    clear e hR
    go_enter Try.func64, Try.ntmps64
    go_wp2
    go_loopw [16] (fun i wr => ∃ k : Nat, k ≤ L.length ∧ i = .int .i64 k ∧ Hid (∀ x ∈ (L.map (chgE Lr)).take k, x = 0) ∧ Hid (Below w.heap.size w wr)) (fun i _ => L.length - (intOf i).toNat)
    case atStart => exact ⟨0, Nat.zero_le _, rfl, Lib.hid (by simp), Lib.hid (Below.refl _ _)⟩
    case round =>
      obtain ⟨k, hk, rfl, HA, HB⟩ := hrel
      have hsz := HB.out.size
      by_cases hlt : k < L.length
      · have hne : L ≠ [] := by rintro rfl; simp at hlt
        obtain ⟨b, o, rfl, hd⟩ := HP.out hne
        have hd2 := (hd.below HB.out).2 k hlt
        have c0 := hd2 0 _ rfl
        have c1 := hd2 1 _ rfl
        have c2 := hd2 2 _ rfl
        rw [Nat.add_zero] at c0
        have CK := Lib.hid (fun ob => chg1_any Lr BM L[k] (wr.alloc ob) (HN.out _ (List.getElem_mem hlt)) hlr (HT.out.below (HB.out.alloc hsz ob)))
        clear hd hd2
        by_cases hz : chgE Lr L[k] = 0
        · have HA2 := Lib.hid (eachG_ok hlt HA.out hz)
          rw [hz] at CK
          clear hz
          generalize L[k] = d at *
          go_wp2_with (go_at_call 65; refine (CK.out _).mono ?_; rintro e w2 ⟨rfl, hb2⟩; have q2 := hb2.size; have B2 := Lib.hid hb2; clear hb2)
          go_roundw
          case rel => exact ⟨k + 1, by omega, by go_num, HA2, Lib.hid ((HB.out.alloc hsz _).trans (B2.out.mono (by simp; omega)))⟩
          case measure => simp [intOf]; omega
        · have HRk := (eachG_bad hlt HA.out hz).symm.trans HR.out
          rw [HRk] at CK
          have hz2 : ¬ R = 0 := fun h => hz (HRk.trans h)
          have hzb : (R != 0) = true := by simpa using hz2
          clear hz HRk
          generalize L[k] = d at *
          go_wp2_with (go_at_call 65; refine (CK.out _).mono ?_; rintro e w2 ⟨rfl, hb2⟩; have q2 := hb2.size; have B2 := Lib.hid hb2; clear hb2)
          go_ret
          exact ⟨rfl, (HB.out.alloc hsz _).trans (B2.out.mono (by simp; omega))⟩
      · obtain rfl : k = L.length := by omega
        have e0 : R = 0 := HR.out.symm.trans (eachG_all HA.out)
        subst e0
        go_wp2
        go_ret
        exact ⟨rfl, HB.out⟩
end Go.Proofs.Ytcimceepkjpggaa
