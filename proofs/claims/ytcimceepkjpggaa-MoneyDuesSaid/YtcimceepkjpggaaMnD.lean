/-
  The check of one amount behind a day (package money): a contract for all worlds.
-/
import Derived.Test.YtcimceepkjpggaaMnM
import Derived.Deep.RegionHeld
namespace Go.Proofs.Ytcimceepkjpggaa
open Go.RowKit
attribute [local go_sem] set_drewN
/-- what the check of an amount finds: its own box, and the closure on the day before -/
structure SD (B0 B1 b : Nat) (dy ct : Int) (W : World) : Prop where
  q0 : W.cell? ⟨b, 0, none⟩ = some (.int .i64 dy)
  q1 : W.cell? ⟨b, 1, none⟩ = some (.int .i64 ct)
  q2 : W.cell? ⟨B1, 0, none⟩ = some (ascF B0)
  l0 : b < W.heap.size
  l1 : B1 < W.heap.size
  n0 : b ≠ B0
  n1 : B1 ≠ B0
def SDw (B0 B1 : Nat) (w : World) (dy ct : Int) (W : World) : Prop := SD B0 B1 w.heap.size dy ct W ∧ w.grownBy W (some B0)
theorem SDw.gb {B0 B1 : Nat} {w W W' : World} {dy ct : Int} (h : SDw B0 B1 w dy ct W) (g : W.grownBy W' (some B0)) : SDw B0 B1 w dy ct W' := by
  obtain ⟨⟨q0, q1, q2, l0, l1, n0, n1⟩, hg⟩ := h
  exact ⟨⟨g.cell q0 (fun e => n0 (Option.some.inj e)), g.cell q1 (fun e => n0 (Option.some.inj e)), g.cell q2 (fun e => n1 (Option.some.inj e)), Nat.lt_of_lt_of_le l0 g.size, Nat.lt_of_lt_of_le l1 g.size, n0, n1⟩, hg.trans g⟩
theorem SDw.dr {B0 B1 : Nat} {w W : World} {dy ct : Int} (h : SDw B0 B1 w dy ct W) : SDw B0 B1 w dy ct W.drew := h.gb ⟨rfl, rfl, rfl, Nat.le_refl _, fun _ _ _ => rfl⟩
theorem SDw.al {B0 B1 : Nat} {w W : World} {dy ct : Int} (h : SDw B0 B1 w dy ct W) (o : Obj) : SDw B0 B1 w dy ct (W.alloc o) := h.gb (World.grownBy_alloc _ _ _)
theorem SDw.set {B0 B1 : Nat} {w W : World} {dy ct : Int} (h : SDw B0 B1 w dy ct W) (v : Value) : SDw B0 B1 w dy ct (W.setCell ⟨B0, 0, none⟩ v) := h.gb (gb_set v)
theorem SDw.new {B0 B1 : Nat} {w : World} {dy ct : Int} (h1 : w.cell? ⟨B1, 0, none⟩ = some (ascF B0)) (l0 : B0 < w.heap.size) (l1 : B1 < w.heap.size) (n1 : B1 ≠ B0) :
    SDw B0 B1 w dy ct (w.alloc (.cells #[.int .i64 dy, .int .i64 ct] 69)) := by
  refine ⟨⟨by simp [go_sem], by simp [go_sem], ?_, by simp, by simp; omega, by omega, n1⟩, World.grownBy_alloc _ _ _⟩
  exact ((Below.refl w.heap.size w).alloc (Nat.le_refl _) _).cell (p := ⟨B1, 0, none⟩) l1 |>.trans h1
theorem set_al_cell {W : World} {B : Nat} (v : Value) (o : Obj) {x : Value} (hx : W.cell? ⟨B, 0, none⟩ = some x) : ((W.setCell ⟨B, 0, none⟩ v).alloc o).cell? ⟨B, 0, none⟩ = some v := by
  have h := World.cell?_setCell_same W ⟨B, 0, none⟩ v hx
  have hb := (Below.refl (W.setCell ⟨B, 0, none⟩ v).heap.size (W.setCell ⟨B, 0, none⟩ v)).alloc (Nat.le_refl _) o
  exact (hb.cell (p := ⟨B, 0, none⟩) (World.block_lt_of_cell? _ _ h)).trans h
theorem set_al_frozen {W : World} {B : Nat} (v : Value) (o : Obj) {x : Value} (hx : W.cell? ⟨B, 0, none⟩ = some x) (hf : W.frozen? ⟨B, 0, none⟩ = false) : ((W.setCell ⟨B, 0, none⟩ v).alloc o).frozen? ⟨B, 0, none⟩ = false := by
  have h := World.cell?_setCell_same W ⟨B, 0, none⟩ v hx
  have hb := (Below.refl (W.setCell ⟨B, 0, none⟩ v).heap.size (W.setCell ⟨B, 0, none⟩ v)).alloc (Nat.le_refl _) o
  exact (hb.frozen (p := ⟨B, 0, none⟩) (World.block_lt_of_cell? _ _ h)).trans ((World.frozen?_setCell _ _ _ _).trans hf)
/-- what it leaves -/
def DuPost (B0 : Nat) (w : World) (dy r : Int) : Ending → World → Prop := fun e w' => e = .returned (.int .i64 r) ∧ w.grownBy w' (some B0) ∧ w'.cell? ⟨B0, 0, none⟩ = some (.int .i64 dy) ∧ w'.frozen? ⟨B0, 0, none⟩ = false
set_option maxRecDepth 100000 in
set_option maxHeartbeats 4000000 in
theorem dues1_y (d : Du) (p : Int) (B0 B1 : Nat) (w : World) (r : Int) (hd : inB d.day 0 200000 = true) (c : Bool) (hc : inB d.cents 0 1000000000000 = c) (h1 : w.cell? ⟨B1, 0, none⟩ = some (ascF B0)) (h0 : w.cell? ⟨B0, 0, none⟩ = some (.int .i64 p)) (hf : w.frozen? ⟨B0, 0, none⟩ = false) (l0 : B0 < w.heap.size) (l1 : B1 < w.heap.size) (n1 : B1 ≠ B0) (hr : feE [eI (!c) 2, eI (decide (d.day < p)) 9] = r) :
    Calls Try.prog 74 #[d.val, .pointer (some ⟨B1, 0, none⟩)] w (DuPost B0 w d.day r) := by
  have HS := Lib.hid (SDw.new (dy := d.day) (ct := d.cents) h1 l0 l1 n1)
  have hb := (Below.refl w.heap.size w).alloc (Nat.le_refl _) (.cells #[.int .i64 d.day, .int .i64 d.cents] 69)
  have HP := Lib.hid (show (w.alloc (.cells #[.int .i64 d.day, .int .i64 d.cents] 69)).drew.cell? ⟨B0, 0, none⟩ = some (.int .i64 p) from (hb.cell (p := ⟨B0, 0, none⟩) l0).trans h0)
  have HF := Lib.hid (show (w.alloc (.cells #[.int .i64 d.day, .int .i64 d.cents] 69)).drew.frozen? ⟨B0, 0, none⟩ = false from (hb.frozen (p := ⟨B0, 0, none⟩) l0).trans hf)
  have HL0 := Lib.hid l0
  have HR := Lib.hid hr
  have HD := Lib.hid hd
  have HC := Lib.hid hc
  clear h1 h0 hf l0 l1 n1 hr hd hb hc
  go_enter Try.func74, Try.ntmps74
  go_wp2
  refine wp_region_held_drew (S := SDw B0 B1 w d.day d.cents) (by kernel_rfl) ?_ (fun hHeld => ?_)
  · exact HS.out.dr
  refine wpAnyH_take (i := 0) (oi := { dst := some 4, op := Go.Op.fieldAddr 69 (Go.Operand.tmp 2) 0, type := 0, pos := "dues.go:48", after := #[], guard := none }) (v := ?_) rfl (by kernel_rfl) (by kernel_rfl) (by kernel_rfl) (fun _ _ _ h => h) (Or.inl ⟨by rfl, ?_⟩) (by assumption) ?_
  rotate_left
  · intro W hSw
    go_simp
    try with_reducible rfl
  try simp only [Act.put, List.setIfInBounds_toArray, List.set_cons_zero, List.set_cons_succ]
  refine wpAnyH_take (i := 1) (oi := { dst := some 5, op := Go.Op.load 3 (Go.Operand.tmp 4), type := 3, pos := "dues.go:48", after := #[{ on := 0, ground := Go.Ground.data }], guard := none }) (v := ?_) rfl (by kernel_rfl) (by kernel_rfl) (by kernel_rfl) (fun _ _ _ h => h) (Or.inl ⟨by rfl, ?_⟩) (by assumption) ?_
  rotate_left
  · intro W hSw
    have q0 := hSw.1.q0
    have q1 := hSw.1.q1
    have q2 := hSw.1.q2
    go_simp
    try with_reducible rfl
  try simp only [Act.put, List.setIfInBounds_toArray, List.set_cons_zero, List.set_cons_succ]
  refine wpAnyH_take (i := 11) (oi := { dst := some 15, op := Go.Op.load 95 (Go.Operand.tmp 1), type := 95, pos := "dues.go:48", after := #[], guard := none }) (v := ?_) rfl (by kernel_rfl) (by kernel_rfl) (by kernel_rfl) (fun _ _ _ h => h) (Or.inl ⟨by rfl, ?_⟩) (by assumption) ?_
  rotate_left
  · intro W hSw
    have q0 := hSw.1.q0
    have q1 := hSw.1.q1
    have q2 := hSw.1.q2
    go_simp
    try with_reducible rfl
  try simp only [Act.put, List.setIfInBounds_toArray, List.set_cons_zero, List.set_cons_succ]
  refine wpAnyH_take (i := 12) (oi := { dst := some 16, op := Go.Op.fieldAddr 69 (Go.Operand.tmp 2) 0, type := 0, pos := "dues.go:48", after := #[], guard := none }) (v := ?_) rfl (by kernel_rfl) (by kernel_rfl) (by kernel_rfl) (fun _ _ _ h => h) (Or.inl ⟨by rfl, ?_⟩) (by assumption) ?_
  rotate_left
  · intro W hSw
    go_simp
    try with_reducible rfl
  try simp only [Act.put, List.setIfInBounds_toArray, List.set_cons_zero, List.set_cons_succ]
  refine wpAnyH_take (i := 13) (oi := { dst := some 17, op := Go.Op.load 3 (Go.Operand.tmp 16), type := 3, pos := "dues.go:48", after := #[{ on := 12, ground := Go.Ground.data }], guard := none }) (v := ?_) rfl (by kernel_rfl) (by kernel_rfl) (by kernel_rfl) (fun _ _ _ h => h) (Or.inl ⟨by rfl, ?_⟩) (by assumption) ?_
  rotate_left
  · intro W hSw
    have q0 := hSw.1.q0
    have q1 := hSw.1.q1
    have q2 := hSw.1.q2
    go_simp
    try with_reducible rfl
  try simp only [Act.put, List.setIfInBounds_toArray, List.set_cons_zero, List.set_cons_succ]
  refine wpAnyH_ready (rs := [2]) (by kernel_rfl) (by simp) ?_
  refine AllReadyH.cons (o := { dst := some 6, op := Go.Op.call { callee := Go.Callee.value (Go.Operand.func 54), args := #[Go.Operand.tmp 5], argTypes := #[3] }, type := 4, pos := "dues.go:48", after := #[{ on := 1, ground := Go.Ground.data }], guard := none }) rfl (fun K hK => ?_) AllReadyH.nil
  go_simp
  go_at_call 54
  refine (nIsDay_any _ _).mono ?_
  rintro e w1 ⟨rfl, rfl⟩
  rw [HD.out]
  go_wp2_with fail
  refine hK.out _ _ ?_ (fun hHeld' => ?_)
  · exact hHeld
  clear hK K hHeld
  have hHeld := hHeld'
  clear hHeld'
  try simp only [Act.put, List.setIfInBounds_toArray, List.set_cons_zero, List.set_cons_succ]
  refine wpAnyH_take (i := 3) (oi := { dst := some 7, op := Go.Op.unOp Go.UnOp.not 4 (Go.Operand.tmp 6), type := 4, pos := "dues.go:48", after := #[{ on := 2, ground := Go.Ground.data }], guard := none }) (v := ?_) rfl (by kernel_rfl) (by kernel_rfl) (by kernel_rfl) (fun _ _ _ h => h) (Or.inl ⟨by rfl, ?_⟩) (by assumption) ?_
  rotate_left
  · intro W hSw
    go_simp
    try with_reducible rfl
  try simp only [Act.put, List.setIfInBounds_toArray, List.set_cons_zero, List.set_cons_succ]
  refine wpAnyH_take (i := 4) (oi := { dst := some 8, op := Go.Op.move (Go.Operand.tmp 7), type := 4, pos := "dues.go:48", after := #[{ on := 3, ground := Go.Ground.data }, { on := 2, ground := Go.Ground.chain }], guard := none }) (v := ?_) rfl (by kernel_rfl) (by kernel_rfl) (by kernel_rfl) (fun _ _ _ h => h) (Or.inl ⟨by rfl, ?_⟩) (by assumption) ?_
  rotate_left
  · intro W hSw
    go_simp
    try with_reducible rfl
  try simp only [Act.put, List.setIfInBounds_toArray, List.set_cons_zero, List.set_cons_succ]
  refine wpAnyH_take (i := 5) (oi := { dst := some 9, op := Go.Op.fieldAddr 69 (Go.Operand.tmp 2) 1, type := 0, pos := "dues.go:48", after := #[{ on := 4, ground := Go.Ground.guard }], guard := some (4, false) }) (v := ?_) rfl (by kernel_rfl) (by kernel_rfl) (by kernel_rfl) (fun _ _ _ h => h) (Or.inl ⟨by rfl, ?_⟩) (by assumption) ?_
  rotate_left
  · intro W hSw
    go_simp
    try with_reducible rfl
  try simp only [Act.put, List.setIfInBounds_toArray, List.set_cons_zero, List.set_cons_succ]
  refine wpAnyH_take (i := 6) (oi := { dst := some 10, op := Go.Op.load 3 (Go.Operand.tmp 9), type := 3, pos := "dues.go:48", after := #[{ on := 5, ground := Go.Ground.data }, { on := 4, ground := Go.Ground.guard }], guard := some (4, false) }) (v := ?_) rfl (by kernel_rfl) (by kernel_rfl) (by kernel_rfl) (fun _ _ _ h => h) (Or.inl ⟨by rfl, ?_⟩) (by assumption) ?_
  rotate_left
  · intro W hSw
    have q0 := hSw.1.q0
    have q1 := hSw.1.q1
    have q2 := hSw.1.q2
    go_simp
    try with_reducible rfl
  try simp only [Act.put, List.setIfInBounds_toArray, List.set_cons_zero, List.set_cons_succ]
  refine wpAnyH_ready (rs := [7]) (by kernel_rfl) (by simp) ?_
  refine AllReadyH.cons (o := { dst := some 11, op := Go.Op.call { callee := Go.Callee.value (Go.Operand.func 60), args := #[Go.Operand.tmp 10, Go.Operand.const (Go.Value.int Go.IntKind.i64 0), Go.Operand.const (Go.Value.int Go.IntKind.i64 1000000000000)], argTypes := #[3, 3, 3] }, type := 4, pos := "dues.go:48", after := #[{ on := 6, ground := Go.Ground.data }, { on := 4, ground := Go.Ground.chain }, { on := 4, ground := Go.Ground.guard }], guard := some (4, false) }) rfl (fun K hK => ?_) AllReadyH.nil
  go_simp
  go_at_call 60
  refine (nIsFromTo_any _ _ _ _).mono ?_
  rintro e w1 ⟨rfl, rfl⟩
  rw [HC.out]
  go_wp2_with fail
  refine hK.out _ _ ?_ (fun hHeld' => ?_)
  · exact hHeld
  clear hK K hHeld
  have hHeld := hHeld'
  clear hHeld'
  try simp only [Act.put, List.setIfInBounds_toArray, List.set_cons_zero, List.set_cons_succ]
  refine wpAnyH_take (i := 8) (oi := { dst := some 12, op := Go.Op.unOp Go.UnOp.not 4 (Go.Operand.tmp 11), type := 4, pos := "dues.go:48", after := #[{ on := 7, ground := Go.Ground.data }, { on := 4, ground := Go.Ground.guard }], guard := some (4, false) }) (v := ?_) rfl (by kernel_rfl) (by kernel_rfl) (by kernel_rfl) (fun _ _ _ h => h) (Or.inl ⟨by rfl, ?_⟩) (by assumption) ?_
  rotate_left
  · intro W hSw
    go_simp
    try with_reducible rfl
  try simp only [Act.put, List.setIfInBounds_toArray, List.set_cons_zero, List.set_cons_succ]
  refine wpAnyH_take (i := 9) (oi := { dst := some 13, op := Go.Op.pick (Go.Operand.tmp 8) (Go.Operand.const (Go.Value.bool true)) (Go.Operand.tmp 12), type := 4, pos := "dues.go:48", after := #[{ on := 4, ground := Go.Ground.data }, { on := 8, ground := Go.Ground.data }], guard := none }) (v := ?_) rfl (by kernel_rfl) (by kernel_rfl) (by kernel_rfl) (fun _ _ _ h => h) (Or.inl ⟨by rfl, ?_⟩) (by assumption) ?_
  rotate_left
  · intro W hSw
    go_simp
    try with_reducible rfl
  try simp only [Act.put, List.setIfInBounds_toArray, List.set_cons_zero, List.set_cons_succ]
  refine wpAnyH_ready (rs := [10]) (by kernel_rfl) (by simp) ?_
  refine AllReadyH.cons (o := { dst := some 14, op := Go.Op.call { callee := Go.Callee.value (Go.Operand.func 59), args := #[Go.Operand.tmp 13, Go.Operand.const (Go.Value.int Go.IntKind.i64 2)], argTypes := #[4, 25] }, type := 25, pos := "dues.go:48", after := #[{ on := 9, ground := Go.Ground.data }, { on := 7, ground := Go.Ground.chain }], guard := none }) rfl (fun K hK => ?_) AllReadyH.nil
  go_simp
  go_at_call 59
  refine (nErrorIf_any _ _ _).mono ?_
  rintro e w1 ⟨rfl, rfl⟩
  go_wp2_with fail
  refine hK.out _ _ ?_ (fun hHeld' => ?_)
  · exact hHeld
  clear hK K hHeld
  have hHeld := hHeld'
  clear hHeld'
  try simp only [Act.put, List.setIfInBounds_toArray, List.set_cons_zero, List.set_cons_succ]
  refine wpAnyH_ready (rs := [14]) (by kernel_rfl) (by simp) ?_
  refine AllReadyH.cons (o := { dst := some 18, op := Go.Op.call { callee := Go.Callee.value (Go.Operand.tmp 15), args := #[Go.Operand.tmp 17], argTypes := #[3] }, type := 25, pos := "dues.go:48", after := #[{ on := 11, ground := Go.Ground.data }, { on := 13, ground := Go.Ground.data }, { on := 10, ground := Go.Ground.chain }], guard := none }) rfl (fun K hK => ?_) AllReadyH.nil
  go_simp
  go_at_call 85
  refine (asc1_any B0 _ p _ HP.out HF.out).mono ?_
  rintro e w1 ⟨rfl, rfl⟩
  have HS2 := Lib.hid (hHeld.set (.int .i64 d.day))
  go_wp2_with fail
  refine hK.out _ _ ?_ (fun hHeld' => ?_)
  · exact HS2.out
  clear hK K hHeld
  have hHeld := hHeld'
  clear hHeld'
  try simp only [Act.put, List.setIfInBounds_toArray, List.set_cons_zero, List.set_cons_succ]
  refine wpAnyH_ready (rs := [15]) (by kernel_rfl) (by simp) ?_
  refine AllReadyH.cons (o := { dst := some 19, op := Go.Op.buildSlice 121 2 #[(0, Go.Operand.tmp 14), (1, Go.Operand.tmp 18)], type := 121, pos := "dues.go:48", after := #[{ on := 10, ground := Go.Ground.data }, { on := 14, ground := Go.Ground.data }], guard := none }) rfl (fun K hK => ?_) AllReadyH.nil
  go_simp
  have KH := Lib.hid hHeld
  refine hK.out _ _ ?_ (fun hHeld' => ?_)
  · exact KH.out.al _
  clear hK K hHeld
  have hHeld := hHeld'
  clear hHeld'
  try simp only [Act.put, List.setIfInBounds_toArray, List.set_cons_zero, List.set_cons_succ]
  refine wpAnyH_ready (rs := [16]) (by kernel_rfl) (by simp) ?_
  refine AllReadyH.cons (o := { dst := some 20, op := Go.Op.call { callee := Go.Callee.value (Go.Operand.func 49), args := #[Go.Operand.tmp 19], argTypes := #[121] }, type := 25, pos := "dues.go:48", after := #[{ on := 15, ground := Go.Ground.data }, { on := 14, ground := Go.Ground.chain }], guard := none }) rfl (fun K hK => ?_) AllReadyH.nil
  go_simp
  go_at_call 49
  refine (nFirstError_any [eI (!c) 2, eI (decide (d.day < p)) 9] _ 0 2 _ (by simp) (IntsAt.cons (by simp [go_sem]) (IntsAt.one (by simp [go_sem])))).mono ?_
  rintro e w1 ⟨rfl, rfl⟩
  rw [HR.out]
  go_wp2_with fail
  refine hK.out _ _ ?_ (fun hHeld' => ?_)
  · exact hHeld
  clear hK K hHeld
  have hHeld := hHeld'
  clear hHeld'
  try simp only [Act.put, List.setIfInBounds_toArray, List.set_cons_zero, List.set_cons_succ]
  refine wpAnyH_take (i := 17) (oi := { dst := some 3, op := Go.Op.assign (Go.Operand.tmp 20), type := 25, pos := "dues.go:48", after := #[{ on := 16, ground := Go.Ground.data }, { on := 16, ground := Go.Ground.chain }, { on := 0, ground := Go.Ground.phase }, { on := 1, ground := Go.Ground.phase }, { on := 2, ground := Go.Ground.phase }, { on := 3, ground := Go.Ground.phase }, { on := 4, ground := Go.Ground.phase }, { on := 5, ground := Go.Ground.phase }, { on := 6, ground := Go.Ground.phase }, { on := 7, ground := Go.Ground.phase }, { on := 8, ground := Go.Ground.phase }, { on := 9, ground := Go.Ground.phase }, { on := 10, ground := Go.Ground.phase }, { on := 11, ground := Go.Ground.phase }, { on := 12, ground := Go.Ground.phase }, { on := 13, ground := Go.Ground.phase }, { on := 14, ground := Go.Ground.phase }, { on := 15, ground := Go.Ground.phase }, { on := 16, ground := Go.Ground.phase }], guard := none }) (v := ?_) rfl (by kernel_rfl) (by kernel_rfl) (by kernel_rfl) (fun _ _ _ h => h) (Or.inl ⟨by rfl, ?_⟩) (by assumption) ?_
  rotate_left
  · intro W hSw
    go_simp
    try with_reducible rfl
  try simp only [Act.put, List.setIfInBounds_toArray, List.set_cons_zero, List.set_cons_succ]
  refine wpAnyH_done (by kernel_rfl) ?_ _
  have HH := Lib.hid hHeld
  clear hHeld
  go_wp2
  go_ret
  refine ⟨rfl, HH.out.2, ?_, ?_⟩
  · exact set_al_cell _ _ HP.out
  · exact set_al_frozen _ _ HP.out HF.out
set_option maxRecDepth 100000 in
set_option maxHeartbeats 4000000 in
theorem dues1_n (d : Du) (p : Int) (B0 B1 : Nat) (w : World) (r : Int) (hd : inB d.day 0 200000 = false) (h1 : w.cell? ⟨B1, 0, none⟩ = some (ascF B0)) (h0 : w.cell? ⟨B0, 0, none⟩ = some (.int .i64 p)) (hf : w.frozen? ⟨B0, 0, none⟩ = false) (l0 : B0 < w.heap.size) (l1 : B1 < w.heap.size) (n1 : B1 ≠ B0) (hr : feE [eI true 2, eI (decide (d.day < p)) 9] = r) :
    Calls Try.prog 74 #[d.val, .pointer (some ⟨B1, 0, none⟩)] w (DuPost B0 w d.day r) := by
  have HS := Lib.hid (SDw.new (dy := d.day) (ct := d.cents) h1 l0 l1 n1)
  have hb := (Below.refl w.heap.size w).alloc (Nat.le_refl _) (.cells #[.int .i64 d.day, .int .i64 d.cents] 69)
  have HP := Lib.hid (show (w.alloc (.cells #[.int .i64 d.day, .int .i64 d.cents] 69)).drew.cell? ⟨B0, 0, none⟩ = some (.int .i64 p) from (hb.cell (p := ⟨B0, 0, none⟩) l0).trans h0)
  have HF := Lib.hid (show (w.alloc (.cells #[.int .i64 d.day, .int .i64 d.cents] 69)).drew.frozen? ⟨B0, 0, none⟩ = false from (hb.frozen (p := ⟨B0, 0, none⟩) l0).trans hf)
  have HL0 := Lib.hid l0
  have HR := Lib.hid hr
  have HD := Lib.hid hd
  clear h1 h0 hf l0 l1 n1 hr hd hb
  go_enter Try.func74, Try.ntmps74
  go_wp2
  refine wp_region_held_drew (S := SDw B0 B1 w d.day d.cents) (by kernel_rfl) ?_ (fun hHeld => ?_)
  · exact HS.out.dr
  refine wpAnyH_take (i := 0) (oi := { dst := some 4, op := Go.Op.fieldAddr 69 (Go.Operand.tmp 2) 0, type := 0, pos := "dues.go:48", after := #[], guard := none }) (v := ?_) rfl (by kernel_rfl) (by kernel_rfl) (by kernel_rfl) (fun _ _ _ h => h) (Or.inl ⟨by rfl, ?_⟩) (by assumption) ?_
  rotate_left
  · intro W hSw
    go_simp
    try with_reducible rfl
  try simp only [Act.put, List.setIfInBounds_toArray, List.set_cons_zero, List.set_cons_succ]
  refine wpAnyH_take (i := 1) (oi := { dst := some 5, op := Go.Op.load 3 (Go.Operand.tmp 4), type := 3, pos := "dues.go:48", after := #[{ on := 0, ground := Go.Ground.data }], guard := none }) (v := ?_) rfl (by kernel_rfl) (by kernel_rfl) (by kernel_rfl) (fun _ _ _ h => h) (Or.inl ⟨by rfl, ?_⟩) (by assumption) ?_
  rotate_left
  · intro W hSw
    have q0 := hSw.1.q0
    have q1 := hSw.1.q1
    have q2 := hSw.1.q2
    go_simp
    try with_reducible rfl
  try simp only [Act.put, List.setIfInBounds_toArray, List.set_cons_zero, List.set_cons_succ]
  refine wpAnyH_take (i := 11) (oi := { dst := some 15, op := Go.Op.load 95 (Go.Operand.tmp 1), type := 95, pos := "dues.go:48", after := #[], guard := none }) (v := ?_) rfl (by kernel_rfl) (by kernel_rfl) (by kernel_rfl) (fun _ _ _ h => h) (Or.inl ⟨by rfl, ?_⟩) (by assumption) ?_
  rotate_left
  · intro W hSw
    have q0 := hSw.1.q0
    have q1 := hSw.1.q1
    have q2 := hSw.1.q2
    go_simp
    try with_reducible rfl
  try simp only [Act.put, List.setIfInBounds_toArray, List.set_cons_zero, List.set_cons_succ]
  refine wpAnyH_take (i := 12) (oi := { dst := some 16, op := Go.Op.fieldAddr 69 (Go.Operand.tmp 2) 0, type := 0, pos := "dues.go:48", after := #[], guard := none }) (v := ?_) rfl (by kernel_rfl) (by kernel_rfl) (by kernel_rfl) (fun _ _ _ h => h) (Or.inl ⟨by rfl, ?_⟩) (by assumption) ?_
  rotate_left
  · intro W hSw
    go_simp
    try with_reducible rfl
  try simp only [Act.put, List.setIfInBounds_toArray, List.set_cons_zero, List.set_cons_succ]
  refine wpAnyH_take (i := 13) (oi := { dst := some 17, op := Go.Op.load 3 (Go.Operand.tmp 16), type := 3, pos := "dues.go:48", after := #[{ on := 12, ground := Go.Ground.data }], guard := none }) (v := ?_) rfl (by kernel_rfl) (by kernel_rfl) (by kernel_rfl) (fun _ _ _ h => h) (Or.inl ⟨by rfl, ?_⟩) (by assumption) ?_
  rotate_left
  · intro W hSw
    have q0 := hSw.1.q0
    have q1 := hSw.1.q1
    have q2 := hSw.1.q2
    go_simp
    try with_reducible rfl
  try simp only [Act.put, List.setIfInBounds_toArray, List.set_cons_zero, List.set_cons_succ]
  refine wpAnyH_ready (rs := [2]) (by kernel_rfl) (by simp) ?_
  refine AllReadyH.cons (o := { dst := some 6, op := Go.Op.call { callee := Go.Callee.value (Go.Operand.func 54), args := #[Go.Operand.tmp 5], argTypes := #[3] }, type := 4, pos := "dues.go:48", after := #[{ on := 1, ground := Go.Ground.data }], guard := none }) rfl (fun K hK => ?_) AllReadyH.nil
  go_simp
  go_at_call 54
  refine (nIsDay_any _ _).mono ?_
  rintro e w1 ⟨rfl, rfl⟩
  rw [HD.out]
  go_wp2_with fail
  refine hK.out _ _ ?_ (fun hHeld' => ?_)
  · exact hHeld
  clear hK K hHeld
  have hHeld := hHeld'
  clear hHeld'
  try simp only [Act.put, List.setIfInBounds_toArray, List.set_cons_zero, List.set_cons_succ]
  refine wpAnyH_take (i := 3) (oi := { dst := some 7, op := Go.Op.unOp Go.UnOp.not 4 (Go.Operand.tmp 6), type := 4, pos := "dues.go:48", after := #[{ on := 2, ground := Go.Ground.data }], guard := none }) (v := ?_) rfl (by kernel_rfl) (by kernel_rfl) (by kernel_rfl) (fun _ _ _ h => h) (Or.inl ⟨by rfl, ?_⟩) (by assumption) ?_
  rotate_left
  · intro W hSw
    go_simp
    try with_reducible rfl
  try simp only [Act.put, List.setIfInBounds_toArray, List.set_cons_zero, List.set_cons_succ]
  refine wpAnyH_take (i := 4) (oi := { dst := some 8, op := Go.Op.move (Go.Operand.tmp 7), type := 4, pos := "dues.go:48", after := #[{ on := 3, ground := Go.Ground.data }, { on := 2, ground := Go.Ground.chain }], guard := none }) (v := ?_) rfl (by kernel_rfl) (by kernel_rfl) (by kernel_rfl) (fun _ _ _ h => h) (Or.inl ⟨by rfl, ?_⟩) (by assumption) ?_
  rotate_left
  · intro W hSw
    go_simp
    try with_reducible rfl
  try simp only [Act.put, List.setIfInBounds_toArray, List.set_cons_zero, List.set_cons_succ]
  refine wpAnyH_take (i := 5) (oi := { dst := some 9, op := Go.Op.fieldAddr 69 (Go.Operand.tmp 2) 1, type := 0, pos := "dues.go:48", after := #[{ on := 4, ground := Go.Ground.guard }], guard := some (4, false) }) (v := undef) rfl (by kernel_rfl) (by kernel_rfl) (by kernel_rfl) (fun _ _ _ h => h) (Or.inr ⟨by rfl, rfl⟩) (by assumption) ?_
  try simp only [Act.put, List.setIfInBounds_toArray, List.set_cons_zero, List.set_cons_succ]
  refine wpAnyH_take (i := 6) (oi := { dst := some 10, op := Go.Op.load 3 (Go.Operand.tmp 9), type := 3, pos := "dues.go:48", after := #[{ on := 5, ground := Go.Ground.data }, { on := 4, ground := Go.Ground.guard }], guard := some (4, false) }) (v := undef) rfl (by kernel_rfl) (by kernel_rfl) (by kernel_rfl) (fun _ _ _ h => h) (Or.inr ⟨by rfl, rfl⟩) (by assumption) ?_
  try simp only [Act.put, List.setIfInBounds_toArray, List.set_cons_zero, List.set_cons_succ]
  refine wpAnyH_take (i := 7) (oi := { dst := some 11, op := Go.Op.call { callee := Go.Callee.value (Go.Operand.func 60), args := #[Go.Operand.tmp 10, Go.Operand.const (Go.Value.int Go.IntKind.i64 0), Go.Operand.const (Go.Value.int Go.IntKind.i64 1000000000000)], argTypes := #[3, 3, 3] }, type := 4, pos := "dues.go:48", after := #[{ on := 6, ground := Go.Ground.data }, { on := 4, ground := Go.Ground.chain }, { on := 4, ground := Go.Ground.guard }], guard := some (4, false) }) (v := undef) rfl (by kernel_rfl) (by kernel_rfl) (by kernel_rfl) (fun _ _ _ h => h) (Or.inr ⟨by rfl, rfl⟩) (by assumption) ?_
  try simp only [Act.put, List.setIfInBounds_toArray, List.set_cons_zero, List.set_cons_succ]
  refine wpAnyH_take (i := 8) (oi := { dst := some 12, op := Go.Op.unOp Go.UnOp.not 4 (Go.Operand.tmp 11), type := 4, pos := "dues.go:48", after := #[{ on := 7, ground := Go.Ground.data }, { on := 4, ground := Go.Ground.guard }], guard := some (4, false) }) (v := undef) rfl (by kernel_rfl) (by kernel_rfl) (by kernel_rfl) (fun _ _ _ h => h) (Or.inr ⟨by rfl, rfl⟩) (by assumption) ?_
  try simp only [Act.put, List.setIfInBounds_toArray, List.set_cons_zero, List.set_cons_succ]
  refine wpAnyH_take (i := 9) (oi := { dst := some 13, op := Go.Op.pick (Go.Operand.tmp 8) (Go.Operand.const (Go.Value.bool true)) (Go.Operand.tmp 12), type := 4, pos := "dues.go:48", after := #[{ on := 4, ground := Go.Ground.data }, { on := 8, ground := Go.Ground.data }], guard := none }) (v := ?_) rfl (by kernel_rfl) (by kernel_rfl) (by kernel_rfl) (fun _ _ _ h => h) (Or.inl ⟨by rfl, ?_⟩) (by assumption) ?_
  rotate_left
  · intro W hSw
    go_simp
    try with_reducible rfl
  try simp only [Act.put, List.setIfInBounds_toArray, List.set_cons_zero, List.set_cons_succ]
  refine wpAnyH_ready (rs := [10]) (by kernel_rfl) (by simp) ?_
  refine AllReadyH.cons (o := { dst := some 14, op := Go.Op.call { callee := Go.Callee.value (Go.Operand.func 59), args := #[Go.Operand.tmp 13, Go.Operand.const (Go.Value.int Go.IntKind.i64 2)], argTypes := #[4, 25] }, type := 25, pos := "dues.go:48", after := #[{ on := 9, ground := Go.Ground.data }, { on := 7, ground := Go.Ground.chain }], guard := none }) rfl (fun K hK => ?_) AllReadyH.nil
  go_simp
  go_at_call 59
  refine (nErrorIf_any _ _ _).mono ?_
  rintro e w1 ⟨rfl, rfl⟩
  go_wp2_with fail
  refine hK.out _ _ ?_ (fun hHeld' => ?_)
  · exact hHeld
  clear hK K hHeld
  have hHeld := hHeld'
  clear hHeld'
  try simp only [Act.put, List.setIfInBounds_toArray, List.set_cons_zero, List.set_cons_succ]
  refine wpAnyH_ready (rs := [14]) (by kernel_rfl) (by simp) ?_
  refine AllReadyH.cons (o := { dst := some 18, op := Go.Op.call { callee := Go.Callee.value (Go.Operand.tmp 15), args := #[Go.Operand.tmp 17], argTypes := #[3] }, type := 25, pos := "dues.go:48", after := #[{ on := 11, ground := Go.Ground.data }, { on := 13, ground := Go.Ground.data }, { on := 10, ground := Go.Ground.chain }], guard := none }) rfl (fun K hK => ?_) AllReadyH.nil
  go_simp
  go_at_call 85
  refine (asc1_any B0 _ p _ HP.out HF.out).mono ?_
  rintro e w1 ⟨rfl, rfl⟩
  have HS2 := Lib.hid (hHeld.set (.int .i64 d.day))
  go_wp2_with fail
  refine hK.out _ _ ?_ (fun hHeld' => ?_)
  · exact HS2.out
  clear hK K hHeld
  have hHeld := hHeld'
  clear hHeld'
  try simp only [Act.put, List.setIfInBounds_toArray, List.set_cons_zero, List.set_cons_succ]
  refine wpAnyH_ready (rs := [15]) (by kernel_rfl) (by simp) ?_
  refine AllReadyH.cons (o := { dst := some 19, op := Go.Op.buildSlice 121 2 #[(0, Go.Operand.tmp 14), (1, Go.Operand.tmp 18)], type := 121, pos := "dues.go:48", after := #[{ on := 10, ground := Go.Ground.data }, { on := 14, ground := Go.Ground.data }], guard := none }) rfl (fun K hK => ?_) AllReadyH.nil
  go_simp
  have KH := Lib.hid hHeld
  refine hK.out _ _ ?_ (fun hHeld' => ?_)
  · exact KH.out.al _
  clear hK K hHeld
  have hHeld := hHeld'
  clear hHeld'
  try simp only [Act.put, List.setIfInBounds_toArray, List.set_cons_zero, List.set_cons_succ]
  refine wpAnyH_ready (rs := [16]) (by kernel_rfl) (by simp) ?_
  refine AllReadyH.cons (o := { dst := some 20, op := Go.Op.call { callee := Go.Callee.value (Go.Operand.func 49), args := #[Go.Operand.tmp 19], argTypes := #[121] }, type := 25, pos := "dues.go:48", after := #[{ on := 15, ground := Go.Ground.data }, { on := 14, ground := Go.Ground.chain }], guard := none }) rfl (fun K hK => ?_) AllReadyH.nil
  go_simp
  go_at_call 49
  refine (nFirstError_any [eI true 2, eI (decide (d.day < p)) 9] _ 0 2 _ (by simp) (IntsAt.cons (by simp [go_sem]) (IntsAt.one (by simp [go_sem])))).mono ?_
  rintro e w1 ⟨rfl, rfl⟩
  rw [HR.out]
  go_wp2_with fail
  refine hK.out _ _ ?_ (fun hHeld' => ?_)
  · exact hHeld
  clear hK K hHeld
  have hHeld := hHeld'
  clear hHeld'
  try simp only [Act.put, List.setIfInBounds_toArray, List.set_cons_zero, List.set_cons_succ]
  refine wpAnyH_take (i := 17) (oi := { dst := some 3, op := Go.Op.assign (Go.Operand.tmp 20), type := 25, pos := "dues.go:48", after := #[{ on := 16, ground := Go.Ground.data }, { on := 16, ground := Go.Ground.chain }, { on := 0, ground := Go.Ground.phase }, { on := 1, ground := Go.Ground.phase }, { on := 2, ground := Go.Ground.phase }, { on := 3, ground := Go.Ground.phase }, { on := 4, ground := Go.Ground.phase }, { on := 5, ground := Go.Ground.phase }, { on := 6, ground := Go.Ground.phase }, { on := 7, ground := Go.Ground.phase }, { on := 8, ground := Go.Ground.phase }, { on := 9, ground := Go.Ground.phase }, { on := 10, ground := Go.Ground.phase }, { on := 11, ground := Go.Ground.phase }, { on := 12, ground := Go.Ground.phase }, { on := 13, ground := Go.Ground.phase }, { on := 14, ground := Go.Ground.phase }, { on := 15, ground := Go.Ground.phase }, { on := 16, ground := Go.Ground.phase }], guard := none }) (v := ?_) rfl (by kernel_rfl) (by kernel_rfl) (by kernel_rfl) (fun _ _ _ h => h) (Or.inl ⟨by rfl, ?_⟩) (by assumption) ?_
  rotate_left
  · intro W hSw
    go_simp
    try with_reducible rfl
  try simp only [Act.put, List.setIfInBounds_toArray, List.set_cons_zero, List.set_cons_succ]
  refine wpAnyH_done (by kernel_rfl) ?_ _
  have HH := Lib.hid hHeld
  clear hHeld
  go_wp2
  go_ret
  refine ⟨rfl, HH.out.2, ?_, ?_⟩
  · exact set_al_cell _ _ HP.out
  · exact set_al_frozen _ _ HP.out HF.out
end Go.Proofs.Ytcimceepkjpggaa
