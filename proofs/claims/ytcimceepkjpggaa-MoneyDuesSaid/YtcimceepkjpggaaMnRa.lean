/-
  CheckRates of package money: a contract for all worlds and lists.
-/
import Derived.Test.YtcimceepkjpggaaStK
import Derived.Deep.RegionHeld
import Derived.Laws.EntriesVeiled
import Derived.WideLaws
namespace Go.Proofs.Ytcimceepkjpggaa
open Go.RowKit Go.WideMaps Go.Maps
attribute [local go_sem] set_drewN
abbrev MO (W : World) (BM n : Nat) (D : DataW Unit) : Prop := W.ownsMap Try.prog 104 (plainElem Try.prog 4) BM n D
/-- what the check of a rate finds -/
def RtQ (B B3 BM n : Nat) (D : DataW Unit) (r : Ra) (W : World) : Prop :=
  (W.cell? ⟨B, 0, none⟩ = some (.string r.nm) ∧ W.cell? ⟨B, 1, none⟩ = some (.int .i64 r.fr) ∧ W.cell? ⟨B, 2, none⟩ = some (.int .i64 r.ct)) ∧ (W.cell? ⟨B + 1, 0, none⟩ = some (.string r.nm) ∧ W.cell? ⟨B + 1, 1, none⟩ = some (.int .i64 r.fr)) ∧ W.cell? ⟨B3, 0, none⟩ = some (.map (some BM)) ∧ MO W BM n D
theorem RtQ.keep {B B3 BM n : Nat} {D : DataW Unit} {r : Ra} {W W' : World} (h : RtQ B B3 BM n D r W) (hb : Below W.heap.size W W') : RtQ B B3 BM n D r W' := by
  obtain ⟨⟨a, b, c⟩, ⟨d, e⟩, f, g⟩ := h
  have k : ∀ (p : Addr) (v : Value), W.cell? p = some v → W'.cell? p = some v := fun p v hv => (hb.cell (World.block_lt_of_cell? _ _ hv)).trans hv
  exact ⟨⟨k _ _ a, k _ _ b, k _ _ c⟩, ⟨k _ _ d, k _ _ e⟩, k _ _ f, ownsMap_below g hb⟩
theorem RtQ.new {w : World} {B3 BM n : Nat} {D : DataW Unit} (r : Ra) (h3 : w.cell? ⟨B3, 0, none⟩ = some (.map (some BM))) (ho : MO w BM n D) :
    KQ (RtQ w.heap.size B3 BM n D r) w ((w.alloc (.cells #[.string r.nm, .int .i64 r.fr, .int .i64 r.ct] 34)).alloc (.cells #[.string r.nm, .int .i64 r.fr] 104)) := by
  have hb := ((Below.refl w.heap.size w).alloc (Nat.le_refl _) (.cells #[.string r.nm, .int .i64 r.fr, .int .i64 r.ct] 34)).alloc (by simp) (.cells #[.string r.nm, .int .i64 r.fr] 104)
  refine ⟨fun A B h hb => h.keep hb, ⟨⟨?_, ?_, ?_⟩, ⟨?_, ?_⟩, (hb.cell (p := ⟨B3, 0, none⟩) (World.block_lt_of_cell? _ _ h3)).trans h3, ownsMap_below ho hb⟩, hb⟩
  all_goals simp [go_sem]
def raE (sn : Bool) (r : Ra) : Int := feE [eI (!nameB r.nm) 4, eI (!(inB r.fr 0 200000 && inB r.ct 0 1000000)) 2, eI sn 5]
set_option maxRecDepth 100000 in
set_option maxHeartbeats 8000000 in
theorem rate1_n (l : List Ra) (k : Nat) (r : Ra) (B3 BM n : Nat) (D : DataW Unit) (w : World) (R : Int) (sn : Bool) (hf : FitR r) (h1 : inB r.fr 0 200000 = false) (hsn : seenR l k r.nm r.fr = sn) (hS : SeenR l k D) (h3 : w.cell? ⟨B3, 0, none⟩ = some (.map (some BM))) (ho : MO w BM n D) (hn : n < 1000) (hR : feE [eI (!nameB r.nm) 4, eI true 2, eI sn 5] = R) :
    Calls Try.prog 58 #[r.val, .pointer (some ⟨B3, 0, none⟩)] w fun e w' => e = .returned (.int .i64 R) ∧ w.grownBy w' (some BM) ∧ MO w' BM (n + 1) (D.put (kS r.nm r.fr) (.lit (.bool true))) := by
  have HK := Lib.hid (RtQ.new r h3 ho)
  have HR := Lib.hid hR
  have H1 := Lib.hid h1
  have HF := Lib.hid hf
  have HSN := Lib.hid hsn
  have HS := Lib.hid hS
  have hlt := World.block_lt_of_cell? _ _ h3
  clear hR h1 hf hsn hS ho
  have h3a : ∀ o : Obj, (w.alloc o).cell? ⟨B3, 0, none⟩ = some (.map (some BM)) := fun o => (((Below.refl w.heap.size w).alloc (Nat.le_refl _) o).cell (p := ⟨B3, 0, none⟩) hlt).trans h3
  clear h3
  go_enter Try.func58, Try.ntmps58
  go_wp2
  refine wp_region_held_drew (S := (KQ (RtQ w.heap.size B3 BM n D r) w)) (by kernel_rfl) ?_ (fun hHeld => ?_)
  · exact HK.out.dr
  refine wpAnyH_take (i := 0) (oi := { dst := some 11, op := Go.Op.fieldAddr 34 (Go.Operand.tmp 2) 0, type := 0, pos := "tariff.go:21", after := #[], guard := none }) (v := ?_) rfl (by kernel_rfl) (by kernel_rfl) (by kernel_rfl) (fun _ _ _ h => h) (Or.inl ⟨by rfl, ?_⟩) (by assumption) ?_
  rotate_left
  · intro W hSw
    go_simp
    try with_reducible rfl
  try simp only [Act.put, List.setIfInBounds_toArray, List.set_cons_zero, List.set_cons_succ]
  refine wpAnyH_take (i := 1) (oi := { dst := some 12, op := Go.Op.load 9 (Go.Operand.tmp 11), type := 9, pos := "tariff.go:21", after := #[{ on := 0, ground := Go.Ground.data }], guard := none }) (v := ?_) rfl (by kernel_rfl) (by kernel_rfl) (by kernel_rfl) (fun _ _ _ h => h) (Or.inl ⟨by rfl, ?_⟩) (by assumption) ?_
  rotate_left
  · intro W hSw
    obtain ⟨⟨q0, q1, q2⟩, ⟨q3, q4⟩, q5, q6⟩ := hSw.q
    have hlk := look_seen q6 HS.out HF.out
    rw [HSN.out] at hlk
    go_simp
    try with_reducible rfl
  try simp only [Act.put, List.setIfInBounds_toArray, List.set_cons_zero, List.set_cons_succ]
  refine wpAnyH_take (i := 3) (oi := { dst := some 14, op := Go.Op.fieldAddr 34 (Go.Operand.tmp 2) 1, type := 0, pos := "tariff.go:21", after := #[], guard := none }) (v := ?_) rfl (by kernel_rfl) (by kernel_rfl) (by kernel_rfl) (fun _ _ _ h => h) (Or.inl ⟨by rfl, ?_⟩) (by assumption) ?_
  rotate_left
  · intro W hSw
    go_simp
    try with_reducible rfl
  try simp only [Act.put, List.setIfInBounds_toArray, List.set_cons_zero, List.set_cons_succ]
  refine wpAnyH_take (i := 4) (oi := { dst := some 15, op := Go.Op.load 3 (Go.Operand.tmp 14), type := 3, pos := "tariff.go:21", after := #[{ on := 3, ground := Go.Ground.data }], guard := none }) (v := ?_) rfl (by kernel_rfl) (by kernel_rfl) (by kernel_rfl) (fun _ _ _ h => h) (Or.inl ⟨by rfl, ?_⟩) (by assumption) ?_
  rotate_left
  · intro W hSw
    obtain ⟨⟨q0, q1, q2⟩, ⟨q3, q4⟩, q5, q6⟩ := hSw.q
    have hlk := look_seen q6 HS.out HF.out
    rw [HSN.out] at hlk
    go_simp
    try with_reducible rfl
  try simp only [Act.put, List.setIfInBounds_toArray, List.set_cons_zero, List.set_cons_succ]
  refine wpAnyH_take (i := 14) (oi := { dst := some 25, op := Go.Op.load 101 (Go.Operand.tmp 1), type := 101, pos := "tariff.go:21", after := #[], guard := none }) (v := ?_) rfl (by kernel_rfl) (by kernel_rfl) (by kernel_rfl) (fun _ _ _ h => h) (Or.inl ⟨by rfl, ?_⟩) (by assumption) ?_
  rotate_left
  · intro W hSw
    obtain ⟨⟨q0, q1, q2⟩, ⟨q3, q4⟩, q5, q6⟩ := hSw.q
    have hlk := look_seen q6 HS.out HF.out
    rw [HSN.out] at hlk
    go_simp
    try with_reducible rfl
  try simp only [Act.put, List.setIfInBounds_toArray, List.set_cons_zero, List.set_cons_succ]
  refine wpAnyH_take (i := 15) (oi := { dst := some 26, op := Go.Op.load 104 (Go.Operand.tmp 4), type := 104, pos := "tariff.go:21", after := #[], guard := none }) (v := ?_) rfl (by kernel_rfl) (by kernel_rfl) (by kernel_rfl) (fun _ _ _ h => h) (Or.inl ⟨by rfl, ?_⟩) (by assumption) ?_
  rotate_left
  · intro W hSw
    obtain ⟨⟨q0, q1, q2⟩, ⟨q3, q4⟩, q5, q6⟩ := hSw.q
    have hlk := look_seen q6 HS.out HF.out
    rw [HSN.out] at hlk
    go_simp
    try with_reducible rfl
  try simp only [Act.put, List.setIfInBounds_toArray, List.set_cons_zero, List.set_cons_succ]
  refine wpAnyH_take (i := 16) (oi := { dst := some 27, op := Go.Op.lookup 101 (Go.Operand.tmp 25) (Go.Operand.tmp 26) false, type := 4, pos := "tariff.go:21", after := #[{ on := 14, ground := Go.Ground.data }, { on := 15, ground := Go.Ground.data }], guard := none }) (v := ?_) rfl (by kernel_rfl) (by kernel_rfl) (by kernel_rfl) (fun _ _ _ h => h) (Or.inl ⟨by rfl, ?_⟩) (by assumption) ?_
  rotate_left
  · intro W hSw
    obtain ⟨⟨q0, q1, q2⟩, ⟨q3, q4⟩, q5, q6⟩ := hSw.q
    have hlk := look_seen q6 HS.out HF.out
    rw [HSN.out] at hlk
    go_simp
    try with_reducible rfl
  try simp only [Act.put, List.setIfInBounds_toArray, List.set_cons_zero, List.set_cons_succ]
  refine wpAnyH_ready (rs := [2]) (by kernel_rfl) (by simp) ?_
  refine AllReadyH.cons (o := { dst := some 13, op := Go.Op.call { callee := Go.Callee.value (Go.Operand.func 50), args := #[Go.Operand.tmp 12], argTypes := #[9] }, type := 25, pos := "tariff.go:22", after := #[{ on := 1, ground := Go.Ground.data }], guard := none }) rfl (fun K hK => ?_) AllReadyH.nil
  go_simp
  go_at_call 50
  refine (nCheckName_any _ _ HF.out.1).mono ?_
  rintro e w1 ⟨rfl, rfl⟩
  go_wp2_with fail
  refine hK.out _ _ ?_ (fun hHeld' => ?_)
  · exact hHeld
  clear hK K hHeld
  have hHeld := hHeld'
  clear hHeld'
  try simp only [Act.put, List.setIfInBounds_toArray, List.set_cons_zero, List.set_cons_succ]
  refine wpAnyH_ready (rs := [5]) (by kernel_rfl) (by simp) ?_
  refine AllReadyH.cons (o := { dst := some 16, op := Go.Op.call { callee := Go.Callee.value (Go.Operand.func 54), args := #[Go.Operand.tmp 15], argTypes := #[3] }, type := 4, pos := "tariff.go:23", after := #[{ on := 4, ground := Go.Ground.data }, { on := 2, ground := Go.Ground.chain }], guard := none }) rfl (fun K hK => ?_) AllReadyH.nil
  go_simp
  go_at_call 54
  refine (nIsDay_any _ _).mono ?_
  rintro e w1 ⟨rfl, rfl⟩
  rw [H1.out]
  go_wp2_with fail
  refine hK.out _ _ ?_ (fun hHeld' => ?_)
  · exact hHeld
  clear hK K hHeld
  have hHeld := hHeld'
  clear hHeld'
  try simp only [Act.put, List.setIfInBounds_toArray, List.set_cons_zero, List.set_cons_succ]
  refine wpAnyH_take (i := 6) (oi := { dst := some 17, op := Go.Op.unOp Go.UnOp.not 4 (Go.Operand.tmp 16), type := 4, pos := "tariff.go:21", after := #[{ on := 5, ground := Go.Ground.data }], guard := none }) (v := ?_) rfl (by kernel_rfl) (by kernel_rfl) (by kernel_rfl) (fun _ _ _ h => h) (Or.inl ⟨by rfl, ?_⟩) (by assumption) ?_
  rotate_left
  · intro W hSw
    go_simp
    try with_reducible rfl
  try simp only [Act.put, List.setIfInBounds_toArray, List.set_cons_zero, List.set_cons_succ]
  refine wpAnyH_take (i := 7) (oi := { dst := some 18, op := Go.Op.move (Go.Operand.tmp 17), type := 4, pos := "tariff.go:21", after := #[{ on := 6, ground := Go.Ground.data }, { on := 5, ground := Go.Ground.chain }], guard := none }) (v := ?_) rfl (by kernel_rfl) (by kernel_rfl) (by kernel_rfl) (fun _ _ _ h => h) (Or.inl ⟨by rfl, ?_⟩) (by assumption) ?_
  rotate_left
  · intro W hSw
    go_simp
    try with_reducible rfl
  try simp only [Act.put, List.setIfInBounds_toArray, List.set_cons_zero, List.set_cons_succ]
  refine wpAnyH_take (i := 8) (oi := { dst := some 19, op := Go.Op.fieldAddr 34 (Go.Operand.tmp 2) 2, type := 0, pos := "tariff.go:21", after := #[{ on := 7, ground := Go.Ground.guard }], guard := some (7, false) }) (v := undef) rfl (by kernel_rfl) (by kernel_rfl) (by kernel_rfl) (fun _ _ _ h => h) (Or.inr ⟨by rfl, rfl⟩) (by assumption) ?_
  try simp only [Act.put, List.setIfInBounds_toArray, List.set_cons_zero, List.set_cons_succ]
  refine wpAnyH_take (i := 9) (oi := { dst := some 20, op := Go.Op.load 3 (Go.Operand.tmp 19), type := 3, pos := "tariff.go:21", after := #[{ on := 8, ground := Go.Ground.data }, { on := 7, ground := Go.Ground.guard }], guard := some (7, false) }) (v := undef) rfl (by kernel_rfl) (by kernel_rfl) (by kernel_rfl) (fun _ _ _ h => h) (Or.inr ⟨by rfl, rfl⟩) (by assumption) ?_
  try simp only [Act.put, List.setIfInBounds_toArray, List.set_cons_zero, List.set_cons_succ]
  refine wpAnyH_take (i := 10) (oi := { dst := some 21, op := Go.Op.call { callee := Go.Callee.value (Go.Operand.func 60), args := #[Go.Operand.tmp 20, Go.Operand.const (Go.Value.int Go.IntKind.i64 0), Go.Operand.const (Go.Value.int Go.IntKind.i64 1000000)], argTypes := #[3, 3, 3] }, type := 4, pos := "tariff.go:23", after := #[{ on := 9, ground := Go.Ground.data }, { on := 7, ground := Go.Ground.chain }, { on := 7, ground := Go.Ground.guard }], guard := some (7, false) }) (v := undef) rfl (by kernel_rfl) (by kernel_rfl) (by kernel_rfl) (fun _ _ _ h => h) (Or.inr ⟨by rfl, rfl⟩) (by assumption) ?_
  try simp only [Act.put, List.setIfInBounds_toArray, List.set_cons_zero, List.set_cons_succ]
  refine wpAnyH_take (i := 11) (oi := { dst := some 22, op := Go.Op.unOp Go.UnOp.not 4 (Go.Operand.tmp 21), type := 4, pos := "tariff.go:21", after := #[{ on := 10, ground := Go.Ground.data }, { on := 7, ground := Go.Ground.guard }], guard := some (7, false) }) (v := undef) rfl (by kernel_rfl) (by kernel_rfl) (by kernel_rfl) (fun _ _ _ h => h) (Or.inr ⟨by rfl, rfl⟩) (by assumption) ?_
  try simp only [Act.put, List.setIfInBounds_toArray, List.set_cons_zero, List.set_cons_succ]
  refine wpAnyH_take (i := 12) (oi := { dst := some 23, op := Go.Op.pick (Go.Operand.tmp 18) (Go.Operand.const (Go.Value.bool true)) (Go.Operand.tmp 22), type := 4, pos := "tariff.go:21", after := #[{ on := 7, ground := Go.Ground.data }, { on := 11, ground := Go.Ground.data }], guard := none }) (v := ?_) rfl (by kernel_rfl) (by kernel_rfl) (by kernel_rfl) (fun _ _ _ h => h) (Or.inl ⟨by rfl, ?_⟩) (by assumption) ?_
  rotate_left
  · intro W hSw
    go_simp
    try with_reducible rfl
  try simp only [Act.put, List.setIfInBounds_toArray, List.set_cons_zero, List.set_cons_succ]
  refine wpAnyH_ready (rs := [13]) (by kernel_rfl) (by simp) ?_
  refine AllReadyH.cons (o := { dst := some 24, op := Go.Op.call { callee := Go.Callee.value (Go.Operand.func 59), args := #[Go.Operand.tmp 23, Go.Operand.const (Go.Value.int Go.IntKind.i64 2)], argTypes := #[4, 25] }, type := 25, pos := "tariff.go:23", after := #[{ on := 12, ground := Go.Ground.data }, { on := 10, ground := Go.Ground.chain }], guard := none }) rfl (fun K hK => ?_) AllReadyH.nil
  go_simp
  go_at_call 59
  refine (nErrorIf_any _ _ _).mono ?_
  rintro e w1 ⟨rfl, rfl⟩
  go_wp2_with fail
  refine hK.out _ _ ?_ (fun hHeld' => ?_)
  · exact hHeld
  clear hK K hHeld
  have hHeld := hHeld'
  clear hHeld'
  try simp only [Act.put, List.setIfInBounds_toArray, List.set_cons_zero, List.set_cons_succ]
  refine wpAnyH_ready (rs := [17]) (by kernel_rfl) (by simp) ?_
  refine AllReadyH.cons (o := { dst := some 28, op := Go.Op.call { callee := Go.Callee.value (Go.Operand.func 59), args := #[Go.Operand.tmp 27, Go.Operand.const (Go.Value.int Go.IntKind.i64 5)], argTypes := #[4, 25] }, type := 25, pos := "tariff.go:24", after := #[{ on := 16, ground := Go.Ground.data }, { on := 13, ground := Go.Ground.chain }], guard := none }) rfl (fun K hK => ?_) AllReadyH.nil
  go_simp
  go_at_call 59
  refine (nErrorIf_any _ _ _).mono ?_
  rintro e w1 ⟨rfl, rfl⟩
  go_wp2_with fail
  refine hK.out _ _ ?_ (fun hHeld' => ?_)
  · exact hHeld
  clear hK K hHeld
  have hHeld := hHeld'
  clear hHeld'
  try simp only [Act.put, List.setIfInBounds_toArray, List.set_cons_zero, List.set_cons_succ]
  refine wpAnyH_ready (rs := [18]) (by kernel_rfl) (by simp) ?_
  refine AllReadyH.cons (o := { dst := some 29, op := Go.Op.buildSlice 121 3 #[(0, Go.Operand.tmp 13), (1, Go.Operand.tmp 24), (2, Go.Operand.tmp 28)], type := 121, pos := "tariff.go:21", after := #[{ on := 2, ground := Go.Ground.data }, { on := 13, ground := Go.Ground.data }, { on := 17, ground := Go.Ground.data }], guard := none }) rfl (fun K hK => ?_) AllReadyH.nil
  go_simp
  have KH := Lib.hid hHeld
  refine hK.out _ _ ?_ (fun hHeld' => ?_)
  · exact KH.out.al _
  clear hK K hHeld
  have hHeld := hHeld'
  clear hHeld'
  try simp only [Act.put, List.setIfInBounds_toArray, List.set_cons_zero, List.set_cons_succ]
  refine wpAnyH_ready (rs := [19]) (by kernel_rfl) (by simp) ?_
  refine AllReadyH.cons (o := { dst := some 30, op := Go.Op.call { callee := Go.Callee.value (Go.Operand.func 49), args := #[Go.Operand.tmp 29], argTypes := #[121] }, type := 25, pos := "tariff.go:21", after := #[{ on := 18, ground := Go.Ground.data }, { on := 17, ground := Go.Ground.chain }], guard := none }) rfl (fun K hK => ?_) AllReadyH.nil
  go_simp
  go_at_call 49
  refine (nFirstError_any [eI (!nameB r.nm) 4, eI true 2, eI sn 5] _ 0 3 _ (by simp) (IntsAt.cons (by simp [go_sem]) (IntsAt.cons (by simp [go_sem]) (IntsAt.one (by simp [go_sem]))))).mono ?_
  rintro e w1 ⟨rfl, rfl⟩
  rw [HR.out]
  go_wp2_with fail
  refine hK.out _ _ ?_ (fun hHeld' => ?_)
  · exact hHeld
  clear hK K hHeld
  have hHeld := hHeld'
  clear hHeld'
  try simp only [Act.put, List.setIfInBounds_toArray, List.set_cons_zero, List.set_cons_succ]
  refine wpAnyH_take (i := 20) (oi := { dst := some 5, op := Go.Op.assign (Go.Operand.tmp 30), type := 25, pos := "tariff.go:21", after := #[{ on := 19, ground := Go.Ground.data }, { on := 19, ground := Go.Ground.chain }, { on := 0, ground := Go.Ground.phase }, { on := 1, ground := Go.Ground.phase }, { on := 2, ground := Go.Ground.phase }, { on := 3, ground := Go.Ground.phase }, { on := 4, ground := Go.Ground.phase }, { on := 5, ground := Go.Ground.phase }, { on := 6, ground := Go.Ground.phase }, { on := 7, ground := Go.Ground.phase }, { on := 8, ground := Go.Ground.phase }, { on := 9, ground := Go.Ground.phase }, { on := 10, ground := Go.Ground.phase }, { on := 11, ground := Go.Ground.phase }, { on := 12, ground := Go.Ground.phase }, { on := 13, ground := Go.Ground.phase }, { on := 14, ground := Go.Ground.phase }, { on := 15, ground := Go.Ground.phase }, { on := 16, ground := Go.Ground.phase }, { on := 17, ground := Go.Ground.phase }, { on := 18, ground := Go.Ground.phase }, { on := 19, ground := Go.Ground.phase }], guard := none }) (v := ?_) rfl (by kernel_rfl) (by kernel_rfl) (by kernel_rfl) (fun _ _ _ h => h) (Or.inl ⟨by rfl, ?_⟩) (by assumption) ?_
  rotate_left
  · intro W hSw
    go_simp
    try with_reducible rfl
  try simp only [Act.put, List.setIfInBounds_toArray, List.set_cons_zero, List.set_cons_succ]
  refine wpAnyH_done (by kernel_rfl) ?_ _
  have HH := Lib.hid hHeld
  clear hHeld
  obtain ⟨⟨q0, q1, q2⟩, ⟨q3, q4⟩, q5, q6⟩ := HH.out.q
  have hkey := key_ok HF.out.1 HF.out.2.1 HF.out.2.2
  go_wp2_with (at_mapUpdate; refine wpList_mapUpdate_own _ rfl _ _ _ 101 rfl 104 4 lawSt Try.underlying101 _ BM n D rfl q6 (by unfold maxLen; omega) _ _ _ rfl rfl hkey _ [] (plainElem_bool Try.underlying4 true) ?_; intro w2 hown2 hgrow2)
  have GR := Lib.hid ((gb_below HH.out.b).trans hgrow2)
  have OW := Lib.hid hown2
  clear hown2 hgrow2 q0 q1 q2 q3 q4 q5 q6
  go_wp2
  go_ret
  exact ⟨rfl, GR.out, OW.out⟩
set_option maxRecDepth 100000 in
set_option maxHeartbeats 8000000 in
theorem rate1_y (l : List Ra) (k : Nat) (r : Ra) (B3 BM n : Nat) (D : DataW Unit) (w : World) (R : Int) (sn : Bool) (hf : FitR r) (h1 : inB r.fr 0 200000 = true) (c : Bool) (hc : inB r.ct 0 1000000 = c) (hsn : seenR l k r.nm r.fr = sn) (hS : SeenR l k D) (h3 : w.cell? ⟨B3, 0, none⟩ = some (.map (some BM))) (ho : MO w BM n D) (hn : n < 1000) (hR : feE [eI (!nameB r.nm) 4, eI (!c) 2, eI sn 5] = R) :
    Calls Try.prog 58 #[r.val, .pointer (some ⟨B3, 0, none⟩)] w fun e w' => e = .returned (.int .i64 R) ∧ w.grownBy w' (some BM) ∧ MO w' BM (n + 1) (D.put (kS r.nm r.fr) (.lit (.bool true))) := by
  have HK := Lib.hid (RtQ.new r h3 ho)
  have HR := Lib.hid hR
  have H1 := Lib.hid h1
  have HF := Lib.hid hf
  have HSN := Lib.hid hsn
  have HS := Lib.hid hS
  have hlt := World.block_lt_of_cell? _ _ h3
  have HC := Lib.hid hc
  clear hR h1 hf hsn hS ho hc
  have h3a : ∀ o : Obj, (w.alloc o).cell? ⟨B3, 0, none⟩ = some (.map (some BM)) := fun o => (((Below.refl w.heap.size w).alloc (Nat.le_refl _) o).cell (p := ⟨B3, 0, none⟩) hlt).trans h3
  clear h3
  go_enter Try.func58, Try.ntmps58
  go_wp2
  refine wp_region_held_drew (S := (KQ (RtQ w.heap.size B3 BM n D r) w)) (by kernel_rfl) ?_ (fun hHeld => ?_)
  · exact HK.out.dr
  refine wpAnyH_take (i := 0) (oi := { dst := some 11, op := Go.Op.fieldAddr 34 (Go.Operand.tmp 2) 0, type := 0, pos := "tariff.go:21", after := #[], guard := none }) (v := ?_) rfl (by kernel_rfl) (by kernel_rfl) (by kernel_rfl) (fun _ _ _ h => h) (Or.inl ⟨by rfl, ?_⟩) (by assumption) ?_
  rotate_left
  · intro W hSw
    go_simp
    try with_reducible rfl
  try simp only [Act.put, List.setIfInBounds_toArray, List.set_cons_zero, List.set_cons_succ]
  refine wpAnyH_take (i := 1) (oi := { dst := some 12, op := Go.Op.load 9 (Go.Operand.tmp 11), type := 9, pos := "tariff.go:21", after := #[{ on := 0, ground := Go.Ground.data }], guard := none }) (v := ?_) rfl (by kernel_rfl) (by kernel_rfl) (by kernel_rfl) (fun _ _ _ h => h) (Or.inl ⟨by rfl, ?_⟩) (by assumption) ?_
  rotate_left
  · intro W hSw
    obtain ⟨⟨q0, q1, q2⟩, ⟨q3, q4⟩, q5, q6⟩ := hSw.q
    have hlk := look_seen q6 HS.out HF.out
    rw [HSN.out] at hlk
    go_simp
    try with_reducible rfl
  try simp only [Act.put, List.setIfInBounds_toArray, List.set_cons_zero, List.set_cons_succ]
  refine wpAnyH_take (i := 3) (oi := { dst := some 14, op := Go.Op.fieldAddr 34 (Go.Operand.tmp 2) 1, type := 0, pos := "tariff.go:21", after := #[], guard := none }) (v := ?_) rfl (by kernel_rfl) (by kernel_rfl) (by kernel_rfl) (fun _ _ _ h => h) (Or.inl ⟨by rfl, ?_⟩) (by assumption) ?_
  rotate_left
  · intro W hSw
    go_simp
    try with_reducible rfl
  try simp only [Act.put, List.setIfInBounds_toArray, List.set_cons_zero, List.set_cons_succ]
  refine wpAnyH_take (i := 4) (oi := { dst := some 15, op := Go.Op.load 3 (Go.Operand.tmp 14), type := 3, pos := "tariff.go:21", after := #[{ on := 3, ground := Go.Ground.data }], guard := none }) (v := ?_) rfl (by kernel_rfl) (by kernel_rfl) (by kernel_rfl) (fun _ _ _ h => h) (Or.inl ⟨by rfl, ?_⟩) (by assumption) ?_
  rotate_left
  · intro W hSw
    obtain ⟨⟨q0, q1, q2⟩, ⟨q3, q4⟩, q5, q6⟩ := hSw.q
    have hlk := look_seen q6 HS.out HF.out
    rw [HSN.out] at hlk
    go_simp
    try with_reducible rfl
  try simp only [Act.put, List.setIfInBounds_toArray, List.set_cons_zero, List.set_cons_succ]
  refine wpAnyH_take (i := 14) (oi := { dst := some 25, op := Go.Op.load 101 (Go.Operand.tmp 1), type := 101, pos := "tariff.go:21", after := #[], guard := none }) (v := ?_) rfl (by kernel_rfl) (by kernel_rfl) (by kernel_rfl) (fun _ _ _ h => h) (Or.inl ⟨by rfl, ?_⟩) (by assumption) ?_
  rotate_left
  · intro W hSw
    obtain ⟨⟨q0, q1, q2⟩, ⟨q3, q4⟩, q5, q6⟩ := hSw.q
    have hlk := look_seen q6 HS.out HF.out
    rw [HSN.out] at hlk
    go_simp
    try with_reducible rfl
  try simp only [Act.put, List.setIfInBounds_toArray, List.set_cons_zero, List.set_cons_succ]
  refine wpAnyH_take (i := 15) (oi := { dst := some 26, op := Go.Op.load 104 (Go.Operand.tmp 4), type := 104, pos := "tariff.go:21", after := #[], guard := none }) (v := ?_) rfl (by kernel_rfl) (by kernel_rfl) (by kernel_rfl) (fun _ _ _ h => h) (Or.inl ⟨by rfl, ?_⟩) (by assumption) ?_
  rotate_left
  · intro W hSw
    obtain ⟨⟨q0, q1, q2⟩, ⟨q3, q4⟩, q5, q6⟩ := hSw.q
    have hlk := look_seen q6 HS.out HF.out
    rw [HSN.out] at hlk
    go_simp
    try with_reducible rfl
  try simp only [Act.put, List.setIfInBounds_toArray, List.set_cons_zero, List.set_cons_succ]
  refine wpAnyH_take (i := 16) (oi := { dst := some 27, op := Go.Op.lookup 101 (Go.Operand.tmp 25) (Go.Operand.tmp 26) false, type := 4, pos := "tariff.go:21", after := #[{ on := 14, ground := Go.Ground.data }, { on := 15, ground := Go.Ground.data }], guard := none }) (v := ?_) rfl (by kernel_rfl) (by kernel_rfl) (by kernel_rfl) (fun _ _ _ h => h) (Or.inl ⟨by rfl, ?_⟩) (by assumption) ?_
  rotate_left
  · intro W hSw
    obtain ⟨⟨q0, q1, q2⟩, ⟨q3, q4⟩, q5, q6⟩ := hSw.q
    have hlk := look_seen q6 HS.out HF.out
    rw [HSN.out] at hlk
    go_simp
    try with_reducible rfl
  try simp only [Act.put, List.setIfInBounds_toArray, List.set_cons_zero, List.set_cons_succ]
  refine wpAnyH_ready (rs := [2]) (by kernel_rfl) (by simp) ?_
  refine AllReadyH.cons (o := { dst := some 13, op := Go.Op.call { callee := Go.Callee.value (Go.Operand.func 50), args := #[Go.Operand.tmp 12], argTypes := #[9] }, type := 25, pos := "tariff.go:22", after := #[{ on := 1, ground := Go.Ground.data }], guard := none }) rfl (fun K hK => ?_) AllReadyH.nil
  go_simp
  go_at_call 50
  refine (nCheckName_any _ _ HF.out.1).mono ?_
  rintro e w1 ⟨rfl, rfl⟩
  go_wp2_with fail
  refine hK.out _ _ ?_ (fun hHeld' => ?_)
  · exact hHeld
  clear hK K hHeld
  have hHeld := hHeld'
  clear hHeld'
  try simp only [Act.put, List.setIfInBounds_toArray, List.set_cons_zero, List.set_cons_succ]
  refine wpAnyH_ready (rs := [5]) (by kernel_rfl) (by simp) ?_
  refine AllReadyH.cons (o := { dst := some 16, op := Go.Op.call { callee := Go.Callee.value (Go.Operand.func 54), args := #[Go.Operand.tmp 15], argTypes := #[3] }, type := 4, pos := "tariff.go:23", after := #[{ on := 4, ground := Go.Ground.data }, { on := 2, ground := Go.Ground.chain }], guard := none }) rfl (fun K hK => ?_) AllReadyH.nil
  go_simp
  go_at_call 54
  refine (nIsDay_any _ _).mono ?_
  rintro e w1 ⟨rfl, rfl⟩
  rw [H1.out]
  go_wp2_with fail
  refine hK.out _ _ ?_ (fun hHeld' => ?_)
  · exact hHeld
  clear hK K hHeld
  have hHeld := hHeld'
  clear hHeld'
  try simp only [Act.put, List.setIfInBounds_toArray, List.set_cons_zero, List.set_cons_succ]
  refine wpAnyH_take (i := 6) (oi := { dst := some 17, op := Go.Op.unOp Go.UnOp.not 4 (Go.Operand.tmp 16), type := 4, pos := "tariff.go:21", after := #[{ on := 5, ground := Go.Ground.data }], guard := none }) (v := ?_) rfl (by kernel_rfl) (by kernel_rfl) (by kernel_rfl) (fun _ _ _ h => h) (Or.inl ⟨by rfl, ?_⟩) (by assumption) ?_
  rotate_left
  · intro W hSw
    go_simp
    try with_reducible rfl
  try simp only [Act.put, List.setIfInBounds_toArray, List.set_cons_zero, List.set_cons_succ]
  refine wpAnyH_take (i := 7) (oi := { dst := some 18, op := Go.Op.move (Go.Operand.tmp 17), type := 4, pos := "tariff.go:21", after := #[{ on := 6, ground := Go.Ground.data }, { on := 5, ground := Go.Ground.chain }], guard := none }) (v := ?_) rfl (by kernel_rfl) (by kernel_rfl) (by kernel_rfl) (fun _ _ _ h => h) (Or.inl ⟨by rfl, ?_⟩) (by assumption) ?_
  rotate_left
  · intro W hSw
    go_simp
    try with_reducible rfl
  try simp only [Act.put, List.setIfInBounds_toArray, List.set_cons_zero, List.set_cons_succ]
  refine wpAnyH_take (i := 8) (oi := { dst := some 19, op := Go.Op.fieldAddr 34 (Go.Operand.tmp 2) 2, type := 0, pos := "tariff.go:21", after := #[{ on := 7, ground := Go.Ground.guard }], guard := some (7, false) }) (v := ?_) rfl (by kernel_rfl) (by kernel_rfl) (by kernel_rfl) (fun _ _ _ h => h) (Or.inl ⟨by rfl, ?_⟩) (by assumption) ?_
  rotate_left
  · intro W hSw
    go_simp
    try with_reducible rfl
  try simp only [Act.put, List.setIfInBounds_toArray, List.set_cons_zero, List.set_cons_succ]
  refine wpAnyH_take (i := 9) (oi := { dst := some 20, op := Go.Op.load 3 (Go.Operand.tmp 19), type := 3, pos := "tariff.go:21", after := #[{ on := 8, ground := Go.Ground.data }, { on := 7, ground := Go.Ground.guard }], guard := some (7, false) }) (v := ?_) rfl (by kernel_rfl) (by kernel_rfl) (by kernel_rfl) (fun _ _ _ h => h) (Or.inl ⟨by rfl, ?_⟩) (by assumption) ?_
  rotate_left
  · intro W hSw
    obtain ⟨⟨q0, q1, q2⟩, ⟨q3, q4⟩, q5, q6⟩ := hSw.q
    have hlk := look_seen q6 HS.out HF.out
    rw [HSN.out] at hlk
    go_simp
    try with_reducible rfl
  try simp only [Act.put, List.setIfInBounds_toArray, List.set_cons_zero, List.set_cons_succ]
  refine wpAnyH_ready (rs := [10]) (by kernel_rfl) (by simp) ?_
  refine AllReadyH.cons (o := { dst := some 21, op := Go.Op.call { callee := Go.Callee.value (Go.Operand.func 60), args := #[Go.Operand.tmp 20, Go.Operand.const (Go.Value.int Go.IntKind.i64 0), Go.Operand.const (Go.Value.int Go.IntKind.i64 1000000)], argTypes := #[3, 3, 3] }, type := 4, pos := "tariff.go:23", after := #[{ on := 9, ground := Go.Ground.data }, { on := 7, ground := Go.Ground.chain }, { on := 7, ground := Go.Ground.guard }], guard := some (7, false) }) rfl (fun K hK => ?_) AllReadyH.nil
  go_simp
  go_at_call 60
  refine (nIsFromTo_any _ _ _ _).mono ?_
  rintro e w1 ⟨rfl, rfl⟩
  rw [HC.out]
  go_wp2_with fail
  refine hK.out _ _ ?_ (fun hHeld' => ?_)
  · exact hHeld
  clear hK K hHeld
  have hHeld := hHeld'
  clear hHeld'
  try simp only [Act.put, List.setIfInBounds_toArray, List.set_cons_zero, List.set_cons_succ]
  refine wpAnyH_take (i := 11) (oi := { dst := some 22, op := Go.Op.unOp Go.UnOp.not 4 (Go.Operand.tmp 21), type := 4, pos := "tariff.go:21", after := #[{ on := 10, ground := Go.Ground.data }, { on := 7, ground := Go.Ground.guard }], guard := some (7, false) }) (v := ?_) rfl (by kernel_rfl) (by kernel_rfl) (by kernel_rfl) (fun _ _ _ h => h) (Or.inl ⟨by rfl, ?_⟩) (by assumption) ?_
  rotate_left
  · intro W hSw
    go_simp
    try with_reducible rfl
  try simp only [Act.put, List.setIfInBounds_toArray, List.set_cons_zero, List.set_cons_succ]
  refine wpAnyH_take (i := 12) (oi := { dst := some 23, op := Go.Op.pick (Go.Operand.tmp 18) (Go.Operand.const (Go.Value.bool true)) (Go.Operand.tmp 22), type := 4, pos := "tariff.go:21", after := #[{ on := 7, ground := Go.Ground.data }, { on := 11, ground := Go.Ground.data }], guard := none }) (v := ?_) rfl (by kernel_rfl) (by kernel_rfl) (by kernel_rfl) (fun _ _ _ h => h) (Or.inl ⟨by rfl, ?_⟩) (by assumption) ?_
  rotate_left
  · intro W hSw
    go_simp
    try with_reducible rfl
  try simp only [Act.put, List.setIfInBounds_toArray, List.set_cons_zero, List.set_cons_succ]
  refine wpAnyH_ready (rs := [13]) (by kernel_rfl) (by simp) ?_
  refine AllReadyH.cons (o := { dst := some 24, op := Go.Op.call { callee := Go.Callee.value (Go.Operand.func 59), args := #[Go.Operand.tmp 23, Go.Operand.const (Go.Value.int Go.IntKind.i64 2)], argTypes := #[4, 25] }, type := 25, pos := "tariff.go:23", after := #[{ on := 12, ground := Go.Ground.data }, { on := 10, ground := Go.Ground.chain }], guard := none }) rfl (fun K hK => ?_) AllReadyH.nil
  go_simp
  go_at_call 59
  refine (nErrorIf_any _ _ _).mono ?_
  rintro e w1 ⟨rfl, rfl⟩
  go_wp2_with fail
  refine hK.out _ _ ?_ (fun hHeld' => ?_)
  · exact hHeld
  clear hK K hHeld
  have hHeld := hHeld'
  clear hHeld'
  try simp only [Act.put, List.setIfInBounds_toArray, List.set_cons_zero, List.set_cons_succ]
  refine wpAnyH_ready (rs := [17]) (by kernel_rfl) (by simp) ?_
  refine AllReadyH.cons (o := { dst := some 28, op := Go.Op.call { callee := Go.Callee.value (Go.Operand.func 59), args := #[Go.Operand.tmp 27, Go.Operand.const (Go.Value.int Go.IntKind.i64 5)], argTypes := #[4, 25] }, type := 25, pos := "tariff.go:24", after := #[{ on := 16, ground := Go.Ground.data }, { on := 13, ground := Go.Ground.chain }], guard := none }) rfl (fun K hK => ?_) AllReadyH.nil
  go_simp
  go_at_call 59
  refine (nErrorIf_any _ _ _).mono ?_
  rintro e w1 ⟨rfl, rfl⟩
  go_wp2_with fail
  refine hK.out _ _ ?_ (fun hHeld' => ?_)
  · exact hHeld
  clear hK K hHeld
  have hHeld := hHeld'
  clear hHeld'
  try simp only [Act.put, List.setIfInBounds_toArray, List.set_cons_zero, List.set_cons_succ]
  refine wpAnyH_ready (rs := [18]) (by kernel_rfl) (by simp) ?_
  refine AllReadyH.cons (o := { dst := some 29, op := Go.Op.buildSlice 121 3 #[(0, Go.Operand.tmp 13), (1, Go.Operand.tmp 24), (2, Go.Operand.tmp 28)], type := 121, pos := "tariff.go:21", after := #[{ on := 2, ground := Go.Ground.data }, { on := 13, ground := Go.Ground.data }, { on := 17, ground := Go.Ground.data }], guard := none }) rfl (fun K hK => ?_) AllReadyH.nil
  go_simp
  have KH := Lib.hid hHeld
  refine hK.out _ _ ?_ (fun hHeld' => ?_)
  · exact KH.out.al _
  clear hK K hHeld
  have hHeld := hHeld'
  clear hHeld'
  try simp only [Act.put, List.setIfInBounds_toArray, List.set_cons_zero, List.set_cons_succ]
  refine wpAnyH_ready (rs := [19]) (by kernel_rfl) (by simp) ?_
  refine AllReadyH.cons (o := { dst := some 30, op := Go.Op.call { callee := Go.Callee.value (Go.Operand.func 49), args := #[Go.Operand.tmp 29], argTypes := #[121] }, type := 25, pos := "tariff.go:21", after := #[{ on := 18, ground := Go.Ground.data }, { on := 17, ground := Go.Ground.chain }], guard := none }) rfl (fun K hK => ?_) AllReadyH.nil
  go_simp
  go_at_call 49
  refine (nFirstError_any [eI (!nameB r.nm) 4, eI (!c) 2, eI sn 5] _ 0 3 _ (by simp) (IntsAt.cons (by simp [go_sem]) (IntsAt.cons (by simp [go_sem]) (IntsAt.one (by simp [go_sem]))))).mono ?_
  rintro e w1 ⟨rfl, rfl⟩
  rw [HR.out]
  go_wp2_with fail
  refine hK.out _ _ ?_ (fun hHeld' => ?_)
  · exact hHeld
  clear hK K hHeld
  have hHeld := hHeld'
  clear hHeld'
  try simp only [Act.put, List.setIfInBounds_toArray, List.set_cons_zero, List.set_cons_succ]
  refine wpAnyH_take (i := 20) (oi := { dst := some 5, op := Go.Op.assign (Go.Operand.tmp 30), type := 25, pos := "tariff.go:21", after := #[{ on := 19, ground := Go.Ground.data }, { on := 19, ground := Go.Ground.chain }, { on := 0, ground := Go.Ground.phase }, { on := 1, ground := Go.Ground.phase }, { on := 2, ground := Go.Ground.phase }, { on := 3, ground := Go.Ground.phase }, { on := 4, ground := Go.Ground.phase }, { on := 5, ground := Go.Ground.phase }, { on := 6, ground := Go.Ground.phase }, { on := 7, ground := Go.Ground.phase }, { on := 8, ground := Go.Ground.phase }, { on := 9, ground := Go.Ground.phase }, { on := 10, ground := Go.Ground.phase }, { on := 11, ground := Go.Ground.phase }, { on := 12, ground := Go.Ground.phase }, { on := 13, ground := Go.Ground.phase }, { on := 14, ground := Go.Ground.phase }, { on := 15, ground := Go.Ground.phase }, { on := 16, ground := Go.Ground.phase }, { on := 17, ground := Go.Ground.phase }, { on := 18, ground := Go.Ground.phase }, { on := 19, ground := Go.Ground.phase }], guard := none }) (v := ?_) rfl (by kernel_rfl) (by kernel_rfl) (by kernel_rfl) (fun _ _ _ h => h) (Or.inl ⟨by rfl, ?_⟩) (by assumption) ?_
  rotate_left
  · intro W hSw
    go_simp
    try with_reducible rfl
  try simp only [Act.put, List.setIfInBounds_toArray, List.set_cons_zero, List.set_cons_succ]
  refine wpAnyH_done (by kernel_rfl) ?_ _
  have HH := Lib.hid hHeld
  clear hHeld
  obtain ⟨⟨q0, q1, q2⟩, ⟨q3, q4⟩, q5, q6⟩ := HH.out.q
  have hkey := key_ok HF.out.1 HF.out.2.1 HF.out.2.2
  go_wp2_with (at_mapUpdate; refine wpList_mapUpdate_own _ rfl _ _ _ 101 rfl 104 4 lawSt Try.underlying101 _ BM n D rfl q6 (by unfold maxLen; omega) _ _ _ rfl rfl hkey _ [] (plainElem_bool Try.underlying4 true) ?_; intro w2 hown2 hgrow2)
  have GR := Lib.hid ((gb_below HH.out.b).trans hgrow2)
  have OW := Lib.hid hown2
  clear hown2 hgrow2 q0 q1 q2 q3 q4 q5 q6
  go_wp2
  go_ret
  exact ⟨rfl, GR.out, OW.out⟩
theorem rate1_any (l : List Ra) (k : Nat) (r : Ra) (B3 BM n : Nat) (D : DataW Unit) (w : World) (hf : FitR r) (hS : SeenR l k D) (h3 : w.cell? ⟨B3, 0, none⟩ = some (.map (some BM))) (ho : MO w BM n D) (hn : n < 1000) :
    Calls Try.prog 58 #[r.val, .pointer (some ⟨B3, 0, none⟩)] w fun e w' => e = .returned (.int .i64 (raE (seenR l k r.nm r.fr) r)) ∧ w.grownBy w' (some BM) ∧ MO w' BM (n + 1) (D.put (kS r.nm r.fr) (.lit (.bool true))) := by
  cases h1 : inB r.fr 0 200000
  · exact rate1_n l k r B3 BM n D w _ _ hf h1 rfl hS h3 ho hn (by unfold raE; rw [h1]; rfl)
  · exact rate1_y l k r B3 BM n D w _ _ hf h1 _ rfl rfl hS h3 ho hn (by unfold raE; rw [h1]; rfl)
def errR (L : List Ra) (k : Nat) : Int := match L[k]? with | none => 0 | some r => raE (seenR L k r.nm r.fr) r
/-- the error of rates -/
def ratesE (L : List Ra) : Int := if 100 < L.length then 8 else feE ((List.range L.length).map (errR L))
theorem errR_at {L : List Ra} {k : Nat} (hk : k < L.length) : errR L k = raE (seenR L k L[k].nm L[k].fr) L[k] := by
  unfold errR; rw [List.getElem?_eq_getElem hk]
theorem ratesE_ok {L : List Ra} (h : ¬ 100 < L.length) (h0 : ∀ j, j < L.length → errR L j = 0) : ratesE L = 0 := by
  unfold ratesE; rw [if_neg h]
  exact feE_ok (by intro x hx; simp only [List.mem_map, List.mem_range] at hx; obtain ⟨j, hj, rfl⟩ := hx; exact h0 j hj)
theorem ratesE_no {L : List Ra} {k : Nat} (h : ¬ 100 < L.length) (hk : k < L.length) (h0 : ∀ j, j < k → errR L j = 0) (hb : errR L k ≠ 0) : ratesE L = errR L k := by
  unfold ratesE; rw [if_neg h]
  have := feE_no (xs := (List.range L.length).map (errR L)) (k := k) (by simpa using hk)
    (by intro x hx; rw [← List.map_take] at hx; simp only [List.mem_map] at hx; obtain ⟨j, hj, rfl⟩ := hx; rw [List.take_range] at hj; exact h0 j (by have := List.mem_range.1 hj; omega)) (by simpa using hb)
  simpa using this
set_option maxRecDepth 100000 in
set_option maxHeartbeats 2000000 in
theorem each_rate (L : List Ra) (v : Value) (B3 BM : Nat) (w : World) (hl : L.length ≤ 1000000000000) (hn : ∀ r ∈ L, FitR r) (hv : LG raC 3 w v L) (hs : L ≠ [] → ∀ b o n c, v = .slice (some ⟨b, o, none⟩) n c → b ≠ BM) (h3 : w.cell? ⟨B3, 0, none⟩ = some (.map (some BM))) (hne3 : B3 ≠ BM) (ho : MO w BM 0 (.map [])) :
    Calls Try.prog 57 #[v, .int .i64 100, .func (.func 58) #[] #[.pointer (some ⟨B3, 0, none⟩)]] w fun e w' => e = .returned (.int .i64 (ratesE L)) ∧ w.grownBy w' (some BM) := by
  obtain ⟨a, cp, rfl, -, hp⟩ := hv
  have HP := Lib.hid hp
  have HN := Lib.hid hn
  have HS := Lib.hid hs
  have H3 := Lib.hid h3
  have HO := Lib.hid ho
  clear hp hn hs h3 ho
  by_cases h2 : 100 < L.length
  · have e : ratesE L = 8 := by unfold ratesE; rw [if_pos h2]
    rw [e]
    clear e
    go_enter Try.func57, Try.ntmps57
    go_wp2
    go_ret
    exact ⟨rfl, gb_refl _ _⟩
  · have d100 : decide (100 < L.length) = false := decide_eq_false h2
    obtain ⟨R, hR⟩ : ∃ R, ratesE L = R := ⟨_, rfl⟩
    rw [hR]
    have HR := Lib.hid hR
    clear hR
    go_enter Try.func57, Try.ntmps57
    go_wp2
    go_loopw [16] (fun i wr => ∃ (k : Nat) (D : DataW Unit), k ≤ L.length ∧ i = .int .i64 k ∧ Hid (∀ j, j < k → errR L j = 0) ∧ Hid (MO wr BM k D) ∧ Hid (SeenR L k D) ∧ Hid (w.grownBy wr (some BM))) (fun i _ => L.length - (intOf i).toNat)
    case atStart => exact ⟨0, _, Nat.zero_le _, rfl, Lib.hid (fun j h => absurd h (by omega)), Lib.hid HO.out, Lib.hid (SeenR_0 L), Lib.hid (gb_refl _ _)⟩
    case round =>
      obtain ⟨k, D, hk, rfl, HA, HM, HSe, HG⟩ := hrel
      have hsz := HG.out.size
      by_cases hlt : k < L.length
      · have hne : L ≠ [] := by rintro rfl; simp at hlt
        obtain ⟨b, o, rfl, hd⟩ := HP.out hne
        have hd2 := (hd.gb HG.out (HS.out hne b o _ _ rfl)).2 k hlt
        have c0 := hd2 0 _ rfl
        have c1 := hd2 1 _ rfl
        have c2 := hd2 2 _ rfl
        rw [Nat.add_zero] at c0
        have hfk := HN.out _ (List.getElem_mem hlt)
        have CK := Lib.hid (fun ob => rate1_any L k L[k] B3 BM k D (wr.alloc ob) hfk HSe.out ((((Below.refl wr.heap.size wr).alloc (Nat.le_refl _) ob).cell (p := ⟨B3, 0, none⟩) (Nat.lt_of_lt_of_le (World.block_lt_of_cell? _ _ H3.out) hsz)).trans (HG.out.cell H3.out (fun e => hne3 (Option.some.inj e)))) (ownsMap_below HM.out ((Below.refl _ _).alloc (Nat.le_refl _) ob)) (by omega))
        have hek := errR_at hlt
        have NX := Lib.hid (HSe.out.put hlt hfk)
        clear hd hd2 hfk
        by_cases hz : errR L k = 0
        · have HA2 := Lib.hid (show ∀ j, j < k + 1 → errR L j = 0 from fun j hj => by
            by_cases g : j = k
            · subst g; exact hz
            · exact HA.out j (by omega))
          rw [hz] at hek
          rw [← hek] at CK
          clear hz hek
          generalize L[k] = d at *
          go_wp2_with (go_at_call 58; refine (CK.out _).mono ?_; rintro e w2 ⟨rfl, hg2, hm2⟩; have q2 := hg2.size; have G2 := Lib.hid hg2; have M2 := Lib.hid hm2; clear hg2 hm2)
          go_roundw
          case rel => exact ⟨k + 1, _, by omega, by go_num, HA2, M2, NX, Lib.hid ((HG.out.trans (World.grownBy_alloc _ _ _)).trans G2.out)⟩
          case measure => simp [intOf]; omega
        · have HRk := (ratesE_no h2 hlt HA.out hz).symm.trans HR.out
          rw [← hek, HRk] at CK
          have hz2 : ¬ R = 0 := fun h => hz (HRk.trans h)
          have hzb : (R != 0) = true := by simpa using hz2
          clear hz HRk hek
          generalize L[k] = d at *
          go_wp2_with (go_at_call 58; refine (CK.out _).mono ?_; rintro e w2 ⟨rfl, hg2, -⟩; have q2 := hg2.size; have G2 := Lib.hid hg2; clear hg2)
          go_ret
          exact ⟨rfl, (HG.out.trans (World.grownBy_alloc _ _ _)).trans G2.out⟩
      · obtain rfl : k = L.length := by omega
        have e0 : R = 0 := HR.out.symm.trans (ratesE_ok h2 HA.out)
        subst e0
        go_wp2
        go_ret
        exact ⟨rfl, HG.out⟩
theorem CheckRates_any (L : List Ra) (v : Value) (w : World) (hl : L.length ≤ 1000000000000) (hn : ∀ r ∈ L, FitR r) (hv : LG raC 3 w v L) : Calls Try.prog 17 #[v] w (RetB (.int .i64 (ratesE L)) w) := by
  have HV := Lib.hid hv
  have HN := Lib.hid hn
  have hmm := @run_makeMap Try.prog
  have HB := Lib.hid (fun W (h : W = (w.alloc (.map #[] 0)).alloc (.cells #[.map (some w.heap.size)] 101)) => (show Below w.heap.size w W ∧ W.cell? ⟨w.heap.size + 1, 0, none⟩ = some (.map (some w.heap.size)) ∧ MO W w.heap.size 0 (.map []) ∧ w.heap.size ≤ W.heap.size from by
    subst h
    exact ⟨((Below.refl _ _).alloc (Nat.le_refl _) _).alloc (by simp) _, by simp [go_sem], ownsMap_below (World.ownsMap_made w _ _ _) ((Below.refl _ _).alloc (Nat.le_refl _) _), by simp; omega⟩))
  clear hv hn
  go_enter Try.func17, Try.ntmps17
  go_wp2_with fail
  obtain ⟨hb, hc, hm, hs⟩ := HB.out _ rfl
  refine (each_rate L v (w.heap.size + 1) w.heap.size _ hl HN.out (HV.out.below hb) ?_ hc (by omega) hm).mono ?_
  · intro hne b o n c e1
    obtain ⟨a, c', e2, -, hq⟩ := HV.out
    obtain ⟨b', o', rfl, hd⟩ := hq hne
    rw [e1] at e2
    injection e2 with e3
    injection e3 with e4
    injection e4 with e5
    have := hd.1
    omega
  rintro e w2 ⟨rfl, hg2⟩
  have G2 := Lib.hid (below_gb hb hg2 hs (Nat.le_refl _))
  clear hg2 hb hc hm hs
  go_wp2
  go_ret
  exact ⟨rfl, G2.out⟩
end Go.Proofs.Ytcimceepkjpggaa
