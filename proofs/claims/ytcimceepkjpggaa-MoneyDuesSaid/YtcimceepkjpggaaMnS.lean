/-
  Shares of package money: contracts.
-/
import Derived.Test.YtcimceepkjpggaaMnZ
namespace Go.Proofs.Ytcimceepkjpggaa
open Go.RowKit
attribute [local go_sem] set_drewN
/-- the error of units and an amount -/
def sharesE (us : List Int) (c : Int) : Int := if us.length = 0 then 10 else feE [unsE us, eI (!inB c 0 1000000000000) 2, eI (maxL 0 us == 0) 11]
theorem sh_err {us : List Int} {c R mm : Int} (hn : us.length ≠ 0) (hR : sharesE us c = R) (h : unsE us = 0 → mm = maxL 0 us) : feE [unsE us, eI (!inB c 0 1000000000000) 2, eI (mm == 0) 11] = R := by
  rw [← hR]
  unfold sharesE
  rw [if_neg hn]
  by_cases e : unsE us = 0
  · rw [h e]
  · unfold feE; rw [if_neg e, if_neg e]
theorem maxL_ge : ∀ {l : List Int} {m : Int}, m ≤ maxL m l
  | [], m => Int.le_refl _
  | x :: l, m => by
    have := maxL_ge (l := l) (m := max m x)
    rw [maxL]; omega
theorem maxL_pos : ∀ {l : List Int} {m : Int}, 0 ≤ m → (∀ u ∈ l, 0 ≤ u) → 0 < maxL m l → 0 < m ∨ 0 < sumL l
  | [], m, _, _, h => .inl h
  | x :: l, m, hm, hu, h => by
    have hx := hu x (by simp)
    have hp : 0 ≤ sumL l := by
      have : ∀ {l : List Int}, (∀ q ∈ l, 0 ≤ q) → 0 ≤ sumL l := by
        intro l
        induction l with
        | nil => intro _; simp [sumL]
        | cons y l ih => intro h; have := ih (fun q m => h q (by simp [m])); have := h y (by simp); rw [sumL]; omega
      exact this fun u m => hu u (by simp [m])
    rw [maxL] at h
    rcases maxL_pos (l := l) (m := max m x) (by omega) (fun u mm => hu u (by simp [mm])) h with h1 | h1
    · rw [sumL]; omega
    · rw [sumL]; omega
theorem feE3 {a b d : Int} (h : feE [a, b, d] = 0) : a = 0 ∧ b = 0 ∧ d = 0 := by
  unfold feE at h
  by_cases ha : a = 0
  · rw [if_pos ha] at h
    unfold feE at h
    by_cases hb : b = 0
    · rw [if_pos hb] at h
      unfold feE at h
      by_cases hd : d = 0
      · exact ⟨ha, hb, hd⟩
      · rw [if_neg hd] at h; exact absurd h hd
    · rw [if_neg hb] at h; exact absurd h hb
  · rw [if_neg ha] at h; exact absurd h ha
theorem eI0 {c : Bool} {x : Int} (hx : x ≠ 0) (h : eI c x = 0) : c = false := by
  cases c
  · rfl
  · exact absurd h hx
theorem feE_all : ∀ {xs : List Int}, feE xs = 0 → ∀ x ∈ xs, x = 0
  | [], _, x, m => by cases m
  | y :: ys, h, x, m => by
    unfold feE at h
    by_cases hy : y = 0
    · rw [if_pos hy] at h
      rcases List.mem_cons.1 m with rfl | m
      · exact hy
      · exact feE_all h x m
    · rw [if_neg hy] at h; exact absurd h hy
structure SharesOk (us : List Int) (c : Int) : Prop where
  ne : us.length ≠ 0
  c0 : 0 ≤ c
  c9 : c ≤ 1000000000000
  hu : ∀ u ∈ us, 0 ≤ u ∧ u ≤ 1000000
  pos : 0 < sumL us
theorem shares_is {us : List Int} {c : Int} (h : sharesE us c = 0) : SharesOk us c := by
  unfold sharesE at h
  by_cases hn : us.length = 0
  · rw [if_pos hn] at h; cases h
  · rw [if_neg hn] at h
    obtain ⟨h1, h2, h3⟩ := feE3 h
    have k2 := eI0 (by decide) h2
    have k3 := eI0 (by decide) h3
    have hc : inB c 0 1000000000000 = true := by simpa using k2
    obtain ⟨c0, c9⟩ := inB_iff.1 hc
    have hu : ∀ u ∈ us, 0 ≤ u ∧ u ≤ 1000000 := by
      unfold unsE at h1
      by_cases h40 : 40 < us.length
      · rw [if_pos h40] at h1; cases h1
      · rw [if_neg h40] at h1
        intro u m
        have := feE_all h1 (unE u) (List.mem_map.2 ⟨u, m, rfl⟩)
        have k := eI0 (by decide) this
        exact inB_iff.1 (by simpa using k)
    have hmx : maxL 0 us ≠ 0 := by simpa using k3
    have := maxL_ge (l := us) (m := 0)
    rcases maxL_pos (l := us) (m := 0) (Int.le_refl _) (fun u m => (hu u m).1) (by omega) with h5 | h5
    · omega
    · exact ⟨hn, c0, c9, hu, h5⟩
theorem Shares_none (a : Option Addr) (cp : Nat) (c : Int) (w : World) : Calls Try.prog 43 #[.slice a 0 cp, .int .i64 c] w (RetB (two (.slice none 0 0) (.int .i64 10)) w) := by
  go_enter Try.func43, Try.ntmps43
  go_wp2
  go_ret2
  exact ⟨rfl, Below.refl _ _⟩
set_option maxRecDepth 100000 in
set_option maxHeartbeats 8000000 in
theorem Shares_bad (us : List Int) (v : Value) (c : Int) (w : World) (hn : us.length ≠ 0) (hv : LI w v us) (R : Int) (hR : sharesE us c = R) (hz : R ≠ 0) (hl : us.length ≤ 1000000000000) :
    Calls Try.prog 43 #[v, .int .i64 c] w ((RetB (two (.slice none 0 0) (.int .i64 R)) w)) := by
  have HV := Lib.hid hv
  obtain ⟨a, cp, rfl, hp⟩ := hv
  obtain ⟨bu, rfl, hbu, hcu⟩ := hp (fun e => hn (by rw [e]; rfl))
  have HB := Lib.hid (fun W (h : W = w.alloc (.cells #[.int .i64 0] 3)) => (show BoxI w.heap.size 0 W ∧ W.frozen? ⟨w.heap.size, 0, none⟩ = false ∧ Below w.heap.size w W from by
    subst h
    exact ⟨by simp [BoxI, go_sem], by simp [go_sem], (Below.refl _ _).alloc (Nat.le_refl _) _⟩))
  have HN := Lib.hid hn
  have hnz : ((us.length : Int) == 0) = false := by rw [beq_eq_false_iff_ne]; omega
  have hnz2 : ¬ (us.length : Int) = 0 := by omega
  have HR := Lib.hid hR
  have hzb : (R != 0) = true := by simpa using hz
  clear hp hR
  go_enter Try.func43, Try.ntmps43
  go_wp2_with fail
  refine (each_int us _ w.heap.size _ (by omega) (HV.out.below (HB.out _ rfl).2.2) ?_ (HB.out _ rfl).1 (HB.out _ rfl).2.1).mono ?_
  · intro _ b n c' e1
    cases e1
    exact Nat.ne_of_lt hbu
  rintro e w2 ⟨mm, rfl, hg, hbx, hmm⟩
  have HR2 := Lib.hid (sh_err HN.out HR.out hmm)
  have KB := Lib.hid (show KQ (fun W => LI W (.slice (some ⟨bu, 0, none⟩) us.length cp) us ∧ BoxI w.heap.size mm W) w w2 from ⟨fun A B h hb => ⟨h.1.below hb, h.2.keep hb⟩, ⟨HV.out.below (below_gb (HB.out _ rfl).2.2 hg (HB.out _ rfl).2.2.size (Nat.le_refl _)), hbx⟩, below_gb (HB.out _ rfl).2.2 hg (HB.out _ rfl).2.2.size (Nat.le_refl _)⟩)
  clear hg hbx hmm HB
  go_wp2_with fail
  refine wp_region_held_drew (S := (KQ (fun W => LI W (.slice (some ⟨bu, 0, none⟩) us.length cp) us ∧ BoxI w.heap.size mm W) w)) (by kernel_rfl) ?_ (fun hHeld => ?_)
  · exact KB.out.dr
  refine wpAnyH_take (i := 0) (oi := { dst := some 15, op := Go.Op.move (Go.Operand.tmp 7), type := 25, pos := "shares.go:22", after := #[], guard := none }) (v := ?_) rfl (by kernel_rfl) (by kernel_rfl) (by kernel_rfl) (fun _ _ _ h => h) (Or.inl ⟨by rfl, ?_⟩) (by assumption) ?_
  rotate_left
  · intro W hSw
    go_simp
    try with_reducible rfl
  try simp only [Act.put, List.setIfInBounds_toArray, List.set_cons_zero, List.set_cons_succ]
  refine wpAnyH_take (i := 1) (oi := { dst := some 16, op := Go.Op.move (Go.Operand.tmp 1), type := 3, pos := "shares.go:22", after := #[], guard := none }) (v := ?_) rfl (by kernel_rfl) (by kernel_rfl) (by kernel_rfl) (fun _ _ _ h => h) (Or.inl ⟨by rfl, ?_⟩) (by assumption) ?_
  rotate_left
  · intro W hSw
    go_simp
    try with_reducible rfl
  try simp only [Act.put, List.setIfInBounds_toArray, List.set_cons_zero, List.set_cons_succ]
  refine wpAnyH_take (i := 5) (oi := { dst := some 20, op := Go.Op.load 3 (Go.Operand.tmp 6), type := 3, pos := "shares.go:22", after := #[], guard := none }) (v := ?_) rfl (by kernel_rfl) (by kernel_rfl) (by kernel_rfl) (fun _ _ _ h => h) (Or.inl ⟨by rfl, ?_⟩) (by assumption) ?_
  rotate_left
  · intro W hSw
    have q0 := hSw.q.2
    unfold BoxI at q0
    go_simp
    try with_reducible rfl
  try simp only [Act.put, List.setIfInBounds_toArray, List.set_cons_zero, List.set_cons_succ]
  refine wpAnyH_take (i := 6) (oi := { dst := some 21, op := Go.Op.binOp Go.BinOp.eql 3 (Go.Operand.tmp 20) (Go.Operand.const (Go.Value.int Go.IntKind.i64 0)) 3, type := 4, pos := "shares.go:22", after := #[{ on := 5, ground := Go.Ground.data }], guard := none }) (v := ?_) rfl (by kernel_rfl) (by kernel_rfl) (by kernel_rfl) (fun _ _ _ h => h) (Or.inl ⟨by rfl, ?_⟩) (by assumption) ?_
  rotate_left
  · intro W hSw
    go_simp
    try with_reducible rfl
  try simp only [Act.put, List.setIfInBounds_toArray, List.set_cons_zero, List.set_cons_succ]
  refine wpAnyH_ready (rs := [2]) (by kernel_rfl) (by simp) ?_
  refine AllReadyH.cons (o := { dst := some 17, op := Go.Op.call { callee := Go.Callee.value (Go.Operand.func 60), args := #[Go.Operand.tmp 16, Go.Operand.const (Go.Value.int Go.IntKind.i64 0), Go.Operand.const (Go.Value.int Go.IntKind.i64 1000000000000)], argTypes := #[3, 3, 3] }, type := 4, pos := "shares.go:22", after := #[{ on := 1, ground := Go.Ground.data }], guard := none }) rfl (fun K hK => ?_) AllReadyH.nil
  go_simp
  go_at_call 60
  refine (nIsFromTo_any _ _ _ _).mono ?_
  rintro e w1 ⟨rfl, rfl⟩
  go_wp2_with fail
  refine hK.out _ _ ?_ (fun hHeld' => ?_)
  · exact hHeld
  clear hK K hHeld
  have hHeld := hHeld'
  clear hHeld'
  try simp only [Act.put, List.setIfInBounds_toArray, List.set_cons_zero, List.set_cons_succ]
  refine wpAnyH_take (i := 3) (oi := { dst := some 18, op := Go.Op.unOp Go.UnOp.not 4 (Go.Operand.tmp 17), type := 4, pos := "shares.go:22", after := #[{ on := 2, ground := Go.Ground.data }], guard := none }) (v := ?_) rfl (by kernel_rfl) (by kernel_rfl) (by kernel_rfl) (fun _ _ _ h => h) (Or.inl ⟨by rfl, ?_⟩) (by assumption) ?_
  rotate_left
  · intro W hSw
    go_simp
    try with_reducible rfl
  try simp only [Act.put, List.setIfInBounds_toArray, List.set_cons_zero, List.set_cons_succ]
  refine wpAnyH_ready (rs := [4]) (by kernel_rfl) (by simp) ?_
  refine AllReadyH.cons (o := { dst := some 19, op := Go.Op.call { callee := Go.Callee.value (Go.Operand.func 59), args := #[Go.Operand.tmp 18, Go.Operand.const (Go.Value.int Go.IntKind.i64 2)], argTypes := #[4, 25] }, type := 25, pos := "shares.go:22", after := #[{ on := 3, ground := Go.Ground.data }, { on := 2, ground := Go.Ground.chain }], guard := none }) rfl (fun K hK => ?_) AllReadyH.nil
  go_simp
  go_at_call 59
  refine (nErrorIf_any _ _ _).mono ?_
  rintro e w1 ⟨rfl, rfl⟩
  go_wp2_with fail
  refine hK.out _ _ ?_ (fun hHeld' => ?_)
  · exact hHeld
  clear hK K hHeld
  have hHeld := hHeld'
  clear hHeld'
  try simp only [Act.put, List.setIfInBounds_toArray, List.set_cons_zero, List.set_cons_succ]
  refine wpAnyH_ready (rs := [7]) (by kernel_rfl) (by simp) ?_
  refine AllReadyH.cons (o := { dst := some 22, op := Go.Op.call { callee := Go.Callee.value (Go.Operand.func 59), args := #[Go.Operand.tmp 21, Go.Operand.const (Go.Value.int Go.IntKind.i64 11)], argTypes := #[4, 25] }, type := 25, pos := "shares.go:22", after := #[{ on := 6, ground := Go.Ground.data }, { on := 4, ground := Go.Ground.chain }], guard := none }) rfl (fun K hK => ?_) AllReadyH.nil
  go_simp
  go_at_call 59
  refine (nErrorIf_any _ _ _).mono ?_
  rintro e w1 ⟨rfl, rfl⟩
  go_wp2_with fail
  refine hK.out _ _ ?_ (fun hHeld' => ?_)
  · exact hHeld
  clear hK K hHeld
  have hHeld := hHeld'
  clear hHeld'
  try simp only [Act.put, List.setIfInBounds_toArray, List.set_cons_zero, List.set_cons_succ]
  refine wpAnyH_ready (rs := [8]) (by kernel_rfl) (by simp) ?_
  refine AllReadyH.cons (o := { dst := some 23, op := Go.Op.buildSlice 121 3 #[(0, Go.Operand.tmp 15), (1, Go.Operand.tmp 19), (2, Go.Operand.tmp 22)], type := 121, pos := "shares.go:22", after := #[{ on := 0, ground := Go.Ground.data }, { on := 4, ground := Go.Ground.data }, { on := 7, ground := Go.Ground.data }], guard := none }) rfl (fun K hK => ?_) AllReadyH.nil
  go_simp
  have KH := Lib.hid hHeld
  refine hK.out _ _ ?_ (fun hHeld' => ?_)
  · exact KH.out.al _
  clear hK K hHeld
  have hHeld := hHeld'
  clear hHeld'
  try simp only [Act.put, List.setIfInBounds_toArray, List.set_cons_zero, List.set_cons_succ]
  refine wpAnyH_ready (rs := [9]) (by kernel_rfl) (by simp) ?_
  refine AllReadyH.cons (o := { dst := some 24, op := Go.Op.call { callee := Go.Callee.value (Go.Operand.func 49), args := #[Go.Operand.tmp 23], argTypes := #[121] }, type := 25, pos := "shares.go:22", after := #[{ on := 8, ground := Go.Ground.data }, { on := 7, ground := Go.Ground.chain }], guard := none }) rfl (fun K hK => ?_) AllReadyH.nil
  go_simp
  go_at_call 49
  refine (nFirstError_any [unsE us, eI (!inB c 0 1000000000000) 2, eI (mm == 0) 11] _ 0 3 _ (by simp) (IntsAt.cons (by simp [go_sem]) (IntsAt.cons (by simp [go_sem]) (IntsAt.one (by simp [go_sem]))))).mono ?_
  rintro e w1 ⟨rfl, rfl⟩
  rw [HR2.out]
  go_wp2_with fail
  refine hK.out _ _ ?_ (fun hHeld' => ?_)
  · exact hHeld
  clear hK K hHeld
  have hHeld := hHeld'
  clear hHeld'
  try simp only [Act.put, List.setIfInBounds_toArray, List.set_cons_zero, List.set_cons_succ]
  refine wpAnyH_take (i := 10) (oi := { dst := some 8, op := Go.Op.assign (Go.Operand.tmp 24), type := 25, pos := "shares.go:22", after := #[{ on := 9, ground := Go.Ground.data }, { on := 9, ground := Go.Ground.chain }, { on := 0, ground := Go.Ground.phase }, { on := 1, ground := Go.Ground.phase }, { on := 2, ground := Go.Ground.phase }, { on := 3, ground := Go.Ground.phase }, { on := 4, ground := Go.Ground.phase }, { on := 5, ground := Go.Ground.phase }, { on := 6, ground := Go.Ground.phase }, { on := 7, ground := Go.Ground.phase }, { on := 8, ground := Go.Ground.phase }, { on := 9, ground := Go.Ground.phase }], guard := none }) (v := ?_) rfl (by kernel_rfl) (by kernel_rfl) (by kernel_rfl) (fun _ _ _ h => h) (Or.inl ⟨by rfl, ?_⟩) (by assumption) ?_
  rotate_left
  · intro W hSw
    go_simp
    try with_reducible rfl
  try simp only [Act.put, List.setIfInBounds_toArray, List.set_cons_zero, List.set_cons_succ]
  refine wpAnyH_done (by kernel_rfl) ?_ _
  have HH := Lib.hid hHeld
  clear hHeld
  go_wp2
  go_ret2
  exact ⟨rfl, HH.out.b⟩
set_option maxRecDepth 100000 in
set_option maxHeartbeats 8000000 in
theorem Shares_ok (us : List Int) (v : Value) (c : Int) (w : World) (hn : us.length ≠ 0) (hv : LI w v us) (hl : us.length ≤ 19) (hR : sharesE us c = 0) :
    Calls Try.prog 43 #[v, .int .i64 c] w (fun e w' => ∃ u, e = .returned (two u (.int .i64 0)) ∧ LI w' u (shM us c) ∧ Below w.heap.size w w') := by
  have HV := Lib.hid hv
  obtain ⟨a, cp, rfl, hp⟩ := hv
  obtain ⟨bu, rfl, hbu, hcu⟩ := hp (fun e => hn (by rw [e]; rfl))
  have HB := Lib.hid (fun W (h : W = w.alloc (.cells #[.int .i64 0] 3)) => (show BoxI w.heap.size 0 W ∧ W.frozen? ⟨w.heap.size, 0, none⟩ = false ∧ Below w.heap.size w W from by
    subst h
    exact ⟨by simp [BoxI, go_sem], by simp [go_sem], (Below.refl _ _).alloc (Nat.le_refl _) _⟩))
  have HN := Lib.hid hn
  have hnz : ((us.length : Int) == 0) = false := by rw [beq_eq_false_iff_ne]; omega
  have hnz2 : ¬ (us.length : Int) = 0 := by omega
  have OK := Lib.hid (shares_is hR)
  have HR := Lib.hid hR
  clear hp hR
  go_enter Try.func43, Try.ntmps43
  go_wp2_with fail
  refine (each_int us _ w.heap.size _ (by omega) (HV.out.below (HB.out _ rfl).2.2) ?_ (HB.out _ rfl).1 (HB.out _ rfl).2.1).mono ?_
  · intro _ b n c' e1
    cases e1
    exact Nat.ne_of_lt hbu
  rintro e w2 ⟨mm, rfl, hg, hbx, hmm⟩
  have HR2 := Lib.hid (sh_err HN.out HR.out hmm)
  have KB := Lib.hid (show KQ (fun W => LI W (.slice (some ⟨bu, 0, none⟩) us.length cp) us ∧ BoxI w.heap.size mm W) w w2 from ⟨fun A B h hb => ⟨h.1.below hb, h.2.keep hb⟩, ⟨HV.out.below (below_gb (HB.out _ rfl).2.2 hg (HB.out _ rfl).2.2.size (Nat.le_refl _)), hbx⟩, below_gb (HB.out _ rfl).2.2 hg (HB.out _ rfl).2.2.size (Nat.le_refl _)⟩)
  clear hg hbx hmm HB
  go_wp2_with fail
  refine wp_region_held_drew (S := (KQ (fun W => LI W (.slice (some ⟨bu, 0, none⟩) us.length cp) us ∧ BoxI w.heap.size mm W) w)) (by kernel_rfl) ?_ (fun hHeld => ?_)
  · exact KB.out.dr
  refine wpAnyH_take (i := 0) (oi := { dst := some 15, op := Go.Op.move (Go.Operand.tmp 7), type := 25, pos := "shares.go:22", after := #[], guard := none }) (v := ?_) rfl (by kernel_rfl) (by kernel_rfl) (by kernel_rfl) (fun _ _ _ h => h) (Or.inl ⟨by rfl, ?_⟩) (by assumption) ?_
  rotate_left
  · intro W hSw
    go_simp
    try with_reducible rfl
  try simp only [Act.put, List.setIfInBounds_toArray, List.set_cons_zero, List.set_cons_succ]
  refine wpAnyH_take (i := 1) (oi := { dst := some 16, op := Go.Op.move (Go.Operand.tmp 1), type := 3, pos := "shares.go:22", after := #[], guard := none }) (v := ?_) rfl (by kernel_rfl) (by kernel_rfl) (by kernel_rfl) (fun _ _ _ h => h) (Or.inl ⟨by rfl, ?_⟩) (by assumption) ?_
  rotate_left
  · intro W hSw
    go_simp
    try with_reducible rfl
  try simp only [Act.put, List.setIfInBounds_toArray, List.set_cons_zero, List.set_cons_succ]
  refine wpAnyH_take (i := 5) (oi := { dst := some 20, op := Go.Op.load 3 (Go.Operand.tmp 6), type := 3, pos := "shares.go:22", after := #[], guard := none }) (v := ?_) rfl (by kernel_rfl) (by kernel_rfl) (by kernel_rfl) (fun _ _ _ h => h) (Or.inl ⟨by rfl, ?_⟩) (by assumption) ?_
  rotate_left
  · intro W hSw
    have q0 := hSw.q.2
    unfold BoxI at q0
    go_simp
    try with_reducible rfl
  try simp only [Act.put, List.setIfInBounds_toArray, List.set_cons_zero, List.set_cons_succ]
  refine wpAnyH_take (i := 6) (oi := { dst := some 21, op := Go.Op.binOp Go.BinOp.eql 3 (Go.Operand.tmp 20) (Go.Operand.const (Go.Value.int Go.IntKind.i64 0)) 3, type := 4, pos := "shares.go:22", after := #[{ on := 5, ground := Go.Ground.data }], guard := none }) (v := ?_) rfl (by kernel_rfl) (by kernel_rfl) (by kernel_rfl) (fun _ _ _ h => h) (Or.inl ⟨by rfl, ?_⟩) (by assumption) ?_
  rotate_left
  · intro W hSw
    go_simp
    try with_reducible rfl
  try simp only [Act.put, List.setIfInBounds_toArray, List.set_cons_zero, List.set_cons_succ]
  refine wpAnyH_ready (rs := [2]) (by kernel_rfl) (by simp) ?_
  refine AllReadyH.cons (o := { dst := some 17, op := Go.Op.call { callee := Go.Callee.value (Go.Operand.func 60), args := #[Go.Operand.tmp 16, Go.Operand.const (Go.Value.int Go.IntKind.i64 0), Go.Operand.const (Go.Value.int Go.IntKind.i64 1000000000000)], argTypes := #[3, 3, 3] }, type := 4, pos := "shares.go:22", after := #[{ on := 1, ground := Go.Ground.data }], guard := none }) rfl (fun K hK => ?_) AllReadyH.nil
  go_simp
  go_at_call 60
  refine (nIsFromTo_any _ _ _ _).mono ?_
  rintro e w1 ⟨rfl, rfl⟩
  go_wp2_with fail
  refine hK.out _ _ ?_ (fun hHeld' => ?_)
  · exact hHeld
  clear hK K hHeld
  have hHeld := hHeld'
  clear hHeld'
  try simp only [Act.put, List.setIfInBounds_toArray, List.set_cons_zero, List.set_cons_succ]
  refine wpAnyH_take (i := 3) (oi := { dst := some 18, op := Go.Op.unOp Go.UnOp.not 4 (Go.Operand.tmp 17), type := 4, pos := "shares.go:22", after := #[{ on := 2, ground := Go.Ground.data }], guard := none }) (v := ?_) rfl (by kernel_rfl) (by kernel_rfl) (by kernel_rfl) (fun _ _ _ h => h) (Or.inl ⟨by rfl, ?_⟩) (by assumption) ?_
  rotate_left
  · intro W hSw
    go_simp
    try with_reducible rfl
  try simp only [Act.put, List.setIfInBounds_toArray, List.set_cons_zero, List.set_cons_succ]
  refine wpAnyH_ready (rs := [4]) (by kernel_rfl) (by simp) ?_
  refine AllReadyH.cons (o := { dst := some 19, op := Go.Op.call { callee := Go.Callee.value (Go.Operand.func 59), args := #[Go.Operand.tmp 18, Go.Operand.const (Go.Value.int Go.IntKind.i64 2)], argTypes := #[4, 25] }, type := 25, pos := "shares.go:22", after := #[{ on := 3, ground := Go.Ground.data }, { on := 2, ground := Go.Ground.chain }], guard := none }) rfl (fun K hK => ?_) AllReadyH.nil
  go_simp
  go_at_call 59
  refine (nErrorIf_any _ _ _).mono ?_
  rintro e w1 ⟨rfl, rfl⟩
  go_wp2_with fail
  refine hK.out _ _ ?_ (fun hHeld' => ?_)
  · exact hHeld
  clear hK K hHeld
  have hHeld := hHeld'
  clear hHeld'
  try simp only [Act.put, List.setIfInBounds_toArray, List.set_cons_zero, List.set_cons_succ]
  refine wpAnyH_ready (rs := [7]) (by kernel_rfl) (by simp) ?_
  refine AllReadyH.cons (o := { dst := some 22, op := Go.Op.call { callee := Go.Callee.value (Go.Operand.func 59), args := #[Go.Operand.tmp 21, Go.Operand.const (Go.Value.int Go.IntKind.i64 11)], argTypes := #[4, 25] }, type := 25, pos := "shares.go:22", after := #[{ on := 6, ground := Go.Ground.data }, { on := 4, ground := Go.Ground.chain }], guard := none }) rfl (fun K hK => ?_) AllReadyH.nil
  go_simp
  go_at_call 59
  refine (nErrorIf_any _ _ _).mono ?_
  rintro e w1 ⟨rfl, rfl⟩
  go_wp2_with fail
  refine hK.out _ _ ?_ (fun hHeld' => ?_)
  · exact hHeld
  clear hK K hHeld
  have hHeld := hHeld'
  clear hHeld'
  try simp only [Act.put, List.setIfInBounds_toArray, List.set_cons_zero, List.set_cons_succ]
  refine wpAnyH_ready (rs := [8]) (by kernel_rfl) (by simp) ?_
  refine AllReadyH.cons (o := { dst := some 23, op := Go.Op.buildSlice 121 3 #[(0, Go.Operand.tmp 15), (1, Go.Operand.tmp 19), (2, Go.Operand.tmp 22)], type := 121, pos := "shares.go:22", after := #[{ on := 0, ground := Go.Ground.data }, { on := 4, ground := Go.Ground.data }, { on := 7, ground := Go.Ground.data }], guard := none }) rfl (fun K hK => ?_) AllReadyH.nil
  go_simp
  have KH := Lib.hid hHeld
  refine hK.out _ _ ?_ (fun hHeld' => ?_)
  · exact KH.out.al _
  clear hK K hHeld
  have hHeld := hHeld'
  clear hHeld'
  try simp only [Act.put, List.setIfInBounds_toArray, List.set_cons_zero, List.set_cons_succ]
  refine wpAnyH_ready (rs := [9]) (by kernel_rfl) (by simp) ?_
  refine AllReadyH.cons (o := { dst := some 24, op := Go.Op.call { callee := Go.Callee.value (Go.Operand.func 49), args := #[Go.Operand.tmp 23], argTypes := #[121] }, type := 25, pos := "shares.go:22", after := #[{ on := 8, ground := Go.Ground.data }, { on := 7, ground := Go.Ground.chain }], guard := none }) rfl (fun K hK => ?_) AllReadyH.nil
  go_simp
  go_at_call 49
  refine (nFirstError_any [unsE us, eI (!inB c 0 1000000000000) 2, eI (mm == 0) 11] _ 0 3 _ (by simp) (IntsAt.cons (by simp [go_sem]) (IntsAt.cons (by simp [go_sem]) (IntsAt.one (by simp [go_sem]))))).mono ?_
  rintro e w1 ⟨rfl, rfl⟩
  rw [HR2.out]
  go_wp2_with fail
  refine hK.out _ _ ?_ (fun hHeld' => ?_)
  · exact hHeld
  clear hK K hHeld
  have hHeld := hHeld'
  clear hHeld'
  try simp only [Act.put, List.setIfInBounds_toArray, List.set_cons_zero, List.set_cons_succ]
  refine wpAnyH_take (i := 10) (oi := { dst := some 8, op := Go.Op.assign (Go.Operand.tmp 24), type := 25, pos := "shares.go:22", after := #[{ on := 9, ground := Go.Ground.data }, { on := 9, ground := Go.Ground.chain }, { on := 0, ground := Go.Ground.phase }, { on := 1, ground := Go.Ground.phase }, { on := 2, ground := Go.Ground.phase }, { on := 3, ground := Go.Ground.phase }, { on := 4, ground := Go.Ground.phase }, { on := 5, ground := Go.Ground.phase }, { on := 6, ground := Go.Ground.phase }, { on := 7, ground := Go.Ground.phase }, { on := 8, ground := Go.Ground.phase }, { on := 9, ground := Go.Ground.phase }], guard := none }) (v := ?_) rfl (by kernel_rfl) (by kernel_rfl) (by kernel_rfl) (fun _ _ _ h => h) (Or.inl ⟨by rfl, ?_⟩) (by assumption) ?_
  rotate_left
  · intro W hSw
    go_simp
    try with_reducible rfl
  try simp only [Act.put, List.setIfInBounds_toArray, List.set_cons_zero, List.set_cons_succ]
  refine wpAnyH_done (by kernel_rfl) ?_ _
  have HH := Lib.hid hHeld
  clear hHeld
  obtain ⟨m, hm⟩ : ∃ m, us.length = m + 1 := ⟨us.length - 1, by have := HN.out; omega⟩
  have HM := Lib.hid hm
  have hm9 : m ≤ 18 := by omega
  clear hnz hnz2
  rw [hm]
  clear hm
  go_wp2_with fail
  obtain ⟨a', c', e', hq⟩ := HH.out.q.1
  obtain ⟨b', e2, hb3, hc3⟩ := hq (fun e => HN.out (by rw [e]; rfl))
  obtain rfl : bu = b' := by injection e' with e3; rw [e2] at e3; injection e3 with e4; injection e4
  refine (shared_any us c m bu cp _ HM.out hm9 OK.out.c0 OK.out.c9 (fun u mu => ⟨(OK.out.hu u mu).1, by have := (OK.out.hu u mu).2; omega⟩) OK.out.pos hb3 hc3).mono ?_
  rintro e w3 ⟨u, rfl, hu, hb⟩
  have HU := Lib.hid hu
  have B3 := Lib.hid (HH.out.b.trans (hb.mono HH.out.b.size))
  clear hu hb e' hq hc3
  go_wp2
  go_ret2
  exact ⟨_, rfl, HU.out, B3.out⟩
end Go.Proofs.Ytcimceepkjpggaa
