/-
  Instalments and Plan of the specification of chapter 9: contracts.
-/
import Derived.Test.YtcimceepkjpggaaMnP
namespace Go.Proofs.Ytcimceepkjpggaa
open Go.RowKit
attribute [local go_sem] set_drewN
set_option maxRecDepth 100000 in
theorem xInst_ok (c : Int) (n : Nat) (w : World) (h0 : 0 ≤ c) (h9 : c ≤ 1000000000000) (n1 : 1 ≤ n) (n9 : n ≤ 120) :
    Calls Try.prog 32 #[.int .i64 c, .int .i64 n] w fun e w' => ∃ v, e = .returned (two v (.int .i64 0)) ∧ Hid (IRow w w' (psM c n n) v) := by
  have i1 := inB_yes (n := c) (a := 0) (b := 1000000000000) h0 h9
  have i2 := inB_yes (n := (n : Int)) (a := 1) (b := 120) (by omega) (by omega)
  have hq := Int.ediv_nonneg h0 (show (0 : Int) ≤ n by omega)
  have hq2 := Int.ediv_le_self (n : Int) h0
  have hm := Int.emod_nonneg c (show (n : Int) ≠ 0 by omega)
  have hm2 := Int.emod_lt_of_pos c (show (0 : Int) < n by omega)
  obtain ⟨i0, hi, hz0, hz1, hz2⟩ := info_parts infoI
  go_enter Try.func32, Try.ntmps32
  go_wp2_with (first
    | (go_at_call 67; refine (xIsCents_any _ _ _).mono ?_; rintro e w' ⟨rfl, rfl⟩; rw [i1])
    | (go_at_call 56; refine (bWithin_any _ _ _ _).mono ?_; rintro e w' ⟨rfl, rfl⟩; rw [i2]))
  go_loopw [6, 7] (fun lv iv wr => ∃ k : Nat, k ≤ n ∧ iv = .int .i64 k ∧ Hid (IRow w wr (psM c n k) lv)) (fun _ iv _ => n - (intOf iv).toNat)
  case atStart => exact ⟨0, Nat.zero_le _, rfl, Lib.hid (IRow.nil w)⟩
  case round =>
    obtain ⟨k, hk, rfl, HR⟩ := hrel
    have hsz := HR.out.2.size
    by_cases hlt : k < n
    · have PS := Lib.hid (psM_succ c n k)
      have PL := Lib.hid (psM_len c n k)
      by_cases hr : (k : Int) < c % n
      · have PT := Lib.hid (ptM_1 hr)
        go_wp2_with (at_builtin; refine wpList_append_own _ rfl _ _ 57 rfl w.heap.size 3 i0 (.int .i64 0) 1 8 Try.underlying57 hi hz0 hz1 hz2 rfl (by decide) _ _ _ rfl (HR.out.1.alloc _) ⟨wr.heap.size, 0, none⟩ 1 1 [.int .i64 (c / n + 1)] rfl rfl ?c1 ?c2 ?c3 ?c4 ?c5 ?_)
        case c1 => exact World.news_of_block (cs := #[.int .i64 (c / n + 1)]) (heap_alloc_new _ _)
        case c2 => simp [Value.oneCell']
        case c3 => rw [PL.out]; unfold maxLen; omega
        case c4 => rw [PL.out]; omega
        case c5 => first | omega | (simp; omega)
        intro v3 w3 hown3 hgrow3 _
        have D3 := Lib.hid (IRow.snoc hown3 (HR.out.2.alloc hsz _) hgrow3 (HR.out.1.alloc _))
        go_wp2
        go_roundw
        case rel => exact ⟨k + 1, by omega, by go_num, Lib.hid (by rw [PS.out, PT.out]; exact D3.out)⟩
        case measure => simp [intOf]; omega
      · have PT := Lib.hid (ptM_0 hr)
        go_wp2_with (at_builtin; refine wpList_append_own _ rfl _ _ 57 rfl w.heap.size 3 i0 (.int .i64 0) 1 8 Try.underlying57 hi hz0 hz1 hz2 rfl (by decide) _ _ _ rfl (HR.out.1.alloc _) ⟨wr.heap.size, 0, none⟩ 1 1 [.int .i64 (c / n)] rfl rfl ?c1 ?c2 ?c3 ?c4 ?c5 ?_)
        try case c1 => exact World.news_of_block (cs := #[.int .i64 (c / n)]) (heap_alloc_new _ _)
        case c2 => simp [Value.oneCell']
        case c3 => rw [PL.out]; unfold maxLen; omega
        case c4 => rw [PL.out]; omega
        case c5 => first | omega | (simp; omega)
        intro v3 w3 hown3 hgrow3 _
        have D3 := Lib.hid (IRow.snoc hown3 (HR.out.2.alloc hsz _) hgrow3 (HR.out.1.alloc _))
        go_wp2
        go_roundw
        case rel => exact ⟨k + 1, by omega, by go_num, Lib.hid (by rw [PS.out, PT.out]; exact D3.out)⟩
        case measure => simp [intOf]; omega
    · obtain rfl : k = n := by omega
      go_wp2
      go_ret2
      exact ⟨_, rfl, HR⟩
theorem xInst_bad (c n : Int) (w : World) (h : (inB c 0 1000000000000 && inB n 1 120) = false) :
    Calls Try.prog 32 #[.int .i64 c, .int .i64 n] w (Ret (two (.slice none 0 0) (.int .i64 2)) w) := by
  cases i1 : inB c 0 1000000000000
  · have I1 := Lib.hid i1
    clear i1 h
    go_enter Try.func32, Try.ntmps32
    go_wp2_with (go_at_call 67; refine (xIsCents_any _ _ _).mono ?_; rintro e w' ⟨rfl, rfl⟩; rw [I1.out])
    go_ret2
    exact ⟨rfl, rfl⟩
  · have i2 : inB n 1 120 = false := by rw [i1] at h; simpa using h
    have I1 := Lib.hid i1
    have I2 := Lib.hid i2
    clear i1 i2 h
    go_enter Try.func32, Try.ntmps32
    go_wp2_with (first
      | (go_at_call 67; refine (xIsCents_any _ _ _).mono ?_; rintro e w' ⟨rfl, rfl⟩; rw [I1.out])
      | (go_at_call 56; refine (bWithin_any _ _ _ _).mono ?_; rintro e w' ⟨rfl, rfl⟩; rw [I2.out]))
    go_ret2
    exact ⟨rfl, rfl⟩
set_option maxRecDepth 100000 in
set_option maxHeartbeats 4000000 in
theorem xPlan_ok (c : Int) (n : Nat) (d0 d1 : Int) (w : World) (h0 : 0 ≤ c) (h9 : c ≤ 1000000000000) (n1 : 1 ≤ n) (n9 : n ≤ 120) (a0 : 0 ≤ d0) (a9 : d0 ≤ 200000) (s1 : 1 ≤ d1) (s9 : d1 ≤ 1000) (l9 : d0 + ((n : Int) - 1) * d1 ≤ 200000) :
    Calls Try.prog 34 #[.int .i64 c, .int .i64 n, .agg #[.int .i64 d0, .int .i64 d1]] w fun e w' => ∃ v, e = .returned (two v (.int .i64 0)) ∧ Hid (DRow w w' (plM c n d0 d1 n) v) := by
  have i1 := inB_yes (n := d0) (a := 0) (b := 200000) a0 a9
  have i2 := inB_yes (n := d1) (a := 1) (b := 1000) s1 s9
  have m0 : 0 ≤ ((n : Int) - 1) * d1 := Int.mul_nonneg (by omega) (by omega)
  have i3 := inB_yes (n := d0 + ((n : Int) - 1) * d1) (a := 0) (b := 200000) (by omega) l9
  have m9 : ((n : Int) - 1) * d1 ≤ 200000 := by omega
  have HM := Lib.hid (show ∀ k : Nat, k < n → 0 ≤ (k : Int) * d1 ∧ (k : Int) * d1 ≤ ((n : Int) - 1) * d1 from fun k hk =>
    ⟨Int.mul_nonneg (by omega) (by omega), Int.mul_le_mul_of_nonneg_right (by omega) (by omega)⟩)
  obtain ⟨i0, hi, hz0, hz1, hz2⟩ := info_parts infoDu
  have HB := Lib.hid (fun W (h : W = w.alloc (.cells #[.int .i64 d0, .int .i64 d1] 56)) => (show W.cell? ⟨w.heap.size, 0, none⟩ = some (.int .i64 d0) ∧ W.cell? ⟨w.heap.size, 1, none⟩ = some (.int .i64 d1) ∧ Below w.heap.size w W ∧ W.heap.size = w.heap.size + 1 from by
    subst h
    exact ⟨by simp [go_sem], by simp [go_sem], (Below.refl _ _).alloc (Nat.le_refl _) _, by simp⟩))
  go_enter Try.func34, Try.ntmps34
  go_wp2_with fail
  refine (xInst_ok c n _ h0 h9 n1 n9).mono ?_
  rintro e w1 ⟨v1, rfl, hI⟩
  have B1 := Lib.hid ((HB.out _ rfl).2.2.1.trans (hI.out.2.mono (by simp)))
  have q0 := (hI.out.2.cell (p := ⟨w.heap.size, 0, none⟩) (by simp)).trans (HB.out _ rfl).1
  have q1 := (hI.out.2.cell (p := ⟨w.heap.size, 1, none⟩) (by simp)).trans (HB.out _ rfl).2.1
  have L1 := Lib.hid hI.out.LI
  have s1' := B1.out.size
  clear hI HB
  obtain ⟨a, cp, rfl, hp⟩ := L1.out
  have PLN := Lib.hid (psM_len c n n)
  have LQ2 := Lib.hid (show LI w1 (.slice a n cp) (psM c n n) by have := L1.out; rw [PLN.out] at this; exact this)
  have Q0 := Lib.hid q0
  have Q1 := Lib.hid q1
  have bl1 : w.heap.size < w1.heap.size := World.block_lt_of_cell? _ _ q0
  rw [PLN.out]
  clear hp
  go_wp2_with (first
    | (go_at_call 41; refine (xIsDay_any _ _).mono ?_; rintro e w' ⟨rfl, rfl⟩; first | rw [i1] | rw [i3])
    | (go_at_call 56; refine (bWithin_any _ _ _ _).mono ?_; rintro e w' ⟨rfl, rfl⟩; rw [i2]))
  clear q0 q1
  go_loopw [10, 11] (fun lv iv wr => ∃ k : Nat, k ≤ n ∧ iv = .int .i64 k ∧ Hid (DRow w1 wr (plM c n d0 d1 k) lv)) (fun _ iv _ => n - (intOf iv).toNat)
  case atStart => exact ⟨0, Nat.zero_le _, rfl, Lib.hid ⟨World.ownsRow_nil _ _ _ _, Below.refl _ _⟩⟩
  case round =>
    obtain ⟨k, hk, rfl, HD⟩ := hrel
    have hsz := HD.out.2.size
    by_cases hlt : k < n
    · have hne : psM c n n ≠ [] := fun h => by have := PLN.out; rw [h] at this; simp at this; omega
      obtain ⟨a', cp', e', hq⟩ := LQ2.out
      obtain ⟨b, e2, hbl, hcc⟩ := hq hne
      have e3 : a = a' := by injection e'
      obtain rfl : a = some ⟨b, 0, none⟩ := e3.trans e2
      have ck := hcc k (by rw [PLN.out]; exact hlt)
      rw [psM_get] at ck
      have CK := Lib.hid ck
      have PS := Lib.hid (plM_succ c n d0 d1 k)
      have PL := Lib.hid (plM_len c n d0 d1 k)
      obtain ⟨m1, m2⟩ := HM.out k hlt
      have m3 : d0 + (k : Int) * d1 ≤ 200000 := by omega
      have m4 : (k : Int) * d1 ≤ 200000 := by omega
      have hkn : (k : Int) < n := by omega
      clear hq hcc e' e2 e3 ck
      generalize ptM c n k = X at *
      have w1' : wrap64 ((k : Int) * d1) = (k : Int) * d1 := by unfold wrap64; omega
      have w2' : wrap64 (d0 + (k : Int) * d1) = d0 + (k : Int) * d1 := by unfold wrap64; omega
      have w3' : IntKind.i64.wrap ((k : Int) * d1) = (k : Int) * d1 := by rw [IntKind.wrap_i64]; omega
      have w4' : IntKind.i64.wrap (d0 + (k : Int) * d1) = d0 + (k : Int) * d1 := by rw [IntKind.wrap_i64]; omega
      go_wp2_with fail
      refine wp_region_held_drew (S := (Below w1.heap.size w1)) (by kernel_rfl) ?_ (fun hHeld => ?_)
      · exact below_dr HD.out.2
      refine wpAnyH_take (i := 0) (oi := { dst := some 48, op := Go.Op.move (Go.Operand.tmp 10), type := 60, pos := "ref.go:157", after := #[], guard := none }) (v := ?_) rfl (by kernel_rfl) (by kernel_rfl) (by kernel_rfl) (fun _ _ _ h => h) (Or.inl ⟨by rfl, ?_⟩) (by assumption) ?_
      rotate_left
      · intro W hSw
        go_simp
        try with_reducible rfl
      try simp only [Act.put, List.setIfInBounds_toArray, List.set_cons_zero, List.set_cons_succ]
      refine wpAnyH_take (i := 1) (oi := { dst := some 49, op := Go.Op.indexAddr 56 (Go.Operand.tmp 5) (Go.Operand.const (Go.Value.int Go.IntKind.i64 0)), type := 0, pos := "ref.go:157", after := #[], guard := none }) (v := ?_) rfl (by kernel_rfl) (by kernel_rfl) (by kernel_rfl) (fun _ _ _ h => h) (Or.inl ⟨by rfl, ?_⟩) (by assumption) ?_
      rotate_left
      · intro W hSw
        go_simp
        try with_reducible rfl
      try simp only [Act.put, List.setIfInBounds_toArray, List.set_cons_zero, List.set_cons_succ]
      refine wpAnyH_take (i := 2) (oi := { dst := some 50, op := Go.Op.load 3 (Go.Operand.tmp 49), type := 3, pos := "ref.go:157", after := #[{ on := 1, ground := Go.Ground.data }], guard := none }) (v := ?_) rfl (by kernel_rfl) (by kernel_rfl) (by kernel_rfl) (fun _ _ _ h => h) (Or.inl ⟨by rfl, ?_⟩) (by assumption) ?_
      rotate_left
      · intro W hSw
        have x0 := (hSw.cell (p := ⟨w.heap.size, 0, none⟩) bl1).trans Q0.out
        have x1 := (hSw.cell (p := ⟨w.heap.size, 1, none⟩) bl1).trans Q1.out
        have x2 := (hSw.cell (p := ⟨b, k, none⟩) hbl).trans CK.out
        go_simp
        try with_reducible rfl
      try simp only [Act.put, List.setIfInBounds_toArray, List.set_cons_zero, List.set_cons_succ]
      refine wpAnyH_take (i := 3) (oi := { dst := some 51, op := Go.Op.move (Go.Operand.tmp 11), type := 3, pos := "ref.go:157", after := #[], guard := none }) (v := ?_) rfl (by kernel_rfl) (by kernel_rfl) (by kernel_rfl) (fun _ _ _ h => h) (Or.inl ⟨by rfl, ?_⟩) (by assumption) ?_
      rotate_left
      · intro W hSw
        go_simp
        try with_reducible rfl
      try simp only [Act.put, List.setIfInBounds_toArray, List.set_cons_zero, List.set_cons_succ]
      refine wpAnyH_take (i := 4) (oi := { dst := some 52, op := Go.Op.indexAddr 56 (Go.Operand.tmp 5) (Go.Operand.const (Go.Value.int Go.IntKind.i64 1)), type := 0, pos := "ref.go:157", after := #[], guard := none }) (v := ?_) rfl (by kernel_rfl) (by kernel_rfl) (by kernel_rfl) (fun _ _ _ h => h) (Or.inl ⟨by rfl, ?_⟩) (by assumption) ?_
      rotate_left
      · intro W hSw
        go_simp
        try with_reducible rfl
      try simp only [Act.put, List.setIfInBounds_toArray, List.set_cons_zero, List.set_cons_succ]
      refine wpAnyH_take (i := 5) (oi := { dst := some 53, op := Go.Op.load 3 (Go.Operand.tmp 52), type := 3, pos := "ref.go:157", after := #[{ on := 4, ground := Go.Ground.data }], guard := none }) (v := ?_) rfl (by kernel_rfl) (by kernel_rfl) (by kernel_rfl) (fun _ _ _ h => h) (Or.inl ⟨by rfl, ?_⟩) (by assumption) ?_
      rotate_left
      · intro W hSw
        have x0 := (hSw.cell (p := ⟨w.heap.size, 0, none⟩) bl1).trans Q0.out
        have x1 := (hSw.cell (p := ⟨w.heap.size, 1, none⟩) bl1).trans Q1.out
        have x2 := (hSw.cell (p := ⟨b, k, none⟩) hbl).trans CK.out
        go_simp
        try with_reducible rfl
      try simp only [Act.put, List.setIfInBounds_toArray, List.set_cons_zero, List.set_cons_succ]
      refine wpAnyH_take (i := 6) (oi := { dst := some 54, op := Go.Op.binOp Go.BinOp.mul 3 (Go.Operand.tmp 51) (Go.Operand.tmp 53) 3, type := 3, pos := "ref.go:157", after := #[{ on := 3, ground := Go.Ground.data }, { on := 5, ground := Go.Ground.data }], guard := none }) (v := ?_) rfl (by kernel_rfl) (by kernel_rfl) (by kernel_rfl) (fun _ _ _ h => h) (Or.inl ⟨by rfl, ?_⟩) (by assumption) ?_
      rotate_left
      · intro W hSw
        go_simp
        try with_reducible rfl
      try simp only [Act.put, List.setIfInBounds_toArray, List.set_cons_zero, List.set_cons_succ]
      refine wpAnyH_take (i := 7) (oi := { dst := some 55, op := Go.Op.binOp Go.BinOp.add 3 (Go.Operand.tmp 50) (Go.Operand.tmp 54) 3, type := 3, pos := "ref.go:157", after := #[{ on := 2, ground := Go.Ground.data }, { on := 6, ground := Go.Ground.data }], guard := none }) (v := ?_) rfl (by kernel_rfl) (by kernel_rfl) (by kernel_rfl) (fun _ _ _ h => h) (Or.inl ⟨by rfl, ?_⟩) (by assumption) ?_
      rotate_left
      · intro W hSw
        go_simp
        try with_reducible rfl
      try simp only [Act.put, List.setIfInBounds_toArray, List.set_cons_zero, List.set_cons_succ]
      refine wpAnyH_take (i := 8) (oi := { dst := some 56, op := Go.Op.move (Go.Operand.tmp 8), type := 57, pos := "ref.go:157", after := #[], guard := none }) (v := ?_) rfl (by kernel_rfl) (by kernel_rfl) (by kernel_rfl) (fun _ _ _ h => h) (Or.inl ⟨by rfl, ?_⟩) (by assumption) ?_
      rotate_left
      · intro W hSw
        go_simp
        try with_reducible rfl
      try simp only [Act.put, List.setIfInBounds_toArray, List.set_cons_zero, List.set_cons_succ]
      refine wpAnyH_take (i := 9) (oi := { dst := some 57, op := Go.Op.move (Go.Operand.tmp 11), type := 3, pos := "ref.go:157", after := #[], guard := none }) (v := ?_) rfl (by kernel_rfl) (by kernel_rfl) (by kernel_rfl) (fun _ _ _ h => h) (Or.inl ⟨by rfl, ?_⟩) (by assumption) ?_
      rotate_left
      · intro W hSw
        go_simp
        try with_reducible rfl
      try simp only [Act.put, List.setIfInBounds_toArray, List.set_cons_zero, List.set_cons_succ]
      refine wpAnyH_take (i := 10) (oi := { dst := some 58, op := Go.Op.indexAddr 57 (Go.Operand.tmp 56) (Go.Operand.tmp 57), type := 0, pos := "ref.go:157", after := #[{ on := 8, ground := Go.Ground.data }, { on := 9, ground := Go.Ground.data }], guard := none }) (v := ?_) rfl (by kernel_rfl) (by kernel_rfl) (by kernel_rfl) (fun _ _ _ h => h) (Or.inl ⟨by rfl, ?_⟩) (by assumption) ?_
      rotate_left
      · intro W hSw
        go_simp
        try with_reducible rfl
      try simp only [Act.put, List.setIfInBounds_toArray, List.set_cons_zero, List.set_cons_succ]
      refine wpAnyH_take (i := 11) (oi := { dst := some 59, op := Go.Op.load 3 (Go.Operand.tmp 58), type := 3, pos := "ref.go:157", after := #[{ on := 10, ground := Go.Ground.data }], guard := none }) (v := ?_) rfl (by kernel_rfl) (by kernel_rfl) (by kernel_rfl) (fun _ _ _ h => h) (Or.inl ⟨by rfl, ?_⟩) (by assumption) ?_
      rotate_left
      · intro W hSw
        have x0 := (hSw.cell (p := ⟨w.heap.size, 0, none⟩) bl1).trans Q0.out
        have x1 := (hSw.cell (p := ⟨w.heap.size, 1, none⟩) bl1).trans Q1.out
        have x2 := (hSw.cell (p := ⟨b, k, none⟩) hbl).trans CK.out
        go_simp
        try with_reducible rfl
      try simp only [Act.put, List.setIfInBounds_toArray, List.set_cons_zero, List.set_cons_succ]
      refine wpAnyH_take (i := 12) (oi := { dst := some 60, op := Go.Op.build 69 #[(0, Go.Operand.tmp 55), (1, Go.Operand.tmp 59)], type := 69, pos := "ref.go:157", after := #[{ on := 7, ground := Go.Ground.data }, { on := 11, ground := Go.Ground.data }], guard := none }) (v := ?_) rfl (by kernel_rfl) (by kernel_rfl) (by kernel_rfl) (fun _ _ _ h => h) (Or.inl ⟨by rfl, ?_⟩) (by assumption) ?_
      rotate_left
      · intro W hSw
        go_simp
        try with_reducible rfl
      try simp only [Act.put, List.setIfInBounds_toArray, List.set_cons_zero, List.set_cons_succ]
      refine wpAnyH_ready (rs := [13]) (by kernel_rfl) (by simp) ?_
      refine AllReadyH.cons (o := { dst := some 61, op := Go.Op.buildSlice 60 1 #[(0, Go.Operand.tmp 60)], type := 60, pos := "ref.go:157", after := #[{ on := 12, ground := Go.Ground.data }], guard := none }) rfl (fun K hK => ?_) AllReadyH.nil
      go_simp
      have KH := Lib.hid hHeld
      refine hK.out _ _ ?_ (fun hHeld' => ?_)
      · exact KH.out.alloc KH.out.size _
      clear hK K hHeld
      have hHeld := hHeld'
      clear hHeld'
      try simp only [Act.put, List.setIfInBounds_toArray, List.set_cons_zero, List.set_cons_succ]
      refine wpAnyH_ready (rs := [14]) (by kernel_rfl) (by simp) ?_
      refine AllReadyH.cons (o := { dst := some 62, op := Go.Op.call { callee := Go.Callee.builtin Go.Builtin.append, args := #[Go.Operand.tmp 48, Go.Operand.tmp 61], argTypes := #[60, 60] }, type := 60, pos := "ref.go:157", after := #[{ on := 0, ground := Go.Ground.data }, { on := 13, ground := Go.Ground.data }], guard := none }) rfl (fun K hK => ?_) AllReadyH.nil
      refine step_app_at rfl _ _ 60 rfl w1.heap.size Try.underlying60 hi hz0 hz1 hz2 rfl (by decide) (by rfl) (by rfl) (HD.out.1.alloc (w := wr.drew) (.cells #[.int .i64 (d0 + (k : Int) * d1), .int .i64 X] 69)) rfl (World.news_of_block (cs := #[.int .i64 (d0 + (k : Int) * d1), .int .i64 X]) (heap_alloc_new _ _)) (by simp [Value.oneCell']) (by rw [PL.out]; unfold maxLen; omega) (by rw [PL.out]; omega) hHeld.size (fun v6 W6 own grow => ?_)
      have OL := Lib.hid (HD.out.1.alloc (w := wr.drew) (.cells #[.int .i64 (d0 + (k : Int) * d1), .int .i64 X] 69))
      have KH := Lib.hid (hHeld.grown grow hHeld.size (fun k' e' => (World.ownsRow.lt OL.out k' e').1))
      have D3 := Lib.hid (DRow.snoc (x := ⟨d0 + (k : Int) * d1, X⟩) own hHeld grow OL.out)
      clear own grow
      refine hK.out _ _ ?_ (fun hHeld' => ?_)
      · exact KH.out
      clear hK K hHeld
      have hHeld := hHeld'
      clear hHeld'
      try simp only [Act.put, List.setIfInBounds_toArray, List.set_cons_zero, List.set_cons_succ]
      refine wpAnyH_take (i := 15) (oi := { dst := some 10, op := Go.Op.assign (Go.Operand.tmp 62), type := 60, pos := "ref.go:157", after := #[{ on := 14, ground := Go.Ground.data }, { on := 14, ground := Go.Ground.chain }, { on := 0, ground := Go.Ground.phase }, { on := 1, ground := Go.Ground.phase }, { on := 2, ground := Go.Ground.phase }, { on := 3, ground := Go.Ground.phase }, { on := 4, ground := Go.Ground.phase }, { on := 5, ground := Go.Ground.phase }, { on := 6, ground := Go.Ground.phase }, { on := 7, ground := Go.Ground.phase }, { on := 8, ground := Go.Ground.phase }, { on := 9, ground := Go.Ground.phase }, { on := 10, ground := Go.Ground.phase }, { on := 11, ground := Go.Ground.phase }, { on := 12, ground := Go.Ground.phase }, { on := 13, ground := Go.Ground.phase }, { on := 14, ground := Go.Ground.phase }], guard := none }) (v := ?_) rfl (by kernel_rfl) (by kernel_rfl) (by kernel_rfl) (fun _ _ _ h => h) (Or.inl ⟨by rfl, ?_⟩) (by assumption) ?_
      rotate_left
      · intro W hSw
        go_simp
        try with_reducible rfl
      try simp only [Act.put, List.setIfInBounds_toArray, List.set_cons_zero, List.set_cons_succ]
      refine wpAnyH_done (by kernel_rfl) ?_ _
      clear hHeld
      go_wp2
      go_roundw
      case rel => exact ⟨k + 1, by omega, by go_num, Lib.hid (by rw [PS.out]; exact D3.out)⟩
      case measure => simp [intOf]; omega
    · obtain rfl : k = n := by omega
      go_wp2
      go_ret2
      exact ⟨_, rfl, Lib.hid (HD.out.lower B1.out)⟩
theorem xplan_b1 (c n d0 d1 : Int) (w : World) (h : (inB c 0 1000000000000 && inB n 1 120) = false) : Calls Try.prog 34 #[.int .i64 c, .int .i64 n, .agg #[.int .i64 d0, .int .i64 d1]] w (RetB (two (.slice none 0 0) (.int .i64 2)) w) := by
  go_enter Try.func34, Try.ntmps34
  go_wp2_with (go_at_call 32; refine (xInst_bad c n _ h).mono ?_; rintro e w1 ⟨rfl, rfl⟩)
  go_ret2
  exact ⟨rfl, (Below.refl _ _).alloc (Nat.le_refl _) _⟩
set_option maxRecDepth 100000 in
theorem xplan_b2 (c : Int) (n : Nat) (d0 d1 : Int) (w : World) (h0 : 0 ≤ c) (h9 : c ≤ 1000000000000) (n1 : 1 ≤ n) (n9 : n ≤ 120) (i1 : inB d0 0 200000 = false) :
    Calls Try.prog 34 #[.int .i64 c, .int .i64 n, .agg #[.int .i64 d0, .int .i64 d1]] w (RetB (two (.slice none 0 0) (.int .i64 2)) w) := by
  have HB := Lib.hid (fun W (h : W = w.alloc (.cells #[.int .i64 d0, .int .i64 d1] 56)) => (show W.cell? ⟨w.heap.size, 0, none⟩ = some (.int .i64 d0) ∧ W.cell? ⟨w.heap.size, 1, none⟩ = some (.int .i64 d1) ∧ Below w.heap.size w W ∧ W.heap.size = w.heap.size + 1 from by
    subst h
    exact ⟨by simp [go_sem], by simp [go_sem], (Below.refl _ _).alloc (Nat.le_refl _) _, by simp⟩))
  go_enter Try.func34, Try.ntmps34
  go_wp2_with fail
  refine (xInst_ok c n _ h0 h9 n1 n9).mono ?_
  rintro e w1 ⟨v1, rfl, hI⟩
  have B1 := Lib.hid ((HB.out _ rfl).2.2.1.trans (hI.out.2.mono (by simp)))
  have q0 := (hI.out.2.cell (p := ⟨w.heap.size, 0, none⟩) (by simp)).trans (HB.out _ rfl).1
  have q1 := (hI.out.2.cell (p := ⟨w.heap.size, 1, none⟩) (by simp)).trans (HB.out _ rfl).2.1
  clear hI HB
  go_wp2_with (first
    | (go_at_call 41; refine (xIsDay_any _ _).mono ?_; rintro e w' ⟨rfl, rfl⟩; rw [i1])
    | (go_at_call 56; refine (bWithin_any _ _ _ _).mono ?_; rintro e w' ⟨rfl, rfl⟩; fail))
  go_ret2
  exact ⟨rfl, B1.out⟩
set_option maxRecDepth 100000 in
theorem xplan_b3 (c : Int) (n : Nat) (d0 d1 : Int) (w : World) (h0 : 0 ≤ c) (h9 : c ≤ 1000000000000) (n1 : 1 ≤ n) (n9 : n ≤ 120) (i1 : inB d0 0 200000 = true) (i2 : inB d1 1 1000 = false) :
    Calls Try.prog 34 #[.int .i64 c, .int .i64 n, .agg #[.int .i64 d0, .int .i64 d1]] w (RetB (two (.slice none 0 0) (.int .i64 2)) w) := by
  have HB := Lib.hid (fun W (h : W = w.alloc (.cells #[.int .i64 d0, .int .i64 d1] 56)) => (show W.cell? ⟨w.heap.size, 0, none⟩ = some (.int .i64 d0) ∧ W.cell? ⟨w.heap.size, 1, none⟩ = some (.int .i64 d1) ∧ Below w.heap.size w W ∧ W.heap.size = w.heap.size + 1 from by
    subst h
    exact ⟨by simp [go_sem], by simp [go_sem], (Below.refl _ _).alloc (Nat.le_refl _) _, by simp⟩))
  go_enter Try.func34, Try.ntmps34
  go_wp2_with fail
  refine (xInst_ok c n _ h0 h9 n1 n9).mono ?_
  rintro e w1 ⟨v1, rfl, hI⟩
  have B1 := Lib.hid ((HB.out _ rfl).2.2.1.trans (hI.out.2.mono (by simp)))
  have q0 := (hI.out.2.cell (p := ⟨w.heap.size, 0, none⟩) (by simp)).trans (HB.out _ rfl).1
  have q1 := (hI.out.2.cell (p := ⟨w.heap.size, 1, none⟩) (by simp)).trans (HB.out _ rfl).2.1
  clear hI HB
  go_wp2_with (first
    | (go_at_call 41; refine (xIsDay_any _ _).mono ?_; rintro e w' ⟨rfl, rfl⟩; rw [i1])
    | (go_at_call 56; refine (bWithin_any _ _ _ _).mono ?_; rintro e w' ⟨rfl, rfl⟩; rw [i2]))
  go_ret2
  exact ⟨rfl, B1.out⟩
set_option maxRecDepth 100000 in
theorem xplan_b4 (c : Int) (n : Nat) (d0 d1 : Int) (w : World) (h0 : 0 ≤ c) (h9 : c ≤ 1000000000000) (n1 : 1 ≤ n) (n9 : n ≤ 120) (i1 : inB d0 0 200000 = true) (i2 : inB d1 1 1000 = true) (i3 : inB (d0 + ((n : Int) - 1) * d1) 0 200000 = false) :
    Calls Try.prog 34 #[.int .i64 c, .int .i64 n, .agg #[.int .i64 d0, .int .i64 d1]] w (RetB (two (.slice none 0 0) (.int .i64 2)) w) := by
  have HB := Lib.hid (fun W (h : W = w.alloc (.cells #[.int .i64 d0, .int .i64 d1] 56)) => (show W.cell? ⟨w.heap.size, 0, none⟩ = some (.int .i64 d0) ∧ W.cell? ⟨w.heap.size, 1, none⟩ = some (.int .i64 d1) ∧ Below w.heap.size w W ∧ W.heap.size = w.heap.size + 1 from by
    subst h
    exact ⟨by simp [go_sem], by simp [go_sem], (Below.refl _ _).alloc (Nat.le_refl _) _, by simp⟩))
  have ⟨d1a, d1b⟩ := inB_iff.1 i2
  have ⟨d0a, d0b⟩ := inB_iff.1 i1
  have m0 : 0 ≤ ((n : Int) - 1) * d1 := Int.mul_nonneg (by omega) (by omega)
  have m9 : ((n : Int) - 1) * d1 ≤ 200000 := by
    have h1 := Int.mul_le_mul_of_nonneg_right (show (n : Int) - 1 ≤ 119 by omega) (show 0 ≤ d1 by omega)
    omega
  go_enter Try.func34, Try.ntmps34
  go_wp2_with fail
  refine (xInst_ok c n _ h0 h9 n1 n9).mono ?_
  rintro e w1 ⟨v1, rfl, hI⟩
  have B1 := Lib.hid ((HB.out _ rfl).2.2.1.trans (hI.out.2.mono (by simp)))
  have q0 := (hI.out.2.cell (p := ⟨w.heap.size, 0, none⟩) (by simp)).trans (HB.out _ rfl).1
  have q1 := (hI.out.2.cell (p := ⟨w.heap.size, 1, none⟩) (by simp)).trans (HB.out _ rfl).2.1
  clear hI HB
  go_wp2_with (first
    | (go_at_call 41; refine (xIsDay_any _ _).mono ?_; rintro e w' ⟨rfl, rfl⟩; first | rw [i1] | rw [i3])
    | (go_at_call 56; refine (bWithin_any _ _ _ _).mono ?_; rintro e w' ⟨rfl, rfl⟩; rw [i2]))
  go_ret2
  exact ⟨rfl, B1.out⟩
theorem xPlan_bad (c n d0 d1 : Int) (w : World) (h : planB c n d0 d1 = false) : Calls Try.prog 34 #[.int .i64 c, .int .i64 n, .agg #[.int .i64 d0, .int .i64 d1]] w (RetB (two (.slice none 0 0) (.int .i64 2)) w) := by
  cases hc : (inB c 0 1000000000000 && inB n 1 120)
  · exact xplan_b1 c n d0 d1 w hc
  · have hc' := Bool.and_eq_true_iff.1 hc
    obtain ⟨h0, h9⟩ := inB_iff.1 hc'.1
    obtain ⟨n1, n9⟩ := inB_iff.1 hc'.2
    obtain ⟨m, rfl⟩ : ∃ m : Nat, n = m := ⟨n.toNat, by omega⟩
    unfold planB at h
    rw [hc, Bool.true_and] at h
    cases i1 : inB d0 0 200000
    · exact xplan_b2 c m d0 d1 w h0 h9 (by omega) (by omega) i1
    · cases i2 : inB d1 1 1000
      · exact xplan_b3 c m d0 d1 w h0 h9 (by omega) (by omega) i1 i2
      · rw [i1, i2] at h
        exact xplan_b4 c m d0 d1 w h0 h9 (by omega) (by omega) i1 i2 (by simpa using h)
theorem xPlan_good (c n d0 d1 : Int) (w : World) (h : planB c n d0 d1 = true) : Calls Try.prog 34 #[.int .i64 c, .int .i64 n, .agg #[.int .i64 d0, .int .i64 d1]] w fun e w' => ∃ (m : Nat) (D : List Du) (v : Value), n = m ∧ 1 ≤ m ∧ m ≤ 120 ∧ D = plM c m d0 d1 m ∧ PlanIs c m d0 d1 D ∧ e = .returned (two v (.int .i64 0)) ∧ Hid (DRow w w' D v) := by
  unfold planB at h
  have h1 := Bool.and_eq_true_iff.1 h
  have h2 := Bool.and_eq_true_iff.1 h1.1
  have h3 := Bool.and_eq_true_iff.1 h1.2
  have h4 := Bool.and_eq_true_iff.1 h3.1
  obtain ⟨c0, c9⟩ := inB_iff.1 h2.1
  obtain ⟨n1, n9⟩ := inB_iff.1 h2.2
  obtain ⟨a0, a9⟩ := inB_iff.1 h4.1
  obtain ⟨s1, s9⟩ := inB_iff.1 h4.2
  obtain ⟨_, l9⟩ := inB_iff.1 h3.2
  obtain ⟨m, rfl⟩ : ∃ m : Nat, n = m := ⟨n.toNat, by omega⟩
  refine (xPlan_ok c m d0 d1 w c0 c9 (by omega) (by omega) a0 a9 s1 s9 l9).mono ?_
  rintro e w' ⟨v, he, hD⟩
  exact ⟨m, _, v, rfl, by omega, by omega, rfl, plan_is c0 c9 (by omega) (by omega) a0 s1 l9, he, hD⟩
/-- what both give: the instalments, the plan, and their errors -/
def iB (c n : Int) : Bool := inB c 0 1000000000000 && inB n 1 120
def iL (c n : Int) : List Int := if iB c n = true then psM c n n.toNat else []
def iE (b : Bool) : Int := if b = true then 0 else 2
def pL (c n d0 d1 : Int) : List Du := if planB c n d0 d1 = true then plM c n d0 d1 n.toNat else []
theorem iB_nat {c n : Int} (h : iB c n = true) : ∃ m : Nat, n = m ∧ 0 ≤ c ∧ c ≤ 1000000000000 ∧ 1 ≤ m ∧ m ≤ 120 := by
  have h' := Bool.and_eq_true_iff.1 h
  obtain ⟨h0, h9⟩ := inB_iff.1 h'.1
  obtain ⟨n1, n9⟩ := inB_iff.1 h'.2
  exact ⟨n.toNat, by omega, h0, h9, by omega, by omega⟩
theorem Inst_all (c n : Int) (w : World) : Calls Try.prog 30 #[.int .i64 c, .int .i64 n] w fun e w' => ∃ v, e = .returned (two v (.int .i64 (iE (iB c n)))) ∧ LI w' v (iL c n) ∧ Below w.heap.size w w' := by
  cases h : iB c n
  · refine (Instalments_bad c n w h).mono ?_
    rintro e w' ⟨rfl, rfl⟩
    exact ⟨_, rfl, by unfold iL; rw [h]; exact LI.nil _, Below.refl _ _⟩
  · obtain ⟨m, rfl, h0, h9, m1, m9⟩ := iB_nat h
    refine (Instalments_ok c m w h0 h9 m1 m9).mono ?_
    rintro e w' ⟨v, rfl, hI⟩
    exact ⟨v, rfl, by unfold iL; rw [h]; exact hI.out.LI, hI.out.2⟩
theorem xInst_all (c n : Int) (w : World) : Calls Try.prog 32 #[.int .i64 c, .int .i64 n] w fun e w' => ∃ v, e = .returned (two v (.int .i64 (iE (iB c n)))) ∧ LI w' v (iL c n) ∧ Below w.heap.size w w' := by
  cases h : iB c n
  · refine (xInst_bad c n w h).mono ?_
    rintro e w' ⟨rfl, rfl⟩
    exact ⟨_, rfl, by unfold iL; rw [h]; exact LI.nil _, Below.refl _ _⟩
  · obtain ⟨m, rfl, h0, h9, m1, m9⟩ := iB_nat h
    refine (xInst_ok c m w h0 h9 m1 m9).mono ?_
    rintro e w' ⟨v, rfl, hI⟩
    exact ⟨v, rfl, by unfold iL; rw [h]; exact hI.out.LI, hI.out.2⟩
theorem Plan_all (c n d0 d1 : Int) (w : World) : Calls Try.prog 31 #[.int .i64 c, .int .i64 n, .agg #[.int .i64 d0, .int .i64 d1]] w fun e w' => ∃ v, e = .returned (two v (.int .i64 (iE (planB c n d0 d1)))) ∧ LD w' v (pL c n d0 d1) ∧ Below w.heap.size w w' := by
  cases h : planB c n d0 d1
  · refine (Plan_bad c n d0 d1 w h).mono ?_
    rintro e w' ⟨rfl, hb⟩
    exact ⟨_, rfl, by unfold pL; rw [h]; exact LD.nil _, hb⟩
  · refine (Plan_good c n d0 d1 w h).mono ?_
    rintro e w' ⟨m, D, v, rfl, _, _, rfl, _, rfl, hD⟩
    exact ⟨v, rfl, by unfold pL; rw [h]; exact hD.out.LD, hD.out.2⟩
theorem xPlan_all (c n d0 d1 : Int) (w : World) : Calls Try.prog 34 #[.int .i64 c, .int .i64 n, .agg #[.int .i64 d0, .int .i64 d1]] w fun e w' => ∃ v, e = .returned (two v (.int .i64 (iE (planB c n d0 d1)))) ∧ LD w' v (pL c n d0 d1) ∧ Below w.heap.size w w' := by
  cases h : planB c n d0 d1
  · refine (xPlan_bad c n d0 d1 w h).mono ?_
    rintro e w' ⟨rfl, hb⟩
    exact ⟨_, rfl, by unfold pL; rw [h]; exact LD.nil _, hb⟩
  · refine (xPlan_good c n d0 d1 w h).mono ?_
    rintro e w' ⟨m, D, v, rfl, _, _, rfl, _, rfl, hD⟩
    exact ⟨v, rfl, by unfold pL; rw [h]; exact hD.out.LD, hD.out.2⟩
end Go.Proofs.Ytcimceepkjpggaa
