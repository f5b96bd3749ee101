/-
  tariffOf of package money: a contract for all worlds and lists.
-/
import Derived.Test.YtcimceepkjpggaaTrf
import Derived.Deep.RegionHeld
namespace Go.Proofs.Ytcimceepkjpggaa
open Go.RowKit Go.WideMaps Go.Maps
attribute [local go_sem] set_drewN
section
variable {P : Program} {w : World}
theorem step_look {ops : Array Oper} {o : Oper} {a : Act} {K : Act → World → Prop} {Q : Exit → Act → World → Prop} {E : Prop} (hgd : o.guard = none) (m x : Operand) (t : TypeId) (ho : o.op = .lookup t m x false) {mv key v : Value} (hm : a.eval m = mv) (hx : a.eval x = key)
    (hrun : (Instr.lookup t mv key false).run P w = .ok v w) (h : K (a.put o.dst v) w) : if Region.wanted o (yielded ops a.tmps) = true then Oper.wp P o a w K Q else E := by
  rw [if_pos (by simp [Region.wanted, hgd])]
  unfold Oper.wp
  simp [execOp, ho, hm, hx, hrun, Result.andThen]
  exact h
theorem step_upd {ops : Array Oper} {o : Oper} {a : Act} {K : Act → World → Prop} {Q : Exit → Act → World → Prop} {E : Prop} (hgd : o.guard = none) (m x y : Operand) (t : TypeId) (ho : o.op = .mapUpdate t m x y) {mv key v : Value} {w' : World} (hm : a.eval m = mv) (hx : a.eval x = key) (hy : a.eval y = v)
    (hrun : (Instr.mapUpdate t mv key v).run P w = .ok () w') (h : K (a.put o.dst undef) w') : if Region.wanted o (yielded ops a.tmps) = true then Oper.wp P o a w K Q else E := by
  rw [if_pos (by simp [Region.wanted, hgd])]
  unfold Oper.wp
  simp [execOp, ho, hm, hx, hy, hrun, Result.andThen]
  exact h
theorem step_app_loc {ops : Array Oper} {o : Oper} {a : Act} {K : Act → World → Prop} {Q : Exit → Act → World → Prop} {E : Prop} (hgd : o.guard = none) (s x : Operand) (t : TypeId)
    (ho : o.op = .call { callee := .builtin .append, args := #[s, x], argTypes := #[t, t] })
    {e : TypeId} {i : TypeInfo} {z : Value} {size bytes : Nat} (base : Nat) {n m c : Nat} {v : Value} {ad : Addr} {xs news : List Value} (ht : P.underlying t = some (.slice e)) (hi : P.info? e = some i) (hz : i.zero = some z)
    (hsize : i.size = size) (hby : i.bytes = bytes) (hzs : z.cells.size = size) (hsz : 0 < size) (hs : a.eval s = v) (hx : a.eval x = .slice (some ad) m c) (hown : w.ownsRow base e size v n xs) (hl : news.length = m * size)
    (hA : ∀ j u, news[j]? = some u → w.cell? (ad.add j) = some u) (h1 : ∀ u ∈ news, u.oneCell' = true)
    (h63 : n + m ≤ maxLen) (hbytes : (n + m) * bytes ≤ 140737488355328) (hbase : base ≤ w.heap.size)
    (h : ∀ v' w', w'.ownsRow base e size v' (n + m) (xs ++ news) → w.grownBy w' v.ownBlock → (v'.ownBlock = v.ownBlock ∨ v'.ownBlock = some w.heap.size) → K (a.put o.dst v') w') :
    if Region.wanted o (yielded ops a.tmps) = true then Oper.wp P o a w K Q else E := by
  rw [if_pos (by simp [Region.wanted, hgd])]
  obtain ⟨v', w', hr, h2, h3, _, h5⟩ := run_append_own_at (P := P) w base t o.type e i z size bytes ht hi hz hsize hby hzs hsz v n xs hown ad m c news hl hA h1 h63 hbytes hbase
  unfold Oper.wp execOp
  simp only [ho, resolve, invoke, builtin, Sem.run_bind, Sem.run_pure, Result.andThen_ok, List.map_toArray, List.map_cons, List.map_nil, hs, hx, hr]
  exact h v' w' h2 h3 h5
end
/-- a rate in a box -/
def RaB (B : Nat) (r : Ra) (W : World) : Prop := W.cell? ⟨B, 0, none⟩ = some (.string r.nm) ∧ W.cell? ⟨B, 1, none⟩ = some (.int .i64 r.fr) ∧ W.cell? ⟨B, 2, none⟩ = some (.int .i64 r.ct)
theorem RaB.grown {B : Nat} {r : Ra} {W W' : World} {row : Option Nat} (h : RaB B r W) (hg : W.grownBy W' row) (hne : some B ≠ row) : RaB B r W' :=
  ⟨hg.cell h.1 hne, hg.cell h.2.1 hne, hg.cell h.2.2 hne⟩
theorem RaB.dr {B : Nat} {r : Ra} {W : World} (h : RaB B r W) : RaB B r W.drew := h
theorem RaB.al {B : Nat} {r : Ra} {W : World} (h : RaB B r W) (o : Obj) : RaB B r (W.alloc o) := h.grown (World.grownBy_alloc W o none) (by simp)
set_option maxRecDepth 100000 in
set_option maxHeartbeats 8000000 in
theorem tariffOf_any (L : List Ra) (v : Value) (w : World) (hl : L.length ≤ 200) (hn : ∀ r ∈ L, FitR r) (hv : LG raC 3 w v L) :
    Calls Try.prog 52 #[v] w fun e w' => ∃ BM, e = .returned (.map (some BM)) ∧ TA L BM w' ∧ Below w.heap.size w w' := by
  obtain ⟨a, cp, rfl, -, hp⟩ := hv
  have HP := Lib.hid hp
  have HN := Lib.hid hn
  have hmm := @run_makeMap Try.prog
  obtain ⟨i0, hi0, hz0, hz1, hz2⟩ := info_parts infoRa
  clear hp hn
  go_enter Try.func52, Try.ntmps52
  go_wp2
  go_loopw [9] (fun iv wr => ∃ (k : Nat) (F : ByteArray → Value) (D : DataW Value), k ≤ L.length ∧ iv = .int .i64 k ∧ Hid (TF (w.heap.size + 1) w.heap.size (L.take k) F k D wr) ∧ Hid (Below w.heap.size w wr)) (fun iv _ => L.length - (intOf iv).toNat)
  case atStart => exact ⟨0, _, _, Nat.zero_le _, rfl, Lib.hid (TF.new w), Lib.hid ((Below.refl _ _).alloc (Nat.le_refl _) _)⟩
  case round =>
    obtain ⟨k, F, D, hk, rfl, HT, BL⟩ := hrel
    by_cases hlt : k < L.length
    · have hne : L ≠ [] := by rintro rfl; simp at hlt
      obtain ⟨b, o, rfl, hd⟩ := HP.out hne
      have hd2 := (hd.below BL.out).2 k hlt
      have c0 := hd2 0 _ rfl
      have c1 := hd2 1 _ rfl
      have c2 := hd2 2 _ rfl
      rw [Nat.add_zero] at c0
      have hrs := (HN.out _ (List.getElem_mem hlt)).1
      have TKE := Lib.hid (List.take_succ_eq_append_getElem hlt)
      have FL := Lib.hid (Nat.le_trans (flt_len (L.take k) L[k].nm) (List.length_take_le' k L))
      have KBN := Lib.hid (fun W (h : W = wr.alloc (.cells #[.string L[k].nm, .int .i64 L[k].fr, .int .i64 L[k].ct] 34)) => (show RaB wr.heap.size L[k] W from by subst h; unfold RaB; simp [go_sem]))
      clear hd hd2
      generalize L[k] = r at *
      have HN5 := Lib.hid (show ∀ kk, (F r.nm).ownBlock = some kk → wr.heap.size = kk → False from fun kk e h => by have := ((HT.out.row r.nm).lt kk e).2; omega)
      have HB5 := Lib.hid (show ¬ wr.heap.size = w.heap.size from fun h => by have := HT.out.le; omega)
      go_wp2_with fail
      obtain ⟨W0, hW0⟩ : ∃ W0, wr.alloc (.cells #[.string r.nm, .int .i64 r.fr, .int .i64 r.ct] 34) = W0 := ⟨_, rfl⟩
      have KB := Lib.hid (KBN.out W0 hW0.symm)
      have TC := Lib.hid (show TF (w.heap.size + 1) w.heap.size (L.take k) F k D W0.drew from (by rw [← hW0]; exact (HT.out.below ((Below.refl _ _).alloc (Nat.le_refl _) _)).below (below_dr (Below.refl _ _))))
      have hWs := Lib.hid (show wr.heap.size ≤ W0.heap.size from by rw [← hW0]; simp)
      have BL := Lib.hid (show Below w.heap.size w W0 from by rw [← hW0]; exact BL.out.alloc BL.out.size _)
      rw [hW0]
      clear hW0 c0 c1 c2
      refine wp_region_held_drew (S := (RaB wr.heap.size r)) (by kernel_rfl) ?_ (fun hHeld => ?_)
      · exact KB.out.dr
      refine wpAnyH_take (i := 0) (oi := { dst := some 13, op := Go.Op.move (Go.Operand.tmp 3), type := 97, pos := "tariff.go:37", after := #[], guard := none }) (v := ?_) rfl (by kernel_rfl) (by kernel_rfl) (by kernel_rfl) (fun _ _ _ h => h) (Or.inl ⟨by rfl, ?_⟩) (by assumption) ?_
      rotate_left
      · intro W hSw
        go_simp
        try with_reducible rfl
      try simp only [Act.put, List.setIfInBounds_toArray, List.set_cons_zero, List.set_cons_succ]
      refine wpAnyH_take (i := 1) (oi := { dst := some 14, op := Go.Op.fieldAddr 34 (Go.Operand.tmp 5) 0, type := 0, pos := "tariff.go:37", after := #[], guard := none }) (v := ?_) rfl (by kernel_rfl) (by kernel_rfl) (by kernel_rfl) (fun _ _ _ h => h) (Or.inl ⟨by rfl, ?_⟩) (by assumption) ?_
      rotate_left
      · intro W hSw
        go_simp
        try with_reducible rfl
      try simp only [Act.put, List.setIfInBounds_toArray, List.set_cons_zero, List.set_cons_succ]
      refine wpAnyH_take (i := 2) (oi := { dst := some 15, op := Go.Op.load 9 (Go.Operand.tmp 14), type := 9, pos := "tariff.go:37", after := #[{ on := 1, ground := Go.Ground.data }], guard := none }) (v := ?_) rfl (by kernel_rfl) (by kernel_rfl) (by kernel_rfl) (fun _ _ _ h => h) (Or.inl ⟨by rfl, ?_⟩) (by assumption) ?_
      rotate_left
      · intro W hSw
        obtain ⟨q0, q1, q2⟩ := hSw
        go_simp
        try with_reducible rfl
      try simp only [Act.put, List.setIfInBounds_toArray, List.set_cons_zero, List.set_cons_succ]
      refine wpAnyH_take (i := 3) (oi := { dst := some 16, op := Go.Op.move (Go.Operand.tmp 3), type := 97, pos := "tariff.go:37", after := #[], guard := none }) (v := ?_) rfl (by kernel_rfl) (by kernel_rfl) (by kernel_rfl) (fun _ _ _ h => h) (Or.inl ⟨by rfl, ?_⟩) (by assumption) ?_
      rotate_left
      · intro W hSw
        go_simp
        try with_reducible rfl
      try simp only [Act.put, List.setIfInBounds_toArray, List.set_cons_zero, List.set_cons_succ]
      refine wpAnyH_take (i := 4) (oi := { dst := some 17, op := Go.Op.fieldAddr 34 (Go.Operand.tmp 5) 0, type := 0, pos := "tariff.go:37", after := #[], guard := none }) (v := ?_) rfl (by kernel_rfl) (by kernel_rfl) (by kernel_rfl) (fun _ _ _ h => h) (Or.inl ⟨by rfl, ?_⟩) (by assumption) ?_
      rotate_left
      · intro W hSw
        go_simp
        try with_reducible rfl
      try simp only [Act.put, List.setIfInBounds_toArray, List.set_cons_zero, List.set_cons_succ]
      refine wpAnyH_take (i := 5) (oi := { dst := some 18, op := Go.Op.load 9 (Go.Operand.tmp 17), type := 9, pos := "tariff.go:37", after := #[{ on := 4, ground := Go.Ground.data }], guard := none }) (v := ?_) rfl (by kernel_rfl) (by kernel_rfl) (by kernel_rfl) (fun _ _ _ h => h) (Or.inl ⟨by rfl, ?_⟩) (by assumption) ?_
      rotate_left
      · intro W hSw
        obtain ⟨q0, q1, q2⟩ := hSw
        go_simp
        try with_reducible rfl
      try simp only [Act.put, List.setIfInBounds_toArray, List.set_cons_zero, List.set_cons_succ]
      refine wpAnyH_take (i := 7) (oi := { dst := some 20, op := Go.Op.load 34 (Go.Operand.tmp 5), type := 34, pos := "tariff.go:37", after := #[], guard := none }) (v := ?_) rfl (by kernel_rfl) (by kernel_rfl) (by kernel_rfl) (fun _ _ _ h => h) (Or.inl ⟨by rfl, ?_⟩) (by assumption) ?_
      rotate_left
      · intro W hSw
        obtain ⟨q0, q1, q2⟩ := hSw
        go_simp
        try with_reducible rfl
      try simp only [Act.put, List.setIfInBounds_toArray, List.set_cons_zero, List.set_cons_succ]
      refine wpAnyH_ready (rs := [6, 8]) (by kernel_rfl) (by simp) ?_
      refine AllReadyH.cons (o := { dst := some 19, op := Go.Op.lookup 97 (Go.Operand.tmp 16) (Go.Operand.tmp 18) false, type := 22, pos := "tariff.go:37", after := #[{ on := 3, ground := Go.Ground.data }, { on := 5, ground := Go.Ground.data }], guard := none }) rfl (fun K hK => ?_) ?_
      · refine step_look rfl _ _ _ rfl (by rfl) (by rfl) (TC.out.look hrs) ?_
        have KL := Lib.hid hHeld
        have KL := Lib.hid hHeld
        refine hK.out _ _ ?_ (fun hHeld' => ?_)
        · exact KL.out
        clear hK K hHeld
        have hHeld := hHeld'
        clear hHeld'
        try simp only [Act.put, List.setIfInBounds_toArray, List.set_cons_zero, List.set_cons_succ]
        refine wpAnyH_ready (rs := [8]) (by kernel_rfl) (by simp) ?_
        refine AllReadyH.cons (o := { dst := some 21, op := Go.Op.buildSlice 22 1 #[(0, Go.Operand.tmp 20)], type := 22, pos := "tariff.go:37", after := #[{ on := 7, ground := Go.Ground.data }], guard := none }) rfl (fun K hK => ?_) AllReadyH.nil
        go_simp
        have KH := Lib.hid hHeld
        have TC := Lib.hid (TC.out.below ((Below.refl _ _).alloc (Nat.le_refl _) (.cells #[.string r.nm, .int .i64 r.fr, .int .i64 r.ct] 34)))
        refine hK.out _ _ ?_ (fun hHeld' => ?_)
        · exact KH.out.al _
        clear hK K hHeld
        have hHeld := hHeld'
        clear hHeld'
        try simp only [Act.put, List.setIfInBounds_toArray, List.set_cons_zero, List.set_cons_succ]
        refine wpAnyH_ready (rs := [9]) (by kernel_rfl) (by simp) ?_
        refine AllReadyH.cons (o := { dst := some 22, op := Go.Op.call { callee := Go.Callee.builtin Go.Builtin.append, args := #[Go.Operand.tmp 19, Go.Operand.tmp 21], argTypes := #[22, 22] }, type := 22, pos := "tariff.go:37", after := #[{ on := 6, ground := Go.Ground.data }, { on := 8, ground := Go.Ground.data }], guard := none }) rfl (fun K hK => ?_) AllReadyH.nil
        refine step_app_loc rfl _ _ 22 rfl (w.heap.size + 1) (news := raC r) Try.underlying22 hi0 hz0 hz1 hz2 rfl (by decide) (by rfl) (by rfl) (TC.out.row r.nm) rfl (World.news_of_block (cs := #[.string r.nm, .int .i64 r.fr, .int .i64 r.ct]) (heap_alloc_new W0 _)) (by simp [raC, Value.oneCell']) (by have := FL.out; unfold maxLen; omega) (by have := FL.out; omega) TC.out.le (fun v6 W6 own grow hloc => ?_)
        have KH := Lib.hid (hHeld.grown grow (fun e => HN5.out _ e.symm rfl))
        obtain ⟨W7, hrun7, T7, hg7⟩ := TC.out.push hrs (by omega) own grow hloc
        have BD := Lib.hid (show Below w.heap.size w (W0.alloc (.cells #[.string r.nm, .int .i64 r.fr, .int .i64 r.ct] 34)).drew from below_dr (BL.out.alloc BL.out.size _))
        have G6 := Lib.hid grow
        have OL6 := Lib.hid (TC.out.row r.nm)
        clear own grow hloc
        refine hK.out _ _ ?_ (fun hHeld' => ?_)
        · exact KH.out
        clear hK K hHeld
        have hHeld := hHeld'
        clear hHeld'
        try simp only [Act.put, List.setIfInBounds_toArray, List.set_cons_zero, List.set_cons_succ]
        refine wpAnyH_ready (rs := [10]) (by kernel_rfl) (by simp) ?_
        refine AllReadyH.cons (o := { dst := none, op := Go.Op.mapUpdate 97 (Go.Operand.tmp 13) (Go.Operand.tmp 15) (Go.Operand.tmp 22), type := 0, pos := "tariff.go:37", after := #[{ on := 0, ground := Go.Ground.data }, { on := 2, ground := Go.Ground.data }, { on := 9, ground := Go.Ground.data }, { on := 9, ground := Go.Ground.chain }, { on := 0, ground := Go.Ground.phase }, { on := 1, ground := Go.Ground.phase }, { on := 2, ground := Go.Ground.phase }, { on := 3, ground := Go.Ground.phase }, { on := 4, ground := Go.Ground.phase }, { on := 5, ground := Go.Ground.phase }, { on := 6, ground := Go.Ground.phase }, { on := 7, ground := Go.Ground.phase }, { on := 8, ground := Go.Ground.phase }, { on := 9, ground := Go.Ground.phase }], guard := none }) rfl (fun K hK => ?_) AllReadyH.nil
        refine step_upd rfl _ _ _ _ rfl (by rfl) (by rfl) (by rfl) hrun7 ?_
        have KU := Lib.hid (hHeld.grown hg7 (fun e => HB5.out (Option.some.inj e)))
        refine hK.out _ _ ?_ (fun hHeld' => ?_)
        · exact KU.out
        clear hK K hHeld
        have hHeld := hHeld'
        clear hHeld'
        refine wpAnyH_done (by kernel_rfl) ?_ _
        have T8 := Lib.hid T7
        have BW := Lib.hid (show Below w.heap.size w W7 from ((BD.out.grown G6.out (by have := BL.out.size; show w.heap.size ≤ (W0.alloc (.cells #[.string r.nm, .int .i64 r.fr, .int .i64 r.ct] 34)).heap.size; simp; omega) (fun k' e' => Nat.le_trans (Nat.le_succ _) (World.ownsRow.lt OL6.out k' e').1)).grown hg7 (Nat.le_trans (by have := BL.out.size; show w.heap.size ≤ (W0.alloc (.cells #[.string r.nm, .int .i64 r.fr, .int .i64 r.ct] 34)).heap.size; simp; omega) G6.out.size) (fun k' e' => by cases e'; exact Nat.le_refl _)))
        clear hHeld T7 hg7 hrun7
        go_wp2
        go_roundw
        case rel => exact ⟨k + 1, _, _, by omega, by go_num, by rw [TKE.out]; exact T8, BW⟩
        case measure => simp [intOf]; omega
      refine AllReadyH.cons (o := { dst := some 21, op := Go.Op.buildSlice 22 1 #[(0, Go.Operand.tmp 20)], type := 22, pos := "tariff.go:37", after := #[{ on := 7, ground := Go.Ground.data }], guard := none }) rfl (fun K hK => ?_) AllReadyH.nil
      go_simp
      have KH := Lib.hid hHeld
      have TC := Lib.hid (TC.out.below ((Below.refl _ _).alloc (Nat.le_refl _) (.cells #[.string r.nm, .int .i64 r.fr, .int .i64 r.ct] 34)))
      refine hK.out _ _ ?_ (fun hHeld' => ?_)
      · exact KH.out.al _
      clear hK K hHeld
      have hHeld := hHeld'
      clear hHeld'
      try simp only [Act.put, List.setIfInBounds_toArray, List.set_cons_zero, List.set_cons_succ]
      refine wpAnyH_ready (rs := [6]) (by kernel_rfl) (by simp) ?_
      refine AllReadyH.cons (o := { dst := some 19, op := Go.Op.lookup 97 (Go.Operand.tmp 16) (Go.Operand.tmp 18) false, type := 22, pos := "tariff.go:37", after := #[{ on := 3, ground := Go.Ground.data }, { on := 5, ground := Go.Ground.data }], guard := none }) rfl (fun K hK => ?_) AllReadyH.nil
      refine step_look rfl _ _ _ rfl (by rfl) (by rfl) (TC.out.look hrs) ?_
      have KL := Lib.hid hHeld
      have KL := Lib.hid hHeld
      refine hK.out _ _ ?_ (fun hHeld' => ?_)
      · exact KL.out
      clear hK K hHeld
      have hHeld := hHeld'
      clear hHeld'
      try simp only [Act.put, List.setIfInBounds_toArray, List.set_cons_zero, List.set_cons_succ]
      refine wpAnyH_ready (rs := [9]) (by kernel_rfl) (by simp) ?_
      refine AllReadyH.cons (o := { dst := some 22, op := Go.Op.call { callee := Go.Callee.builtin Go.Builtin.append, args := #[Go.Operand.tmp 19, Go.Operand.tmp 21], argTypes := #[22, 22] }, type := 22, pos := "tariff.go:37", after := #[{ on := 6, ground := Go.Ground.data }, { on := 8, ground := Go.Ground.data }], guard := none }) rfl (fun K hK => ?_) AllReadyH.nil
      refine step_app_loc rfl _ _ 22 rfl (w.heap.size + 1) (news := raC r) Try.underlying22 hi0 hz0 hz1 hz2 rfl (by decide) (by rfl) (by rfl) (TC.out.row r.nm) rfl (World.news_of_block (cs := #[.string r.nm, .int .i64 r.fr, .int .i64 r.ct]) (heap_alloc_new W0 _)) (by simp [raC, Value.oneCell']) (by have := FL.out; unfold maxLen; omega) (by have := FL.out; omega) TC.out.le (fun v6 W6 own grow hloc => ?_)
      have KH := Lib.hid (hHeld.grown grow (fun e => HN5.out _ e.symm rfl))
      obtain ⟨W7, hrun7, T7, hg7⟩ := TC.out.push hrs (by omega) own grow hloc
      have BD := Lib.hid (show Below w.heap.size w (W0.alloc (.cells #[.string r.nm, .int .i64 r.fr, .int .i64 r.ct] 34)).drew from below_dr (BL.out.alloc BL.out.size _))
      have G6 := Lib.hid grow
      have OL6 := Lib.hid (TC.out.row r.nm)
      clear own grow hloc
      refine hK.out _ _ ?_ (fun hHeld' => ?_)
      · exact KH.out
      clear hK K hHeld
      have hHeld := hHeld'
      clear hHeld'
      try simp only [Act.put, List.setIfInBounds_toArray, List.set_cons_zero, List.set_cons_succ]
      refine wpAnyH_ready (rs := [10]) (by kernel_rfl) (by simp) ?_
      refine AllReadyH.cons (o := { dst := none, op := Go.Op.mapUpdate 97 (Go.Operand.tmp 13) (Go.Operand.tmp 15) (Go.Operand.tmp 22), type := 0, pos := "tariff.go:37", after := #[{ on := 0, ground := Go.Ground.data }, { on := 2, ground := Go.Ground.data }, { on := 9, ground := Go.Ground.data }, { on := 9, ground := Go.Ground.chain }, { on := 0, ground := Go.Ground.phase }, { on := 1, ground := Go.Ground.phase }, { on := 2, ground := Go.Ground.phase }, { on := 3, ground := Go.Ground.phase }, { on := 4, ground := Go.Ground.phase }, { on := 5, ground := Go.Ground.phase }, { on := 6, ground := Go.Ground.phase }, { on := 7, ground := Go.Ground.phase }, { on := 8, ground := Go.Ground.phase }, { on := 9, ground := Go.Ground.phase }], guard := none }) rfl (fun K hK => ?_) AllReadyH.nil
      refine step_upd rfl _ _ _ _ rfl (by rfl) (by rfl) (by rfl) hrun7 ?_
      have KU := Lib.hid (hHeld.grown hg7 (fun e => HB5.out (Option.some.inj e)))
      refine hK.out _ _ ?_ (fun hHeld' => ?_)
      · exact KU.out
      clear hK K hHeld
      have hHeld := hHeld'
      clear hHeld'
      refine wpAnyH_done (by kernel_rfl) ?_ _
      have T8 := Lib.hid T7
      have BW := Lib.hid (show Below w.heap.size w W7 from ((BD.out.grown G6.out (by have := BL.out.size; show w.heap.size ≤ (W0.alloc (.cells #[.string r.nm, .int .i64 r.fr, .int .i64 r.ct] 34)).heap.size; simp; omega) (fun k' e' => Nat.le_trans (Nat.le_succ _) (World.ownsRow.lt OL6.out k' e').1)).grown hg7 (Nat.le_trans (by have := BL.out.size; show w.heap.size ≤ (W0.alloc (.cells #[.string r.nm, .int .i64 r.fr, .int .i64 r.ct] 34)).heap.size; simp; omega) G6.out.size) (fun k' e' => by cases e'; exact Nat.le_refl _)))
      clear hHeld T7 hg7 hrun7
      go_wp2
      go_roundw
      case rel => exact ⟨k + 1, _, _, by omega, by go_num, by rw [TKE.out]; exact T8, BW⟩
      case measure => simp [intOf]; omega
    · obtain rfl : k = L.length := by omega
      have TT := Lib.hid (show TA L w.heap.size wr by have := HT.out; rw [List.take_of_length_le (Nat.le_refl _)] at this; exact this.ta)
      go_wp2
      go_ret
      exact ⟨_, rfl, TT.out, BL.out⟩
end Go.Proofs.Ytcimceepkjpggaa
