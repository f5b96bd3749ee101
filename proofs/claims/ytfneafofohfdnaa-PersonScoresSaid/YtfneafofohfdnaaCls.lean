/-
  Classes of package person: the classes of the entries, a contract for all worlds. (Written by gen/mkcls.py.)
-/
import Derived.Test.YtfneafofohfdnaaStep
import Derived.Test.YtfneafofohfdnaaKey
namespace Go.Proofs.Ytfneafofohfdnaa
open Go.RowKit Go.WideMaps Go.Maps Go.Sort Go.WideElems Go.MapKept
attribute [local go_sem] set_drewN
theorem yields_move {P : Program} {ops : Array Oper} {o : Oper} {a : Act} {S : World → Prop} (hgd : o.guard = none) (x : Operand) (ho : o.op = .move x) {v : Value} (hx : a.eval x = v) : YieldsIf P ops S o v a := by
  refine Or.inl ⟨by simp [Region.wanted, hgd], fun X _ => ?_⟩
  simp [execOp, ho, hx]
theorem grM_step {F : Int → Option Int} {k : Nat} {f : Int} (h : F (k : Int) = some f) : (fun z => if z = f then grM F z k ++ [(k : Int)] else grM F z k) = fun z => grM F z (k + 1) := by
  funext z
  show _ = if F (k : Int) = some z then grM F z k ++ [(k : Int)] else grM F z k
  rw [h]
  by_cases c : z = f
  · rw [if_pos c, if_pos (by rw [c])]
  · rw [if_neg c, if_neg (fun e => c (Option.some.inj e).symm)]
theorem grM_len {F : Int → Option Int} {f : Int} : ∀ k, (grM F f k).length ≤ k
  | 0 => Nat.le_refl _
  | k + 1 => by
    have := grM_len (F := F) (f := f) k
    unfold grM
    split <;> simp <;> omega
theorem ints_snoc {W : World} {base : Nat} {e : TypeId} {v : Value} {zs : List Int} {k : Int} (h : W.ownsRow base e 1 v (zs.length + 1) (zs.map (Value.int .i64) ++ [.int .i64 k])) (hz : ∀ z ∈ zs, (Lit.int .i64 z).wf = true) (hk : (Lit.int .i64 k).wf = true) : W.ownsInts base e .i64 v (zs ++ [k]) := by
  refine ⟨by rw [List.length_append, List.map_append]; exact h, fun z hz' => ?_⟩
  rcases List.mem_append.1 hz' with h' | h'
  · exact hz z h'
  · obtain rfl : z = k := by simpa using h'
    exact hk
theorem grown_alloc (W : World) (o : Obj) (row : Option Nat) : W.grownBy (W.alloc o) row := ⟨rfl, rfl, rfl, by simp, fun k hk _ => Below.heap_alloc _ _ k hk⟩
theorem infoIn : (Try.prog.info? 3).map (fun i => (i.zero, i.size, i.bytes)) = some (some (.int .i64 0), 1, 8) := by kernel_rfl
theorem infoSl : (Try.prog.info? 68).map (fun i => (i.zero, i.size, i.bytes)) = some (some (.slice none 0 0), 1, 24) := by kernel_rfl
/-- the slices of the groups, in whatever world they lie as they lay -/
theorem all_groups {w ws : World} {base b n : Nat} {D : DataW Unit} {G : Int → List Int} (hown : w.ownsGroups Try.prog 3 base 3 .i64 b n D) (hn : n < maxLen) (hG : GD D G) (hb : Below w.heap.size w ws) :
    ∃ vf : Int → Value, ∀ f : Int, (0 ≤ f ∧ f ≤ 100) → (∀ X : World, X.heap[b]? = ws.heap[b]? → (Instr.lookup 94 (.map (some b)) (.int .i64 f) false).run Try.prog X = .ok (vf f) X) ∧ ws.ownsInts base 3 .i64 (vf f) (G f) := by
  refine Classical.axiomOfChoice (r := fun (f : Int) (v : Value) => (0 ≤ f ∧ f ≤ 100) → (∀ X : World, X.heap[b]? = ws.heap[b]? → (Instr.lookup 94 (.map (some b)) (.int .i64 f) false).run Try.prog X = .ok v X) ∧ ws.ownsInts base 3 .i64 v (G f)) ?_
  intro f
  by_cases h : 0 ≤ f ∧ f ≤ 100
  · obtain ⟨v, zs, hrun, hat, ho, _, _⟩ := hown.at lawI Try.underlying94 (zeroIs w) hn (keyI (x := f) (by omega) (by omega))
    have hzs := GD_at hG hat ho
    subst hzs
    exact ⟨v, fun _ => ⟨fun X hX => look_group hown h.1 h.2 hrun (hX.trans (hb.block b (ownsGroups_map hown).lt)), own_up ho.1 hb, ho.2⟩⟩
  · exact ⟨undef, fun h' => absurd h' h⟩
theorem ints_slice {W : World} {base : Nat} {e : TypeId} {v : Value} {zs : List Int} (h : W.ownsInts base e .i64 v zs) : ∃ a m c, v = .slice a m c := by
  rcases h.1.2 with ⟨rfl, _⟩ | ⟨g, cap, cur, rfl, _⟩ <;> exact ⟨_, _, _, rfl⟩
theorem wpList_look {P : Program} {w : World} {ops : Array Oper} {rest : List Oper} {o : Oper} {a : Act} {Q : Exit → Act → World → Prop} (hgd : o.guard = none) (m x : Operand) (t : TypeId) (ho : o.op = .lookup t m x false) {mv key v : Value} (hm : a.eval m = mv) (hx : a.eval x = key)
    (hrun : (Instr.lookup t mv key false).run P w = .ok v w) (h : wpList P ops Q rest (a.put o.dst v) w) : wpList P ops Q (o :: rest) a w := by
  refine wpList_plain hgd fun K hK => ?_
  unfold Oper.wp
  simp [execOp, ho, hm, hx, hrun, Result.andThen]
  exact hK _ _ h
theorem wpList_lenRow {w : World} {ops : Array Oper} {rest : List Oper} {o : Oper} {a : Act} {Q : Exit → Act → World → Prop} (hgd : o.guard = none) (m : Operand) (ho : o.op = .call { callee := .builtin .len, args := #[m], argTypes := #[68] }) {base size n : Nat} {e : TypeId} {v : Value} {xs : List Value} (hm : a.eval m = v)
    (hown : w.ownsRow base e size v n xs) (h : wpList Try.prog ops Q rest (a.put o.dst (.int .i64 n)) w) : wpList Try.prog ops Q (o :: rest) a w := by
  refine wpList_plain hgd fun K hK => ?_
  have hu := Try.underlying68
  rcases hown.2 with ⟨rfl, rfl⟩ | ⟨g, cap, cur, rfl, _⟩
  all_goals
    unfold Oper.wp
    simp [execOp, ho, hm, resolve, invoke, builtin, Builtin.len_, run_underlying hu, Result.andThen]
    exact hK _ _ h
theorem row_row2 {W : World} {base base' k size k' size' : Nat} {e e' : TypeId} {v v' : Value} {xs xs' : List Value} (h : W.ownsRow base e size v k xs) (h' : W.ownsRow base' e' size' v' k' xs') (he : e ≠ e') : v.ownBlock = none ∨ v.ownBlock ≠ v'.ownBlock :=
  row_row (ownsRow_base_a h (Nat.zero_le _)) (ownsRow_base_a h' (Nat.zero_le _)) he
theorem ksM_range {F : Int → Option Int} {n : Nat} {f : Int} (h : f ∈ ksM F n) : 0 ≤ f ∧ f < n := by
  unfold ksM at h
  obtain ⟨e, he, rfl⟩ := List.mem_map.1 (List.mem_filter.1 h).1
  have := List.mem_range.1 he
  omega
theorem ksM_len (F : Int → Option Int) (n : Nat) : (ksM F n).length ≤ n := by
  unfold ksM
  refine Nat.le_trans (List.length_filter_le _ _) ?_
  simp
set_option maxRecDepth 100000 in
set_option maxHeartbeats 8000000 in
theorem classes_any (w : World) (nE : Nat) (ds : List Dc) (b cap : Nat) (hln : ds.length ≤ 120) (hn : nE ≤ 60) (hok : okD nE ds) (hd : ∀ d ∈ ds, gdD nE d) (hc : DcAt w.heap.size w b ds) :
    Calls Try.prog 32 #[.int .i64 nE, .slice (some ⟨b, 0, none⟩) ds.length cap] w fun e w' => ∃ (v : Value) (vf : Int → Value), e = .returned (two v (.int .i64 0)) ∧ w'.ownsRow w.heap.size 68 1 v (ksM (fM ds (stM ds) nE) nE).length ((ksM (fM ds (stM ds) nE) nE).map vf) ∧
      (∀ f ∈ ksM (fM ds (stM ds) nE) nE, w'.ownsInts w.heap.size 3 .i64 (vf f) (grM (fM ds (stM ds) nE) f nE)) ∧ Below w.heap.size w w' := by
  have hmm := @run_makeMap Try.prog
  obtain ⟨i0, hi, hz0, hz1, hz2⟩ := info_parts infoIn
  have HR := Lib.hid (read_ok nE ds b cap w hn hln hd hc)
  have HOK := Lib.hid hok
  clear hok hd hc
  go_enter Try.func32, Try.ntmps32
  go_wp2_with (first
    | (go_at_call 52; refine HR.out.mono ?_; rintro e' wb ⟨rfl, v1, v2, hB⟩; have HBK := Lib.hid hB; clear hB)
    | (go_at_call 53; refine (firsts_any _ nE ds (stM ds) wb (stM_len ds) (by omega) hn HOK.out HBK.out.lies).mono ?_; rintro e' wf ⟨D, rfl, hownD, hMD, hbelD⟩; have HO0 := Lib.hid hownD; have HM := Lib.hid hMD; have HBf := Lib.hid hbelD; clear hownD hMD hbelD))
  have sz1 := HBK.out.b.size
  have sz2 := HBf.out.size
  have hB1f := HO0.out.lt
  obtain ⟨B1, hB1e⟩ : ∃ B1, wb.heap.size = B1 := ⟨_, rfl⟩
  obtain ⟨B2, hB2e⟩ : ∃ B2, wf.heap.size = B2 := ⟨_, rfl⟩
  have HG0 := Lib.hid (World.ownsGroups_made (H := Unit) wf Try.prog 3 3 .i64)
  have HO1 := Lib.hid (HO0.out.kept (grown_alloc wf (.map #[] 0) none) (by simp))
  have HBw := Lib.hid ((HBK.out.b.trans (HBf.out.mono sz1)).alloc (by omega) (.map #[] 0))
  have hb0 : w.heap.size ≤ B1 := hB1e ▸ sz1
  have hb12 : B1 < B2 := by rw [← hB1e, ← hB2e]; exact hB1f
  rw [hB1e] at *
  rw [hB2e] at *
  go_loopw [27] (fun iv wr => ∃ (k : Nat) (G : DataW Unit), k ≤ nE ∧ iv = .int .i64 k ∧ Hid (wr.ownsMap Try.prog 3 (plainElem Try.prog 3) B1 3600 D) ∧ Hid (wr.ownsGroups Try.prog 3 (B2 + 1) 3 .i64 B2 k G) ∧ Hid (GD G fun z => grM (fM ds (stM ds) nE) z k) ∧ Hid (Below w.heap.size w wr)) (fun iv _ => nE - (intOf iv).toNat)
  case atStart => exact ⟨0, _, Nat.zero_le _, rfl, HO1, HG0, Lib.hid GD_nil, HBw⟩
  case round =>
    obtain ⟨k, G, hk, rfl, HO, HG, HD, HB⟩ := hrel
    by_cases hlt : k < nE
    · obtain ⟨f, hf⟩ := Option.isSome_iff_exists.1 (fM_total (ds := ds) (st := stM ds) nE hlt)
      have hfr := fM_range nE hf
      have hL1 := Lib.hid (fun (X : World) (hX : X.heap[B1]? = wr.heap[B1]?) => look_first HO.out HM.out hf (by omega) (by omega) hX)
      obtain ⟨v, zs, hrun, hat, ho, hzl, hback⟩ := HG.out.at lawI Try.underlying94 (zeroIs wr) (by unfold maxLen; omega) (keyI (x := f) (by omega) (by omega))
      have hzs := GD_at HD.out hat ho
      subst hzs
      have hL2 := Lib.hid (fun (X : World) (hX : X.heap[B2]? = wr.heap[B2]?) => look_group HG.out (by omega) (by omega) hrun hX)
      have hB1 := HO.out.lt
      have hB2 := (ownsGroups_map HG.out).lt
      have hN1 : some B1 ≠ v.ownBlock := fun e => by have := (ho.1.lt B1 e.symm).1; omega
      have hgl := grM_len (F := fM ds (stM ds) nE) (f := f) k
      have hA1 : (wr.drew.alloc (.cells #[.int .i64 k] 3)).heap[B1]? = wr.heap[B1]? := Below.heap_alloc wr.drew _ B1 hB1
      clear hrun hat
      go_wp2_with fail
      refine wp_region_held_drew (S := fun X => X.heap[B1]? = wr.heap[B1]?) (by kernel_rfl) rfl (fun hHeld => ?_)
      refine wpAnyH_take (i := 0) (oi := { dst := some 30, op := Op.move (Operand.tmp 9), type := 94, pos := "class.go:95", after := #[], guard := none }) (v := .map (some B2)) rfl (by kernel_rfl) (by kernel_rfl) (by kernel_rfl) (fun _ _ _ h => h) (yields_move rfl _ rfl rfl) (by assumption) ?_
      try simp only [Act.put, List.setIfInBounds_toArray, List.set_cons_zero, List.set_cons_succ]
      refine wpAnyH_take (i := 1) (oi := { dst := some 31, op := Op.move (Operand.tmp 8), type := 92, pos := "class.go:95", after := #[], guard := none }) (v := .map (some B1)) rfl (by kernel_rfl) (by kernel_rfl) (by kernel_rfl) (fun _ _ _ h => h) (yields_move rfl _ rfl rfl) (by assumption) ?_
      try simp only [Act.put, List.setIfInBounds_toArray, List.set_cons_zero, List.set_cons_succ]
      refine wpAnyH_take (i := 2) (oi := { dst := some 32, op := Op.move (Operand.tmp 10), type := 3, pos := "class.go:95", after := #[], guard := none }) (v := .int .i64 k) rfl (by kernel_rfl) (by kernel_rfl) (by kernel_rfl) (fun _ _ _ h => h) (yields_move rfl _ rfl rfl) (by assumption) ?_
      try simp only [Act.put, List.setIfInBounds_toArray, List.set_cons_zero, List.set_cons_succ]
      refine wpAnyH_take (i := 3) (oi := { dst := some 33, op := Op.lookup 92 (Operand.tmp 31) (Operand.tmp 32) false, type := 3, pos := "class.go:95", after := #[{ on := 1, ground := Ground.data }, { on := 2, ground := Ground.data }], guard := none }) (v := .int .i64 f) rfl (by kernel_rfl) (by kernel_rfl) (by kernel_rfl) (fun _ _ _ h => h) (yields_look rfl _ _ _ rfl rfl rfl (fun X hX => hL1.out X hX)) (by assumption) ?_
      try simp only [Act.put, List.setIfInBounds_toArray, List.set_cons_zero, List.set_cons_succ]
      refine wpAnyH_take (i := 4) (oi := { dst := some 34, op := Op.move (Operand.tmp 9), type := 94, pos := "class.go:95", after := #[], guard := none }) (v := .map (some B2)) rfl (by kernel_rfl) (by kernel_rfl) (by kernel_rfl) (fun _ _ _ h => h) (yields_move rfl _ rfl rfl) (by assumption) ?_
      try simp only [Act.put, List.setIfInBounds_toArray, List.set_cons_zero, List.set_cons_succ]
      refine wpAnyH_take (i := 5) (oi := { dst := some 35, op := Op.move (Operand.tmp 8), type := 92, pos := "class.go:95", after := #[], guard := none }) (v := .map (some B1)) rfl (by kernel_rfl) (by kernel_rfl) (by kernel_rfl) (fun _ _ _ h => h) (yields_move rfl _ rfl rfl) (by assumption) ?_
      try simp only [Act.put, List.setIfInBounds_toArray, List.set_cons_zero, List.set_cons_succ]
      refine wpAnyH_take (i := 6) (oi := { dst := some 36, op := Op.move (Operand.tmp 10), type := 3, pos := "class.go:95", after := #[], guard := none }) (v := .int .i64 k) rfl (by kernel_rfl) (by kernel_rfl) (by kernel_rfl) (fun _ _ _ h => h) (yields_move rfl _ rfl rfl) (by assumption) ?_
      try simp only [Act.put, List.setIfInBounds_toArray, List.set_cons_zero, List.set_cons_succ]
      refine wpAnyH_take (i := 7) (oi := { dst := some 37, op := Op.lookup 92 (Operand.tmp 35) (Operand.tmp 36) false, type := 3, pos := "class.go:95", after := #[{ on := 5, ground := Ground.data }, { on := 6, ground := Ground.data }], guard := none }) (v := .int .i64 f) rfl (by kernel_rfl) (by kernel_rfl) (by kernel_rfl) (fun _ _ _ h => h) (yields_look rfl _ _ _ rfl rfl rfl (fun X hX => hL1.out X hX)) (by assumption) ?_
      try simp only [Act.put, List.setIfInBounds_toArray, List.set_cons_zero, List.set_cons_succ]
      refine wpAnyH_take (i := 9) (oi := { dst := some 39, op := Op.move (Operand.tmp 10), type := 3, pos := "class.go:95", after := #[], guard := none }) (v := .int .i64 k) rfl (by kernel_rfl) (by kernel_rfl) (by kernel_rfl) (fun _ _ _ h => h) (yields_move rfl _ rfl rfl) (by assumption) ?_
      try simp only [Act.put, List.setIfInBounds_toArray, List.set_cons_zero, List.set_cons_succ]
      refine wpAnyH_ready (rs := [8, 10]) (by kernel_rfl) (by simp) ?_
      refine AllReadyH.cons (o := { dst := some 38, op := Op.lookup 94 (Operand.tmp 34) (Operand.tmp 37) false, type := 68, pos := "class.go:95", after := #[{ on := 4, ground := Ground.data }, { on := 7, ground := Ground.data }], guard := none }) rfl (fun K hK => ?_) ?_
      · refine step_look rfl _ _ _ rfl rfl rfl (hL2.out _ ?_) ?_
        · first | rfl | exact Below.heap_alloc _ _ _ hB2
        refine hK.out _ _ ?_ (fun hHeld => ?_)
        · first | rfl | exact hA1
        clear hK K
        try simp only [Act.put, List.setIfInBounds_toArray, List.set_cons_zero, List.set_cons_succ]
        refine wpAnyH_ready (rs := [10]) (by kernel_rfl) (by simp) ?_
        refine AllReadyH.cons (o := { dst := some 40, op := Op.buildSlice 68 1 #[(0, Operand.tmp 39)], type := 68, pos := "class.go:95", after := #[{ on := 9, ground := Ground.data }], guard := none }) rfl (fun K hK => ?_) AllReadyH.nil
        go_simp
        refine hK.out _ _ ?_ (fun hHeld => ?_)
        · exact hA1
        clear hK K
        try simp only [Act.put, List.setIfInBounds_toArray, List.set_cons_zero, List.set_cons_succ]
        refine wpAnyH_ready (rs := [11]) (by kernel_rfl) (by simp) ?_
        refine AllReadyH.cons (o := { dst := some 41, op := Op.call { callee := Callee.builtin Builtin.append, args := #[Operand.tmp 38, Operand.tmp 40], argTypes := #[68, 68] }, type := 68, pos := "class.go:95", after := #[{ on := 8, ground := Ground.data }, { on := 10, ground := Ground.data }], guard := none }) rfl (fun K hK => ?_) AllReadyH.nil
        refine step_app_at rfl (.tmp 38) (.tmp 40) _ rfl (B2 + 1) (n := (grM (fM ds (stM ds) nE) f k).length) (m := 1) (news := [.int .i64 k]) Try.underlying68 hi hz0 hz1 hz2 rfl (by decide) rfl rfl (ho.alloc (w := wr.drew) _).1 rfl ?_ ?_ ?_ ?_ ?_ ?_
        · exact cell_one_new _ _ _
        · simp [Value.oneCell']
        · unfold maxLen; omega
        · omega
        · show B2 + 1 ≤ (wr.drew.alloc _).heap.size; simp; omega
        intro v' w1 hown1 hgrow1 hloc1
        have hga := grown_drew ((grown_alloc wr.drew _ v.ownBlock).trans hgrow1)
        have hoi := ints_snoc hown1 ho.2 (wfI (x := (k : Int)) (by omega) (by omega))
        refine hK.out _ _ ?_ (fun hHeld => ?_)
        · exact (hga.block B1 hB1 hN1)
        clear hK K
        try simp only [Act.put, List.setIfInBounds_toArray, List.set_cons_zero, List.set_cons_succ]
        obtain ⟨w2, hrun2, hg2, hgr2⟩ := hback w1 v' _ hga hoi (by simp; omega) (hloc1.imp id fun h => ⟨_, h, by show wr.heap.size ≤ (wr.drew.alloc _).heap.size; simp⟩)
        refine wpAnyH_ready (rs := [12]) (by kernel_rfl) (by simp) ?_
        refine AllReadyH.cons (o := { dst := none, op := Op.mapUpdate 94 (Operand.tmp 30) (Operand.tmp 33) (Operand.tmp 41), type := 0, pos := "class.go:95", after := #[{ on := 0, ground := Ground.data }, { on := 3, ground := Ground.data }, { on := 11, ground := Ground.data }, { on := 11, ground := Ground.chain }, { on := 0, ground := Ground.phase }, { on := 1, ground := Ground.phase }, { on := 2, ground := Ground.phase }, { on := 3, ground := Ground.phase }, { on := 4, ground := Ground.phase }, { on := 5, ground := Ground.phase }, { on := 6, ground := Ground.phase }, { on := 7, ground := Ground.phase }, { on := 8, ground := Ground.phase }, { on := 9, ground := Ground.phase }, { on := 10, ground := Ground.phase }, { on := 11, ground := Ground.phase }], guard := none }) rfl (fun K hK => ?_) AllReadyH.nil
        refine step_upd rfl _ _ _ _ rfl rfl rfl rfl hrun2 ?_
        refine hK.out _ _ ?_ (fun hHeld => ?_)
        · exact (hgr2.block B1 (by have := hga.size; omega) (by simp; omega)).trans (hga.block B1 hB1 hN1)
        clear hK K
        refine wpAnyH_done (by kernel_rfl) ?_ _
        have HG2 := Lib.hid hg2
        have HD2 := Lib.hid (GD_put (G := fun z => grM (fM ds (stM ds) nE) z k) HD.out hoi)
        have HO2 := Lib.hid ((HO.out.kept hga hN1).kept hgr2 (by simp; omega))
        have HB2 := Lib.hid ((HB.out.grown hga HB.out.size (fun j hj => by have := (ho.1.lt j hj).1; omega)).grown hgr2 (by have := hga.size; have := HB.out.size; omega) (fun j hj => by cases hj; omega))
        clear hg2 hgr2 hrun2 hga hgrow1 hloc1 hown1 hHeld hoi
        go_wp2
        go_roundw
        case rel => exact ⟨k + 1, _, by omega, by go_num, HO2, HG2, by rw [← grM_step hf]; exact HD2, HB2⟩
        case measure => simp [intOf]; omega
      refine AllReadyH.cons (o := { dst := some 40, op := Op.buildSlice 68 1 #[(0, Operand.tmp 39)], type := 68, pos := "class.go:95", after := #[{ on := 9, ground := Ground.data }], guard := none }) rfl (fun K hK => ?_) AllReadyH.nil
      go_simp
      refine hK.out _ _ ?_ (fun hHeld => ?_)
      · exact hA1
      clear hK K
      try simp only [Act.put, List.setIfInBounds_toArray, List.set_cons_zero, List.set_cons_succ]
      refine wpAnyH_ready (rs := [8]) (by kernel_rfl) (by simp) ?_
      refine AllReadyH.cons (o := { dst := some 38, op := Op.lookup 94 (Operand.tmp 34) (Operand.tmp 37) false, type := 68, pos := "class.go:95", after := #[{ on := 4, ground := Ground.data }, { on := 7, ground := Ground.data }], guard := none }) rfl (fun K hK => ?_) AllReadyH.nil
      refine step_look rfl _ _ _ rfl rfl rfl (hL2.out _ ?_) ?_
      · first | rfl | exact Below.heap_alloc _ _ _ hB2
      refine hK.out _ _ ?_ (fun hHeld => ?_)
      · first | rfl | exact hA1
      clear hK K
      try simp only [Act.put, List.setIfInBounds_toArray, List.set_cons_zero, List.set_cons_succ]
      refine wpAnyH_ready (rs := [11]) (by kernel_rfl) (by simp) ?_
      refine AllReadyH.cons (o := { dst := some 41, op := Op.call { callee := Callee.builtin Builtin.append, args := #[Operand.tmp 38, Operand.tmp 40], argTypes := #[68, 68] }, type := 68, pos := "class.go:95", after := #[{ on := 8, ground := Ground.data }, { on := 10, ground := Ground.data }], guard := none }) rfl (fun K hK => ?_) AllReadyH.nil
      refine step_app_at rfl (.tmp 38) (.tmp 40) _ rfl (B2 + 1) (n := (grM (fM ds (stM ds) nE) f k).length) (m := 1) (news := [.int .i64 k]) Try.underlying68 hi hz0 hz1 hz2 rfl (by decide) rfl rfl (ho.alloc (w := wr.drew) _).1 rfl ?_ ?_ ?_ ?_ ?_ ?_
      · exact cell_one_new _ _ _
      · simp [Value.oneCell']
      · unfold maxLen; omega
      · omega
      · show B2 + 1 ≤ (wr.drew.alloc _).heap.size; simp; omega
      intro v' w1 hown1 hgrow1 hloc1
      have hga := grown_drew ((grown_alloc wr.drew _ v.ownBlock).trans hgrow1)
      have hoi := ints_snoc hown1 ho.2 (wfI (x := (k : Int)) (by omega) (by omega))
      refine hK.out _ _ ?_ (fun hHeld => ?_)
      · exact (hga.block B1 hB1 hN1)
      clear hK K
      try simp only [Act.put, List.setIfInBounds_toArray, List.set_cons_zero, List.set_cons_succ]
      obtain ⟨w2, hrun2, hg2, hgr2⟩ := hback w1 v' _ hga hoi (by simp; omega) (hloc1.imp id fun h => ⟨_, h, by show wr.heap.size ≤ (wr.drew.alloc _).heap.size; simp⟩)
      refine wpAnyH_ready (rs := [12]) (by kernel_rfl) (by simp) ?_
      refine AllReadyH.cons (o := { dst := none, op := Op.mapUpdate 94 (Operand.tmp 30) (Operand.tmp 33) (Operand.tmp 41), type := 0, pos := "class.go:95", after := #[{ on := 0, ground := Ground.data }, { on := 3, ground := Ground.data }, { on := 11, ground := Ground.data }, { on := 11, ground := Ground.chain }, { on := 0, ground := Ground.phase }, { on := 1, ground := Ground.phase }, { on := 2, ground := Ground.phase }, { on := 3, ground := Ground.phase }, { on := 4, ground := Ground.phase }, { on := 5, ground := Ground.phase }, { on := 6, ground := Ground.phase }, { on := 7, ground := Ground.phase }, { on := 8, ground := Ground.phase }, { on := 9, ground := Ground.phase }, { on := 10, ground := Ground.phase }, { on := 11, ground := Ground.phase }], guard := none }) rfl (fun K hK => ?_) AllReadyH.nil
      refine step_upd rfl _ _ _ _ rfl rfl rfl rfl hrun2 ?_
      refine hK.out _ _ ?_ (fun hHeld => ?_)
      · exact (hgr2.block B1 (by have := hga.size; omega) (by simp; omega)).trans (hga.block B1 hB1 hN1)
      clear hK K
      refine wpAnyH_done (by kernel_rfl) ?_ _
      have HG2 := Lib.hid hg2
      have HD2 := Lib.hid (GD_put (G := fun z => grM (fM ds (stM ds) nE) z k) HD.out hoi)
      have HO2 := Lib.hid ((HO.out.kept hga hN1).kept hgr2 (by simp; omega))
      have HB2 := Lib.hid ((HB.out.grown hga HB.out.size (fun j hj => by have := (ho.1.lt j hj).1; omega)).grown hgr2 (by have := hga.size; have := HB.out.size; omega) (fun j hj => by cases hj; omega))
      clear hg2 hgr2 hrun2 hga hgrow1 hloc1 hown1 hHeld hoi
      go_wp2
      go_roundw
      case rel => exact ⟨k + 1, _, by omega, by go_num, HO2, HG2, by rw [← grM_step hf]; exact HD2, HB2⟩
      case measure => simp [intOf]; omega
    · obtain rfl : k = nE := by omega
      have hgm := ownsGroups_map HG.out
      have hgs := hgm.size_le
      have HS := Lib.hid (sorted_call B2 k G _ wr hgm (by unfold maxLen; omega) (by omega))
      have HE : ∃ es, G = .map es ∧ es.Pairwise (fun p q => p.1 ≠ q.1) ∧ ∀ p ∈ es, ∃ x, p.1 = .int .i64 x := by
        obtain ⟨es, hD, hpw, _⟩ := hgm.entries lawI
        obtain ⟨es', hD', hko⟩ := hgm.keysOf
        obtain rfl : es = es' := by rw [hD] at hD'; simpa using hD'
        exact ⟨es, hD, hpw, fun p hp => by obtain ⟨v, hv⟩ := hko p hp; obtain ⟨x, _, hx, _⟩ := Maps.keyOf_i64 Try.underlying3 hv; exact ⟨x, hx⟩⟩
      have HKS := Lib.hid (fun (ss : List Int) => keys_ks (ss := ss) (fun x v => fM_range (x := x) (v := v) k) HD.out HE)
      clear hgm HE
      go_wp2_with (first
        | (go_at_call 55; refine (keys_call _ _).mono ?_; rintro e' wk ⟨rfl, rfl⟩)
        | (go_at_call 54; refine HS.out.mono ?_; rintro e' ws ⟨vk, ss, rfl, hss, hrow, hbel⟩; have HP := Lib.hid hss; have HR2 := Lib.hid hrow; have HBs := Lib.hid hbel; clear hss hrow hbel)
        | (at_len; refine wpList_lenRow rfl _ rfl rfl HR2.out ?_))
      have hks := HKS.out ss HP.out
      have hbs : Below wr.heap.size wr ws := ((Below.refl _ wr).alloc (Nat.le_refl _) _).trans (HBs.out.mono (Nat.le_succ _))
      have HBW := Lib.hid (HB.out.trans (hbs.mono HB.out.size))
      obtain ⟨vf, hvf⟩ := all_groups HG.out (by unfold maxLen; omega) HD.out hbs
      have HVF := Lib.hid hvf
      have hlen : ss.length = (ksM (fM ds (stM ds) k) k).length := by rw [← hks]; simp
      have HK := Lib.hid (show ws.ownsRow (wr.heap.size + 1) 3 1 vk (ksM (fM ds (stM ds) k) k).length ((ksM (fM ds (stM ds) k) k).map encZ) by rw [← hks]; have h := HR2.out; rw [hlen, hks] at h; rw [hks]; exact h)
      have hkl := ksM_len (fM ds (stM ds) k) k
      have hwrs := HB.out.size
      have hwss := hbs.size
      have hB2r := (ownsGroups_map HG.out).lt
      have hb2s : B2 < ws.heap.size := by omega
      clear HR2 HS HKS HP hks hvf hbs
      obtain ⟨ks, hkse⟩ : ∃ ks, ksM (fM ds (stM ds) k) k = ks := ⟨_, rfl⟩
      have HRG := Lib.hid (fun f (h : f ∈ ks) => ksM_range (F := fM ds (stM ds) k) (n := k) (f := f) (by rw [hkse]; exact h))
      rw [hkse] at HK hkl hlen
      obtain ⟨i1, hj, hy0, hy1, hy2⟩ := info_parts infoSl
      rw [hlen]
      go_loopw [11, 47] (fun cv iv wi => ∃ (cw : Value) (i : Nat), cw = cv ∧ i ≤ ks.length ∧ iv = .int .i64 i ∧ Hid (wi.ownsRow (B2 + 1) 68 1 cw i ((ks.take i).map vf)) ∧ Hid (wi.heap[B2]? = ws.heap[B2]?) ∧ Hid (∀ base v n xs, ws.ownsRow base 3 1 v n xs → wi.ownsRow base 3 1 v n xs) ∧ Hid (Below w.heap.size w wi)) (fun _ iv _ => ks.length - (intOf iv).toNat)
      case atStart => exact ⟨_, 0, rfl, Nat.zero_le _, rfl, Lib.hid (World.ownsRow_nil _ _ _ _), Lib.hid rfl, Lib.hid (fun _ _ _ _ h => h), HBW⟩
      case round =>
        obtain ⟨cw, i, rfl, hi2, rfl, HC, HB2, HK3, HBi⟩ := hrel
        by_cases hlt2 : i < ks.length
        · obtain ⟨f, hfe⟩ : ∃ f, ks[i] = f := ⟨_, rfl⟩
          have hfm : f ∈ ks := hfe ▸ List.getElem_mem hlt2
          have hfr := HRG.out f hfm
          have hv := HVF.out f (by omega)
          have hlk := hv.1 wr HB2.out
          obtain ⟨sa, sm, sc, hvs⟩ := ints_slice hv.2
          rw [hvs] at hlk
          have hvk := HK3.out _ _ _ _ HK.out
          have hb2i : B2 < wr.heap.size := (Array.getElem?_eq_some_iff.1 (HB2.out.trans (Array.getElem?_eq_getElem hb2s))).1
          have hN : some B2 ≠ cw.ownBlock := fun e => by have := (HC.out.lt B2 e.symm).1; omega
          have htk : (ks.take (i + 1)).map vf = (ks.take i).map vf ++ [.slice sa sm sc] := by rw [List.take_add_one, List.getElem?_eq_getElem hlt2, hfe]; simp [hvs]
          obtain ⟨g, cap2, rfl⟩ : ∃ g cap2, vk = .slice (some ⟨g, 0, none⟩) ks.length cap2 := by
            rcases hvk.2 with ⟨_, h0⟩ | ⟨g, cap2, cur, e, _⟩
            · omega
            · exact ⟨g, cap2, e⟩
          have hcell : wr.cell? ⟨g, i, none⟩ = some (.int .i64 f) := by
            have := hvk.cells (g := g) rfl i (.int .i64 f) (by simp [hlt2, hfe, encZ])
            rw [show ((⟨g, 0, none⟩ : Addr).add i) = ⟨g, i, none⟩ by cases i <;> simp [Addr.add]] at this
            exact this
          have HT := Lib.hid htk
          clear hv hvk htk hkse hvs
          go_wp2_with (first
            | (at_lookup; refine wpList_look rfl _ _ _ rfl rfl rfl hlk ?_)
            | (at_builtin; refine wpList_append_own _ rfl _ _ 61 rfl (B2 + 1) 68 i1 _ 1 24 Try.underlying61 hj hy0 hy1 hy2 rfl (by decide) _ _ _ rfl (HC.out.alloc _) ⟨wr.heap.size, 0, none⟩ 1 1 [.slice sa sm sc] rfl rfl (cell_one_new _ _ _) (by simp [Value.oneCell']) (by unfold maxLen; omega) (by omega) (by simp; omega) ?_; intro v3 w3 hown3 hgrow3 _))
          have C3 := Lib.hid hown3
          have hgr : (wr.alloc (.cells #[.slice sa sm sc] 68)).grownBy w3 cw.ownBlock := hgrow3
          have hsz3 := hgrow3.size
          have B3 := Lib.hid ((hgr.block B2 (by simp; omega) hN).trans ((Below.heap_alloc _ _ B2 hb2i).trans HB2.out))
          have K3 := Lib.hid (fun (base : Nat) (v : Value) (n : Nat) (xs : List Value) (h : ws.ownsRow base 3 1 v n xs) => ((HK3.out base v n xs h).alloc (.cells #[.slice sa sm sc] 68)).kept hgr (row_row2 ((HK3.out base v n xs h).alloc (.cells #[.slice sa sm sc] 68)) (HC.out.alloc (.cells #[.slice sa sm sc] 68)) (by decide)))
          have E3 := Lib.hid ((HBi.out.alloc (by have := HBi.out.size; omega) (.cells #[.slice sa sm sc] 68)).grown hgr (by have := HBi.out.size; simp; omega) (fun j hj => by have := (HC.out.lt j hj).1; omega))
          clear hown3 hgrow3 hgr
          go_wp2
          go_roundw
          case rel => exact ⟨_, i + 1, rfl, by omega, by go_num, by rw [HT.out]; exact C3, B3, K3, E3⟩
          case measure => simp [intOf]; omega
        · obtain rfl : i = ks.length := by omega
          go_wp2
          go_ret2
          rw [hkse]
          refine ⟨_, vf, rfl, ?_, ?_, HBi.out⟩
          · have := HC.out
            rw [List.take_length] at this
            exact ownsRow_base_a this (by omega)
          · intro f hf
            have h1 := HRG.out f hf
            have h2 := (HVF.out f (by omega)).2
            exact ⟨ownsRow_base_a (HK3.out _ _ _ _ h2.1) (by omega), h2.2⟩
end Go.Proofs.Ytfneafofohfdnaa
