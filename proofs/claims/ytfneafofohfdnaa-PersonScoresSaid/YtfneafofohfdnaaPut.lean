/-
  What put of package person does with a book of the call's own: a contract for decisions that are no withdrawals.
-/
import Derived.Test.YtfneafofohfdnaaWays
import Derived.Test.YtfneafofohfdnaaApp
import Derived.StillTailTactics
import Derived.Deep.RegionHeld3
import Derived.Deep.RegionLaw
namespace Go.Proofs.Ytfneafofohfdnaa
open Go.RowKit
attribute [local go_sem] set_drewN
theorem infoDc : (Try.prog.info? 65).map (fun i => (i.zero, i.size, i.bytes)) = some (some (.agg #[.int .i64 0, .int .i64 0, .int .i64 0]), 3, 24) := by kernel_rfl
theorem infoBo : (Try.prog.info? 4).map (fun i => (i.zero, i.size, i.bytes)) = some (some (.bool false), 1, 1) := by kernel_rfl
def dcC (ds : List Dc) : List Value := ds.flatMap fun d => [.int .i64 d.k, .int .i64 d.a, .int .i64 d.b]
theorem dcC_snoc (ds : List Dc) (d : Dc) : dcC (ds ++ [d]) = dcC ds ++ [.int .i64 d.k, .int .i64 d.a, .int .i64 d.b] := by simp [dcC]
theorem dcC_len (ds : List Dc) : (dcC ds).length = ds.length * 3 := by
  induction ds with
  | nil => rfl
  | cons d ds ih => show (_ :: _ :: _ :: dcC ds).length = _; simp only [List.length_cons, ih]; omega
/-- a book of the call's own -/
structure BkO (w0 : World) (bk : Nat) (n : Int) (ds : List Dc) (st : List Bool) (v1 v2 : Value) (W : World) : Prop where
  h : W.heap[bk]? = some (.cells #[.int .i64 n, v1, v2] 112 (0, 0))
  r1 : W.ownsRow w0.heap.size 65 3 v1 ds.length (dcC ds)
  r2 : W.ownsRow w0.heap.size 4 1 v2 st.length (st.map Value.bool)
  b : Below w0.heap.size w0 W
theorem BkO.cells {w0 : World} {bk : Nat} {n : Int} {ds : List Dc} {st : List Bool} {v1 v2 : Value} {W : World} (h : BkO w0 bk n ds st v1 v2 W) :
    W.cell? ⟨bk, 0, none⟩ = some (.int .i64 n) ∧ W.cell? ⟨bk, 1, none⟩ = some v1 ∧ W.cell? ⟨bk, 2, none⟩ = some v2 ∧ W.frozen? ⟨bk, 1, none⟩ = false ∧ W.frozen? ⟨bk, 2, none⟩ = false := by
  have := h.h
  refine ⟨?_, ?_, ?_, ?_, ?_⟩ <;> simp [World.cell?, World.frozen?, this]
theorem BkO.up {w0 : World} {bk : Nat} {n : Int} {ds : List Dc} {st : List Bool} {v1 v2 : Value} {W W' : World} (h : BkO w0 bk n ds st v1 v2 W) (hb : Below W.heap.size W W') : BkO w0 bk n ds st v1 v2 W' :=
  ⟨(hb.block bk (Array.getElem?_eq_some_iff.1 h.h).1).trans h.h, own_up h.r1 hb, own_up h.r2 hb, h.b.trans (hb.mono h.b.size)⟩
theorem own_ne {W : World} {base k size b : Nat} {e t : TypeId} {v : Value} {xs : List Value} {cs : Array Value} (h : W.ownsRow base e size v k xs) (hb : W.heap[b]? = some (.cells cs t (0, 0))) (hte : t ≠ e) : some b ≠ v.ownBlock := by
  rcases h.2 with ⟨rfl, _⟩ | ⟨g, cap, cur, rfl, _, hgb, _⟩
  · simp [Value.ownBlock]
  · intro e1
    have e1 : b = g := by simpa [Value.ownBlock] using e1
    subst e1
    rw [hb] at hgb
    simp at hgb
    exact hte hgb.2
theorem row_row {W : World} {base k size k' size' : Nat} {e e' : TypeId} {v v' : Value} {xs xs' : List Value} (h : W.ownsRow base e size v k xs) (h' : W.ownsRow base e' size' v' k' xs') (he : e ≠ e') : v.ownBlock = none ∨ v.ownBlock ≠ v'.ownBlock := by
  rcases h.2 with ⟨rfl, _⟩ | ⟨g, cap, cur, rfl, _, hgb, _⟩
  · exact .inl rfl
  · refine .inr fun e1 => ?_
    rcases h'.2 with ⟨rfl, _⟩ | ⟨g', cap', cur', rfl, _, hgb', _⟩
    · cases e1
    · have e1 : g = g' := by simpa [Value.ownBlock] using e1
      subst e1
      rw [hgb] at hgb'
      simp at hgb'
      exact he hgb'.2
theorem grown_set (W : World) (b o : Nat) (v : Value) : W.grownBy (W.setCell ⟨b, o, none⟩ v) (some b) :=
  ⟨rfl, rfl, rfl, (KeepsWalks.setCell W _ v).size, fun k _ hk => Below.heap_setCell _ _ _ k (fun e => hk (by rw [e]))⟩
theorem grown_drew {W W' : World} {row : Option Nat} (h : W.drew.grownBy W' row) : W.grownBy W' row := by
  obtain ⟨a, b, c, d, e⟩ := h
  exact ⟨a, b, c, d, e⟩
theorem set_book {W : World} {bk : Nat} {n v1 v2 : Value} (h : W.heap[bk]? = some (.cells #[n, v1, v2] 112 (0, 0))) (v : Value) :
    (W.setCell ⟨bk, 1, none⟩ v).heap[bk]? = some (.cells #[n, v, v2] 112 (0, 0)) ∧ (W.setCell ⟨bk, 2, none⟩ v).heap[bk]? = some (.cells #[n, v1, v] 112 (0, 0)) := by
  obtain ⟨hlt, hk⟩ := Array.getElem?_eq_some_iff.1 h
  constructor
  all_goals
    show (W.heap.modify bk _)[bk]? = _
    rw [Array.getElem?_eq_getElem (by rw [Array.size_modify]; exact hlt), Array.getElem_modify_self, hk]
    rfl
theorem BkO.set1 {w0 : World} {bk : Nat} {n : Int} {ds : List Dc} {st : List Bool} {v1 v2 v3 : Value} {W w3 : World} {d : Dc} {o : Obj} (h : BkO w0 bk n ds st v1 v2 W) (hbk : w0.heap.size ≤ bk)
    (hown : w3.ownsRow w0.heap.size 65 3 v3 (ds.length + 1) (dcC ds ++ [.int .i64 d.k, .int .i64 d.a, .int .i64 d.b])) (hg : (W.alloc o).grownBy w3 v1.ownBlock) :
    BkO w0 bk n (ds ++ [d]) st v3 v2 (w3.setCell ⟨bk, 1, none⟩ v3) ∧ Below w0.heap.size W (w3.setCell ⟨bk, 1, none⟩ v3) := by
  have hlt := (Array.getElem?_eq_some_iff.1 h.h).1
  have hb := h.b.size
  have h3 : w3.heap[bk]? = some (.cells #[.int .i64 n, v1, v2] 112 (0, 0)) := (hg.block bk (by simp; omega) (own_ne h.r1 h.h (by decide))).trans ((Below.heap_alloc _ _ bk hlt).trans h.h)
  have r2 := (h.r2.alloc o).kept hg (row_row (h.r2) (h.r1) (by decide))
  have B3 : Below w0.heap.size W w3 := ((Below.refl _ W).alloc hb o).grown hg (by simp; omega) (fun k e => (h.r1.lt k e).1)
  refine ⟨⟨(set_book h3 v3).1, ?_, r2.kept (grown_set w3 bk 1 v3) (.inr (fun e => own_ne r2 h3 (by decide) e.symm)), h.b.trans (B3.setCell (p := ⟨bk, 1, none⟩) hbk _)⟩, B3.setCell (p := ⟨bk, 1, none⟩) hbk _⟩
  have := hown.kept (grown_set w3 bk 1 v3) (.inr (fun e => own_ne hown h3 (by decide) e.symm))
  rw [dcC_snoc, List.length_append]
  exact this
theorem BkO.set2 {w0 : World} {bk : Nat} {n : Int} {ds : List Dc} {st : List Bool} {v1 v2 v3 : Value} {W w3 : World} {x : Bool} {o : Obj} (h : BkO w0 bk n ds st v1 v2 W) (hbk : w0.heap.size ≤ bk)
    (hown : w3.ownsRow w0.heap.size 4 1 v3 (st.length + 1) (st.map Value.bool ++ [.bool x])) (hg : (W.alloc o).grownBy w3 v2.ownBlock) :
    BkO w0 bk n ds (st ++ [x]) v1 v3 (w3.setCell ⟨bk, 2, none⟩ v3) ∧ Below w0.heap.size W (w3.setCell ⟨bk, 2, none⟩ v3) := by
  have hlt := (Array.getElem?_eq_some_iff.1 h.h).1
  have hb := h.b.size
  have h3 : w3.heap[bk]? = some (.cells #[.int .i64 n, v1, v2] 112 (0, 0)) := (hg.block bk (by simp; omega) (own_ne h.r2 h.h (by decide))).trans ((Below.heap_alloc _ _ bk hlt).trans h.h)
  have r1 := (h.r1.alloc o).kept hg (row_row (h.r1) (h.r2) (by decide))
  have B3 : Below w0.heap.size W w3 := ((Below.refl _ W).alloc hb o).grown hg (by simp; omega) (fun k e => (h.r2.lt k e).1)
  refine ⟨⟨(set_book h3 v3).2, r1.kept (grown_set w3 bk 2 v3) (.inr (fun e => own_ne r1 h3 (by decide) e.symm)), ?_, h.b.trans (B3.setCell (p := ⟨bk, 2, none⟩) hbk _)⟩, B3.setCell (p := ⟨bk, 2, none⟩) hbk _⟩
  have := hown.kept (grown_set w3 bk 2 v3) (.inr (fun e => own_ne hown h3 (by decide) e.symm))
  rw [List.map_append, List.length_append]
  exact this
set_option maxRecDepth 100000 in
set_option maxHeartbeats 8000000 in
theorem put_nw (w0 W : World) (bk : Nat) (n : Int) (ds : List Dc) (st : List Bool) (v1 v2 : Value) (d : Dc) (hk : d.k ≠ 2) (hO : BkO w0 bk n ds st v1 v2 W) (hbk : w0.heap.size ≤ bk) (hl : ds.length ≤ 1000) (hs : st.length ≤ 1000) :
    Calls Try.prog 67 #[.pointer (some ⟨bk, 0, none⟩), dcV d] W fun e W' => e = .returned (.tuple #[]) ∧ ∃ v1' v2', BkO w0 bk n (ds ++ [d]) (st ++ [true]) v1' v2' W' := by
  obtain ⟨i0, hi, hz0, hz1, hz2⟩ := info_parts infoDc
  obtain ⟨j0, hj, hy0, hy1, hy2⟩ := info_parts infoBo
  obtain ⟨k, a, b⟩ := d
  have hO1 := Lib.hid (hO.up ((Below.refl _ W).alloc (Nat.le_refl _) (.cells #[.int .i64 k, .int .i64 a, .int .i64 b] 65)))
  have hkb : (k != 2) = true := by simpa using hk
  have hkb2 : (k == 2) = false := by simpa using hk
  have hsz := hO.b.size
  have hlt := (Array.getElem?_eq_some_iff.1 hO.h).1
  have HV1 := Lib.hid (fun g (e : v1.ownBlock = some g) => (hO.r1.lt g e).2)
  have HV2 := Lib.hid (fun g (e : v2.ownBlock = some g) => (hO.r2.lt g e).2)
  clear hO hk
  go_enter Try.func67, Try.ntmps67
  go_wp2_with fail
  obtain ⟨W1, hW1⟩ : ∃ W1, W.alloc (.cells #[.int .i64 k, .int .i64 a, .int .i64 b] 65) = W1 := ⟨_, rfl⟩
  have q0 : W1.cell? ⟨W.heap.size, 0, none⟩ = some (.int .i64 k) := by rw [← hW1]; simp [go_sem]
  have q1 : W1.cell? ⟨W.heap.size, 1, none⟩ = some (.int .i64 a) := by rw [← hW1]; simp [go_sem]
  have q2 : W1.cell? ⟨W.heap.size, 2, none⟩ = some (.int .i64 b) := by rw [← hW1]; simp [go_sem]
  have s1 := Lib.hid (show W1.heap.size = W.heap.size + 1 by rw [← hW1]; simp)
  rw [hW1] at hO1 ⊢
  clear hW1
  obtain ⟨c0, c1, c2, f1, f2⟩ := hO1.out.cells
  have cA := Lib.cell?_alloc_some (.cells #[.int .i64 k, .int .i64 a, .int .i64 b] 65) c1
  have qA := Lib.cell?_alloc_some (.cells #[.int .i64 k, .int .i64 a, .int .i64 b] 65) q0
  have qB := Lib.cell?_alloc_some (.cells #[.int .i64 k, .int .i64 a, .int .i64 b] 65) q1
  have qC := Lib.cell?_alloc_some (.cells #[.int .i64 k, .int .i64 a, .int .i64 b] 65) q2
  go_region_law
    (first
      | (refine step_app rfl (.tmp 8) (.tmp 10) _ rfl w0.heap.size (v := v1) (n := ds.length) (m := 1) (xs := dcC ds) (news := [.int .i64 k, .int .i64 a, .int .i64 b]) Try.underlying66 hi hz0 hz1 hz2 rfl (by decide) rfl rfl ?_ ?_ ?_ ?_ ?_ ?_ ?_ ?_ ?_
         · exact hO1.out.r1.alloc _
         · rfl
         · intro ad hs
           obtain rfl := Option.some.inj hs
           exact World.news_of_block (cs := #[.int .i64 k, .int .i64 a, .int .i64 b]) (show (W1.alloc (.cells #[.int .i64 k, .int .i64 a, .int .i64 b] 65)).heap[W1.heap.size]? = _ from heap_alloc_new W1 _)
         · intro c; cases c
         · simp [Value.oneCell']
         · unfold maxLen; omega
         · omega
         · have := s1.out; simp; omega
         intro v3 w3 hown3 hgrow3
         obtain ⟨g3, cap3, rfl⟩ := ownsRow_succ hown3
         have hv := own_ne (hO1.out.r1) hO1.out.h (by decide)
         have h3 : w3.heap[bk]? = some (.cells #[.int .i64 n, v1, v2] 112 (0, 0)) := (hgrow3.block bk (by have := s1.out; simp; omega) hv).trans ((Below.heap_alloc _ _ bk (by have := s1.out; omega)).trans hO1.out.h)
         have j1 : w3.cell? ⟨bk, 1, none⟩ = some v1 := by simp [World.cell?, h3]
         have jf : w3.frozen? ⟨bk, 1, none⟩ = false := by simp [World.frozen?, h3]
         have jb : ∀ (i : Nat) (u : Value), W1.cell? ⟨W.heap.size, i, none⟩ = some u → w3.cell? ⟨W.heap.size, i, none⟩ = some u := fun i u hu =>
           (World.cell?_of_block (a := ⟨W.heap.size, i, none⟩) ((hgrow3.block W.heap.size (by have := s1.out; simp; omega) (fun e => by have := HV1.out _ e.symm; omega)).trans (Below.heap_alloc _ _ W.heap.size (by have := s1.out; omega)))).trans hu))
  all_goals
    have O3 := Lib.hid (BkO.set1 (d := ⟨k, a, b⟩) (o := .cells #[.int .i64 k, .int .i64 a, .int .i64 b] 65) hO1.out hbk hown3 (grown_drew hgrow3))
    have N3 := Lib.hid (show ∀ g, v2.ownBlock = some g → g ≠ W.heap.size from fun g e => by have := HV2.out g e; omega)
    have z3 := Lib.hid (show W.heap.size < (w3.setCell ⟨bk, 1, none⟩ (.slice (some ⟨g3, 0, none⟩) (ds.length + 1) cap3)).heap.size by have h0 := (KeepsWalks.setCell w3 ⟨bk, 1, none⟩ (.slice (some ⟨g3, 0, none⟩) (ds.length + 1) cap3)).size; have h1 := hgrow3.size; have h2 := s1.out; simp at h1; omega)
    have p0 : (w3.setCell ⟨bk, 1, none⟩ (.slice (some ⟨g3, 0, none⟩) (ds.length + 1) cap3)).cell? ⟨W.heap.size, 0, none⟩ = some (.int .i64 k) := (World.cell?_of_block (a := ⟨W.heap.size, 0, none⟩) (Below.heap_setCell _ _ _ W.heap.size (by show W.heap.size ≠ bk; omega))).trans (jb 0 _ q0)
    clear hown3 hgrow3 jb j1 jf h3 hv q0 q1 q2 qA qB qC cA c0 c1 c2 f1 f2
    generalize hW4 : w3.setCell ⟨bk, 1, none⟩ (.slice (some ⟨g3, 0, none⟩) (ds.length + 1) cap3) = W4 at *
    clear hW4
    obtain ⟨_, _, c2, _, f2⟩ := O3.out.1.cells
    go_wp2
    have cA := Lib.cell?_alloc_some (.cells #[.bool true] 4) c2
    have zb := O3.out.1.b.size
    have zl := (Array.getElem?_eq_some_iff.1 O3.out.1.h).1
    go_region_law
      (first
        | (refine step_app rfl (.tmp 18) (.tmp 22) _ rfl w0.heap.size (v := v2) (n := st.length) (m := 1) (xs := st.map Value.bool) (news := [.bool true]) Try.underlying110 hj hy0 hy1 hy2 rfl (by decide) rfl rfl ?_ ?_ ?_ ?_ ?_ ?_ ?_ ?_ ?_
           · exact O3.out.1.r2.alloc _
           · rfl
           · intro ad hs
             obtain rfl := Option.some.inj hs
             exact World.news_of_block (cs := #[.bool true]) (show (W4.alloc (.cells #[.bool true] 4)).heap[W4.heap.size]? = _ from heap_alloc_new W4 _)
           · intro c; cases c
           · simp [Value.oneCell']
           · unfold maxLen; omega
           · omega
           · simp; omega
           intro v5 w5 hown5 hgrow5
           obtain ⟨g5, cap5, rfl⟩ := ownsRow_succ hown5
           have h5 : w5.heap[bk]? = some (.cells #[.int .i64 n, .slice (some ⟨g3, 0, none⟩) (ds.length + 1) cap3, v2] 112 (0, 0)) := (hgrow5.block bk (by simp; omega) (own_ne (O3.out.1.r2) O3.out.1.h (by decide))).trans ((Below.heap_alloc _ _ bk (by omega)).trans O3.out.1.h)
           have j1 : w5.cell? ⟨bk, 2, none⟩ = some v2 := by simp [World.cell?, h5]
           have jf : w5.frozen? ⟨bk, 2, none⟩ = false := by simp [World.frozen?, h5]
           have jb : w5.cell? ⟨W.heap.size, 0, none⟩ = some (.int .i64 k) := (World.cell?_of_block (a := ⟨W.heap.size, 0, none⟩) ((hgrow5.block W.heap.size (by have := z3.out; simp; omega) (fun e => N3.out _ e.symm rfl)).trans (Below.heap_alloc _ _ W.heap.size (by have := z3.out; omega)))).trans p0))
    all_goals
      have O5 := Lib.hid (BkO.set2 (x := true) (o := .cells #[.bool true] 4) O3.out.1 hbk hown5 (grown_drew hgrow5))
      have pb : (w5.setCell ⟨bk, 2, none⟩ (.slice (some ⟨g5, 0, none⟩) (st.length + 1) cap5)).cell? ⟨W.heap.size, 0, none⟩ = some (.int .i64 k) := (World.cell?_of_block (a := ⟨W.heap.size, 0, none⟩) (Below.heap_setCell _ _ _ W.heap.size (by show W.heap.size ≠ bk; omega))).trans jb
      clear hown5 hgrow5 jb j1 jf h5 p0 c2 f2 cA
      generalize hW6 : w5.setCell ⟨bk, 2, none⟩ (.slice (some ⟨g5, 0, none⟩) (st.length + 1) cap5) = W6 at *
      clear hW6
      go_wp2
      go_end0
      exact ⟨rfl, _, _, O5.out.1⟩
end Go.Proofs.Ytfneafofohfdnaa
