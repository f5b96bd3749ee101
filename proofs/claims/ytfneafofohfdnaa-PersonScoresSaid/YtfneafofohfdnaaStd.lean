/-
  The iterator over the standing decisions of a kind: its contract for every body of a loop that leaves the book and the captured variables as they are.
-/
import Derived.Test.YtfneafofohfdnaaBk
import Derived.Test.YtfneafofohfdnaaMark
import Derived.Shelf.Abstract
import Derived.Shelf.RegionOpen
import Derived.OwnWalkIn
import Derived.TacticsInMore
import Derived.LoopNIn
import Derived.LoopIn
namespace Go.Proofs.Ytfneafofohfdnaa
open Go.RowKit Go.Shelf
attribute [local go_sem] set_drewN Oper.semAt_some
theorem standing_any (bk : Nat) (kd : Int) (w : World) : Calls Try.prog 79 #[.pointer (some ⟨bk, 0, none⟩), .int .i64 kd] w
    fun e w' => e = .returned (.func (.func 88) #[] #[.pointer (some ⟨w.heap.size, 0, none⟩), .pointer (some ⟨w.heap.size + 1, 0, none⟩)]) ∧ w' = (w.alloc (.cells #[.pointer (some ⟨bk, 0, none⟩)] 89)).alloc (.cells #[.int .i64 kd] 3) := by
  go_enter Try.func79, Try.ntmps79
  go_wp2
  go_ret
  exact ⟨by simp, rfl⟩
/-- what a round must keep: all below n₀, and the two captured variables -/
def KpS (n₀ B1 B2 : Nat) (W W' : World) : Prop := Below n₀ W W' ∧ W'.heap[B1]? = W.heap[B1]? ∧ W'.heap[B2]? = W.heap[B2]?
theorem KpS.trans {n₀ B1 B2 : Nat} {A B C : World} (h : KpS n₀ B1 B2 A B) (k : KpS n₀ B1 B2 B C) : KpS n₀ B1 B2 A C := ⟨h.1.trans k.1, k.2.1.trans h.2.1, k.2.2.trans h.2.2⟩
theorem KpS.put {n₀ B1 B2 : Nat} {w : World} (hn : n₀ ≤ w.heap.size) (h1 : B1 < w.heap.size) (h2 : B2 < w.heap.size) (W : World) (l : Nat) (o o' : Obj) (hl : w.heap.size ≤ l) (h : W.heap[l]? = some o) (hc : o.isCells = false) (hw : o.isWalk = false) : KpS n₀ B1 B2 W (W.putObj l o') :=
  ⟨belowK_b hn W l o o' hl h hc hw, World.putObj_heap_other (by omega), World.putObj_heap_other (by omega)⟩
theorem sd_at {ds : List Dc} {st : List Bool} {kd : Int} {j : Nat} (hj : j < ds.length) (hs : j < st.length) : sdB ds st kd j = (st[j] && decide (ds[j].k = kd)) := by
  unfold sdB
  rw [List.getElem?_eq_getElem hj]
  simp only
  rw [List.getD_eq_getElem?_getD, List.getElem?_eq_getElem hs]
  rfl
/-- the number of a standing decision of a kind -/
abbrev SdI (ds : List Dc) (st : List Bool) (kd : Int) := { j : Nat // j < ds.length ∧ sdB ds st kd j = true }
def sdA (ds : List Dc) (st : List Bool) (kd : Int) : Nat → List (SdI ds st kd)
  | 0 => []
  | j + 1 => if h : j < ds.length ∧ sdB ds st kd j = true then sdA ds st kd j ++ [⟨j, h⟩] else sdA ds st kd j
theorem sdA_yes {ds : List Dc} {st : List Bool} {kd : Int} {j : Nat} (h : j < ds.length ∧ sdB ds st kd j = true) : sdA ds st kd (j + 1) = sdA ds st kd j ++ [⟨j, h⟩] := by rw [sdA, dif_pos h]
theorem sdA_no {ds : List Dc} {st : List Bool} {kd : Int} {j : Nat} (h : sdB ds st kd j = false) : sdA ds st kd (j + 1) = sdA ds st kd j := by rw [sdA, dif_neg (fun c => by rw [h] at c; exact absurd c.2 (by simp))]
theorem sdA_len (ds : List Dc) (st : List Bool) (kd : Int) : ∀ j, (sdA ds st kd j).length ≤ j
  | 0 => Nat.le_refl _
  | j + 1 => by have := sdA_len ds st kd j; unfold sdA; split <;> simp <;> omega
theorem sdA_sdK (ds : List Dc) (st : List Bool) (kd : Int) : ∀ j, j ≤ ds.length → (sdA ds st kd j).map (fun x => (x.1 : Int)) = sdK ds st kd j
  | 0, _ => rfl
  | j + 1, h => by
    have ih := sdA_sdK ds st kd j (by omega)
    cases hb : sdB ds st kd j
    · rw [sdA_no hb, sdK_no hb, ih]
    · rw [sdA_yes ⟨by omega, hb⟩, sdK_yes hb, List.map_append, ih]; rfl
set_option maxRecDepth 100000 in
set_option maxHeartbeats 4000000 in
theorem std_in (n : Nat) (hn : 1 ≤ n) (l B1 B2 n₀ bk : Nat) (kd nE : Int) (ds : List Dc) (st : List Bool) (hst : st.length = ds.length) (hln : ds.length ≤ 1000) (J Jx : List (SdI ds st kd) → World → Prop) (W : World)
    (hY : ∀ pre x W1, J pre W1 → pre.length < ds.length → YieldAt Fence.wide (n - 1) Try.prog l #[.int .i64 (x.1 : Int)] W1 fun e W' => (e = .returned (.bool true) ∧ J (pre ++ [x]) W' ∧ KpS n₀ B1 B2 W1 W') ∨ (e = .returned (.bool false) ∧ Jx (pre ++ [x]) W'))
    (hJ : AbidesFrom W.heap.size J) (hn0 : n₀ ≤ W.heap.size) (hl1 : B1 < W.heap.size) (hl2 : B2 < W.heap.size)
    (hb1 : W.cell? ⟨B1, 0, none⟩ = some (.pointer (some ⟨bk, 0, none⟩))) (hb2 : W.cell? ⟨B2, 0, none⟩ = some (.int .i64 kd)) (hbk : BkAt n₀ W bk nE ds st) (h0 : J [] W) :
    CallsIn Fence.wide n Try.prog 88 #[.func (.yield l) #[] #[], .pointer (some ⟨B1, 0, none⟩), .pointer (some ⟨B2, 0, none⟩)] W fun e W' => (∃ v, e = .returned v) ∧ ((∃ xs, xs = sdA ds st kd ds.length ∧ J xs W') ∨ (∃ pre : List (SdI ds st kd), True ∧ Jx pre W')) := by
  have hJ0 := Lib.hid h0
  have HJ := Lib.hid hJ
  have HBK := Lib.hid hbk
  obtain ⟨hbl, c0, ⟨a1, cap1, c1, s1⟩, ⟨a2, cap2, c2, s2⟩⟩ := hbk
  have HS1 := Lib.hid s1
  have HS2 := Lib.hid s2
  clear h0 hJ s1 s2
  refine callsIn_of_wp Try.func88 rfl trivial ?_ rfl
  simp only [Try.ntmps88, List.size_toArray, List.length_cons, List.length_nil, Nat.reduceAdd, Nat.reduceSub, Array.replicate_succ, Array.replicate_zero, List.push_toArray, List.append_toArray, List.nil_append, List.cons_append]
  gi_wp2
  gi_loopw [11] (fun iv wr => ∃ k : Nat, k ≤ ds.length ∧ iv = .int .i64 k ∧ Hid (J (sdA ds st kd k) wr) ∧ KpS n₀ B1 B2 W wr ∧ W.heap.size ≤ wr.heap.size) (fun iv _ => ds.length - (intOf iv).toNat)
  case atStart => exact ⟨0, Nat.zero_le _, rfl, hJ0, ⟨Below.refl _ _, rfl, rfl⟩, Nat.le_refl _⟩
  case round =>
    obtain ⟨k, hk, rfl, hJs, hK, hsz⟩ := hrel
    have HK := Lib.hid hK
    have B := hK.1
    by_cases hlt : k < ds.length
    · have hne : ds ≠ [] := fun e => by rw [e] at hlt; simp at hlt
      have hne2 : st ≠ [] := fun e => by rw [e] at hst; simp at hst; omega
      obtain ⟨g1, rfl, hg1, D1⟩ := HS1.out hne
      obtain ⟨g2, rfl, hg2, D2⟩ := HS2.out hne2
      have q1 := (World.cell?_of_block (a := ⟨B1, 0, none⟩) hK.2.1).trans hb1
      have q2 := (World.cell?_of_block (a := ⟨B2, 0, none⟩) hK.2.2).trans hb2
      have r0 := (B.cell (p := ⟨bk, 2, none⟩) hbl).trans c2
      obtain ⟨e0, e1, e2⟩ := D1 k hlt
      have d0 := (B.cell (p := ⟨g1, k * 3, none⟩) hg1).trans e0
      have d1 := (B.cell (p := ⟨g1, k * 3 + 1, none⟩) hg1).trans e1
      have d2 := (B.cell (p := ⟨g1, k * 3 + 2, none⟩) hg1).trans e2
      have dst := (B.cell (p := ⟨g2, k, none⟩) hg2).trans (D2 k (by omega))
      have hsd := sd_at (kd := kd) hlt (show k < st.length by omega)
      have hlen := sdA_len ds st kd k
      clear D1 D2 e0 e1 e2 hK
      obtain ⟨d, hd⟩ : ∃ d, ds[k] = d := ⟨_, rfl⟩
      obtain ⟨sb, hsb⟩ : ∃ sb, st[k]'(by omega) = sb := ⟨_, rfl⟩
      rw [hd] at d0 d1 d2 hsd
      rw [hsb] at dst hsd
      clear hd hsb
      obtain ⟨dk, da, db⟩ := d
      simp only at d0 d1 d2 hsd
      have hk2 : k < st.length := by omega
      have hlen2 : ¬ (st.length : Int) ≤ k := by omega
      have HST := Lib.hid hst
      clear hst hne hne2
      have hal := Lib.hid (HJ.out _ _ _ none hJs.out (World.grownBy_alloc wr (.cells #[.int .i64 dk, .int .i64 da, .int .i64 db] 65) none) (fun r e => by cases e))
      have hK2 := Lib.hid (show KpS n₀ B1 B2 W (wr.alloc (.cells #[.int .i64 dk, .int .i64 da, .int .i64 db] 65)) from HK.out.trans ⟨(Below.refl _ _).alloc (by omega) _, Below.heap_alloc _ _ _ (by omega), Below.heap_alloc _ _ _ (by omega)⟩)
      have q1 := Lib.cell?_alloc_some (.cells #[.int .i64 dk, .int .i64 da, .int .i64 db] 65) q1
      have q2 := Lib.cell?_alloc_some (.cells #[.int .i64 dk, .int .i64 da, .int .i64 db] 65) q2
      have r0 := Lib.cell?_alloc_some (.cells #[.int .i64 dk, .int .i64 da, .int .i64 db] 65) r0
      have dst := Lib.cell?_alloc_some (.cells #[.int .i64 dk, .int .i64 da, .int .i64 db] 65) dst
      cases sb
      · have HN := Lib.hid (sdA_no (st := st) (kd := kd) (j := k) (ds := ds) (by rw [hsd]; rfl))
        clear hsd
        gi_wp2
        refine ⟨fun _ h => (by cases h), ?_⟩
        gi_wp2
        go_roundw
        case rel => exact ⟨k + 1, by omega, by go_num, by rw [HN.out]; exact hal, hK2.out, by simp; omega⟩
        case measure => simp [intOf]; omega
      · by_cases hkd : dk = kd
        · subst hkd
          have hyes := Lib.hid (show k < ds.length ∧ sdB ds st dk k = true from ⟨hlt, by rw [hsd]; simp⟩)
          have HN := Lib.hid (sdA_yes hyes.out)
          obtain ⟨fn, tmps, assign, body, hy, hR⟩ := hY (sdA ds st dk k) ⟨k, hyes.out⟩ _ hal.out (by omega)
          clear hsd
          simp only at hy
          gi_wp2
          refine hR.mono ?_
          rintro e W3 (⟨rfl, hJ3, hK3⟩ | ⟨rfl, hJx3⟩)
          · have J3 := Lib.hid hJ3
            have K3 := Lib.hid (hK2.out.trans hK3)
            have z3 := hK3.1.size
            simp at z3
            clear hy hR hJ3 hK3
            gi_wp2
            go_roundw
            case rel => exact ⟨k + 1, by omega, by go_num, by rw [HN.out]; exact J3, K3.out, by omega⟩
            case measure => simp [intOf]; omega
          · clear hy hR
            gi_wp2
            refine bodyPost_ret (results_none rfl _ _ _) rfl ?_
            exact ⟨⟨_, rfl⟩, .inr ⟨_, trivial, hJx3⟩⟩
        · have HN := Lib.hid (sdA_no (st := st) (kd := kd) (j := k) (ds := ds) (by rw [hsd]; simp [hkd]))
          clear hsd
          have hbe : (dk == kd) = false := by simpa using hkd
          gi_wp2
          refine ⟨fun _ h => (by cases h), ?_⟩
          gi_wp2
          go_roundw
          case rel => exact ⟨k + 1, by omega, by go_num, by rw [HN.out]; exact hal, hK2.out, by simp; omega⟩
          case measure => simp [intOf]; omega
    · obtain rfl : k = ds.length := by omega
      gi_wp2
      go_end0
      exact ⟨⟨_, rfl⟩, .inl ⟨_, rfl, hJs.out⟩⟩
theorem std_stops (n : Nat) (hn : 1 ≤ n) (B1 B2 n₀ bk : Nat) (kd nE : Int) (ds : List Dc) (st : List Bool) (hst : st.length = ds.length) (hln : ds.length ≤ 1000) (w : World) (hn0 : n₀ ≤ w.heap.size) (hl1 : B1 < w.heap.size) (hl2 : B2 < w.heap.size)
    (hb1 : w.cell? ⟨B1, 0, none⟩ = some (.pointer (some ⟨bk, 0, none⟩))) (hb2 : w.cell? ⟨B2, 0, none⟩ = some (.int .i64 kd)) (hbk : BkAt n₀ w bk nE ds st) :
    SeqStopsK Fence.wide n Try.prog 88 #[.pointer (some ⟨B1, 0, none⟩), .pointer (some ⟨B2, 0, none⟩)] (fun x : SdI ds st kd => #[.int .i64 (x.1 : Int)]) (KpS n₀ B1 B2) (fun xs => xs = sdA ds st kd ds.length) (fun _ => True) ds.length w :=
  fun l J Jx W hW hJ _ hY h0 => std_in n hn l B1 B2 n₀ bk kd nE ds st hst hln J Jx W hY hJ (Nat.le_trans hn0 hW.size) (Nat.lt_of_lt_of_le hl1 hW.size) (Nat.lt_of_lt_of_le hl2 hW.size) ((hW.cell (p := ⟨B1, 0, none⟩) hl1).trans hb1) ((hW.cell (p := ⟨B2, 0, none⟩) hl2).trans hb2) (hbk.below (hW.mono hn0)) h0
end Go.Proofs.Ytfneafofohfdnaa
