/-
  What Names of package rule returns for an empty list: contracts for all worlds.
-/
import Derived.Test.YtfphedcgmaakjaaGreatDoorChgM
import Derived.Sort.KeysCollected
import Derived.Test.YtfphedcgmaakjaaGreatDoorHv
import Derived.Maps.RangeWalk
import Derived.Sort.OwnSorted
import Derived.Shelf.Slices.In.SortNone
import Derived.Test.YtfphedcgmaakjaaGreatDoorEmpty
namespace Go.Proofs.YtfphedcgmaakjaaGreatDoor
open Go.RowKit Go.WideMaps Go.Maps
abbrev bsOf (nm : ByteArray) : List UInt8 := nm.data.toList
abbrev nmOf (x : List UInt8) : ByteArray := ⟨x.toArray⟩
theorem nmOf_bsOf (nm : ByteArray) : nmOf (bsOf nm) = nm := by
  obtain ⟨a⟩ := nm
  simp [bsOf]
theorem bsOf_nmOf (x : List UInt8) : bsOf (nmOf x) = x := by simp [bsOf]
/-- the name has a value on these days -/
abbrev hasV (l : List Pv) (a0 a1 : Int) (x : List UInt8) : Bool := (hv l (nmOf x) a1 a0).2
theorem has_keyL (D : DataW Unit) (x : List UInt8) : Maps.has D (.string x) = Maps.has D (keyL (nmOf x)) := by simp [keyL]
/-- who decides bears the name -/
theorem dec_name (l : List Pv) (a0 a1 : Int) (nm : ByteArray) : ∀ (k i : Nat), dec l a0 a1 nm k = some i → ∃ h : i < l.length, l[i].name = nm
  | 0, i, h => by cases h
  | k + 1, i, h => by
    unfold dec at h
    split at h
    · exact dec_name l a0 a1 nm k i h
    · rename_i p hp
      split at h
      · rename_i hc
        cases h
        obtain ⟨hlt, e⟩ := List.getElem?_eq_some_iff.1 hp
        exact ⟨hlt, by rw [e]; exact hc.2.2.1⟩
      · exact dec_name l a0 a1 nm k i h
theorem hv_dec {l : List Pv} {nm : ByteArray} {a0 a1 : Int} (h : (hv l nm a1 a0).2 = true) : ∃ i, ∃ hi : i < l.length, dec l a0 a1 nm l.length = some i ∧ l[i].repeal = false ∧ hv l nm a1 a0 = (l[i].value, true) := by
  unfold hv at h ⊢
  split at h
  · cases h
  · rename_i i hd
    obtain ⟨hi, _⟩ := dec_name l a0 a1 nm _ i hd
    rw [List.getElem?_eq_getElem hi] at h
    simp only at h
    cases hr : l[i].repeal
    · refine ⟨i, hi, hd, hr, ?_⟩
      rw [List.getElem?_eq_getElem hi]
      simp [hr]
    · rw [hr] at h; cases h
/-- the names met so far that have a value -/
def NCol (l : List Pv) (a0 a1 : Int) (D : DataW Unit) (left : Lit → Bool) (ss : List (List UInt8)) : Prop :=
  ss.Nodup ∧ ∀ x, x ∈ ss ↔ (Maps.has D (.string x) = true ∧ left (.string x) = false ∧ hasV l a0 a1 x = true)
section
variable {l : List Pv} {a0 a1 : Int} {D : DataW Unit} {left : Lit → Bool} {ss : List (List UInt8)}
theorem NCol.start : NCol l a0 a1 D (Maps.has D) [] := ⟨List.nodup_nil, fun x => by cases Maps.has D (.string x) <;> simp⟩
theorem NCol.add (h : NCol l a0 a1 D left ss) {x : List UInt8} (hh : Maps.has D (.string x) = true) (hlk : left (.string x) = true) (hx : hasV l a0 a1 x = true) : NCol l a0 a1 D (fun z => left z && !z.sameKey (.string x)) (ss ++ [x]) := by
  have hnew : x ∉ ss := fun hm => by have := ((h.2 x).1 hm).2.1; rw [hlk] at this; cases this
  refine ⟨List.nodup_append.2 ⟨h.1, by simp, fun a ha b hb => by simp at hb; subst hb; exact fun e => hnew (e ▸ ha)⟩, fun y => ?_⟩
  by_cases hy : y = x
  · subst hy; simp only [List.mem_append, List.mem_singleton, or_true, true_iff]; exact ⟨hh, by simp [Lit.sameKey], hx⟩
  · rw [List.mem_append, h.2 y]; simp [hy, Lit.sameKey]
theorem NCol.skip (h : NCol l a0 a1 D left ss) {x : List UInt8} (hx : hasV l a0 a1 x = false) : NCol l a0 a1 D (fun z => left z && !z.sameKey (.string x)) ss := by
  refine ⟨h.1, fun y => ?_⟩
  by_cases hy : y = x
  · subst hy
    rw [h.2 y, hx]; simp
  · rw [h.2 y]; simp [hy, Lit.sameKey]
theorem NCol.done (h : NCol l a0 a1 D left ss) (hl : ∀ kl, left kl = false) (hD : DecD l a0 a1 l.length D) : ss.Nodup ∧ ∀ x, x ∈ ss ↔ hasV l a0 a1 x = true := by
  refine ⟨h.1, fun x => ?_⟩
  rw [h.2 x]
  refine ⟨fun c => c.2.2, fun c => ⟨?_, hl _, c⟩⟩
  obtain ⟨i, _, e, _⟩ := hv_dec c
  rw [has_keyL, (hD.2 (nmOf x)).1, e]; rfl
end
/-- a list without repeats -/
def dd : List (List UInt8) → List (List UInt8)
  | [] => []
  | x :: xs => if x ∈ xs then dd xs else x :: dd xs
theorem dd_mem (x : List UInt8) : ∀ l, x ∈ dd l ↔ x ∈ l
  | [] => by simp [dd]
  | y :: ys => by
    unfold dd
    split
    · rename_i h
      rw [dd_mem x ys]
      constructor
      · exact fun c => List.mem_cons_of_mem _ c
      · intro c
        rcases List.mem_cons.1 c with rfl | c
        · exact h
        · exact c
    · rw [List.mem_cons, List.mem_cons, dd_mem x ys]
theorem dd_nodup : ∀ l, (dd l).Nodup
  | [] => by simp [dd]
  | y :: ys => by
    unfold dd
    split
    · exact dd_nodup ys
    · rename_i h
      exact List.nodup_cons.2 ⟨fun c => h ((dd_mem y ys).1 c), dd_nodup ys⟩
/-- the names that have a value -/
def nmSet (l : List Pv) (a0 a1 : Int) : List (List UInt8) := (dd (l.map fun p => bsOf p.name)).filter fun x => hasV l a0 a1 x
/-- the names that have a value, ascending -/
def nmsOf (l : List Pv) (a0 a1 : Int) : List (List UInt8) := (nmSet l a0 a1).mergeSort leB
theorem nmSet_spec (l : List Pv) (a0 a1 : Int) : (nmSet l a0 a1).Nodup ∧ ∀ x, x ∈ nmSet l a0 a1 ↔ hasV l a0 a1 x = true := by
  refine ⟨(dd_nodup _).filter _, fun x => ?_⟩
  unfold nmSet
  rw [List.mem_filter, dd_mem]
  refine ⟨fun c => c.2, fun c => ⟨?_, c⟩⟩
  obtain ⟨i, hi, e, _⟩ := hv_dec c
  obtain ⟨_, hn⟩ := dec_name l a0 a1 _ _ i e
  exact List.mem_map.2 ⟨l[i], List.getElem_mem hi, by rw [hn, bsOf_nmOf]⟩
theorem nms_of {l : List Pv} {a0 a1 : Int} {ss : List (List UInt8)} (h : ss.Nodup ∧ ∀ x, x ∈ ss ↔ hasV l a0 a1 x = true) : ss.mergeSort leB = nmsOf l a0 a1 :=
  mergeSort_of_perm ((List.perm_ext_iff_of_nodup h.1 (nmSet_spec l a0 a1).1).2 fun x => by rw [h.2 x, (nmSet_spec l a0 a1).2 x])
theorem dd_len : ∀ l, (dd l).length ≤ l.length
  | [] => by simp [dd]
  | y :: ys => by
    have := dd_len ys
    unfold dd
    split <;> simp <;> omega
theorem nmsOf_len (l : List Pv) (a0 a1 : Int) : (nmsOf l a0 a1).length ≤ l.length := by
  unfold nmsOf nmSet
  rw [List.length_mergeSort]
  exact Nat.le_trans (List.length_filter_le _ _) (Nat.le_trans (dd_len _) (by simp))
theorem nmsOf_mem (l : List Pv) (a0 a1 : Int) (x : List UInt8) : x ∈ nmsOf l a0 a1 ↔ hasV l a0 a1 x = true := by
  unfold nmsOf
  rw [List.mem_mergeSort, (nmSet_spec l a0 a1).2 x]
/-- a name with a value is one of the list's -/
theorem hasV_name {l : List Pv} {a0 a1 : Int} {x : List UInt8} (h : hasV l a0 a1 x = true) : ∃ i, ∃ hi : i < l.length, bsOf l[i].name = x := by
  obtain ⟨i, hi, e, _⟩ := hv_dec h
  obtain ⟨_, hn⟩ := dec_name l a0 a1 _ _ i e
  exact ⟨i, hi, by rw [hn, bsOf_nmOf]⟩
theorem nmsOf_congr {l l' : List Pv} {a0 a1 : Int} (h : ∀ nm, hv l nm a1 a0 = hv l' nm a1 a0) : nmsOf l a0 a1 = nmsOf l' a0 a1 :=
  mergeSort_of_perm ((List.perm_ext_iff_of_nodup (nmSet_spec l a0 a1).1 (nmSet_spec l' a0 a1).1).2 fun x => by rw [(nmSet_spec l a0 a1).2 x, (nmSet_spec l' a0 a1).2 x]; unfold hasV; rw [h])
/-- an entry that was entered later decides nothing -/
theorem dec_app {l : List Pv} {p : Pv} {a0 a1 : Int} (nm : ByteArray) : ∀ k, k ≤ l.length → dec (l ++ [p]) a0 a1 nm k = dec l a0 a1 nm k
  | 0, _ => rfl
  | k + 1, hk => by
    have ih := dec_app (l := l) (a0 := a0) (a1 := a1) (p := p) nm k (by omega)
    have e : (l ++ [p])[k]? = l[k]? := List.getElem?_append_left (by omega)
    unfold dec
    rw [e, ih]
    rw [List.getElem?_eq_getElem (by omega)]
    simp only
    have e2 : (∀ i, dec l a0 a1 nm k = some i → ((l ++ [p])[i]?.map (·.from')).getD 0 ≤ l[k].from') ↔ (∀ i, dec l a0 a1 nm k = some i → (l[i]?.map (·.from')).getD 0 ≤ l[k].from') := by
      constructor
      · intro h i hi
        have := h i hi
        rwa [List.getElem?_append_left (dec_lt _ _ _ _ _ _ hi).2] at this
      · intro h i hi
        rw [List.getElem?_append_left (dec_lt _ _ _ _ _ _ hi).2]
        exact h i hi
    by_cases c : l[k].from' ≤ a0 ∧ l[k].entered ≤ a1 ∧ l[k].name = nm ∧ (∀ i, dec l a0 a1 nm k = some i → (l[i]?.map (·.from')).getD 0 ≤ l[k].from')
    · rw [if_pos c, if_pos ⟨c.1, c.2.1, c.2.2.1, e2.2 c.2.2.2⟩]
    · rw [if_neg c, if_neg (fun d => c ⟨d.1, d.2.1, d.2.2.1, e2.1 d.2.2.2⟩)]
theorem hv_app {l : List Pv} {p : Pv} {a1 : Int} (h : a1 < p.entered) (nm : ByteArray) (d : Int) : hv (l ++ [p]) nm a1 d = hv l nm a1 d := by
  have e : dec (l ++ [p]) d a1 nm (l ++ [p]).length = dec l d a1 nm l.length := by
    rw [List.length_append, List.length_singleton, dec_skip (p := p) (by simp) (by simp) (Or.inr h), dec_app nm _ (Nat.le_refl _)]
  unfold hv
  rw [e]
  split
  · rfl
  · rename_i i hi
    rw [List.getElem?_append_left (dec_lt _ _ _ _ _ _ hi).2]
theorem frs_app {l : List Pv} {p : Pv} {a1 : Int} (h : a1 < p.entered) (nm : ByteArray) : frs (l ++ [p]) nm a1 = frs l nm a1 := by
  unfold frs
  simp [List.filter_append]
  intro _; omega
end Go.Proofs.YtfphedcgmaakjaaGreatDoor
namespace Go.Proofs.YtfphedcgmaakjaaGreatDoor
open Go.RowKit Go.WideMaps Go.Maps Go.Sort
attribute [local go_sem] set_drewN
theorem infoStr : (Tryz.prog.info? 9).map (fun i => (i.zero, i.size, i.bytes)) = some (some (.string ⟨#[]⟩), 1, 16) := by kernel_rfl
/-- texts lie in a row -/
def StrsAt (W : World) (g : Nat) (T : List (List UInt8)) : Prop := g < W.heap.size ∧ ∀ j x, T[j]? = some x → W.cell? ⟨g, j, none⟩ = some (.string ⟨x.toArray⟩)
theorem StrsAt.below {W W' : World} {g : Nat} {T : List (List UInt8)} (h : StrsAt W g T) (hb : Below W.heap.size W W') : StrsAt W' g T :=
  ⟨Nat.lt_of_lt_of_le h.1 hb.size, fun j x hj => (hb.cell (p := ⟨g, j, none⟩) h.1).trans (h.2 j x hj)⟩
theorem StrsAt.of_own {W : World} {base g cap n : Nat} {e : TypeId} {T : List (List UInt8)} (h : W.ownsRow base e 1 (.slice (some ⟨g, 0, none⟩) n cap) n (T.map encStr)) (hn : n = T.length) : StrsAt W g T := by
  rcases h.2 with ⟨h0, _⟩ | ⟨g', cap', cur, e1, hbase, hb, h1, h2, h3, h4⟩
  · cases h0
  · cases e1
    have hH : Holds encStr W g 0 T.toArray := holds_of_block hb (by subst hn; simpa using h4)
    refine ⟨(Array.getElem?_eq_some_iff.1 hb).1, fun j x hj => ?_⟩
    obtain ⟨hlt, _⟩ := List.getElem?_eq_some_iff.1 hj
    have := (hH j (by simpa using hlt)).1
    simpa [encStr, hj] using this
theorem row_ne_map {H : Type} {P : Program} {k : TypeId} {R : Value → Option (DataW H × List MemPlace)} {w : World} {b r n : Nat} {D : DataW H} {left : Lit → Bool} {cnt base : Nat} {e : TypeId} {size : Nat} {v : Value} {m : Nat} {xs : List Value}
    (h : w.ownsRow base e size v m xs) (hr : w.ranges P k R b r n D left cnt) : some b ≠ v.ownBlock := by
  obtain ⟨_, _, _, _, _, hit, _⟩ := hr
  rcases h.2 with ⟨rfl, _⟩ | ⟨g, cap, cur, rfl, _, hb, _⟩
  · simp [Value.ownBlock]
  · intro e1
    have : b = g := by simpa [Value.ownBlock] using e1
    subst this
    rw [hit] at hb
    cases hb
/-- what Names returns -/
def NmsPost (T : List (List UInt8)) (w : World) (e : Ending) (w' : World) : Prop :=
  (T = [] ∧ e = .returned (two (.slice none 0 0) (.int .i64 0)) ∧ Below w.heap.size w w') ∨
  (T ≠ [] ∧ ∃ g cap, e = .returned (two (.slice (some ⟨g, 0, none⟩) T.length cap) (.int .i64 0)) ∧ w.heap.size ≤ g ∧ StrsAt w' g T ∧ Below w.heap.size w w')
/-- nil where nothing has been collected -/
def NilS (F : List (List UInt8)) (v : Value) : Prop := F = [] → v = .slice none 0 0
set_option maxRecDepth 100000 in
set_option maxHeartbeats 1000000 in
theorem Names_err (l : List Pv) (a0 a1 : Int) (b o cap : Nat) (w : World) (hl : l.length ≤ 1000000) (hc : PvsAt w b o l) (he : srcE l a0 a1 ≠ 0) :
    Calls Tryz.prog 6 #[.slice (some ⟨b, o, none⟩) l.length cap, .agg #[.int .i64 a0, .int .i64 a1]] w (RetB (two (.slice none 0 0) (.int .i64 (srcE l a0 a1))) w) := by
  generalize hr : srcE l a0 a1 = r at *
  have hrb : (r != 0) = true := by simpa using he
  unfold srcE at hr
  have HR := Lib.hid hr
  have HC := Lib.hid hc
  clear hc hr he
  go_enter Tryz.func6, Tryz.ntmps6
  go_wp2
  go_region_held3 (fun w' => w'.cell? ⟨w.heap.size, 0, none⟩ = some (.int .i64 a0) ∧ w'.cell? ⟨w.heap.size, 1, none⟩ = some (.int .i64 a1)) (go_keep)
    (first
      | (go_at_call 18; refine (CheckProvisions_any l b o cap _ hl (by exact HC.out.below (below_dr ((Below.refl _ _).alloc (Nat.le_refl _) _)))).mono ?_; rintro e w1 ⟨rfl, hb1⟩; have k0 : w1.cell? ⟨w.heap.size, 0, none⟩ = some (.int .i64 a0) := (hb1.cell (p := ⟨w.heap.size, 0, none⟩) (by simp)).trans (by simp [go_sem]); have k1 : w1.cell? ⟨w.heap.size, 1, none⟩ = some (.int .i64 a1) := (hb1.cell (p := ⟨w.heap.size, 1, none⟩) (by simp)).trans (by simp [go_sem]))
      | (go_at_call 19; refine (check2 a0 a1 _ _ _ (by assumption) (by assumption)).mono ?_; rintro e w' ⟨rfl, rfl⟩)
      | (go_at_call 17; refine (firstError_any [cpE l, cdE [a0, a1]] _ 0 2 _ (by simp) (IntsAt.cons (by simp [go_sem]) (IntsAt.one (by simp [go_sem])))).mono ?_; rintro e w' ⟨rfl, rfl⟩))
  all_goals
    rw [HR.out]
    go_wp2
    go_ret2
    exact ⟨rfl, ((below_dr ((Below.refl _ _).alloc (Nat.le_refl _) _)).trans (hb1.mono (by simp))).alloc (by have := hb1.size; simp at this; omega) _⟩
set_option maxRecDepth 100000 in
set_option maxHeartbeats 4000000 in
theorem Names_ok (l : List Pv) (a0 a1 : Int) (b o cap : Nat) (w : World) (hl : l.length ≤ 1000000) (hc : PvsAt w b o l) (he : srcE l a0 a1 = 0) :
    Calls Tryz.prog 6 #[.slice (some ⟨b, o, none⟩) l.length cap, .agg #[.int .i64 a0, .int .i64 a1]] w (NmsPost (nmsOf l a0 a1) w) := by
  unfold srcE at he
  have HR := Lib.hid he
  have HC := Lib.hid hc
  clear hc he
  obtain ⟨i0, hi, hz0, hzz, hz2⟩ := info_parts infoStr
  go_enter Tryz.func6, Tryz.ntmps6
  go_wp2
  go_region_held3 (fun w' => w'.cell? ⟨w.heap.size, 0, none⟩ = some (.int .i64 a0) ∧ w'.cell? ⟨w.heap.size, 1, none⟩ = some (.int .i64 a1)) (go_keep)
    (first
      | (go_at_call 18; refine (CheckProvisions_any l b o cap _ hl (by exact HC.out.below (below_dr ((Below.refl _ _).alloc (Nat.le_refl _) _)))).mono ?_; rintro e w1 ⟨rfl, hb1⟩; have k0 : w1.cell? ⟨w.heap.size, 0, none⟩ = some (.int .i64 a0) := (hb1.cell (p := ⟨w.heap.size, 0, none⟩) (by simp)).trans (by simp [go_sem]); have k1 : w1.cell? ⟨w.heap.size, 1, none⟩ = some (.int .i64 a1) := (hb1.cell (p := ⟨w.heap.size, 1, none⟩) (by simp)).trans (by simp [go_sem]))
      | (go_at_call 19; refine (check2 a0 a1 _ _ _ (by assumption) (by assumption)).mono ?_; rintro e w' ⟨rfl, rfl⟩)
      | (go_at_call 17; refine (firstError_any [cpE l, cdE [a0, a1]] _ 0 2 _ (by simp) (IntsAt.cons (by simp [go_sem]) (IntsAt.one (by simp [go_sem])))).mono ?_; rintro e w' ⟨rfl, rfl⟩))
  all_goals
    rw [HR.out]
    have HB1 := Lib.hid hb1
    have hz1 := hb1.size
    go_wp2_with (first
      | (go_at_call 20; refine (deciding_any l a0 a1 b o cap _ hl (by exact (HC.out.below ((below_dr ((Below.refl _ _).alloc (Nat.le_refl _) _)).trans (hb1.mono (by simp)))).below ((Below.refl _ _).alloc (Nat.le_refl _) _))).mono ?_; rintro e w2 ⟨rfl, ⟨D, hown, hD⟩, hb2⟩; rw [World.size_alloc] at hown; have HD := Lib.hid hD; clear hD)
      | (at_range; refine wpList_range_own _ rfl _ 51 rfl 9 3 lawS Tryz.underlying51 _ (w1.heap.size + 1 + 1) l.length D rfl hown ?_; intro w0 hrg0 hg0 hs0))
    go_frame
    have hz2' := hb2.size
    simp at hz1 hz2'
    have hbm := hown.lt
    have B2 := Lib.hid ((((below_dr ((Below.refl _ _).alloc (Nat.le_refl _) _)).trans (hb1.mono (by simp))).alloc (by omega) _).trans (hb2.mono (by simp; omega)))
    go_loopw [7] (fun v wr => ∃ (left : Lit → Bool) (cnt : Nat) (ss : List (List UInt8)), wr.ranges Tryz.prog 9 (plainElem Tryz.prog 3) (w1.heap.size + 1 + 1) w2.heap.size l.length D left cnt ∧ ss.length + cnt ≤ l.length ∧
        wr.ownsRow w.heap.size 9 1 v ss.length (ss.map encStr) ∧ NilS ss v ∧ NCol l a0 a1 D left ss ∧ Below w.heap.size w wr)
      (fun _ wr => wr.rangeLeft (w1.heap.size + 1 + 1) w2.heap.size)
    case atStart =>
      exact ⟨_, _, [], hrg0, by simpa using hown.size_le, World.ownsRow_nil _ _ _ _, fun _ => rfl, NCol.start, B2.out.grown hg0 B2.out.size (fun j hj => by cases hj)⟩
    case round =>
      obtain ⟨left, cnt, ss, hrg, hcs, hrow, hnil, hC, hB⟩ := hrel
      have HN := Lib.hid hnil
      have HCol := Lib.hid hC
      clear hnil hC
      go_wp2_with (at_next; refine wpList_next_ranges _ rfl _ rfl 9 lawS (plainElem Tryz.prog 3) encStr (Value.int .i64) (fun key kl hk => by obtain ⟨x, hx, _⟩ := Maps.keyOf_str Tryz.underlying9 hk; exact ⟨x, hx⟩) (fun v y hv => by obtain ⟨c, rfl, _⟩ := plainElem_int_inv Tryz.underlying3 hv; exact ⟨c, rfl⟩) (w1.heap.size + 1 + 1) w2.heap.size l.length _ _ _ rfl hrg ?_ ?_)
      · intro hc0 hl0
        have hdone := HCol.out.done hl0 HD.out
        have hnm := nms_of hdone
        have hle : ss.length ≤ l.length := by omega
        clear hdone hl0
        by_cases hF : ss = []
        · have hv0 := HN.out hF
          have HNm := Lib.hid hnm
          clear hnm hrow
          subst hv0
          go_wp2_with (go_at_call 21; refine (Tryz.slices_Sort_string_none none 0 _).mono ?_; rintro e w' ⟨rfl, rfl⟩)
          go_ret2
          exact .inl ⟨by rw [← HNm.out, hF]; simp, rfl, hB⟩
        · rcases hrow.2 with ⟨_, h0⟩ | ⟨g, cap', cur, rfl, hbase, hb, h1, h2, h3, h4⟩
          · exact absurd (List.length_eq_zero_iff.1 h0) hF
          have hH := holds_of_block hb (by simpa using h4)
          have hgl := (Array.getElem?_eq_some_iff.1 hb).1
          have hlen : (nmsOf l a0 a1).length = ss.length := by rw [← hnm]; exact List.length_mergeSort _
          have hne : nmsOf l a0 a1 ≠ [] := fun c => hF (List.length_eq_zero_iff.1 (by rw [← hlen, c]; rfl))
          have S1 := Lib.hid (Tryz.slices_Sort_string g 0 cap' ss wr hH hgl (by omega))
          have OW := fun n os => ownsRow_sorted (w := wr) (n := n) (os := os) hlen hbase hb h1 h2 h3
          have GW := fun n os => grownBy_sorted (w := wr) (g := g) (n := n) (os := os) (nmsOf l a0 a1).toArray
          rw [show (ss.mergeSort fun x y => decide (x ≤ y)) = nmsOf l a0 a1 from hnm] at S1
          have HO := Lib.hid OW
          have HG := Lib.hid GW
          have HL := Lib.hid hlen
          clear OW GW hH hb h4 hrow hrg hnm hlen HN
          go_wp2_with (go_at_call 21; refine (S1.out).mono ?_; rintro e w' ⟨rfl, nn, os, rfl⟩)
          go_ret2
          refine .inr ⟨hne, g, cap', by rw [HL.out]; rfl, hbase, StrsAt.of_own (HO.out nn os) HL.out.symm, hB.grown (HG.out nn os) hB.size (fun j hj => by cases hj; exact hbase)⟩
      · intro x c kl yd yp w3 cnt2 hkey hlk hv' hat hrg2 hlt hg2 hs2 hen
        obtain ⟨x', ex, rfl, hxl⟩ := Maps.keyOf_str Tryz.underlying9 hkey
        obtain rfl : x = x' := encStr_inj ex
        have hhas : Maps.has D (.string x) = true := has_true_of_atKey hat
        obtain ⟨i, hdi⟩ : ∃ i, dec l a0 a1 (nmOf x) l.length = some i := by
          have h1 := (HD.out.2 (nmOf x)).1
          rw [← has_keyL, hhas] at h1
          exact Option.isSome_iff_exists.1 h1.symm
        have hic : c = (i : Int) := by
          have h1 := (HD.out.2 (nmOf x)).2 i hdi (.lit (.int .i64 0))
          have h2 := hat (.lit (.int .i64 0))
          have h3 : keyL (nmOf x) = .string x := by simp [keyL]
          rw [h3, h2] at h1
          obtain ⟨c', ec, ey, _⟩ := plainElem_int_inv Tryz.underlying3 hv'
          cases ec
          have e1 : yd = .lit (.int .i64 c) := congrArg Prod.fst ey
          rw [e1] at h1
          injection h1 with h1
          injection h1
        subst hic
        have B3 := Lib.hid (hB.grown hg2 hB.size (fun j hj => by cases hj; exact B2.out.size))
        obtain ⟨_, hil⟩ := dec_lt l a0 a1 (nmOf x) l.length i hdi
        obtain ⟨⟨_, _, _, _, q4⟩, _⟩ := (HC.out.below B3.out).2 i hil
        have hvx : hv l (nmOf x) a1 a0 = if l[i].repeal then (0, false) else (l[i].value, true) := hv_some hil hdi
        have hrow2 := hrow.kept hg2 (Or.inr (row_ne_iter hrow hrg).symm)
        have hsz3 : w2.heap.size < w3.heap.size := by exact World.ranges.lt hrg2
        clear hs2 hkey hv' hat
        have hB' := B3.out.size
        have hB1 := hB.size
        cases hr : l[i].repeal
        · rw [hr] at q4 hvx
          have hV : hasV l a0 a1 x = true := by show (hv l (nmOf x) a1 a0).2 = true; rw [hvx]; rfl
          have HC2 := Lib.hid (HCol.out.add hhas hlk hV)
          have HRG := Lib.hid hrg.left_eq
          have hra := hrg2.alloc (.cells #[encStr x] 9)
          have hrm := row_ne_map hrow2 hrg2
          have hri := row_ne_iter hrow2 hrg2
          have hrl := fun k e => (hrow2.lt k e).1
          have hrA := hrow2.alloc (.cells #[encStr x] 9)
          clear hvx hV hr hdi hrg hrow hlk hhas HCol
          go_wp2_with (at_builtin; refine wpList_append_own _ rfl _ _ 26 rfl w.heap.size 9 i0 (.string ⟨#[]⟩) 1 16 Tryz.underlying26 hi hz0 hzz hz2 rfl (by decide) _ _ _ rfl hrA ⟨w3.heap.size, 0, none⟩ 1 1 [encStr x] rfl rfl ?c1 ?c2 ?c3 ?c4 ?c5 ?_)
          case c2 => simp [Value.oneCell']
          case c3 => unfold maxLen; omega
          case c4 => omega
          case c5 => first | omega | (simp; omega)
          · intro v' w4 hown' hg3 hnil3
            have R1 := Lib.hid (hra.kept hg3 hrm hri)
            have R2 := Lib.hid ((B3.out.alloc hB' _).grown hg3 (by simp; omega) hrl)
            have R3 : Hid (w4.ownsRow w.heap.size 9 1 v' (ss ++ [x]).length ((ss ++ [x]).map encStr)) := Lib.hid (by simpa using hown')
            have HR9 := Lib.hid hrg2.left_eq
            clear hown' hg3 hnil3 hrA hrl hri hrm hra hrow2 hrg2
            go_wp2
            go_roundw
            case rel => exact ⟨_, cnt2, ss ++ [x], R1.out, by simp; omega, R3.out, fun h => by simp at h, HC2.out, R2.out⟩
            case measure => rw [R1.out.left_eq, HRG.out]; exact hlt
        · rw [hr] at q4 hvx
          have hV : hasV l a0 a1 x = false := by show (hv l (nmOf x) a1 a0).2 = false; rw [hvx]; rfl
          have HC2 := Lib.hid (HCol.out.skip (x := x) hV)
          have HRG := Lib.hid hrg.left_eq
          have R1 := Lib.hid hrg2
          have R3 := Lib.hid hrow2
          clear hvx hV hr hdi hrg hrow hlk hhas HCol hrow2 hrg2
          go_wp2
          go_roundw
          case rel => exact ⟨_, cnt2, ss, R1.out, by omega, R3.out, HN.out, HC2.out, B3.out⟩
          case measure => rw [R1.out.left_eq, HRG.out]; exact hlt
end Go.Proofs.YtfphedcgmaakjaaGreatDoor
namespace Go.Proofs.YtfphedcgmaakjaaGreatDoor
open Go.RowKit Go.WideMaps Go.Maps Go.Sort
attribute [local go_sem] set_drewN
set_option maxRecDepth 100000 in
set_option maxHeartbeats 1000000 in
theorem Names_err_0 (a0 a1 : Int) (a : Option Addr) (cap : Nat) (w : World) (he : srcE [] a0 a1 ≠ 0) :
    Calls Tryz.prog 6 #[.slice a 0 cap, .agg #[.int .i64 a0, .int .i64 a1]] w (RetB (two (.slice none 0 0) (.int .i64 (srcE [] a0 a1))) w) := by
  generalize hr : srcE [] a0 a1 = r at *
  have hrb : (r != 0) = true := by simpa using he
  unfold srcE at hr
  have HR := Lib.hid hr
  clear hr he
  go_enter Tryz.func6, Tryz.ntmps6
  go_wp2
  go_region_held3 (fun w' => w'.cell? ⟨w.heap.size, 0, none⟩ = some (.int .i64 a0) ∧ w'.cell? ⟨w.heap.size, 1, none⟩ = some (.int .i64 a1)) (go_keep)
    (first
      | (go_at_call 18; refine (CheckProvisions_0 a cap _).mono ?_; rintro e w1 ⟨rfl, hb1⟩; have k0 : w1.cell? ⟨w.heap.size, 0, none⟩ = some (.int .i64 a0) := (hb1.cell (p := ⟨w.heap.size, 0, none⟩) (by simp)).trans (by simp [go_sem]); have k1 : w1.cell? ⟨w.heap.size, 1, none⟩ = some (.int .i64 a1) := (hb1.cell (p := ⟨w.heap.size, 1, none⟩) (by simp)).trans (by simp [go_sem]))
      | (go_at_call 19; refine (check2 a0 a1 _ _ _ (by assumption) (by assumption)).mono ?_; rintro e w' ⟨rfl, rfl⟩)
      | (go_at_call 17; refine (firstError_any [cpE [], cdE [a0, a1]] _ 0 2 _ (by simp) (IntsAt.cons (by simp [go_sem]) (IntsAt.one (by simp [go_sem])))).mono ?_; rintro e w' ⟨rfl, rfl⟩))
  all_goals
    rw [HR.out]
    go_wp2
    go_ret2
    exact ⟨rfl, ((below_dr ((Below.refl _ _).alloc (Nat.le_refl _) _)).trans (hb1.mono (by simp))).alloc (by have := hb1.size; simp at this; omega) _⟩
set_option maxRecDepth 100000 in
set_option maxHeartbeats 4000000 in
theorem Names_ok_0 (a0 a1 : Int) (a : Option Addr) (cap : Nat) (w : World) (he : srcE [] a0 a1 = 0) :
    Calls Tryz.prog 6 #[.slice a 0 cap, .agg #[.int .i64 a0, .int .i64 a1]] w (NmsPost (nmsOf [] a0 a1) w) := by
  unfold srcE at he
  have HR := Lib.hid he
  clear he
  obtain ⟨i0, hi, hz0, hzz, hz2⟩ := info_parts infoStr
  go_enter Tryz.func6, Tryz.ntmps6
  go_wp2
  go_region_held3 (fun w' => w'.cell? ⟨w.heap.size, 0, none⟩ = some (.int .i64 a0) ∧ w'.cell? ⟨w.heap.size, 1, none⟩ = some (.int .i64 a1)) (go_keep)
    (first
      | (go_at_call 18; refine (CheckProvisions_0 a cap _).mono ?_; rintro e w1 ⟨rfl, hb1⟩; have k0 : w1.cell? ⟨w.heap.size, 0, none⟩ = some (.int .i64 a0) := (hb1.cell (p := ⟨w.heap.size, 0, none⟩) (by simp)).trans (by simp [go_sem]); have k1 : w1.cell? ⟨w.heap.size, 1, none⟩ = some (.int .i64 a1) := (hb1.cell (p := ⟨w.heap.size, 1, none⟩) (by simp)).trans (by simp [go_sem]))
      | (go_at_call 19; refine (check2 a0 a1 _ _ _ (by assumption) (by assumption)).mono ?_; rintro e w' ⟨rfl, rfl⟩)
      | (go_at_call 17; refine (firstError_any [cpE [], cdE [a0, a1]] _ 0 2 _ (by simp) (IntsAt.cons (by simp [go_sem]) (IntsAt.one (by simp [go_sem])))).mono ?_; rintro e w' ⟨rfl, rfl⟩))
  all_goals
    rw [HR.out]
    have HB1 := Lib.hid hb1
    have hz1 := hb1.size
    go_wp2_with (first
      | (go_at_call 20; refine (deciding_0 a a0 a1 cap _).mono ?_; rintro e w2 ⟨rfl, ⟨D, hown, hD⟩, hb2⟩; rw [World.size_alloc] at hown; have HD := Lib.hid hD; clear hD)
      | (at_range; refine wpList_range_own _ rfl _ 51 rfl 9 3 lawS Tryz.underlying51 _ (w1.heap.size + 1 + 1) 0 D rfl hown ?_; intro w0 hrg0 hg0 hs0))
    go_frame
    have hz2' := hb2.size
    simp at hz1 hz2'
    have hbm := hown.lt
    have B2 := Lib.hid ((((below_dr ((Below.refl _ _).alloc (Nat.le_refl _) _)).trans (hb1.mono (by simp))).alloc (by omega) _).trans (hb2.mono (by simp; omega)))
    go_loopw [7] (fun v wr => ∃ (left : Lit → Bool) (cnt : Nat), wr.ranges Tryz.prog 9 (plainElem Tryz.prog 3) (w1.heap.size + 1 + 1) w2.heap.size 0 D left cnt ∧ v = .slice none 0 0 ∧ Below w.heap.size w wr)
      (fun _ wr => wr.rangeLeft (w1.heap.size + 1 + 1) w2.heap.size)
    case atStart =>
      exact ⟨_, _, hrg0, rfl, B2.out.grown hg0 B2.out.size (fun j hj => by cases hj)⟩
    case round =>
      obtain ⟨left, cnt, hrg, rfl, hB⟩ := hrel
      go_wp2_with (at_next; refine wpList_next_ranges _ rfl _ rfl 9 lawS (plainElem Tryz.prog 3) encStr (Value.int .i64) (fun key kl hk => by obtain ⟨x, hx, _⟩ := Maps.keyOf_str Tryz.underlying9 hk; exact ⟨x, hx⟩) (fun v y hv => by obtain ⟨c, rfl, _⟩ := plainElem_int_inv Tryz.underlying3 hv; exact ⟨c, rfl⟩) (w1.heap.size + 1 + 1) w2.heap.size 0 _ _ _ rfl hrg ?_ ?_)
      · intro hc0 hl0
        go_wp2_with (go_at_call 21; refine (Tryz.slices_Sort_string_none none 0 _).mono ?_; rintro e w' ⟨rfl, rfl⟩)
        go_ret2
        exact .inl ⟨by simp [nmsOf, nmSet, dd], rfl, hB⟩
      · intro x c kl yd yp w3 cnt2 hkey hlk hv' hat hrg2 hlt hg2 hs2 hen
        exfalso
        obtain ⟨x', ex, rfl, hxl⟩ := Maps.keyOf_str Tryz.underlying9 hkey
        have hhas : Maps.has D (.string x') = true := has_true_of_atKey hat
        have h1 := (HD.out.2 (nmOf x')).1
        rw [← has_keyL, hhas] at h1
        cases h1
end Go.Proofs.YtfphedcgmaakjaaGreatDoor
