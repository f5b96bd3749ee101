/-
  The sorted keys of a map of groups, at this dump: two contracts; the keys of what the groups read as.
-/
import Derived.Test.YtfneafofohfdnaaGrp
import Derived.Test.YtfneafofohfdnaaShelf
namespace Go.Proofs.Ytfneafofohfdnaa
open Go.RowKit Go.Maps Go.Sort Go.Shelf Go.WideElems Go.MapKept
theorem sortsI (m : Nat) : AnyZI.SortsIn Try.prog Try.sortedI_ren Fence.wide m :=
  ⟨fun blk off cap ss W hH hblk hsz => callsIn_wide.2 (Try.slices_Sort_int blk off cap ss W hH hblk hsz),
   fun p cap W => callsIn_wide.2 (Try.slices_Sort_int_none p cap W)⟩
theorem keys_call (mb : Option Nat) (W : World) : Calls Try.prog 55 #[.map mb] W fun e w' => e = .returned (.func (.func 71) #[] #[.pointer (some ⟨W.heap.size, 0, none⟩)]) ∧ w' = W.alloc (.cells #[.map mb] 94) :=
  callsIn_wide.1 (AnyZI.keys_in Try.keysI Fence.wide 5 trivial rfl mb W)
set_option maxHeartbeats 1000000 in
theorem sorted_call {H : Type} (b nn : Nat) (D0 : DataW H) (R : Value → Option (DataW H × List MemPlace)) (w : World) (hown : w.ownsMap Try.prog 3 R b nn D0) (hmax : Maps.size D0 ≤ maxLen) (hbytes : Maps.size D0 * 8 ≤ 140737488355328) :
    Calls Try.prog 54 #[.func (.func 71) #[] #[.pointer (some ⟨w.heap.size, 0, none⟩)]] (w.alloc (.cells #[.map (some b)] 94)) fun e w' => ∃ (v : Value) (ss : List Int), e = .returned v ∧ ss.Perm (intKeys D0) ∧
      w'.ownsRow (w.heap.size + 1) 3 1 v ss.length ((ss.mergeSort (fun x y => decide (x ≤ y))).map encZ) ∧ Below (w.heap.size + 1) (w.alloc (.cells #[.map (some b)] 94)) w' := by
  have hbl := hown.lt
  have hseq : SeqGives Fence.wide 2 Try.prog 71 #[.pointer (some ⟨w.heap.size, 0, none⟩)] encZ (fun ss => ss.Perm (intKeys D0)) (Maps.size D0) (w.alloc (.cells #[.map (some b)] 94)) :=
    AnyZI.keys_gives (ρ := Try.keysI_ren) { Try.keysI with } Fence.wide _ trivial rfl (by omega) w.heap.size b nn D0 _ (by simp) (by simp) (by
      obtain ⟨es, clock, hb, Ft, hs, hD⟩ := hown
      exact ⟨es, clock, (Below.heap_alloc _ _ b hbl).trans hb, Ft, hs, hD⟩)
  have cS := AnyZI.sorted_in Try.sortedI Fence.wide 5 trivial trivial trivial trivial rfl (by omega) (sortsI _) (enters_of Try.func70 (by kernel_rfl) rfl) 71 #[.pointer (some ⟨w.heap.size, 0, none⟩)] trivial (enters_of Try.func71 (by kernel_rfl) rfl) _ _ hmax hbytes _ hseq
  refine (callsIn_wide.1 cS).mono ?_
  rintro e w' ⟨v, ss, rfl, hS, hrow, hnil, hb⟩
  refine ⟨v, ss, rfl, hS, ?_, ?_⟩
  · have h := hrow
    simp at h
    exact h
  · simpa using hb
theorem ownsGroups_map {H : Type} {P : Program} {k : TypeId} {w : World} {base : Nat} {e : TypeId} {q : IntKind} {b n : Nat} {D : DataW H} (h : w.ownsGroups P k base e q b n D) : w.ownsMap P k (rowElem (H := H) w base e q) b n D := by
  obtain ⟨es, clock, hb, F, hs, hD, _⟩ := h
  exact ⟨es, clock, hb, F, hs, hD⟩
/-- firsts are in range -/
theorem fM_range {ds : List Dc} {st : List Bool} : ∀ (e : Nat) {x v : Int}, fM ds st e x = some v → 0 ≤ v ∧ v < e
  | 0, _, _, h => by cases h
  | e + 1, x, v, h => by
    cases hk : (fM ds st e (e : Int)).isSome with
    | true =>
      rw [fM_known hk] at h
      have := fM_range e h
      omega
    | false =>
      rw [fM_new hk] at h
      simp only at h
      split at h
      · injection h with h
        omega
      · have := fM_range e h
        omega
theorem grM_none {F : Int → Option Int} {f : Int} : ∀ (n : Nat), (∀ e : Nat, e < n → F (e : Int) ≠ some f) → grM F f n = []
  | 0, _ => rfl
  | n + 1, h => by
    unfold grM
    rw [if_neg (h n (by omega))]
    exact grM_none n fun e he => h e (by omega)
theorem stepW_keeps {ds : List Dc} {x j y : Int} {A : List (Int × Int)} (h : hasA A y = true) : hasA (stepW ds x A j) y = true := by
  unfold stepW
  split
  · exact h
  · split
    · exact h
    · split
      · exact h
      · rw [hasA_snoc, h]; rfl
theorem foldW_keeps {ds : List Dc} {x y : Int} : ∀ (l : List Int) {A : List (Int × Int)}, hasA A y = true → hasA (l.foldl (stepW ds x) A) y = true
  | [], _, h => h
  | _ :: l, _, h => foldW_keeps l (stepW_keeps h)
theorem wI_self {ds : List Dc} {st : List Bool} {frm : Int} : ∀ i, hasA (wI ds st frm i) frm = true
  | 0 => by simp [wI, hasA]
  | i + 1 => by
    unfold wI
    split
    · exact foldW_keeps _ (wI_self i)
    · exact wI_self i
theorem fM_keeps {ds : List Dc} {st : List Bool} {e : Nat} {x : Int} (h : (fM ds st e x).isSome = true) : (fM ds st (e + 1) x).isSome = true := by
  cases hk : (fM ds st e (e : Int)).isSome with
  | true => rw [fM_known hk]; exact h
  | false =>
    rw [fM_new hk]
    simp only
    split
    · rfl
    · exact h
theorem fM_total {ds : List Dc} {st : List Bool} : ∀ (n : Nat) {e : Nat}, e < n → (fM ds st n (e : Int)).isSome = true
  | n + 1, e, h => by
    rcases Nat.lt_or_ge e n with h' | h'
    · exact fM_keeps (fM_total n h')
    · obtain rfl : e = n := by omega
      cases hk : (fM ds st e (e : Int)).isSome with
      | true => rw [fM_known hk]; exact hk
      | false =>
        rw [fM_new hk]
        simp only
        rw [if_pos (show hasA (wysM ds st (e : Int)) (e : Int) = true from wI_self 60)]
        rfl
/-- the keys of the groups, sorted -/
theorem keys_ks {D : DataW Unit} {F : Int → Option Int} {n : Nat} {ss : List Int} (hF : ∀ (x v : Int), F x = some v → 0 ≤ v ∧ v < n) (hG : GD D fun f => grM F f n) (he : ∃ es, D = .map es ∧ es.Pairwise (fun p q => p.1 ≠ q.1) ∧ ∀ p ∈ es, ∃ x, p.1 = .int .i64 x) (hp : ss.Perm (intKeys D)) :
    ss.mergeSort (fun x y => decide (x ≤ y)) = ksM F n := by
  obtain ⟨es, rfl, hpw, hk⟩ := he
  have hnd : (ksM F n).Nodup := by
    unfold ksM
    exact List.Pairwise.filter _ (List.pairwise_map.2 (List.nodup_range.imp (fun {a b} hab e => hab (by omega))))
  have hm : ∀ x, x ∈ ksM F n ↔ Maps.has (.map es) (.int .i64 x) = true := fun x => by
    rw [(hG.2 x).1]
    unfold ksM
    rw [List.mem_filter]
    refine ⟨fun h => h.2, fun h => ⟨?_, h⟩⟩
    rcases Classical.em (∃ e : Nat, e < n ∧ F (e : Int) = some x) with ⟨e, _, h2⟩ | hn
    · obtain ⟨h0, h1⟩ := hF _ _ h2
      exact List.mem_map.2 ⟨x.toNat, List.mem_range.2 (by omega), by omega⟩
    · have := grM_none (F := F) (f := x) n (fun e he h => hn ⟨e, he, h⟩)
      simp [this] at h
  have h1 := mergeSort_of_perm_i (hp.trans (perm_intKeys hpw hk hnd hm).symm)
  rw [show (fun x y : Int => decide (x ≤ y)) = leI from rfl, h1]
  refine List.mergeSort_of_pairwise ?_
  unfold ksM
  refine List.Pairwise.filter _ (List.pairwise_map.2 (List.pairwise_lt_range.imp ?_))
  intro a b hab
  simp only [leI, decide_eq_true_eq]
  omega
end Go.Proofs.Ytfneafofohfdnaa
