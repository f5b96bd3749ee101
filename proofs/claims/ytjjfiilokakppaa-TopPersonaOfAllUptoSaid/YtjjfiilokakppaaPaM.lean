/-
  The law of the order: what the class of all, and the class without one of them, have in common.
-/
import Derived.Test.YtjjfiilokakppaaPer
import Derived.Test.YtjjfiilokakppaaPerM
namespace Go.Proofs.Ytjjfiilokakppaa
open Go.RowKit
/-- the numbers up to i, without kk -/
def wo (kk i : Nat) : List Nat := (List.range i).filter (fun j => decide (j ≠ kk))
theorem wo_succ (kk i : Nat) : wo kk (i + 1) = if i = kk then wo kk i else wo kk i ++ [i] := by
  unfold wo
  rw [List.range_succ, List.filter_append]
  by_cases h : i = kk
  · simp [h]
  · simp [h]
theorem wo_len (kk i : Nat) : (wo kk i).length ≤ i := by
  unfold wo
  exact Nat.le_trans (List.length_filter_le _ _) (by simp)
theorem wo_mem {kk i k : Nat} (h : k ∈ wo kk i) : k < i := by
  unfold wo at h
  have := (List.mem_filter.1 h).1
  simpa using this
theorem range_asc (i : Nat) : (List.range i).Pairwise (· < ·) := List.pairwise_lt_range
theorem wo_asc (kk i : Nat) : (wo kk i).Pairwise (· < ·) := (range_asc i).filter _
theorem wo_ne {kk n : Nat} (hn : 2 ≤ n) : wo kk n ≠ [] := by
  intro h
  have : ∀ k, k < n → k ≠ kk → False := fun k hk hne => by
    have : k ∈ wo kk n := by unfold wo; simp [hk, hne]
    rw [h] at this; cases this
  by_cases h0 : kk = 0
  · exact this 1 (by omega) (by omega)
  · exact this 0 (by omega) (by omega)
theorem getD_lt {l : List Nt} {k : Nat} (h : k < l.length) : l.getD k nt0 = l[k] := by
  rw [List.getD_eq_getElem?_getD, List.getElem?_eq_getElem h]; rfl
theorem map_range (l : List Nt) : ∀ i, i ≤ l.length → (List.range i).map (fun k => l.getD k nt0) = l.take i
  | 0, _ => by simp
  | i + 1, h => by
    rw [List.range_succ, List.map_append, map_range l i (by omega), List.take_succ_eq_append_getElem (by omega), List.map_singleton, getD_lt (by omega)]
theorem map_wo (l : List Nt) (kk : Nat) : ∀ i, i ≤ l.length → (wo kk i).map (fun k => l.getD k nt0) = (l.take i).eraseIdx kk
  | 0, _ => by simp [wo]
  | i + 1, h => by
    have hl : (l.take i).length = i := by rw [List.length_take]; omega
    rw [wo_succ, List.take_succ_eq_append_getElem (by omega)]
    have ih := map_wo l kk i (by omega)
    rcases Nat.lt_trichotomy kk i with h1 | h1 | h1
    · rw [if_neg (by omega), List.map_append, ih, List.map_singleton, getD_lt (by omega), List.eraseIdx_append_of_lt_length (by omega)]
    · rw [if_pos h1.symm, ih, List.eraseIdx_append_of_length_le (by omega), hl, h1, Nat.sub_self, List.eraseIdx_of_length_le (by omega)]; simp
    · rw [if_neg (by omega), List.map_append, ih, List.map_singleton, getD_lt (by omega), List.eraseIdx_append_of_length_le (by omega), hl, List.eraseIdx_of_length_le (by omega), List.eraseIdx_of_length_le (by simp; omega)]
theorem feE_zero : ∀ {xs : List Int}, feE xs = 0 → ∀ x ∈ xs, x = 0
  | [], _ => fun x hx => by cases hx
  | a :: t, h => by
    by_cases ha : a = 0
    · have h' : feE t = 0 := by simpa [feE, ha] using h
      intro x hx
      rcases List.mem_cons.1 hx with rfl | hx
      · exact ha
      · exact feE_zero h' x hx
    · exfalso; simp [feE, ha] at h
theorem cns_all {l : List Nt} (h : cnsE l = 0) : ∀ p ∈ l, cn p = 0 := by
  unfold cnsE at h
  split at h
  · omega
  · exact fun p hp => feE_zero h _ (List.mem_map_of_mem hp)
/-- the class of all -/
theorem all_fold (l : List Nt) : perN l (List.range l.length) = foldE l := by
  rw [perN_fold, map_range l _ (Nat.le_refl _), List.take_length]
theorem rest_fold (l : List Nt) (kk : Nat) : perN l (wo kk l.length) = foldE (l.take kk ++ l.drop (kk + 1)) := by
  rw [perN_fold, map_wo l kk _ (Nat.le_refl _), List.take_length, List.eraseIdx_eq_take_drop_succ]
theorem split_at {l : List Nt} {k : Nat} (h : k < l.length) : l.take k ++ l[k] :: l.drop (k + 1) = l := by
  rw [← List.drop_eq_getElem_cons h, List.take_append_drop]
theorem all_move {l : List Nt} (hs : ∀ p ∈ l, St p.nm) (h2 : 2 ≤ l.length) {k : Nat} (h : k < l.length) : foldE l = stepN (foldE (l.take k ++ l.drop (k + 1))) l[k] := by
  have e := split_at h
  rw [← foldE_move (by rw [e]; exact hs) (by
    intro h0
    have := congrArg List.length h0
    rw [List.length_append, List.length_take, List.length_drop, List.length_nil] at this; omega), e]
theorem all_rest {l : List Nt} (hE : cnsE l = 0) (h2 : 2 ≤ l.length) {kk : Nat} (h : kk < l.length) : perN l (List.range l.length) = stepN (perN l (wo kk l.length)) (l.getD kk nt0) := by
  rw [all_fold, rest_fold, getD_lt h]
  exact all_move (fun p hp => (cn_st (cns_all hE p hp)).1) h2 h
theorem mem_pieces {l : List Nt} {kk : Nat} {p : Nt} (h : p ∈ l.take kk ++ l.drop (kk + 1)) : p ∈ l := by
  rcases List.mem_append.1 h with h | h
  · exact List.mem_of_mem_take h
  · exact List.mem_of_mem_drop h
theorem rest_good {l : List Nt} (hE : cnsE l = 0) (kk : Nat) : St (perN l (wo kk l.length)).nm ∧ DR (perN l (wo kk l.length)) := by
  rw [rest_fold]
  exact ⟨foldE_st (fun p hp => (cn_st (cns_all hE p (mem_pieces hp))).1), DR.foldE (fun p hp => (cn_st (cns_all hE p (mem_pieces hp))).2)⟩
/-- where the rest has nothing in common, all have nothing -/
theorem rest_bad {l : List Nt} (hE : cnsE l = 0) (h2 : 2 ≤ l.length) {kk : Nat} (h : kk < l.length) (hb : (perR l (wo kk l.length)).2 ≠ 0) : (perR l (wo kk l.length)).2 = 13 ∧ (perR l (List.range l.length)).2 = 13 := by
  have hq : cn (perN l (wo kk l.length)) ≠ 0 := fun h => hb (by unfold perR; rw [if_pos h])
  have ht : cn (perN l (List.range l.length)) ≠ 0 := fun h' => by
    rw [all_rest hE h2 h] at h'
    exact hq (cn_mono (rest_good hE kk).1 (by rw [getD_lt h]; exact (cn_st (cns_all hE _ (List.getElem_mem h))).1) (rest_good hE kk).2 h')
  exact ⟨by unfold perR; rw [if_neg hq], by unfold perR; rw [if_neg ht]⟩
theorem rest_ok {l : List Nt} {kk : Nat} (hb : (perR l (wo kk l.length)).2 = 0) : (perR l (wo kk l.length)).1 = perN l (wo kk l.length) ∧ cn (perN l (wo kk l.length)) = 0 := by
  by_cases hq : cn (perN l (wo kk l.length)) = 0
  · exact ⟨by unfold perR; rw [if_pos hq], hq⟩
  · exfalso; unfold perR at hb; rw [if_neg hq] at hb; simp at hb
theorem perN_pair (q x : Nt) : perN [q, x] [0, 1] = stepN q x := rfl
/-- the rest's persona, and the one -/
theorem pair_all {l : List Nt} (hE : cnsE l = 0) (h2 : 2 ≤ l.length) {kk : Nat} (h : kk < l.length) (hb : (perR l (wo kk l.length)).2 = 0) :
    cnsE [(perR l (wo kk l.length)).1, l.getD kk nt0] = 0 ∧ perR [(perR l (wo kk l.length)).1, l.getD kk nt0] [0, 1] = perR l (List.range l.length) := by
  obtain ⟨e, hq⟩ := rest_ok hb
  rw [e]
  refine ⟨?_, ?_⟩
  · unfold cnsE
    rw [if_neg (by simp)]
    have hx : cn (l.getD kk nt0) = 0 := by rw [getD_lt h]; exact cns_all hE _ (List.getElem_mem h)
    show feE [cn (perN l (wo kk l.length)), cn (l.getD kk nt0)] = 0
    rw [hq, hx]; rfl
  · unfold perR
    rw [perN_pair, all_rest hE h2 h]
theorem perR_13 (l : List Nt) (cs : List Nat) (h : (perR l cs).2 ≠ 0) : (perR l cs).2 = 13 := by
  unfold perR at h ⊢
  split at h
  · exact absurd rfl h
  · rename_i hn; rw [if_neg hn]
/-- what all have in common has each of them -/
theorem all_each {l : List Nt} (hE : cnsE l = 0) (h2 : 2 ≤ l.length) (h0 : (perR l (List.range l.length)).2 = 0) {i : Nat} (h : i < l.length) :
    cmT (perR l (List.range l.length)).1.nm l[i].nm = ((perR l (List.range l.length)).1.nm, 0) ∧ l[i].bf ≤ (perR l (List.range l.length)).1.bf ∧ (perR l (List.range l.length)).1.bt ≤ l[i].bt ∧ l[i].df ≤ (perR l (List.range l.length)).1.df ∧ (perR l (List.range l.length)).1.dt ≤ l[i].dt := by
  have hs : ∀ p ∈ l, St p.nm := fun p hp => (cn_st (cns_all hE p hp)).1
  by_cases hq : cn (perN l (List.range l.length)) = 0
  · have e : (perR l (List.range l.length)).1 = perN l (List.range l.length) := by unfold perR; rw [if_pos hq]
    rw [e]
    have hx := hs _ (List.getElem_mem h)
    have hm := all_move hs h2 h
    have hF : St (foldE (l.take i ++ l.drop (i + 1))).nm := foldE_st (fun p hp => hs p (mem_pieces hp))
    rw [all_fold] at hq ⊢
    refine same_again (foldE_st hs) hx hq ?_
    rw [hm, step_assoc hF hx hx, step_self hx]
  · exfalso; unfold perR at h0; rw [if_neg hq] at h0; simp at h0
end Go.Proofs.Ytjjfiilokakppaa
