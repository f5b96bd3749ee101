/-
  The changes of a name's value, as lists. Plain mathematics.
-/
import Derived.Test.YtfphedcgmaakjaaGreatDoorBegin
import Derived.Test.YtfphedcgmaakjaaGreatDoorHmath
namespace Go.Proofs.YtfphedcgmaakjaaGreatDoor
open Go.RowKit
/-- what a name has on a day, as it is known on another one -/
def hv (l : List Pv) (nm : ByteArray) (known d : Int) : Int × Bool :=
  match dec l d known nm l.length with
  | none => (0, false)
  | some i => match l[i]? with
    | none => (0, false)
    | some p => if p.repeal then (0, false) else (p.value, true)
/-- what it had after k days of a list -/
def prv (H : Int → Int × Bool) (L : List Int) : Nat → Int × Bool
  | 0 => (0, false)
  | k + 1 => H (L.getD k 0)
/-- the changes on k days of a list -/
def chk (H : Int → Int × Bool) (L : List Int) : Nat → List (Int × Int × Bool)
  | 0 => []
  | k + 1 => chk H L k ++ (if H (L.getD k 0) = prv H L k then [] else [(L.getD k 0, H (L.getD k 0))])
theorem chk_len (H : Int → Int × Bool) (L : List Int) : ∀ k, (chk H L k).length ≤ k
  | 0 => Nat.le_refl _
  | k + 1 => by
    have := chk_len H L k
    rw [chk, List.length_append]
    split <;> simp <;> omega
theorem chk_same {H : Int → Int × Bool} {L : List Int} {k : Nat} (h : H (L.getD k 0) = prv H L k) : chk H L (k + 1) = chk H L k := by
  rw [chk, if_pos h, List.append_nil]
theorem chk_new {H : Int → Int × Bool} {L : List Int} {k : Nat} (h : H (L.getD k 0) ≠ prv H L k) : chk H L (k + 1) = chk H L k ++ [(L.getD k 0, H (L.getD k 0))] := by
  rw [chk, if_neg h]
/-- the last one of some changes -/
def lastC (C : List (Int × Int × Bool)) : Int × Bool := (C.getLast?.map (·.2)).getD (0, false)
theorem lastC_chk (H : Int → Int × Bool) (L : List Int) : ∀ k, lastC (chk H L k) = prv H L k
  | 0 => rfl
  | k + 1 => by
    by_cases h : H (L.getD k 0) = prv H L k
    · rw [chk_same h, lastC_chk H L k, ← h]; rfl
    · rw [chk_new h]; simp [lastC, prv]
/-- the cells of a change -/
def chC (c : Int × Int × Bool) : List Value := [.int .i64 c.1, .int .i64 c.2.1, .bool c.2.2]
def chcs : List (Int × Int × Bool) → List Value
  | [] => []
  | c :: l => chC c ++ chcs l
theorem chcs_len : ∀ l, (chcs l).length = l.length * 3
  | [] => rfl
  | c :: l => by rw [chcs, List.length_append, chcs_len l]; simp [chC]; omega
theorem chcs_app : ∀ a b, chcs (a ++ b) = chcs a ++ chcs b
  | [], _ => rfl
  | c :: a, b => by rw [List.cons_append, chcs, chcs, chcs_app a b, List.append_assoc]
theorem chcs_one (c : Int × Int × Bool) : chcs [c] = chC c := by simp [chcs]
theorem chcs_get : ∀ (l : List (Int × Int × Bool)) (i : Nat) (h : i < l.length) (r : Nat), r < 3 → (chcs l)[i * 3 + r]? = (chC l[i])[r]?
  | c :: l, 0, _, r, hr => by
    rw [chcs, List.getElem?_append_left (by simp [chC]; omega)]; simp
  | c :: l, i + 1, h, r, hr => by
    rw [chcs, List.getElem?_append_right (by simp [chC]; omega)]
    have := chcs_get l i (by simpa using h) r hr
    rw [show (i + 1) * 3 + r - (chC c).length = i * 3 + r from by simp [chC]; omega, this]; simp
/-- a list of changes that is nil, or lies in one block from n0 on -/
def ChgAt (W : World) (n0 : Nat) (v : Value) (C : List (Int × Int × Bool)) : Prop :=
  (C = [] ∧ v = .slice none 0 0) ∨ ∃ g cap, v = .slice (some ⟨g, 0, none⟩) C.length cap ∧ n0 ≤ g ∧ g < W.heap.size ∧
    ∀ i (h : i < C.length), W.cell? ⟨g, i * 3, none⟩ = some (.int .i64 C[i].1) ∧ W.cell? ⟨g, i * 3 + 1, none⟩ = some (.int .i64 C[i].2.1) ∧ W.cell? ⟨g, i * 3 + 2, none⟩ = some (.bool C[i].2.2)
theorem ChgAt.below {W W' : World} {n0 : Nat} {v : Value} {C : List (Int × Int × Bool)} (h : ChgAt W n0 v C) (hb : Below W.heap.size W W') : ChgAt W' n0 v C := by
  rcases h with h | ⟨g, c, e, h1, h2, h3⟩
  · exact .inl h
  · refine .inr ⟨g, c, e, h1, Nat.lt_of_lt_of_le h2 hb.size, fun i hi => ?_⟩
    obtain ⟨a, b, d⟩ := h3 i hi
    exact ⟨(hb.cell h2).trans a, (hb.cell h2).trans b, (hb.cell h2).trans d⟩
theorem ChgAt.mono {W : World} {n0 n1 : Nat} {v : Value} {C : List (Int × Int × Bool)} (h : ChgAt W n0 v C) (hn : n1 ≤ n0) : ChgAt W n1 v C := by
  rcases h with h | ⟨g, c, e, h1, h2, h3⟩
  · exact .inl h
  · exact .inr ⟨g, c, e, Nat.le_trans hn h1, h2, h3⟩
theorem addc (b j : Nat) : Addr.add ⟨b, 0, none⟩ j = ⟨b, 0 + j, none⟩ := by
  unfold Addr.add
  split
  · rename_i e; subst e; rfl
  · rfl
/-- nil where there is no change -/
def NilC (C : List (Int × Int × Bool)) (v : Value) : Prop := C = [] → v = .slice none 0 0
theorem ChgAt.of_own {W : World} {n0 : Nat} {T : TypeId} {v : Value} {C : List (Int × Int × Bool)} (h : W.ownsRow n0 T 3 v C.length (chcs C)) (hn : NilC C v) : ChgAt W n0 v C := by
  by_cases hC : C = []
  · exact .inl ⟨hC, hn hC⟩
  · rcases h.2 with ⟨_, h0⟩ | ⟨g, cap, cur, rfl, hbase, hr⟩
    · exact absurd (List.length_eq_zero_iff.1 h0) hC
    · refine .inr ⟨g, cap, rfl, hbase, (h.lt g rfl).2, fun i hi => ?_⟩
      have q := fun r (hr : r < 3) u (hu : (chC C[i])[r]? = some u) => h.cells (g := g) rfl (i * 3 + r) u ((chcs_get C i hi r hr).trans hu)
      have q0 := q 0 (by omega) _ rfl
      have q1 := q 1 (by omega) _ rfl
      have q2 := q 2 (by omega) _ rfl
      rw [addc] at q0 q1 q2
      simp only [Nat.zero_add, Nat.add_zero] at q0 q1 q2
      exact ⟨q0, q1, q2⟩
/-- what decides does not hang on more than which entries hold -/
theorem dec_eq {l : List Pv} {nm : ByteArray} {known a d : Int} (h : ∀ p ∈ l, p.name = nm → p.entered ≤ known → (p.from' ≤ a ↔ p.from' ≤ d)) : ∀ k, dec l a known nm k = dec l d known nm k
  | 0 => rfl
  | k + 1 => by
    have ih := dec_eq h k
    unfold dec
    cases hk : l[k]? with
    | none => exact ih
    | some p =>
      simp only
      rw [ih]
      have hp : p ∈ l := List.mem_of_getElem? hk
      by_cases hn : p.name = nm
      · by_cases he : p.entered ≤ known
        · have e := h p hp hn he
          by_cases hc : (p.from' ≤ d ∧ p.entered ≤ known ∧ p.name = nm ∧ ∀ i, dec l d known nm k = some i → (l[i]?.map (·.from')).getD 0 ≤ p.from')
          · rw [if_pos hc, if_pos ⟨e.2 hc.1, hc.2⟩]
          · rw [if_neg hc, if_neg (fun c => hc ⟨e.1 c.1, c.2⟩)]
        · rw [if_neg (fun c => he c.2.1), if_neg (fun c => he c.2.1)]
      · rw [if_neg (fun c => hn c.2.2.1), if_neg (fun c => hn c.2.2.1)]
theorem dec_none {l : List Pv} {nm : ByteArray} {known a : Int} (h : ∀ p ∈ l, p.name = nm → p.entered ≤ known → ¬ p.from' ≤ a) : ∀ k, dec l a known nm k = none
  | 0 => rfl
  | k + 1 => by
    have ih := dec_none h k
    unfold dec
    cases hk : l[k]? with
    | none => exact ih
    | some p =>
      simp only
      rw [ih, if_neg (fun c => h p (List.mem_of_getElem? hk) c.2.2.1 c.2.1 c.1)]
theorem frs_mem {l : List Pv} {nm : ByteArray} {known x : Int} : x ∈ frs l nm known ↔ ∃ p ∈ l, p.name = nm ∧ p.entered ≤ known ∧ p.from' = x := by
  unfold frs
  simp only [List.mem_map, List.mem_filter, Bool.and_eq_true, decide_eq_true_eq]
  constructor
  · rintro ⟨p, ⟨a, b, c⟩, e⟩; exact ⟨p, a, b, c, e⟩
  · rintro ⟨p, a, b, c, e⟩; exact ⟨p, ⟨a, b, c⟩, e⟩
/-- on a day a name has what it had since the last beginning by that day -/
theorem hv_at {l : List Pv} {nm : ByteArray} {known a : Int} {m : Nat} (hm : m ≤ (once (frs l nm known)).length) (h1 : ∀ j, j < m → (once (frs l nm known)).getD j 0 ≤ a) (h2 : ∀ j, m ≤ j → j < (once (frs l nm known)).length → a < (once (frs l nm known)).getD j 0) :
    hv l nm known a = prv (hv l nm known) (once (frs l nm known)) m := by
  obtain ⟨hs, hmem⟩ := once_spec (frs l nm known)
  generalize once (frs l nm known) = L at *
  have idx : ∀ p ∈ l, p.name = nm → p.entered ≤ known → ∃ j, j < L.length ∧ L.getD j 0 = p.from' := by
    intro p hp hn he
    obtain ⟨j, hj, e⟩ := List.mem_iff_getElem.1 ((hmem p.from').2 (frs_mem.2 ⟨p, hp, hn, he, rfl⟩))
    exact ⟨j, hj, by rw [List.getD_eq_getElem?_getD, List.getElem?_eq_getElem hj]; exact e⟩
  cases m with
  | zero =>
    have : dec l a known nm l.length = none := dec_none (fun p hp hn he c => by
      obtain ⟨j, hj, e⟩ := idx p hp hn he
      have := h2 j (Nat.zero_le _) hj
      omega) _
    unfold hv prv; rw [this]
  | succ m =>
    have e : dec l a known nm l.length = dec l (L.getD m 0) known nm l.length := dec_eq (fun p hp hn he => by
      obtain ⟨j, hj, e⟩ := idx p hp hn he
      have hm1 := h1 m (by omega)
      by_cases hjm : j ≤ m
      · have hle : L.getD j 0 ≤ L.getD m 0 := by
          by_cases hq : j = m
          · rw [hq]; exact Int.le_refl _
          · have := (List.pairwise_iff_getElem.1 hs) j m hj (by omega) (by omega)
            rw [List.getD_eq_getElem?_getD, List.getD_eq_getElem?_getD, List.getElem?_eq_getElem hj, List.getElem?_eq_getElem (show m < L.length from by omega)]
            simpa using Int.le_of_lt this
        omega
      · have g := h2 j (by omega) hj
        omega) _
    unfold hv prv
    simp only
    rw [e]
end Go.Proofs.YtfphedcgmaakjaaGreatDoor
