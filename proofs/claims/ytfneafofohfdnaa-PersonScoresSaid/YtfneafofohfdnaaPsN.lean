/-
  Names of persons: lists of signs, what two of them have in common; plain mathematics, no program.
-/
import Derived.Test.YtfneafofohfdnaaPsM
namespace Go.Proofs.Ytfneafofohfdnaa
/-- what is behind the first "]" -/
def aft : List UInt8 → List UInt8
  | [] => []
  | c :: r => if c = 93 then r else aft r
theorem aft_len : ∀ s : List UInt8, (aft s).length ≤ s.length
  | [] => Nat.le_refl _
  | c :: r => by
    have := aft_len r
    rw [aft]
    split <;> simp <;> omega
theorem aft_at {a : List UInt8} (b : List UInt8) (h : (93 : UInt8) ∉ a) : aft (a ++ 93 :: b) = b := by
  induction a with
  | nil => simp [aft]
  | cons c a ih =>
    simp only [List.mem_cons, not_or] at h
    rw [List.cons_append, aft, if_neg (fun e => h.1 e.symm), ih h.2]
theorem aft_no {s : List UInt8} (h : (93 : UInt8) ∉ s) : aft s = [] := by
  induction s with
  | nil => rfl
  | cons c a ih =>
    simp only [List.mem_cons, not_or] at h
    rw [aft, if_neg (fun e => h.1 e.symm), ih h.2]
/-- the text of the first sign, and the rest -/
def cutS (s : List UInt8) : List UInt8 × List UInt8 :=
  match s with
  | [] => ([], [])
  | c :: r => if c = 91 then ((c :: r).take ((c :: r).length - (aft (c :: r)).length), aft (c :: r)) else ([c], r)
theorem aft_br (r : List UInt8) : aft (91 :: r) = aft r := by rw [aft, if_neg (by decide)]
theorem cutS_br (r : List UInt8) : cutS (91 :: r) = ((91 :: r).take ((91 :: r).length - (aft r).length), aft r) := by
  have e : cutS (91 :: r) = if (91 : UInt8) = 91 then ((91 :: r).take ((91 :: r).length - (aft (91 :: r)).length), aft (91 :: r)) else ([91], r) := rfl
  rw [e, if_pos rfl, aft_br]
theorem cutS_one {c : UInt8} (r : List UInt8) (h : c ≠ 91) : cutS (c :: r) = ([c], r) := by
  show (if c = 91 then _ else _) = _
  rw [if_neg h]
theorem cutS_lt {s : List UInt8} (h : s ≠ []) : (cutS s).2.length < s.length := by
  match s, h with
  | c :: r, _ =>
    by_cases e : c = 91
    · subst e
      have := aft_len r
      rw [cutS_br]; simp; omega
    · rw [cutS_one r e]; simp
theorem first93 : ∀ {r : List UInt8}, (93 : UInt8) ∈ r → ∃ a b, r = a ++ 93 :: b ∧ (93 : UInt8) ∉ a
  | d :: r, h => by
    by_cases hd : d = 93
    · exact ⟨[], r, by simp [hd], by simp⟩
    · have h' : (93 : UInt8) ∈ r := by
        rcases List.mem_cons.1 h with e | e
        · exact absurd e.symm hd
        · exact e
      obtain ⟨a, b, e1, e2⟩ := first93 h'
      refine ⟨d :: a, b, by rw [e1]; rfl, ?_⟩
      simp only [List.mem_cons, not_or]
      exact ⟨fun e => hd e.symm, e2⟩
theorem cutS_at {a : List UInt8} (b : List UInt8) (h : (93 : UInt8) ∉ a) : cutS (91 :: (a ++ 93 :: b)) = (91 :: (a ++ [93]), b) := by
  rw [cutS_br, aft_at b h]
  have : (91 :: (a ++ 93 :: b)).length - b.length = (91 :: (a ++ [93])).length := by simp; omega
  have e : 91 :: (a ++ 93 :: b) = (91 :: (a ++ [93])) ++ b := by simp
  rw [this, e, List.take_left' rfl]
theorem cutS_no {r : List UInt8} (h : (93 : UInt8) ∉ r) : cutS (91 :: r) = (91 :: r, []) := by
  rw [cutS_br, aft_no h]; simp
/-- the signs with a text, if it is a list of them -/
def rdN (s : List UInt8) : Option (List Nat) :=
  if _h : s = [] then some [] else
    if (rdS (cutS s).1).2 = true then (rdN (cutS s).2).map (fun l => (rdS (cutS s).1).1 :: l) else none
termination_by s.length
decreasing_by exact cutS_lt ‹_›
theorem rdN_nil : rdN [] = some [] := by unfold rdN; simp
theorem rdN_yes {s : List UInt8} (h : s ≠ []) (k : (rdS (cutS s).1).2 = true) : rdN s = (rdN (cutS s).2).map (fun l => (rdS (cutS s).1).1 :: l) := by
  rw [rdN, dif_neg h, if_pos k]
theorem rdN_no {s : List UInt8} (h : s ≠ []) (k : (rdS (cutS s).1).2 = false) : rdN s = none := by
  rw [rdN, dif_neg h, if_neg (by rw [k]; simp)]
/-- the text of signs -/
def nmT (M : List Nat) : List UInt8 := (M.map txt).flatten
theorem nmT_cons (m : Nat) (M : List Nat) : nmT (m :: M) = txt m ++ nmT M := by simp [nmT]
theorem nmT_snoc (M : List Nat) (m : Nat) : nmT (M ++ [m]) = nmT M ++ txt m := by simp [nmT]
theorem nmT_len : ∀ M : List Nat, (nmT M).length ≤ 55 * M.length
  | [] => by simp [nmT]
  | m :: M => by
    have h1 := txt_len m
    have h2 := nmT_len M
    rw [nmT_cons]; simp; omega
theorem no93 (m : Nat) : (93 : UInt8) ∉ lets m := fun h => by
  have h := (lets_set m).1 93 h
  revert h
  decide
theorem cutS_txt {m : Nat} (t : List UInt8) : cutS (txt m ++ t) = (txt m, t) := by
  unfold txt
  by_cases h1 : (lets m).length = 1
  · rw [if_pos h1]
    obtain ⟨c, hc⟩ := List.length_eq_one_iff.1 h1
    have hm := (lets_set m).1 c (by rw [hc]; simp)
    rw [hc]
    exact cutS_one t (by rintro rfl; revert hm; decide)
  · rw [if_neg h1]
    by_cases ha : m = anyM
    · rw [if_pos ha]; exact cutS_one t (by decide)
    · rw [if_neg ha]
      have e : (91 :: (lets m ++ [93])) ++ t = 91 :: (lets m ++ 93 :: t) := by simp
      rw [e, cutS_at t (no93 m)]
theorem cutS_app {s : List UInt8} : (cutS s).1 ++ (cutS s).2 = s := by
  match s with
  | [] => rfl
  | c :: r =>
    by_cases e : c = 91
    · subst e
      by_cases h : (93 : UInt8) ∈ r
      · obtain ⟨a, b, rfl, hn⟩ := first93 h
        rw [cutS_at b hn]; simp
      · rw [cutS_no h]; simp
    · rw [cutS_one r e]; rfl
theorem rdN_nmT : ∀ {M : List Nat}, (∀ m ∈ M, okM m) → rdN (nmT M) = some M
  | [], _ => rdN_nil
  | m :: M, h => by
    have hm := rdS_txt (h m (by simp))
    have hc : cutS (nmT (m :: M)) = (txt m, nmT M) := by rw [nmT_cons]; exact cutS_txt _
    have hne : nmT (m :: M) ≠ [] := by rw [nmT_cons]; simp [txt_ne]
    rw [rdN_yes hne (by rw [hc]; simp only; rw [hm]), hc]
    simp only
    rw [hm, rdN_nmT (fun x hx => h x (by simp [hx]))]
    rfl
theorem rdN_some' : ∀ (n : Nat) {s : List UInt8} {M : List Nat}, s.length ≤ n → rdN s = some M → s = nmT M ∧ ∀ m ∈ M, okM m
  | n, s, M, hn, h => by
    by_cases hs : s = []
    · subst hs
      rw [rdN_nil] at h
      obtain rfl := Option.some.inj h
      exact ⟨rfl, fun m hm => by cases hm⟩
    · have hlt := cutS_lt hs
      cases hk : (rdS (cutS s).1).2
      · rw [rdN_no hs hk] at h; cases h
      · rw [rdN_yes hs hk] at h
        cases n with
        | zero => omega
        | succ n =>
          cases hr : rdN (cutS s).2 with
          | none => rw [hr] at h; cases h
          | some R =>
            rw [hr] at h
            obtain rfl := Option.some.inj h
            obtain ⟨e1, e2⟩ := rdN_some' n (by omega) hr
            obtain ⟨o1, o2⟩ := rdS_ok hk
            refine ⟨?_, ?_⟩
            · rw [nmT_cons, o2, ← e1, cutS_app]
            · intro m hm
              rcases List.mem_cons.1 hm with e | e
              · rw [e]; exact o1
              · exact e2 m e
theorem rdN_some {s : List UInt8} {M : List Nat} (h : rdN s = some M) : s = nmT M ∧ ∀ m ∈ M, okM m := rdN_some' s.length (Nat.le_refl _) h
/-- the error of a name -/
def nmE (s : List UInt8) : Int := match rdN s with
  | none => 7
  | some M => if s = [] then 7 else if 24 < M.length then 8 else 0
/-- a right name and its signs -/
def gdM (M : List Nat) : Prop := 1 ≤ M.length ∧ M.length ≤ 24 ∧ ∀ m ∈ M, okM m
theorem nmT_ne {M : List Nat} (h : gdM M) : nmT M ≠ [] := by
  match M, h with
  | m :: M, _ => rw [nmT_cons]; simp [txt_ne]
theorem nmE_gd {M : List Nat} (h : gdM M) : nmE (nmT M) = 0 := by
  unfold nmE
  rw [rdN_nmT h.2.2]
  simp only
  rw [if_neg (nmT_ne h), if_neg (by have := h.2.1; omega)]
theorem gd_nmE {s : List UInt8} (h : nmE s = 0) : ∃ M, gdM M ∧ rdN s = some M ∧ s = nmT M := by
  unfold nmE at h
  cases hr : rdN s with
  | none => rw [hr] at h; simp at h
  | some M =>
    rw [hr] at h
    simp only at h
    by_cases hs : s = []
    · rw [if_pos hs] at h; simp at h
    · rw [if_neg hs] at h
      by_cases hl : 24 < M.length
      · rw [if_pos hl] at h; simp at h
      · obtain ⟨e1, e2⟩ := rdN_some hr
        have h24 : M.length ≤ 24 := Nat.le_of_not_lt hl
        have hne : M ≠ [] := fun e => hs (by rw [e1, e]; rfl)
        exact ⟨M, ⟨List.length_pos_iff.2 hne, h24, e2⟩, by first | exact hr | rfl, e1⟩
theorem nmE_nil : nmE [] = 7 := by unfold nmE; rw [rdN_nil]; rfl
/-- two names, sign by sign -/
def zA (a b : List Nat) : List Nat := List.zipWith (fun x y => x &&& y) a b
def cmM (a b : List Nat) : Option (List Nat) := if a.length = b.length ∧ ∀ m ∈ zA a b, m ≠ 0 then some (zA a b) else none
theorem zA_len {a b : List Nat} (h : a.length = b.length) : (zA a b).length = a.length := by simp [zA, h]
theorem zA_get {a b : List Nat} {i : Nat} (h : i < (zA a b).length) : (zA a b)[i] = (a[i]'(by simp [zA] at h; omega)) &&& (b[i]'(by simp [zA] at h; omega)) := by simp [zA]
theorem zA_comm (a b : List Nat) : zA a b = zA b a := by
  unfold zA
  induction a generalizing b with
  | nil => cases b <;> rfl
  | cons x a ih => cases b with
    | nil => rfl
    | cons y b => simp [ih b, Nat.and_comm]
theorem zA_assoc (a b c : List Nat) : zA (zA a b) c = zA a (zA b c) := by
  unfold zA
  induction a generalizing b c with
  | nil => simp
  | cons x a ih => cases b with
    | nil => simp
    | cons y b => cases c with
      | nil => simp
      | cons z c => simp [ih b c, Nat.and_assoc]
theorem zA_self : ∀ a : List Nat, zA a a = a
  | [] => rfl
  | x :: a => by
    have := zA_self a
    unfold zA at *
    rw [List.zipWith_cons_cons, this, Nat.and_self]
theorem cmM_comm (a b : List Nat) : cmM a b = cmM b a := by
  unfold cmM
  rw [zA_comm a b]
  by_cases h : a.length = b.length
  · simp [h]
  · have : ¬ b.length = a.length := fun e => h e.symm
    simp [h, this]
theorem nz_left {a c : List Nat} (hl : a.length = c.length) (h : ∀ m ∈ zA a c, m ≠ 0) : ∀ m ∈ a, m ≠ 0 := by
  intro m hm e
  obtain ⟨i, hi, rfl⟩ := List.mem_iff_getElem.1 hm
  have hz : i < (zA a c).length := by rw [zA_len hl]; exact hi
  refine h _ (List.getElem_mem hz) ?_
  rw [zA_get hz, e, Nat.zero_and]
def cmO (x y : Option (List Nat)) : Option (List Nat) := match x, y with
  | some a, some b => cmM a b
  | _, _ => none
theorem cmO_comm (x y : Option (List Nat)) : cmO x y = cmO y x := by
  cases x <;> cases y <;> first | rfl | exact cmM_comm _ _
theorem cmO_3 (a b c : List Nat) : cmO (cmM a b) (some c) = if (a.length = b.length ∧ b.length = c.length) ∧ ∀ m ∈ zA (zA a b) c, m ≠ 0 then some (zA (zA a b) c) else none := by
  by_cases h : (a.length = b.length ∧ b.length = c.length) ∧ ∀ m ∈ zA (zA a b) c, m ≠ 0
  · obtain ⟨⟨h1, h2⟩, h3⟩ := h
    have hl : (zA a b).length = c.length := by rw [zA_len h1]; omega
    have e1 : cmM a b = some (zA a b) := by unfold cmM; rw [if_pos ⟨h1, nz_left hl h3⟩]
    rw [e1]
    show cmM _ _ = _
    unfold cmM
    rw [if_pos ⟨hl, h3⟩, if_pos ⟨⟨h1, h2⟩, h3⟩]
  · rw [if_neg h]
    unfold cmM
    by_cases h1 : a.length = b.length ∧ ∀ m ∈ zA a b, m ≠ 0
    · rw [if_pos h1]
      show cmM _ _ = none
      unfold cmM
      rw [if_neg]
      rintro ⟨h2, h3⟩
      rw [zA_len h1.1] at h2
      exact h ⟨⟨h1.1, by have := h1.1; omega⟩, h3⟩
    · rw [if_neg h1]; rfl
theorem cmO_assoc (x y z : Option (List Nat)) : cmO (cmO x y) z = cmO x (cmO y z) := by
  cases x with
  | none => rfl
  | some a => cases y with
    | none => rfl
    | some b => cases z with
      | none => rw [cmO_comm _ none, cmO_comm (some b) none]; rfl
      | some c =>
        rw [cmO_comm (some a) (cmO (some b) (some c))]
        show cmO (cmM a b) (some c) = cmO (cmM b c) (some a)
        rw [cmO_3, cmO_3, zA_comm (zA b c) a, ← zA_assoc]
        have : (a.length = b.length ∧ b.length = c.length) ↔ (b.length = c.length ∧ c.length = a.length) := by omega
        simp only [this]
theorem cmM_self {a : List Nat} (h : ∀ m ∈ a, m ≠ 0) : cmM a a = some a := by
  unfold cmM; rw [zA_self, if_pos ⟨rfl, h⟩]
theorem cmM_gd {a b R : List Nat} (ha : gdM a) (h : cmM a b = some R) : gdM R := by
  unfold cmM at h
  by_cases k : a.length = b.length ∧ ∀ m ∈ zA a b, m ≠ 0
  · rw [if_pos k] at h
    obtain rfl := Option.some.inj h
    refine ⟨by rw [zA_len k.1]; exact ha.1, by rw [zA_len k.1]; exact ha.2.1, fun m hm => ⟨Nat.pos_of_ne_zero (k.2 m hm), ?_⟩⟩
    obtain ⟨i, hi, rfl⟩ := List.mem_iff_getElem.1 hm
    rw [zA_get hi]
    exact Nat.lt_of_le_of_lt Nat.and_le_left (ha.2.2 _ (List.getElem_mem _)).2
  · rw [if_neg k] at h; cases h
end Go.Proofs.Ytfneafofohfdnaa
