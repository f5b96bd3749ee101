/-
  Decisions on entries, as plain lists: which stand, where a decision leads, what is reached from an entry, the first of each class, and the classes. No program is named here.
-/
namespace Go.Proofs.Ytfneafofohfdnaa
/-- a decision -/
structure Dc where
  k : Int
  a : Int
  b : Int
/-- where a decision leads from an entry -/
def acM (d : Dc) (x : Int) : Option Int := if x = d.a then some d.b else if x = d.b then some d.a else none
/-- a further decision: which stand behind it -/
def putM (st : List Bool) (d : Dc) : List Bool := if d.k = 2 then (st ++ [false]).set d.a.toNat false else st ++ [true]
def stM (ds : List Dc) : List Bool := ds.foldl putM []
theorem stM_snoc (ds : List Dc) (d : Dc) : stM (ds ++ [d]) = putM (stM ds) d := by simp [stM, List.foldl_append]
theorem putM_len (st : List Bool) (d : Dc) : (putM st d).length = st.length + 1 := by unfold putM; split <;> simp
theorem fold_len (ds : List Dc) : ∀ st : List Bool, (ds.foldl putM st).length = st.length + ds.length := by
  induction ds with
  | nil => intro st; rfl
  | cons d ds ih => intro st; rw [List.foldl_cons, ih, putM_len, List.length_cons]; omega
theorem stM_len (ds : List Dc) : (stM ds).length = ds.length := by unfold stM; rw [fold_len]; simp
theorem stM_take {ds : List Dc} {k : Nat} (h : k < ds.length) : stM (ds.take (k + 1)) = putM (stM (ds.take k)) ds[k] := by
  rw [List.take_succ_eq_append_getElem h, stM_snoc]
/-- decision j stands and is of a kind -/
def sdB (ds : List Dc) (st : List Bool) (kd : Int) (j : Nat) : Bool := st.getD j false && (match ds[j]? with | some d => decide (d.k = kd) | none => false)
/-- the numbers below j of the standing decisions of a kind -/
def sdK (ds : List Dc) (st : List Bool) (kd : Int) : Nat → List Int
  | 0 => []
  | j + 1 => if sdB ds st kd j then sdK ds st kd j ++ [(j : Int)] else sdK ds st kd j
theorem sdK_yes {ds : List Dc} {st : List Bool} {kd : Int} {j : Nat} (h : sdB ds st kd j = true) : sdK ds st kd (j + 1) = sdK ds st kd j ++ [(j : Int)] := by simp [sdK, h]
theorem sdK_no {ds : List Dc} {st : List Bool} {kd : Int} {j : Nat} (h : sdB ds st kd j = false) : sdK ds st kd (j + 1) = sdK ds st kd j := by simp [sdK, h]
theorem sdK_len (ds : List Dc) (st : List Bool) (kd : Int) : ∀ j, (sdK ds st kd j).length ≤ j
  | 0 => Nat.le_refl _
  | j + 1 => by have := sdK_len ds st kd j; unfold sdK; split <;> simp <;> omega
theorem sdK_mem {ds : List Dc} {st : List Bool} {kd x : Int} : ∀ {j : Nat}, x ∈ sdK ds st kd j → ∃ i : Nat, x = (i : Int) ∧ i < j ∧ sdB ds st kd i = true
  | 0, h => by simp [sdK] at h
  | j + 1, h => by
    unfold sdK at h
    split at h
    · rename_i hb
      rcases List.mem_append.1 h with h | h
      · obtain ⟨i, e, hi, hs⟩ := sdK_mem h; exact ⟨i, e, by omega, hs⟩
      · exact ⟨j, by simpa using h, by omega, hb⟩
    · obtain ⟨i, e, hi, hs⟩ := sdK_mem h; exact ⟨i, e, by omega, hs⟩
/-- a list of pairs has a key -/
def hasA (A : List (Int × Int)) (x : Int) : Bool := A.any fun p => p.1 == x
/-- the value at a key -/
def valA (A : List (Int × Int)) (x : Int) : Int := match A.find? (fun p => p.1 == x) with | some p => p.2 | none => 0
def stepW (ds : List Dc) (x : Int) (A : List (Int × Int)) (j : Int) : List (Int × Int) :=
  match ds[j.toNat]? with
  | none => A
  | some d => match acM d x with
    | none => A
    | some t => if hasA A t then A else A ++ [(t, j)]
def rowW (ds : List Dc) (st : List Bool) (A : List (Int × Int)) (x : Int) : List (Int × Int) := (sdK ds st 0 ds.length).foldl (stepW ds x) A
/-- what has been reached when i entries have been gone through -/
def wI (ds : List Dc) (st : List Bool) (frm : Int) : Nat → List (Int × Int)
  | 0 => [(frm, -1)]
  | i + 1 => match (wI ds st frm i)[i]? with
    | some p => rowW ds st (wI ds st frm i) p.1
    | none => wI ds st frm i
def wysM (ds : List Dc) (st : List Bool) (frm : Int) : List (Int × Int) := wI ds st frm 60
theorem wI_step {ds : List Dc} {st : List Bool} {frm : Int} {i : Nat} (h : i < (wI ds st frm i).length) : wI ds st frm (i + 1) = rowW ds st (wI ds st frm i) ((wI ds st frm i)[i]).1 := by
  rw [wI, List.getElem?_eq_getElem h]
theorem wI_stop {ds : List Dc} {st : List Bool} {frm : Int} {i : Nat} (h : (wI ds st frm i).length ≤ i) : ∀ m, wI ds st frm (i + m) = wI ds st frm i
  | 0 => rfl
  | m + 1 => by
    have e := wI_stop h m
    show wI ds st frm ((i + m) + 1) = _
    rw [wI, e, List.getElem?_eq_none (by omega)]
/-- keys are different numbers of entries -/
def okA (n : Int) (A : List (Int × Int)) : Prop := (A.map Prod.fst).Nodup ∧ ∀ p ∈ A, 0 ≤ p.1 ∧ p.1 < n
/-- decisions on entries -/
def okD (n : Int) (ds : List Dc) : Prop := ∀ d ∈ ds, d.k ≠ 2 → (0 ≤ d.a ∧ d.a < n) ∧ (0 ≤ d.b ∧ d.b < n)
theorem hasA_mem {A : List (Int × Int)} {x : Int} : hasA A x = true ↔ x ∈ A.map Prod.fst := by
  unfold hasA
  rw [List.any_eq_true]
  constructor
  · rintro ⟨p, hp, h⟩
    exact List.mem_map.2 ⟨p, hp, by simpa using h⟩
  · intro h
    obtain ⟨p, hp, e⟩ := List.mem_map.1 h
    exact ⟨p, hp, by simpa using e⟩
theorem hasA_snoc (A : List (Int × Int)) (t j x : Int) : hasA (A ++ [(t, j)]) x = (hasA A x || (t == x)) := by simp [hasA]
theorem nodup_range : ∀ (n : Nat) (l : List Int), l.Nodup → (∀ x ∈ l, 0 ≤ x ∧ x < (n : Int)) → l.length ≤ n := by
  intro n
  induction n with
  | zero =>
    intro l _ h
    cases l with
    | nil => simp
    | cons a l => have := h a (by simp); omega
  | succ n ih =>
    intro l hl h
    have h1 := ih (l.erase (n : Int)) (hl.erase _) (fun x hx => by
      have hm := (List.Nodup.mem_erase_iff hl).1 hx
      have := h x hm.2
      have := hm.1
      omega)
    have := List.length_erase (a := (n : Int)) (l := l)
    split at this <;> omega
theorem okA_len {n : Nat} {A : List (Int × Int)} (h : okA n A) : A.length ≤ n := by
  have := nodup_range n (A.map Prod.fst) h.1 (fun x hx => by obtain ⟨p, hp, e⟩ := List.mem_map.1 hx; have := h.2 p hp; omega)
  simpa using this
theorem okA_snoc {n t j : Int} {A : List (Int × Int)} (h : okA n A) (hn : hasA A t = false) (h0 : 0 ≤ t) (h1 : t < n) : okA n (A ++ [(t, j)]) := by
  refine ⟨?_, ?_⟩
  · rw [List.map_append]
    refine List.nodup_append.2 ⟨h.1, by simp, ?_⟩
    intro x hx y hy e
    have : y = t := by simpa using hy
    subst this
    subst e
    rw [hasA_mem.2 hx] at hn
    cases hn
  · intro p hp
    rcases List.mem_append.1 hp with hp | hp
    · exact h.2 p hp
    · have : p = (t, j) := by simpa using hp
      subst this
      exact ⟨h0, h1⟩
theorem acM_range {n x t : Int} {d : Dc} (hd : (0 ≤ d.a ∧ d.a < n) ∧ (0 ≤ d.b ∧ d.b < n)) (h : acM d x = some t) : 0 ≤ t ∧ t < n := by
  unfold acM at h
  split at h
  · cases h; exact hd.2
  · split at h
    · cases h; exact hd.1
    · cases h
theorem stepW_none {ds : List Dc} {x j : Int} {A : List (Int × Int)} {d : Dc} (hd : ds[j.toNat]? = some d) (h : acM d x = none) : stepW ds x A j = A := by unfold stepW; rw [hd]; simp only; rw [h]
theorem stepW_has {ds : List Dc} {x j t : Int} {A : List (Int × Int)} {d : Dc} (hd : ds[j.toNat]? = some d) (h : acM d x = some t) (hh : hasA A t = true) : stepW ds x A j = A := by unfold stepW; rw [hd]; simp only; rw [h]; simp [hh]
theorem stepW_new {ds : List Dc} {x j t : Int} {A : List (Int × Int)} {d : Dc} (hd : ds[j.toNat]? = some d) (h : acM d x = some t) (hh : hasA A t = false) : stepW ds x A j = A ++ [(t, j)] := by unfold stepW; rw [hd]; simp only; rw [h]; simp [hh]
/-- the first of the class of each entry, when e entries have been gone through -/
def fM (ds : List Dc) (st : List Bool) : Nat → Int → Option Int
  | 0 => fun _ => none
  | e + 1 => if (fM ds st e (e : Int)).isSome then fM ds st e else fun x => if hasA (wysM ds st (e : Int)) x then some (e : Int) else fM ds st e x
theorem fM_known {ds : List Dc} {st : List Bool} {e : Nat} (h : (fM ds st e (e : Int)).isSome = true) : fM ds st (e + 1) = fM ds st e := by simp [fM, h]
theorem fM_new {ds : List Dc} {st : List Bool} {e : Nat} (h : (fM ds st e (e : Int)).isSome = false) : fM ds st (e + 1) = fun x => if hasA (wysM ds st (e : Int)) x then some (e : Int) else fM ds st e x := by
  show (if (fM ds st e (e : Int)).isSome then fM ds st e else _) = _
  rw [if_neg (by rw [h]; simp)]
/-- the entries below e whose class begins with f, ascending -/
def grM (F : Int → Option Int) (f : Int) : Nat → List Int
  | 0 => []
  | e + 1 => if F (e : Int) = some f then grM F f e ++ [(e : Int)] else grM F f e
/-- the firsts of classes, ascending -/
def ksM (F : Int → Option Int) (n : Nat) : List Int := ((List.range n).map fun (e : Nat) => (e : Int)).filter fun f => !(grM F f n).isEmpty
def clM (ds : List Dc) (st : List Bool) (n : Nat) : List (List Int) := (ksM (fM ds st n) n).map fun f => grM (fM ds st n) f n
/-- the decisions of the document's example -/
def exD : List Dc := [⟨0, 0, 1⟩, ⟨0, 1, 2⟩, ⟨1, 0, 2⟩]
theorem exD_cl : clM exD (stM exD) 4 = [[0, 1, 2], [3]] := by decide +kernel
end Go.Proofs.Ytfneafofohfdnaa
