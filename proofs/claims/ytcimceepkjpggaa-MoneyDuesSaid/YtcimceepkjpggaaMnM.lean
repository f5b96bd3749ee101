/-
  Dues: as they lie; their errors, their sums, the days on which they are covered: mathematics.
-/
import Derived.Test.YtcimceepkjpggaaMnC
namespace Go.Proofs.Ytcimceepkjpggaa
open Go.RowKit
/-- an amount on a day -/
structure Du where
  day : Int
  cents : Int
abbrev Du.val (d : Du) : Value := .agg #[.int .i64 d.day, .int .i64 d.cents]
def duC (d : Du) : List Value := [.int .i64 d.day, .int .i64 d.cents]
def dcs : List Du → List Value
  | [] => []
  | p :: l => duC p ++ dcs l
theorem dcs_len : ∀ l : List Du, (dcs l).length = l.length * 2
  | [] => rfl
  | p :: l => by rw [dcs, List.length_append, dcs_len l]; simp [duC]; omega
theorem dcs_app : ∀ a b : List Du, dcs (a ++ b) = dcs a ++ dcs b
  | [], _ => rfl
  | p :: a, b => by rw [List.cons_append, dcs, dcs, dcs_app a b, List.append_assoc]
theorem dcs_one (p : Du) : dcs [p] = duC p := by simp [dcs]
theorem dcs_get : ∀ (l : List Du) (i : Nat) (h : i < l.length) (r : Nat), r < 2 → (dcs l)[i * 2 + r]? = (duC l[i])[r]?
  | p :: l, 0, _, r, hr => by
    rw [dcs, List.getElem?_append_left (by simp [duC]; omega)]; simp
  | p :: l, i + 1, h, r, hr => by
    rw [dcs, List.getElem?_append_right (by simp [duC]; omega)]
    have := dcs_get l i (by simpa using h) r hr
    rw [show (i + 1) * 2 + r - (duC p).length = i * 2 + r from by simp [duC]; omega, this]; simp
theorem dcs_one_cell {l : List Du} : ∀ u ∈ dcs l, u.oneCell' = true := by
  induction l with
  | nil => intro u hu; cases hu
  | cons p l ih =>
    intro u hu
    rw [dcs, List.mem_append] at hu
    rcases hu with hu | hu
    · simp [duC] at hu
      rcases hu with rfl | rfl <;> rfl
    · exact ih u hu
/-- a list of amounts lies from a cell on -/
def DusAt (w : World) (b o : Nat) (l : List Du) : Prop := b < w.heap.size ∧ ∀ i (h : i < l.length), w.cell? ⟨b, o + i * 2, none⟩ = some (.int .i64 l[i].day) ∧ w.cell? ⟨b, o + i * 2 + 1, none⟩ = some (.int .i64 l[i].cents)
theorem DusAt.below {w w' : World} {b o : Nat} {l : List Du} (h : DusAt w b o l) (hb : Below w.heap.size w w') : DusAt w' b o l :=
  ⟨Nat.lt_of_lt_of_le h.1 hb.size, fun i hi => ⟨(hb.cell h.1).trans (h.2 i hi).1, (hb.cell h.1).trans (h.2 i hi).2⟩⟩
theorem DusAt.take {w : World} {b o : Nat} {l : List Du} (h : DusAt w b o l) (k : Nat) : DusAt w b o (l.take k) := by
  refine ⟨h.1, fun i hi => ?_⟩
  have hl : i < l.length := Nat.lt_of_lt_of_le hi (List.length_take_le' _ _)
  rw [List.getElem_take]
  exact h.2 i hl
theorem DusAt.cells {w : World} {b o : Nat} {l : List Du} (h : DusAt w b o l) : ∀ j u, (dcs l)[j]? = some u → w.cell? ⟨b, o + j, none⟩ = some u := by
  intro j u hj
  have hl : j < (dcs l).length := (List.getElem?_eq_some_iff.1 hj).1
  rw [dcs_len] at hl
  have hi : j / 2 < l.length := by omega
  obtain ⟨c0, c1⟩ := h.2 (j / 2) hi
  have e := dcs_get l (j / 2) hi (j % 2) (by omega)
  rw [show j / 2 * 2 + j % 2 = j from by omega, hj] at e
  have h5 : j % 2 = 0 ∨ j % 2 = 1 := by omega
  rcases h5 with q | q <;> rw [q] at e <;> simp [duC] at e <;> subst e
  · rw [show o + j = o + j / 2 * 2 from by omega]; exact c0
  · rw [show o + j = o + j / 2 * 2 + 1 from by omega]; exact c1
theorem DusAt.of_cells {w : World} {b o : Nat} {l : List Du} (hb : b < w.heap.size) (hc : ∀ j u, (dcs l)[j]? = some u → w.cell? ⟨b, o + j, none⟩ = some u) : DusAt w b o l := by
  refine ⟨hb, fun i hi => ?_⟩
  have g := fun r (hr : r < 2) => dcs_get l i hi r hr
  have g0 := g 0 (by omega); have g1 := g 1 (by omega)
  simp only [duC, List.getElem?_cons_zero, List.getElem?_cons_succ, Nat.add_zero] at g0 g1
  exact ⟨hc _ _ g0, hc _ _ g1⟩
theorem addB (b j : Nat) : Addr.add ⟨b, 0, none⟩ j = ⟨b, j, none⟩ := by
  unfold Addr.add
  split
  · rename_i e; subst e; rfl
  · simp
theorem DusAt.of_own {w : World} {base g cap n : Nat} {e : TypeId} {l : List Du} (h : w.ownsRow base e 2 (.slice (some ⟨g, 0, none⟩) n cap) n (dcs l)) : DusAt w g 0 l := by
  refine DusAt.of_cells (h.lt g rfl).2 (fun j u hj => ?_)
  have := h.cells (g := g) rfl j u hj
  rw [addB] at this
  rw [Nat.zero_add]; exact this
/-- a slice of these amounts lies -/
def LD (W : World) (v : Value) (L : List Du) : Prop := ∃ a c, v = .slice a L.length c ∧ L.length ≤ c ∧ (L ≠ [] → ∃ b o, a = some ⟨b, o, none⟩ ∧ DusAt W b o L)
theorem LD.below {W W' : World} {v : Value} {L : List Du} (h : LD W v L) (hb : Below W.heap.size W W') : LD W' v L := by
  obtain ⟨a, c, e, hc, h⟩ := h
  exact ⟨a, c, e, hc, fun hn => let ⟨b, o, e2, hd⟩ := h hn; ⟨b, o, e2, hd.below hb⟩⟩
theorem LD.nil (W : World) : LD W (.slice none 0 0) [] := ⟨none, 0, rfl, Nat.le_refl _, fun h => absurd rfl h⟩
theorem LD.of_own {W : World} {base : Nat} {e : TypeId} {v : Value} {L : List Du} (h : W.ownsRow base e 2 v L.length (dcs L)) : LD W v L := by
  rcases h.2 with ⟨rfl, h0⟩ | ⟨g, cap, cur, rfl, _, _, hn, _⟩
  · have : L = [] := List.length_eq_zero_iff.1 h0
    subst this
    exact LD.nil W
  · exact ⟨_, cap, rfl, hn, fun _ => ⟨g, 0, rfl, DusAt.of_own h⟩⟩
theorem LD.pre {W : World} {a : Option Addr} {c : Nat} {L : List Du} {k : Nat} (hk : k ≤ L.length) (hc : L.length ≤ c) (h : L ≠ [] → ∃ b o, a = some ⟨b, o, none⟩ ∧ DusAt W b o L) : LD W (.slice a k c) (L.take k) := by
  refine ⟨a, c, by rw [List.length_take, Nat.min_eq_left hk], by rw [List.length_take]; omega, fun hn => ?_⟩
  have : L ≠ [] := by rintro rfl; simp at hn
  obtain ⟨b, o, e, hd⟩ := h this
  exact ⟨b, o, e, hd.take k⟩
/-- the sum of amounts -/
def sumD : List Du → Int
  | [] => 0
  | d :: l => d.cents + sumD l
theorem sumD_app : ∀ a b : List Du, sumD (a ++ b) = sumD a + sumD b
  | [], b => by simp [sumD]
  | d :: a, b => by rw [List.cons_append, sumD, sumD, sumD_app a b]; omega
theorem sumD_succ {l : List Du} {k : Nat} (h : k < l.length) : sumD (l.take (k + 1)) = sumD (l.take k) + l[k].cents := by
  rw [List.take_succ_eq_append_getElem h, sumD_app]; simp [sumD]
/-- amounts are not less than 0, and not too great -/
def Rt (l : List Du) : Prop := ∀ d ∈ l, 0 ≤ d.cents ∧ d.cents ≤ 1000000000000
theorem Rt.take {l : List Du} (h : Rt l) (k : Nat) : Rt (l.take k) := fun d m => h d (List.mem_of_mem_take m)
theorem Rt.tail {d : Du} {l : List Du} (h : Rt (d :: l)) : Rt l := fun x m => h x (by simp [m])
theorem sumD_pos : ∀ {l : List Du}, Rt l → 0 ≤ sumD l
  | [], _ => by simp [sumD]
  | d :: l, h => by
    have := sumD_pos h.tail
    have := h d (by simp)
    rw [sumD]; omega
theorem sumD_le : ∀ {l : List Du}, Rt l → sumD l ≤ l.length * 1000000000000
  | [], _ => by simp [sumD]
  | d :: l, h => by
    have := sumD_le h.tail
    have := h d (by simp)
    rw [sumD, List.length_cons]; omega
theorem sumD_take_le {l : List Du} (h : Rt l) (k : Nat) : sumD (l.take k) ≤ sumD l := by
  have e : sumD l = sumD (l.take k) + sumD (l.drop k) := by rw [← sumD_app, List.take_append_drop]
  have := sumD_pos (l := l.drop k) (fun d m => h d (List.mem_of_mem_drop m))
  omega
/-- those before the first one behind a day -/
def begD (t : Int) : List Du → List Du
  | [] => []
  | d :: l => if d.day ≤ t then d :: begD t l else []
theorem begD_all {t : Int} : ∀ {l : List Du}, (∀ d ∈ l, d.day ≤ t) → begD t l = l
  | [], _ => rfl
  | d :: l, h => by rw [begD, if_pos (h d (by simp)), begD_all fun x m => h x (by simp [m])]
theorem begD_at {t : Int} : ∀ {l : List Du} {k : Nat} (hk : k < l.length), (∀ d ∈ l.take k, d.day ≤ t) → ¬ l[k].day ≤ t → begD t l = l.take k
  | d :: l, 0, _, _, h => by rw [begD, if_neg (by simpa using h)]; rfl
  | d :: l, k + 1, hk, h0, h => by
    rw [begD, if_pos (h0 d (by simp)), List.take_succ_cons, begD_at (k := k) (by simpa using hk) (fun x m => h0 x (by simp [m])) (by simpa using h)]
theorem begD_pre {t : Int} : ∀ l : List Du, ∃ k, begD t l = l.take k
  | [] => ⟨0, rfl⟩
  | d :: l => by
    by_cases h : d.day ≤ t
    · obtain ⟨k, hk⟩ := begD_pre (t := t) l
      exact ⟨k + 1, by rw [begD, if_pos h, hk, List.take_succ_cons]⟩
    · exact ⟨0, by rw [begD, if_neg h]; rfl⟩
/-- the day of the first amount with which a sum, a before it, is at least c; or -1 -/
def dayG (a c : Int) : List Du → Int
  | [] => -1
  | d :: l => if c ≤ a + d.cents then d.day else dayG (a + d.cents) c l
def dayM (P : List Du) (c : Int) : Int := if 0 < c then dayG 0 c P else 0
theorem dayG_at : ∀ {l : List Du} {a c : Int} {k : Nat} (hk : k < l.length), (∀ i, i < k → a + sumD (l.take (i + 1)) < c) → c ≤ a + sumD (l.take (k + 1)) → dayG a c l = l[k].day
  | d :: l, a, c, 0, _, _, h => by
    simp [sumD] at h
    rw [dayG, if_pos h]; rfl
  | d :: l, a, c, k + 1, hk, h0, h => by
    have h1 := h0 0 (by omega)
    simp [sumD] at h1
    have e := dayG_at (l := l) (a := a + d.cents) (c := c) (k := k) (by simpa using hk) (fun i hi => by
      have := h0 (i + 1) (by omega)
      rw [List.take_succ_cons, sumD] at this; omega) (by rw [List.take_succ_cons, sumD] at h; omega)
    rw [dayG, if_neg (by omega), e]; rfl
theorem dayG_none : ∀ {l : List Du} {a c : Int}, (∀ i, i < l.length → a + sumD (l.take (i + 1)) < c) → dayG a c l = -1
  | [], _, _, _ => rfl
  | d :: l, a, c, h => by
    have h1 := h 0 (by simp)
    simp [sumD] at h1
    have e := dayG_none (l := l) (a := a + d.cents) (c := c) (fun i hi => by
      have := h (i + 1) (by simpa using hi)
      rw [List.take_succ_cons, sumD] at this; omega)
    rw [dayG, if_neg (by omega), e]
/-- the error of an amount behind a day -/
def duE (p : Int) (d : Du) : Int := feE [eI (!(inB d.day 0 200000 && inB d.cents 0 1000000000000)) 2, eI (decide (d.day < p)) 9]
def errsD (p : Int) : List Du → List Int
  | [] => []
  | d :: l => duE p d :: errsD d.day l
def duesE (l : List Du) : Int := if 120 < l.length then 8 else feE (errsD 0 l)
theorem errsD_len : ∀ (p : Int) (l : List Du), (errsD p l).length = l.length
  | _, [] => rfl
  | p, d :: l => by rw [errsD, List.length_cons, errsD_len d.day l, List.length_cons]
/-- the day before the amount number k -/
def prevD (p : Int) : List Du → Nat → Int
  | _, 0 => p
  | [], _ => p
  | d :: l, k + 1 => prevD d.day l k
theorem prevD_succ : ∀ (p : Int) (l : List Du) (k : Nat) (h : k < l.length), prevD p l (k + 1) = l[k].day
  | _, d :: l, 0, _ => by cases l <;> rfl
  | _, d :: l, k + 1, h => by
    show prevD d.day l (k + 1) = _
    rw [prevD_succ d.day l k (by simpa using h)]; rfl
theorem errsD_get : ∀ (p : Int) (l : List Du) (k : Nat) (h : k < l.length), (errsD p l)[k]'(by rw [errsD_len]; exact h) = duE (prevD p l k) l[k]
  | p, d :: l, 0, _ => rfl
  | p, d :: l, k + 1, h => by
    have := errsD_get d.day l k (by simpa using h)
    simpa [errsD, prevD] using this
theorem errs_take_ok {l : List Du} {p : Int} {k : Nat} (h : k < l.length) (ha : ∀ x ∈ (errsD p l).take k, x = 0) (hx : duE (prevD p l k) l[k] = 0) : ∀ x ∈ (errsD p l).take (k + 1), x = 0 :=
  mem_take_succ (by rw [errsD_len]; exact h) ha (by rw [errsD_get p l k h]; exact hx)
theorem errs_bad {l : List Du} {p : Int} {k : Nat} (h : k < l.length) (ha : ∀ x ∈ (errsD p l).take k, x = 0) (hx : duE (prevD p l k) l[k] ≠ 0) : feE (errsD p l) = duE (prevD p l k) l[k] := by
  have hl : k < (errsD p l).length := by rw [errsD_len]; exact h
  have := feE_no hl ha (by rw [errsD_get p l k h]; exact hx)
  rw [this, errsD_get p l k h]
theorem errs_all {l : List Du} {p : Int} (ha : ∀ x ∈ (errsD p l).take l.length, x = 0) : feE (errsD p l) = 0 :=
  feE_ok (by rwa [List.take_of_length_le (by rw [errsD_len]; exact Nat.le_refl _)] at ha)
end Go.Proofs.Ytcimceepkjpggaa
