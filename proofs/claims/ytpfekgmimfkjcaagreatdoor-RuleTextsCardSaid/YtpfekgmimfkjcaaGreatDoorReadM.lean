/-
  What the words of a text say: facts on lists, no program.
-/
import Derived.Test.YtpfekgmimfkjcaaGreatDoorFmtM
import Derived.Test.YtpfekgmimfkjcaaGreatDoorNum
import Derived.Lib.IndexMore
namespace Go.Proofs.YtpfekgmimfkjcaaGreatDoor
theorem contains_mem (a : List UInt8) (c : UInt8) : Lib.contains a [c] = decide (c ∈ a) := by
  unfold Lib.contains
  by_cases h : c ∈ a
  · obtain ⟨x, y, rfl, hx⟩ := spl_first a h
    rw [index_at y hx]; simp
  · rw [index_no h]; simp [h]
theorem mem_spl {c x : UInt8} (hx : x ≠ c) : ∀ {s : List UInt8}, x ∈ s → ∃ y ∈ spl c s, x ∈ y
  | b :: r, h => by
    unfold spl
    by_cases hb : b = c
    · rw [if_pos hb]
      rcases List.mem_cons.1 h with h | h
      · exact absurd (h.trans hb) hx
      · obtain ⟨y, hy, hm⟩ := mem_spl hx h
        exact ⟨y, by simp [hy], hm⟩
    · rw [if_neg hb]
      rcases List.mem_cons.1 h with h | h
      · exact ⟨b :: (spl c r).headD [], by simp, by simp [h]⟩
      · obtain ⟨y, hy, hm⟩ := mem_spl hx h
        cases hs : spl c r with
        | nil => rw [hs] at hy; cases hy
        | cons z t =>
          rw [hs] at hy
          rcases List.mem_cons.1 hy with e | e
          · subst e; exact ⟨b :: y, by simp, by simp [hm]⟩
          · exact ⟨y, by simp [e], hm⟩
theorem spl_two {c : UInt8} (s : List UInt8) : decide (1 < (spl c s).length) = decide (c ∈ s) := by
  by_cases h : c ∈ s
  · obtain ⟨a, b, rfl, ha⟩ := spl_first s h
    rw [spl_app b ha]
    have h1 : 1 < (a :: spl c b).length := by
      have := List.length_pos_iff.2 (spl_ne c b)
      rw [List.length_cons]; omega
    rw [decide_eq_true h1, decide_eq_true (by simp)]
  · rw [spl_none h]; simp [h]
theorem num_no {w : List UInt8} {x : UInt8} (h : numB w = true) (hx : isDg x = false) (h45 : x ≠ 45) : x ∉ w := by
  have hd := (digB_iff.1 (numB_dg h)).2.2
  intro hm
  unfold digs at hd
  split at hd
  · rename_i e
    cases w with
    | nil => cases hm
    | cons b r =>
      simp only [List.head?_cons, Option.some.injEq] at e
      rcases List.mem_cons.1 hm with q | q
      · exact h45 (q.trans e)
      · have := hd x q; rw [hx] at this; cases this
  · have := hd x hm; rw [hx] at this; cases this
/-- a text with a line feed says nothing -/
theorem rdP_lf {s : List UInt8} (h : (10 : UInt8) ∈ s) : rdP s = none := by
  obtain ⟨y, hy, hm⟩ := mem_spl (c := 32) (by decide) h
  unfold rdP
  split
  · rename_i a b c d e
    unfold wrdP
    by_cases ha : (10 : UInt8) ∈ a
    · rw [if_pos ha]
    · rw [if_neg ha]
      rw [e] at hy
      refine if_neg fun hc => ?_
      simp only [Bool.and_eq_true, Bool.or_eq_true] at hc
      obtain ⟨⟨h1, h2⟩, h3⟩ := hc
      simp only [List.mem_cons, List.not_mem_nil, or_false] at hy
      rcases hy with rfl | rfl | rfl | rfl
      · exact ha hm
      · rcases h1 with h1 | h1
        · exact num_no h1 (by decide) (by decide) hm
        · rw [eq_of_beq h1] at hm; exact absurd hm (by decide)
      · exact num_no h2 (by decide) (by decide) hm
      · exact num_no h3 (by decide) (by decide) hm
  · rfl
/-- the empty provision -/
def pv0 : Pv := ⟨⟨#[]⟩, 0, 0, 0, false⟩
/-- what readProvision tells of a text -/
def rpE (s : ByteArray) : Int := if 200 < s.size then 8 else if (rdP s.data.toList).isSome then 0 else 7
def rpP (s : ByteArray) : Pv := if 200 < s.size then pv0 else (rdP s.data.toList).getD pv0
/-- what ParseProvision tells of a text -/
def ppE (s : ByteArray) : Int := if rpE s = 0 then pvE (rpP s) else rpE s
def ppP (s : ByteArray) : Pv := if ppE s = 0 then rpP s else pv0
theorem rp_long {s : ByteArray} (h : 200 < s.size) : rpE s = 8 ∧ rpP s = pv0 := ⟨by unfold rpE; rw [if_pos h], by unfold rpP; rw [if_pos h]⟩
theorem rp_none {s : ByteArray} (h : ¬ 200 < s.size) (hr : rdP s.data.toList = none) : rpE s = 7 ∧ rpP s = pv0 := ⟨by unfold rpE; rw [if_neg h, hr]; rfl, by unfold rpP; rw [if_neg h, hr]; rfl⟩
theorem rp_some {s : ByteArray} {p : Pv} (h : ¬ 200 < s.size) (hr : rdP s.data.toList = some p) : rpE s = 0 ∧ rpP s = p := ⟨by unfold rpE; rw [if_neg h, hr]; rfl, by unfold rpP; rw [if_neg h, hr]; rfl⟩
theorem wrdP_lf {a b c d : List UInt8} (h : (10 : UInt8) ∈ a) : wrdP a b c d = none := by unfold wrdP; rw [if_pos h]
theorem wrdP_no {a b c d : List UInt8} (h : ((numB b || b == repL) && numB c && numB d) = false) : wrdP a b c d = none := by
  unfold wrdP
  split
  · rfl
  · rw [if_neg (by rw [h]; decide)]
theorem wrdP_yes {a b c d : List UInt8} (ha : ¬ (10 : UInt8) ∈ a) (h : ((numB b || b == repL) && numB c && numB d) = true) : wrdP a b c d = some ⟨⟨a.toArray⟩, if numB b then numV b else 0, numV c, numV d, b == repL⟩ := by
  unfold wrdP; rw [if_neg ha, if_pos h]
theorem four_of {T : List (List UInt8)} (h : T.length = 4) : ∃ a b c d, T = [a, b, c, d] := by
  match T, h with
  | [a, b, c, d], _ => exact ⟨a, b, c, d, rfl⟩
/-- a right provision's text is read again -/
theorem pp_fmt {p : Pv} (h : pvE p = 0) : ppE ⟨(fmtL p).toArray⟩ = 0 ∧ ppP ⟨(fmtL p).toArray⟩ = p := by
  obtain ⟨hn, ⟨v0, v1⟩, ⟨f0, f1⟩, e0, e1⟩ := pv_all h
  obtain ⟨h12, _, _⟩ := name_mem hn
  have hl := fmt_len p (by omega) (by omega) (by omega)
  have hsz : ¬ 200 < (⟨(fmtL p).toArray⟩ : ByteArray).size := by
    show ¬ 200 < (fmtL p).toArray.size
    simp; omega
  obtain ⟨q1, q2⟩ := rp_some hsz (p := p) (by simpa using rdP_fmt h)
  have q3 : ppE ⟨(fmtL p).toArray⟩ = 0 := by unfold ppE; rw [if_pos q1, q2, h]
  exact ⟨q3, by unfold ppP; rw [if_pos q3, q2]⟩
end Go.Proofs.YtpfekgmimfkjcaaGreatDoor
