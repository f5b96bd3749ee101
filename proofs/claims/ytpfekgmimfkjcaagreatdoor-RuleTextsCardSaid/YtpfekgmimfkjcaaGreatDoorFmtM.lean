/-
  The text of a provision, and what a text says: facts on lists, no program.
-/
import Derived.Test.YtpfekgmimfkjcaaGreatDoorSplM
import Derived.Test.YtpfekgmimfkjcaaGreatDoorRefProv
namespace Go.Proofs.YtpfekgmimfkjcaaGreatDoor
theorem dg_no {b x : UInt8} (h : isDg b = true) (hx : isDg x = false) : b ≠ x := fun e => by rw [e, hx] at h; cases h
theorem dec_no (n : Nat) {x : UInt8} (hx : isDg x = false) : x ∉ Lib.decDigits n := fun h => by
  have := dec_all n x h; rw [hx] at this; cases this
theorem dec_head (n : Nat) {x : UInt8} (hx : isDg x = false) : (Lib.decDigits n).head? ≠ some x := by
  intro e
  exact dec_no n hx (List.mem_of_head? e)
theorem itoa_no (n : Int) {x : UInt8} (hx : isDg x = false) (h45 : x ≠ 45) : x ∉ Lib.itoa n := by
  unfold Lib.itoa
  split
  · simp only [List.mem_cons, not_or]; exact ⟨h45, dec_no _ hx⟩
  · exact dec_no _ hx
theorem itoa_back (n : Int) (h : n.natAbs ≤ 9999999999) : numB (Lib.itoa n) = true ∧ numV (Lib.itoa n) = n := by
  have hl : (Lib.decDigits n.natAbs).length ≤ 10 := dec_len 9 _ (by omega)
  have hl1 : 1 ≤ (Lib.decDigits n.natAbs).length := by
    have := dec_ne n.natAbs
    cases hd : Lib.decDigits n.natAbs with
    | nil => exact absurd hd this
    | cons x t => simp
  have key : digs (Lib.itoa n) = Lib.decDigits n.natAbs ∧ numV (Lib.itoa n) = n := by
    by_cases hn : n < 0
    · have e : Lib.itoa n = 45 :: Lib.decDigits n.natAbs := by unfold Lib.itoa; rw [if_pos hn]
      have ed : digs (Lib.itoa n) = Lib.decDigits n.natAbs := by rw [e]; rfl
      refine ⟨ed, ?_⟩
      unfold numV
      rw [ed, dec_natV, if_pos (by rw [e]; rfl)]; omega
    · have e : Lib.itoa n = Lib.decDigits n.natAbs := by unfold Lib.itoa; rw [if_neg hn]; congr 1; omega
      have hh : (Lib.itoa n).head? ≠ some 45 := by rw [e]; exact dec_head _ (by decide)
      have ed : digs (Lib.itoa n) = Lib.decDigits n.natAbs := by unfold digs; rw [if_neg hh, e]
      refine ⟨ed, ?_⟩
      unfold numV
      rw [ed, dec_natV, if_neg hh]; omega
  have hD : digB' (Lib.itoa n) = true := digB_iff.2 (by rw [key.1]; exact ⟨hl1, hl, dec_all _⟩)
  refine ⟨?_, key.2⟩
  rw [← itoa_num hD, key.2]; simp
/-- the word of an entry that ends a provision -/
def repL : List UInt8 := [114, 101, 112, 101, 97, 108]
theorem repL_num : numB repL = false := by decide
def valL (p : Pv) : List UInt8 := if p.repeal then repL else Lib.itoa p.value
/-- the text of a provision -/
def fmtL (p : Pv) : List UInt8 := p.name.data.toList ++ 32 :: (valL p ++ 32 :: (Lib.itoa p.from' ++ 32 :: Lib.itoa p.entered))
theorem valL_no (p : Pv) {x : UInt8} (hx : isDg x = false) (h45 : x ≠ 45) (hr : x ∉ repL) : x ∉ valL p := by
  unfold valL
  split
  · exact hr
  · exact itoa_no _ hx h45
theorem fmt_words (p : Pv) (h : (32 : UInt8) ∉ p.name.data.toList) : spl 32 (fmtL p) = [p.name.data.toList, valL p, Lib.itoa p.from', Lib.itoa p.entered] := by
  unfold fmtL
  rw [spl_app _ h, spl_app _ (valL_no p (by decide) (by decide) (by decide)), spl_app _ (itoa_no _ (by decide) (by decide)), spl_none (itoa_no _ (by decide) (by decide))]
/-- what the four words of a text say -/
def wrdP (a b c d : List UInt8) : Option Pv :=
  if (10 : UInt8) ∈ a then none
  else if (numB b || b == repL) && numB c && numB d then some ⟨⟨a.toArray⟩, if numB b then numV b else 0, numV c, numV d, b == repL⟩ else none
/-- what a text says; none: it is no text of a provision -/
def rdP (s : List UInt8) : Option Pv :=
  match spl 32 s with
  | [a, b, c, d] => wrdP a b c d
  | _ => none
theorem rdP_four {s a b c d : List UInt8} (h : spl 32 s = [a, b, c, d]) : rdP s = wrdP a b c d := by unfold rdP; rw [h]
theorem rdP_not {s : List UInt8} (h : (spl 32 s).length ≠ 4) : rdP s = none := by
  unfold rdP
  split
  · rename_i e; rw [e] at h; exact absurd rfl h
  · rfl
theorem itoa_len' (n : Int) (h : n.natAbs ≤ 9223372036854775808) : (Lib.itoa n).length ≤ 22 := by
  have := dec_len 20 n.natAbs (Nat.lt_of_le_of_lt h (by decide))
  unfold Lib.itoa
  split
  · simp; omega
  · rename_i hn
    rw [show n.toNat = n.natAbs from by omega]; omega
theorem name_mem {s : ByteArray} (h : nameB s = true) : s.size ≤ 12 ∧ (32 : UInt8) ∉ s.data.toList ∧ (10 : UInt8) ∉ s.data.toList := by
  unfold nameB at h
  simp only [Bool.and_eq_true, decide_eq_true_eq, List.all_eq_true] at h
  obtain ⟨⟨⟨_, h12⟩, _⟩, ha⟩ := h
  refine ⟨h12, fun c => ?_, fun c => ?_⟩
  · have := ha _ c; exact absurd this (by decide)
  · have := ha _ c; exact absurd this (by decide)
theorem pv_all {p : Pv} (h : pvE p = 0) : nameB p.name = true ∧ (-1000000000 ≤ p.value ∧ p.value ≤ 1000000000) ∧ (0 ≤ p.from' ∧ p.from' ≤ 200000) ∧ 0 ≤ p.entered ∧ p.entered ≤ 200000 := by
  cases hn : nameB p.name with
  | false => rw [pvE_1 hn] at h; cases h
  | true =>
  cases h1 : inB p.value (-1000000000) 1000000000 with
  | false => rw [pvE_2 hn (.inl h1)] at h; cases h
  | true =>
  cases h2 : inB p.from' 0 200000 with
  | false => rw [pvE_2 hn (.inr (.inl h2))] at h; cases h
  | true =>
  cases h3 : inB p.entered 0 200000 with
  | false => rw [pvE_2 hn (.inr (.inr h3))] at h; cases h
  | true =>
  have e : ∀ {n a b : Int}, inB n a b = true → a ≤ n ∧ n ≤ b := fun h => by simpa [inB] using h
  exact ⟨rfl, e h1, e h2, e h3⟩
theorem pv_val0 {p : Pv} (h : pvE p = 0) (hr : p.repeal = true) : p.value = 0 := by
  by_cases hv : p.value = 0
  · exact hv
  · exfalso
    cases h1 : nameB p.name
    · rw [pvE_1 h1] at h; cases h
    · cases h2 : inB p.value (-1000000000) 1000000000
      · rw [pvE_2 h1 (Or.inl h2)] at h; cases h
      · cases h3 : inB p.from' 0 200000
        · rw [pvE_2 h1 (Or.inr (Or.inl h3))] at h; cases h
        · cases h4 : inB p.entered 0 200000
          · rw [pvE_2 h1 (Or.inr (Or.inr h4))] at h; cases h
          · rw [pvE_3 h1 h2 h3 h4, hr] at h
            have : (true && p.value != 0) = true := by simpa using hv
            rw [this, eI_t] at h; cases h
theorem rdP_fmt {p : Pv} (h : pvE p = 0) : rdP (fmtL p) = some p := by
  obtain ⟨hn, ⟨v0, v1⟩, ⟨f0, f1⟩, e0, e1⟩ := pv_all h
  obtain ⟨_, h32, h10⟩ := name_mem hn
  rw [rdP_four (fmt_words p h32)]
  have hv := fun hr => pv_val0 h hr
  obtain ⟨nm, v, fr, en, rp⟩ := p
  simp only at *
  obtain ⟨nf, ef⟩ := itoa_back fr (by omega)
  obtain ⟨ne, ee⟩ := itoa_back en (by omega)
  unfold wrdP
  rw [if_neg h10, nf, ne, ef, ee]
  cases rp with
  | true =>
    have hv0 : v = 0 := hv rfl
    subst hv0
    unfold valL
    simp only [if_true, repL_num, beq_self_eq_true]
    simp
  | false =>
    obtain ⟨nv, ev⟩ := itoa_back v (by omega)
    have hb : (Lib.itoa v == repL) = false := by
      rw [beq_eq_false_iff_ne]; intro c; rw [c, repL_num] at nv; cases nv
    unfold valL
    simp only [Bool.false_eq_true, if_false, nv, ev, hb]
    simp
theorem fmt_len (p : Pv) (hv : p.value.natAbs ≤ 9223372036854775808) (hf : p.from'.natAbs ≤ 9223372036854775808) (he : p.entered.natAbs ≤ 9223372036854775808) : (fmtL p).length ≤ p.name.size + 70 := by
  have a := itoa_len' p.value hv
  have b := itoa_len' p.from' hf
  have c := itoa_len' p.entered he
  have d : (valL p).length ≤ 22 := by
    unfold valL
    split
    · decide
    · exact a
  have e : p.name.data.toList.length = p.name.size := (Lib.size_eq _).symm
  unfold fmtL
  simp only [List.length_append, List.length_cons]
  omega
end Go.Proofs.YtpfekgmimfkjcaaGreatDoor
