/-
  The holidays of a year, told in two ways: day by day, and holiday by holiday. Plain mathematics.
-/
import Derived.Test.YtfphedcgmaakjaaGreatDoorHols
import Derived.Test.YtfphedcgmaakjaaGreatDoorLawEaster
import Derived.Lib.SlicesCompact
namespace Go.Proofs.YtfphedcgmaakjaaGreatDoor
open Cal
/-- a holiday that is a certain weekday of a month, in a year -/
def wkd (h : Hd) (y : Int) : Int :=
  if h.day = -1 then num y h.month (md y h.month) - ((num y h.month (md y h.month) + 2) % 7 - h.weekday + 7) % 7
  else num y h.month 1 + (h.weekday - (num y h.month 1 + 2) % 7 + 7) % 7 + (h.day - 1) * 7
/-- the day of a holiday in a year, if there is one -/
def hday (h : Hd) (y : Int) : Option Int :=
  if h.kind = 1 then some (est y + h.day) else if h.kind = 2 then some (wkd h y) else if h.day ≤ md y h.month then some (num y h.month h.day) else none
def hdays (l : List Hd) (y : Int) : List Int := l.filterMap fun h => hday h y
/-- a day is a holiday -/
noncomputable def isB (h : Hd) (n : Int) : Bool :=
  if h.kind = 0 then decide (mo n = h.month) && decide (da n = h.day)
  else if h.kind = 1 then decide (n = est (yr n) + h.day)
  else (decide (mo n = h.month) && decide ((n + 2) % 7 = h.weekday)) && (if h.day < 0 then decide (md (yr n) (mo n) < da n + 7) else decide ((da n - 1) / 7 = h.day - 1))
theorem hk_facts {h : Hd} (hv : hkE h = 0) :
    (h.kind = 0 ∧ 1 ≤ h.month ∧ h.month ≤ 12 ∧ 1 ≤ h.day ∧ h.day ≤ md 2000 h.month) ∨ (h.kind = 1 ∧ -80 ≤ h.day ∧ h.day ≤ 240) ∨
    (h.kind = 2 ∧ 1 ≤ h.month ∧ h.month ≤ 12 ∧ ((1 ≤ h.day ∧ h.day ≤ 4) ∨ h.day = -1) ∧ 0 ≤ h.weekday ∧ h.weekday ≤ 6) := by
  unfold hkE at hv
  by_cases k0 : h.kind = 0
  · rw [if_pos k0] at hv
    cases hb : (inB h.month 1 12 && inB h.day 1 (Cal.md 2000 h.month))
    · rw [hb] at hv; simp [feE, eI] at hv
    · simp only [Bool.and_eq_true, inB_iff] at hb
      exact .inl ⟨k0, hb.1.1, hb.1.2, hb.2.1, hb.2.2⟩
  · rw [if_neg k0] at hv
    by_cases k1 : h.kind = 1
    · rw [if_pos k1] at hv
      cases hb : inB h.day (-80) 240
      · rw [hb] at hv; simp [feE, eI] at hv
      · rw [inB_iff] at hb
        exact .inr (.inl ⟨k1, hb.1, hb.2⟩)
    · rw [if_neg k1] at hv
      by_cases k2 : h.kind = 2
      · rw [if_pos k2] at hv
        cases hb : inB h.month 1 12
        · rw [hb] at hv; simp [feE, eI] at hv
        · cases hc : ((inB h.day 1 4 || h.day == -1) && inB h.weekday 0 6)
          · rw [hb, hc] at hv; simp [feE, eI] at hv
          · simp only [Bool.and_eq_true, Bool.or_eq_true, inB_iff, beq_iff_eq] at hb hc
            exact .inr (.inr ⟨k2, hb.1, hb.2, hc.1, hc.2.1, hc.2.2⟩)
      · rw [if_neg k2] at hv; cases hv
theorem num_first (y m d : Int) : num y m d = num y m 1 + d - 1 := by unfold num; omega
theorem isB_iff {h : Hd} {n : Int} (hv : hkE h = 0) (hn : 0 ≤ n) : isB h n = true ↔ hday h (yr n) = some n := by
  obtain ⟨h18, hok, hnum⟩ := date_spec n hn
  obtain ⟨o1, o2, o3, o4⟩ := hok
  rcases hk_facts hv with ⟨k, m1, m2, d1, d2⟩ | ⟨k, d1, d2⟩ | ⟨k, m1, m2, dd, w1, w2⟩
  · unfold isB hday
    have n1 : ¬ h.kind = 1 := by omega
    have n2 : ¬ h.kind = 2 := by omega
    rw [if_pos k, if_neg n1, if_neg n2]
    simp only [Bool.and_eq_true, decide_eq_true_eq]
    constructor
    · rintro ⟨a, b⟩
      rw [← a, ← b, if_pos o4, hnum]
    · intro e
      by_cases hle : h.day ≤ md (yr n) h.month
      · rw [if_pos hle] at e
        injection e with e
        obtain ⟨_, b, c⟩ := date_uniq hn ⟨m1, m2, d1, hle⟩ e
        exact ⟨b.symm, c.symm⟩
      · rw [if_neg hle] at e; cases e
  · unfold isB hday
    have n0 : ¬ h.kind = 0 := by omega
    rw [if_neg n0, if_pos k, if_pos k]
    simp only [decide_eq_true_eq, Option.some.injEq]
    exact ⟨fun e => e.symm, fun e => e.symm⟩
  · unfold isB hday
    have n0 : ¬ h.kind = 0 := by omega
    have n1 : ¬ h.kind = 1 := by omega
    rw [if_neg n0, if_neg n1, if_neg n1, if_pos k]
    have b := md_bd (yr n) h.month
    rw [num_first] at hnum
    have nf := num_first (yr n) h.month (md (yr n) h.month)
    unfold wkd
    rcases dd with ⟨d1, d2⟩ | dd
    · have nd : ¬ h.day = -1 := by omega
      have nd' : ¬ h.day < 0 := by omega
      rw [if_neg nd, if_neg nd']
      simp only [Bool.and_eq_true, decide_eq_true_eq, Option.some.injEq]
      constructor
      · rintro ⟨⟨a, e⟩, f⟩
        rw [a] at hnum
        omega
      · intro e
        have hk : ok (yr n) h.month (n - num (yr n) h.month 1 + 1) := ⟨m1, m2, by omega, by omega⟩
        obtain ⟨_, q, r⟩ := date_uniq hn hk (by rw [num_first]; omega)
        exact ⟨⟨q.symm, by omega⟩, by omega⟩
    · have nd' : h.day < 0 := by omega
      rw [if_pos dd, if_pos nd']
      simp only [Bool.and_eq_true, decide_eq_true_eq, Option.some.injEq]
      constructor
      · rintro ⟨⟨a, e⟩, f⟩
        rw [a] at hnum f o4
        omega
      · intro e
        have hk : ok (yr n) h.month (n - num (yr n) h.month 1 + 1) := ⟨m1, m2, by omega, by omega⟩
        obtain ⟨_, q, r⟩ := date_uniq hn hk (by rw [num_first]; omega)
        exact ⟨⟨q.symm, by omega⟩, by rw [← q]; omega⟩
/-- some holiday of a list is on a day -/
noncomputable def anyB (l : List Hd) (n : Int) : Bool := l.any fun h => isB h n
theorem any_iff {l : List Hd} {n : Int} (hv : ∀ h ∈ l, hkE h = 0) (hn : 0 ≤ n) : anyB l n = true ↔ n ∈ hdays l (yr n) := by
  unfold anyB hdays
  rw [List.any_eq_true, List.mem_filterMap]
  exact ⟨fun ⟨h, hm, hb⟩ => ⟨h, hm, (isB_iff (hv h hm) hn).1 hb⟩, fun ⟨h, hm, hb⟩ => ⟨h, hm, (isB_iff (hv h hm) hn).2 hb⟩⟩
theorem yr_of {n y : Int} (hn : 0 ≤ n) (h1 : ny y ≤ n) (h2 : n < ny (y + 1)) : yr n = y := by
  obtain ⟨_, hok, hnum⟩ := date_spec n hn
  have a := ok_in _ _ _ hok
  rw [hnum] at a
  rcases Int.lt_trichotomy (yr n) y with g | g | g
  · have := ny_mono (yr n + 1) y (by omega); omega
  · exact g
  · have := ny_mono (y + 1) (yr n) (by omega); omega
theorem yr_in (n : Int) (hn : 0 ≤ n) : ny (yr n) ≤ n ∧ n < ny (yr n + 1) := by
  obtain ⟨_, hok, hnum⟩ := date_spec n hn
  have a := ok_in _ _ _ hok
  rwa [hnum] at a
/-- Easter lies so far from the year's ends -/
theorem est_in {y : Int} (h0 : 1800 ≤ y) (h9 : y ≤ 2346) : ny y + 80 ≤ est y ∧ est y + 240 < ny (y + 1) := by
  obtain ⟨_, a, b⟩ := easterFacts_any h0 h9
  have l := lp_01 y
  rw [ny_succ]
  unfold est num
  have hm : en y / 31 = 3 ∨ en y / 31 = 4 := by omega
  rcases hm with h | h
  · rw [h]; have : cum y 3 = 59 + lp y := by simp [cum]
    omega
  · rw [h]; have : cum y 4 = 90 + lp y := by simp [cum]
    omega
theorem hday_in {h : Hd} {y x : Int} (hv : hkE h = 0) (h0 : 1800 ≤ y) (h9 : y ≤ 2346) (hx : hday h y = some x) : ny y ≤ x ∧ x < ny (y + 1) := by
  rcases hk_facts hv with ⟨k, m1, m2, d1, d2⟩ | ⟨k, d1, d2⟩ | ⟨k, m1, m2, dd, w1, w2⟩
  · unfold hday at hx
    rw [if_neg (by omega), if_neg (by omega)] at hx
    by_cases hle : h.day ≤ md y h.month
    · rw [if_pos hle] at hx; injection hx with hx; subst hx
      exact ok_in _ _ _ ⟨m1, m2, d1, hle⟩
    · rw [if_neg hle] at hx; cases hx
  · unfold hday at hx
    rw [if_pos k] at hx; injection hx with hx; subst hx
    have := est_in h0 h9
    omega
  · unfold hday at hx
    rw [if_neg (by omega), if_pos k] at hx; injection hx with hx; subst hx
    have b := md_bd y h.month
    have nf := num_first y h.month (md y h.month)
    unfold wkd
    rcases dd with ⟨d1, d2⟩ | dd
    · rw [if_neg (by omega)]
      have hk : ok y h.month ((h.weekday - (num y h.month 1 + 2) % 7 + 7) % 7 + (h.day - 1) * 7 + 1) := ⟨m1, m2, by omega, by omega⟩
      have := ok_in _ _ _ hk
      rw [num_first] at this
      omega
    · rw [if_pos dd]
      have hk : ok y h.month (md y h.month - ((num y h.month (md y h.month) + 2) % 7 - h.weekday + 7) % 7) := ⟨m1, m2, by omega, by omega⟩
      have := ok_in _ _ _ hk
      rw [num_first] at this
      omega
theorem ny_0 {y : Int} (h0 : 1800 ≤ y) : 0 ≤ ny y := by have := ny_mono 1800 y h0; rw [ny_1800] at this; exact this
theorem hdays_iff {l : List Hd} {y n : Int} (hv : ∀ h ∈ l, hkE h = 0) (h0 : 1800 ≤ y) (h9 : y ≤ 2346) : n ∈ hdays l y ↔ (ny y ≤ n ∧ n < ny (y + 1)) ∧ anyB l n = true := by
  constructor
  · intro hm
    have hi : ny y ≤ n ∧ n < ny (y + 1) := by
      unfold hdays at hm
      rw [List.mem_filterMap] at hm
      obtain ⟨h, hh, hx⟩ := hm
      exact hday_in (hv h hh) h0 h9 hx
    have n0 : 0 ≤ n := by have := ny_0 h0; omega
    refine ⟨hi, (any_iff hv n0).2 ?_⟩
    rw [yr_of n0 hi.1 hi.2]; exact hm
  · rintro ⟨hi, ha⟩
    have n0 : 0 ≤ n := by have := ny_0 h0; omega
    have := (any_iff hv n0).1 ha
    rwa [yr_of n0 hi.1 hi.2] at this
theorem sorted_ext : ∀ {a b : List Int}, a.Pairwise (· < ·) → b.Pairwise (· < ·) → (∀ x, x ∈ a ↔ x ∈ b) → a = b
  | [], [], _, _, _ => rfl
  | [], y :: b, _, _, h => absurd ((h y).2 (by simp)) (by simp)
  | x :: a, [], _, _, h => absurd ((h x).1 (by simp)) (by simp)
  | x :: a, y :: b, ha, hb, h => by
    obtain ⟨hx, ha'⟩ := List.pairwise_cons.1 ha
    obtain ⟨hy, hb'⟩ := List.pairwise_cons.1 hb
    have e : x = y := by
      have h1 := (h x).1 (by simp)
      have h2 := (h y).2 (by simp)
      rcases List.mem_cons.1 h1 with e | h1
      · exact e
      · rcases List.mem_cons.1 h2 with e | h2
        · exact e.symm
        · have := hx _ h2; have := hy _ h1; omega
    subst e
    congr 1
    refine sorted_ext ha' hb' fun z => ⟨fun hz => ?_, fun hz => ?_⟩
    · rcases List.mem_cons.1 ((h z).1 (List.mem_cons_of_mem _ hz)) with e | g
      · subst e; have := hx _ hz; omega
      · exact g
    · rcases List.mem_cons.1 ((h z).2 (List.mem_cons_of_mem _ hz)) with e | g
      · subst e; have := hy _ hz; omega
      · exact g
open Go.Lib in
theorem compact_aux (d : Array Int) (hs : ∀ i, i + 1 < d.size → d[i]! ≤ d[i + 1]!) : ∀ m, m ≤ d.size →
    (compactUpTo d m).Pairwise (· < ·) ∧ (∀ x, x ∈ compactUpTo d m ↔ ∃ j, j < m ∧ d[j]! = x) ∧ (∀ x ∈ compactUpTo d m, 0 < m ∧ x ≤ d[m - 1]!)
  | 0, _ => ⟨by simp [compactUpTo], fun x => by simp [compactUpTo], fun x hx => by simp [compactUpTo] at hx⟩
  | m + 1, hm => by
    obtain ⟨h1, h2, h3⟩ := compact_aux d hs m (by omega)
    have hle : 0 < m → d[m - 1]! ≤ d[m]! := fun h0 => by
      have := hs (m - 1) (by omega); rwa [show m - 1 + 1 = m from by omega] at this
    rw [compactUpTo_succ]
    cases hk : keeps d m
    · have hk' : 0 < m ∧ d[m]! = d[m - 1]! := by
        simp only [keeps, decide_eq_false_iff_not, not_or, ne_eq, Decidable.not_not] at hk
        exact ⟨by omega, hk.2⟩
      simp only [Bool.false_eq_true, if_false, List.append_nil]
      refine ⟨h1, fun x => ?_, fun x hx => ⟨by omega, ?_⟩⟩
      · rw [h2]
        constructor
        · rintro ⟨j, hj, e⟩; exact ⟨j, by omega, e⟩
        · rintro ⟨j, hj, e⟩
          by_cases g : j = m
          · subst g; exact ⟨j - 1, by omega, by rw [← hk'.2, e]⟩
          · exact ⟨j, by omega, e⟩
      · rw [Nat.add_sub_cancel]; have := h3 x hx; have := hle hk'.1; omega
    · simp only [if_true]
      refine ⟨?_, fun x => ?_, fun x hx => ⟨by omega, ?_⟩⟩
      · rw [List.pairwise_append]
        refine ⟨h1, by simp, fun a ha b hb => ?_⟩
        rw [List.mem_singleton] at hb
        subst hb
        obtain ⟨h0, ha⟩ := h3 a ha
        have hne : d[m]! ≠ d[m - 1]! := by
          simp only [keeps, decide_eq_true_eq] at hk
          rcases hk with e | e
          · omega
          · exact e
        have := hle h0
        omega
      · rw [List.mem_append, h2, List.mem_singleton]
        constructor
        · rintro (⟨j, hj, e⟩ | e)
          · exact ⟨j, by omega, e⟩
          · exact ⟨m, by omega, e.symm⟩
        · rintro ⟨j, hj, e⟩
          by_cases g : j = m
          · subst g; exact .inr e.symm
          · exact .inl ⟨j, by omega, e⟩
      · rw [Nat.add_sub_cancel]
        rw [List.mem_append, List.mem_singleton] at hx
        rcases hx with hx | hx
        · obtain ⟨h0, ha⟩ := h3 x hx; have := hle h0; omega
        · omega
theorem compact_sorted {l : List Int} (hs : l.Pairwise (· ≤ ·)) : (Lib.compact l).Pairwise (· < ·) ∧ ∀ x, x ∈ Lib.compact l ↔ x ∈ l := by
  obtain ⟨h1, h2, _⟩ := compact_aux l.toArray (fun i hi => by
    have hi' : i + 1 < l.length := by simpa using hi
    have := (List.pairwise_iff_getElem.1 hs) i (i + 1) (by omega) hi' (by omega)
    simpa [getElem!_pos, hi', show i < l.length from by omega] using this) l.length (by simp)
  refine ⟨h1, fun x => (h2 x).trans ?_⟩
  constructor
  · rintro ⟨j, hj, e⟩
    rw [← e]
    simp [getElem!_pos, hj]
  · intro hx
    obtain ⟨j, hj, e⟩ := List.mem_iff_getElem.1 hx
    exact ⟨j, hj, by simp [getElem!_pos, hj, e]⟩
/-- ascending, each once -/
def once (l : List Int) : List Int := Lib.compact (l.mergeSort fun x y => decide (x ≤ y))
theorem once_spec (l : List Int) : (once l).Pairwise (· < ·) ∧ ∀ x, x ∈ once l ↔ x ∈ l := by
  have hs : (l.mergeSort fun x y => decide (x ≤ y)).Pairwise (· ≤ ·) := by
    have := List.pairwise_mergeSort (le := fun x y : Int => decide (x ≤ y)) (fun a b c h1 h2 => by simp at *; omega) (fun a b => by simp; omega) l
    exact this.imp (fun h => by simpa using h)
  obtain ⟨a, b⟩ := compact_sorted hs
  exact ⟨a, fun x => (b x).trans (List.mem_mergeSort)⟩
/-- the days from a on, k of them, that are holidays -/
noncomputable def dfr (l : List Hd) (a : Int) : Nat → List Int
  | 0 => []
  | k + 1 => dfr l a k ++ (if anyB l (a + k) then [a + k] else [])
theorem dfr_spec (l : List Hd) (a : Int) : ∀ k, (dfr l a k).Pairwise (· < ·) ∧ ∀ x, x ∈ dfr l a k ↔ (a ≤ x ∧ x < a + k) ∧ anyB l x = true
  | 0 => ⟨List.Pairwise.nil, fun x => by simp [dfr]; omega⟩
  | k + 1 => by
    obtain ⟨h1, h2⟩ := dfr_spec l a k
    rw [dfr]
    refine ⟨?_, fun x => ?_⟩
    · split
      · rw [List.pairwise_append]
        refine ⟨h1, by simp, fun u hu v hv => ?_⟩
        rw [List.mem_singleton] at hv
        subst hv
        have := (h2 u).1 hu
        omega
      · rw [List.append_nil]; exact h1
    · rw [List.mem_append, h2]
      by_cases hx : x = a + k
      · subst hx
        cases hb : anyB l (a + k)
        · simp
        · simp; omega
      · constructor
        · rintro (⟨g, e⟩ | g)
          · exact ⟨by omega, e⟩
          · split at g
            · rw [List.mem_singleton] at g; exact absurd g hx
            · cases g
        · rintro ⟨g, e⟩
          exact .inl ⟨by omega, e⟩
/-- both ways tell the same days -/
theorem year_days {l : List Hd} {y : Int} (hv : ∀ h ∈ l, hkE h = 0) (h0 : 1800 ≤ y) (h9 : y ≤ 2346) : once (hdays l y) = dfr l (ny y) (ny (y + 1) - ny y).toNat := by
  obtain ⟨a1, a2⟩ := once_spec (hdays l y)
  obtain ⟨b1, b2⟩ := dfr_spec l (ny y) (ny (y + 1) - ny y).toNat
  have := ny_mono y (y + 1) (by omega)
  refine sorted_ext a1 b1 fun x => ?_
  rw [a2, b2, hdays_iff hv h0 h9]
  constructor
  · rintro ⟨g, e⟩; exact ⟨by omega, e⟩
  · rintro ⟨g, e⟩; exact ⟨by omega, e⟩
theorem chE_each {l : List Hd} (h : chE l = 0) : l.length ≤ 40 ∧ ∀ x ∈ l, hkE x = 0 := by
  by_cases h2 : 40 < l.length
  · unfold chE at h; rw [if_pos h2] at h; cases h
  · refine ⟨by omega, fun x hx => ?_⟩
    obtain ⟨i, hi, rfl⟩ := List.mem_iff_getElem.1 hx
    have key : ∀ n, n ≤ l.length → (∀ j, j < n → hbE l j = 0) ∨ chE l ≠ 0 := by
      intro n
      induction n with
      | zero => intro _; exact Or.inl (fun j hj => absurd hj (by omega))
      | succ n ih =>
        intro hn
        rcases ih (by omega) with ih | ih
        · by_cases hb0 : hbE l n = 0
          · refine Or.inl (fun j hj => ?_)
            by_cases e : j = n
            · subst e; exact hb0
            · exact ih j (by omega)
          · exact Or.inr (by rw [chE_no h2 (by omega) ih hb0]; exact hb0)
        · exact Or.inr ih
    rcases key l.length (Nat.le_refl _) with k | k
    · have := k i hi
      rw [hbE_at hi rfl] at this
      unfold hdE at this
      cases hn : nameB l[i].name
      · rw [hn] at this; simp at this
      · rw [hn] at this
        cases hs : hsn l i l[i].name
        · rw [hs] at this; simpa using this
        · rw [hs] at this; simp at this
    · exact absurd h k
end Go.Proofs.YtfphedcgmaakjaaGreatDoor
