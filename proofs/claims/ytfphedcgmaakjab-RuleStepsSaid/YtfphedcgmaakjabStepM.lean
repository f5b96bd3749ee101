/-
  Steps by working days. Plain mathematics.
-/
import Derived.Test.YtfphedcgmaakjabBetM
import Derived.Test.YtfphedcgmaakjabDl
import Derived.Test.YtfphedcgmaakjabCalLaw
namespace Go.Proofs.Ytfphedcgmaakjab
open Go.RowKit
theorem cont_add {P : Int → Bool} {s : Int} (hs : s = 1 ∨ s = -1) (e : Nat) : ∀ (m : Nat) (d a : Int) (c : Nat), rem s (d + s) ≤ m → cont P s d c = some a → cont P s d (c + e) = cont P s a e
  | m, d, a, 0, _, h => by
    unfold cont at h; rw [if_pos rfl] at h
    obtain rfl := Option.some.inj h
    rw [Nat.zero_add]
  | 0, d, a, c + 1, hm, h => by
    cases hin : inB (d + s) 0 200000
    · rw [cont_out (by omega) hin] at h; cases h
    · have := (rem_step hs hin).2; omega
  | m + 1, d, a, c + 1, hm, h => by
    cases hin : inB (d + s) 0 200000
    · rw [cont_out (by omega) hin] at h; cases h
    · have r := (rem_step hs hin).1
      cases hp : P (d + s)
      · rw [cont_no hs (by omega) hin hp] at h
        rw [cont_no hs (by omega) hin hp]
        exact cont_add hs e m (d + s) a (c + 1) (by omega) h
      · rw [cont_yes hs (by omega) hin hp] at h
        rw [cont_yes hs (by omega) hin hp, show c + 1 + e - 1 = c + e from by omega]
        exact cont_add hs e m (d + s) a c (by omega) h
theorem dl_one (P : Int → Bool) (a : Int) (k : Nat) : dl P a (k + 1) = (if P a then [a] else []) ++ dl P (a + 1) k := by
  rw [Nat.add_comm, dl_add]
  simp [dl]
/-- so many right days lie behind a day, up to the one that is reached -/
theorem cont_cnt {P : Int → Bool} : ∀ (m : Nat) (d a : Int) (c : Nat), rem 1 (d + 1) ≤ m → cont P 1 d c = some a → d ≤ a ∧ (dl P (d + 1) (a - d).toNat).length = c
  | m, d, a, 0, _, h => by
    unfold cont at h; rw [if_pos rfl] at h
    obtain rfl := Option.some.inj h
    refine ⟨Int.le_refl _, ?_⟩
    rw [show (d - d).toNat = 0 from by omega]; rfl
  | 0, d, a, c + 1, hm, h => by
    cases hin : inB (d + 1) 0 200000
    · rw [cont_out (by omega) hin] at h; cases h
    · have := (rem_step (Or.inl rfl) hin).2; omega
  | m + 1, d, a, c + 1, hm, h => by
    cases hin : inB (d + 1) 0 200000
    · rw [cont_out (by omega) hin] at h; cases h
    · have r := (rem_step (Or.inl rfl) hin).1
      cases hp : P (d + 1)
      · rw [cont_no (Or.inl rfl) (by omega) hin hp] at h
        obtain ⟨g1, g2⟩ := cont_cnt m (d + 1) a (c + 1) (by omega) h
        refine ⟨by omega, ?_⟩
        rw [show (a - d).toNat = (a - (d + 1)).toNat + 1 from by omega, dl_one, hp, List.length_append, g2]; simp
      · rw [cont_yes (Or.inl rfl) (by omega) hin hp] at h
        obtain ⟨g1, g2⟩ := cont_cnt m (d + 1) a c (by omega) h
        refine ⟨by omega, ?_⟩
        rw [show (a - d).toNat = (a - (d + 1)).toNat + 1 from by omega, dl_one, hp, List.length_append, g2]; simp; omega
theorem cont_P {P : Int → Bool} {s d a : Int} {c : Nat} (hc : 0 < c) (h : cont P s d c = some a) : P a = true ∧ inB a 0 200000 = true := by
  unfold cont at h
  rw [if_neg (by omega)] at h
  exact ⟨wg_mem _ _ _ (List.mem_of_getElem? h), wg_day _ _ _ (List.mem_of_getElem? h)⟩
theorem cont_mono {P : Int → Bool} {d d' a a' : Int} {c : Nat} (hd : d ≤ d') (h : cont P 1 d c = some a) (h' : cont P 1 d' c = some a') : a ≤ a' := by
  obtain ⟨g1, g2⟩ := cont_cnt _ d a c (Nat.le_refl _) h
  obtain ⟨k1, k2⟩ := cont_cnt _ d' a' c (Nat.le_refl _) h'
  by_cases hle : a ≤ a'
  · exact hle
  · exfalso
    by_cases hc : c = 0
    · subst hc
      unfold cont at h h'; rw [if_pos rfl] at h h'
      have := Option.some.inj h; have := Option.some.inj h'; omega
    · obtain ⟨hp, _⟩ := cont_P (by omega) h
      have e1 : dl P (d + 1) (a - d).toNat = dl P (d + 1) (d' - d).toNat ++ dl P (d' + 1) (a - d').toNat := by
        rw [show (a - d).toNat = (d' - d).toNat + (a - d').toNat from by omega, dl_add, show d + 1 + ((d' - d).toNat : Int) = d' + 1 from by omega]
      have e2 : dl P (d' + 1) (a - d').toNat = dl P (d' + 1) (a' - d').toNat ++ dl P (a' + 1) (a - a').toNat := by
        rw [show (a - d').toNat = (a' - d').toNat + (a - a').toNat from by omega, dl_add, show d' + 1 + ((a' - d').toNat : Int) = a' + 1 from by omega]
      have e3 : dl P (a' + 1) (a - a').toNat = dl P (a' + 1) (a - a' - 1).toNat ++ [a] := by
        rw [show (a - a').toNat = (a - a' - 1).toNat + 1 from by omega, dl, show a' + 1 + ((a - a' - 1).toNat : Int) = a from by omega, if_pos hp]
      rw [e1, e2, e3] at g2
      simp only [List.length_append, List.length_singleton] at g2
      omega
/-- a weekday -/
def wkB (d : Int) : Bool := decide ((d + 2) % 7 < 5)
theorem week (a : Int) : (dl wkB a 7).length = 5 := by
  have h : a % 7 = 0 ∨ a % 7 = 1 ∨ a % 7 = 2 ∨ a % 7 = 3 ∨ a % 7 = 4 ∨ a % 7 = 5 ∨ a % 7 = 6 := by omega
  have f : ∀ (i : Nat) (r : Bool), (∀ _ : True, decide ((a + i + 2) % 7 < 5) = r) → wkB (a + i) = r := fun i r h => h trivial
  simp only [dl]
  rcases h with h | h | h | h | h | h | h
  all_goals
    unfold wkB
    simp only [decide_eq_true_eq]
    repeat (first | rw [if_pos (by omega)] | rw [if_neg (by omega)])
    simp
theorem weeks (a : Int) : ∀ j : Nat, (dl wkB a (7 * j)).length = 5 * j
  | 0 => rfl
  | j + 1 => by rw [show 7 * (j + 1) = 7 * j + 7 from by omega, dl_add, List.length_append, weeks a j, week]; omega
theorem dl_split (W Q : Int → Bool) (a : Int) : ∀ k, (dl W a k).length ≤ (dl (fun d => W d && !Q d) a k).length + (dl Q a k).length
  | 0 => Nat.zero_le _
  | k + 1 => by
    have := dl_split W Q a k
    simp only [dl, List.length_append]
    by_cases hW : W (a + k) = true <;> by_cases hQ : Q (a + k) = true <;> simp [hW, hQ] <;> omega
theorem dl_dfr (l : List Hd) (a : Int) : ∀ k, dl (anyB l) a k = dfr l a k
  | 0 => rfl
  | k + 1 => by rw [dl, dfr, dl_dfr l a k]
theorem year_many {l : List Hd} (hv : ∀ h ∈ l, hkE h = 0) (h8 : l.length ≤ 8) {y : Int} (h0 : 1800 ≤ y) (h9 : y ≤ 2346) : 252 ≤ (dl (workB l) (Cal.ny y) 364).length := by
  have h1 := dl_split wkB (anyB l) (Cal.ny y) 364
  have h2 := weeks (Cal.ny y) 52
  have e : (fun d => wkB d && !anyB l d) = workB l := rfl
  rw [e] at h1
  have h3 : (dl (anyB l) (Cal.ny y) 364).length ≤ 8 := by
    have g := year_days hv h0 h9
    have hy := Cal.ny_succ y
    have hl := Cal.lp_01 y
    rw [show (Cal.ny (y + 1) - Cal.ny y).toNat = 364 + ((Cal.ny (y + 1) - Cal.ny y).toNat - 364) from by omega, ← dl_dfr, dl_add] at g
    have q := congrArg List.length g
    rw [List.length_append] at q
    have := once_len' (hdays l y)
    have := hdays_le l y l.length
    rw [List.take_length] at this
    omega
  rw [show 7 * 52 = 364 from rfl] at h2
  omega
theorem cont_ex {l : List Hd} (hv : ∀ h ∈ l, hkE h = 0) (h8 : l.length ≤ 8) {d : Int} (h0 : -1 ≤ d) (h9 : d ≤ 199000) {c : Nat} (hc : c ≤ 200) : ∃ x, cont (workB l) 1 d c = some x := by
  by_cases hz : c = 0
  · subst hz; exact ⟨d, by unfold cont; rw [if_pos rfl]⟩
  · have hy : ∃ y, 1800 ≤ y ∧ y ≤ 2346 ∧ d + 1 ≤ Cal.ny y ∧ Cal.ny y ≤ d + 367 := by
      by_cases hd : d = -1
      · exact ⟨1800, by omega, by omega, by rw [Cal.ny_1800]; omega, by rw [Cal.ny_1800]; omega⟩
      · obtain ⟨y18, _, _⟩ := Cal.date_spec d (by omega)
        obtain ⟨g1, g2⟩ := yr_in d (by omega)
        have s := Cal.ny_succ (Cal.yr d)
        have lp := Cal.lp_01 (Cal.yr d)
        refine ⟨Cal.yr d + 1, by omega, ?_, by omega, by omega⟩
        by_cases q : Cal.yr d + 1 ≤ 2346
        · exact q
        · have := Cal.ny_mono 2346 (Cal.yr d) (by omega)
          have e : Cal.ny 2346 = 199422 := by decide +kernel
          omega
    obtain ⟨y, a1, a2, a3, a4⟩ := hy
    have m := year_many hv h8 a1 a2
    have hb : Cal.ny y + 364 ≤ 200001 := by
      have := Cal.ny_mono y 2346 a2
      have e : Cal.ny 2346 = 199422 := by decide +kernel
      omega
    have e := wg_dl (workB l) (d + 1) 200001 (by omega) ((Cal.ny y - (d + 1)).toNat + 364) (by omega) (by omega)
    rw [dl_add, show d + 1 + ((Cal.ny y - (d + 1)).toNat : Int) = Cal.ny y from by omega] at e
    unfold cont
    rw [if_neg hz]
    have hlen : c - 1 < (wg (workB l) 1 200001 (d + 1)).length := by
      rw [e]; simp only [List.length_append]; omega
    exact ⟨_, List.getElem?_eq_getElem hlen⟩
theorem ms_up (N : Int) : ∀ j : Nat, Cal.ms (N + j) ≤ Cal.ms N + 31 * j
  | 0 => by simp
  | j + 1 => by
    have h := ms_up N j
    have s := Cal.ms_succ (N + j)
    have b := Cal.ml_bd (N + j)
    rw [show N + ((j + 1 : Nat) : Int) = N + j + 1 from by omega]
    omega
theorem day_ms {n : Int} (h0 : 0 ≤ n) : n = Cal.ms (mnum n) + Cal.da n - 1 ∧ 1 ≤ Cal.da n := by
  obtain ⟨_, hk, hn⟩ := Cal.date_spec n h0
  obtain ⟨m1, m12, d1, _⟩ := hk
  rw [Cal.num_ms _ _ _ m1 m12] at hn
  exact ⟨hn.symm, d1⟩
theorem mlt_up {n k : Int} (h0 : 0 ≤ n) (k0 : 0 ≤ k) (k9 : k ≤ 60) : mlt n k ≤ n + 1900 := by
  obtain ⟨h1, h2⟩ := day_ms h0
  have h3 := (Cal.lt_in (mnum n + k) (Cal.da n) h2).2
  have h4 := ms_up (mnum n) (k + 1).toNat
  rw [show mnum n + ((k + 1).toNat : Int) = mnum n + k + 1 from by omega] at h4
  unfold mlt
  omega
theorem mlt_lo {n k : Int} (h0 : 0 ≤ n) (k0 : 0 ≤ k) : n ≤ mlt n k := by
  by_cases hk : k = 0
  · subst hk; rw [mlt_z h0]; exact Int.le_refl _
  · have h2 := (day_ms h0).2
    have := Cal.lt_mono (mnum n + 0) (mnum n + k) (Cal.da n) h2 (by omega)
    have e := mlt_z h0
    unfold mlt at e ⊢
    omega
where
  mlt_z {n : Int} (h0 : 0 ≤ n) : mlt n 0 = n := by
    obtain ⟨_, hk, hn⟩ := Cal.date_spec n h0
    unfold mlt mnum
    rw [Int.add_zero, Cal.lt_0 _ _ _ hk, hn]
theorem mlt_next {n k : Int} (h0 : 0 ≤ n) : mlt n k ≤ mlt (n + 1) k := by
  obtain ⟨h1, h2⟩ := day_ms h0
  obtain ⟨g1, g2⟩ := day_ms (n := n + 1) (by omega)
  obtain ⟨_, hk, hn⟩ := Cal.date_spec n h0
  obtain ⟨_, hk', hn'⟩ := Cal.date_spec (n + 1) (by omega)
  have le : mnum n ≤ mnum (n + 1) := Cal.months_le hk hk' (by omega)
  by_cases e : mnum n = mnum (n + 1)
  · unfold mlt Cal.lt
    rw [← e] at g1 ⊢
    omega
  · have a := (Cal.lt_in (mnum n + k) (Cal.da n) h2).2
    have b := (Cal.lt_in (mnum (n + 1) + k) (Cal.da (n + 1)) g2).1
    have c := Cal.ms_mono (mnum n + k + 1) (mnum (n + 1) + k) (by omega)
    unfold mlt
    omega
theorem cal8 {l : List Hd} (hb : calB l = true) (he : chE l = 0) : l.length ≤ 8 := by
  obtain ⟨l40, _⟩ := chE_each he
  simp only [calB, Bool.and_eq_true, Bool.not_eq_true', Bool.or_eq_false_iff, decide_eq_false_iff_not] at hb
  have h1 := hb.1.1
  by_cases g : l.length ≤ 8
  · exact g
  · exfalso
    have a1 : decide (8 < l.length) = true := by simp; omega
    have a2 : decide (l.length ≤ 40) = true := by simpa using l40
    simp [a1, a2] at h1
end Go.Proofs.Ytfphedcgmaakjab
