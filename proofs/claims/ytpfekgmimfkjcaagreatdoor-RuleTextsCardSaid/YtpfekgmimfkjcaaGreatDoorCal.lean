/-
  Plain arithmetic of the calendar: leap years, months, the number of a date, so many months later. No program is named here.
-/
namespace Go.Proofs.YtpfekgmimfkjcaaGreatDoor.Cal
def leap (y : Int) : Bool := (y % 4 == 0 && y % 100 != 0) || y % 400 == 0
def lp (y : Int) : Int := if leap y then 1 else 0
def md (y m : Int) : Int := if m = 2 then 28 + lp y else if m = 4 ∨ m = 6 ∨ m = 9 ∨ m = 11 then 30 else 31
def lb (y : Int) : Int := (y - 1) / 4 - (y - 1) / 100 + (y - 1) / 400
def ny (y : Int) : Int := 365 * (y - 1800) + lb y - lb 1800
def cum (y m : Int) : Int :=
  (if m ≤ 1 then 0 else if m = 2 then 31 else if m = 3 then 59 else if m = 4 then 90 else if m = 5 then 120 else if m = 6 then 151 else if m = 7 then 181
   else if m = 8 then 212 else if m = 9 then 243 else if m = 10 then 273 else if m = 11 then 304 else if m = 12 then 334 else 365) + (if 2 < m then lp y else 0)
def num (y m d : Int) : Int := ny y + cum y m + d - 1

theorem lp_01 (y : Int) : 0 ≤ lp y ∧ lp y ≤ 1 := by unfold lp; split <;> omega
theorem lp_eq (y : Int) : lp y = if (y % 4 = 0 ∧ ¬ y % 100 = 0) ∨ y % 400 = 0 then 1 else 0 := by
  unfold lp leap; simp
theorem md_bd (y m : Int) : 28 ≤ md y m ∧ md y m ≤ 31 := by have := lp_01 y; unfold md; split; omega; split <;> omega
theorem lb_succ (y : Int) : lb (y + 1) = lb y + lp y := by
  rw [lp_eq]; unfold lb; split <;> omega
theorem ny_succ (y : Int) : ny (y + 1) = ny y + 365 + lp y := by
  have := lb_succ y; unfold ny; omega
theorem cum_succ (y m : Int) (h1 : 1 ≤ m) (h2 : m ≤ 12) : cum y (m + 1) = cum y m + md y m := by
  have h : m = 1 ∨ m = 2 ∨ m = 3 ∨ m = 4 ∨ m = 5 ∨ m = 6 ∨ m = 7 ∨ m = 8 ∨ m = 9 ∨ m = 10 ∨ m = 11 ∨ m = 12 := by omega
  rcases h with h | h | h | h | h | h | h | h | h | h | h | h <;> subst h <;> simp [cum, md] <;> omega
theorem cum_1 (y : Int) : cum y 1 = 0 := by simp [cum]
theorem cum_13 (y : Int) : cum y 13 = 365 + lp y := by simp [cum]
theorem ny_1800 : ny 1800 = 0 := by simp [ny]
theorem ny_lo (y : Int) : 365 * (y - 1800) ≤ ny y ∨ y < 1800 := by unfold ny lb; omega
theorem ny_guess (d : Int) (h : 0 ≤ d) : ny (1800 + d / 366) ≤ d := by
  unfold ny lb; omega
theorem ny_bd (y : Int) (h : 1 ≤ y) (h2 : y ≤ 10000) : -1000000 ≤ ny y ∧ ny y ≤ 4000000 := by unfold ny lb; omega
theorem ny_mono (a b : Int) (h : a ≤ b) : ny a ≤ ny b := by unfold ny lb; omega
theorem cum_bd (y m : Int) (h1 : 1 ≤ m) (h2 : m ≤ 13) : 0 ≤ cum y m ∧ cum y m ≤ 366 := by
  have := lp_01 y
  have h : m = 1 ∨ m = 2 ∨ m = 3 ∨ m = 4 ∨ m = 5 ∨ m = 6 ∨ m = 7 ∨ m = 8 ∨ m = 9 ∨ m = 10 ∨ m = 11 ∨ m = 12 ∨ m = 13 := by omega
  rcases h with h | h | h | h | h | h | h | h | h | h | h | h | h <;> subst h <;> simp [cum] <;> omega
theorem cum_mono' (y a : Int) (h1 : 1 ≤ a) : ∀ n : Nat, a + n ≤ 13 → cum y a ≤ cum y (a + n)
  | 0, _ => by simp
  | n + 1, h => by
    have ih := cum_mono' y a h1 n (by omega)
    have s := cum_succ y (a + n) (by omega) (by omega)
    have b := md_bd y (a + n)
    rw [show a + ((n + 1 : Nat) : Int) = a + n + 1 from by omega]; omega
theorem cum_mono (y a b : Int) (h1 : 1 ≤ a) (h : a ≤ b) (h2 : b ≤ 13) : cum y a ≤ cum y b := by
  have := cum_mono' y a h1 (b - a).toNat (by omega)
  rwa [show a + ((b - a).toNat : Int) = b from by omega] at this
/-- a valid date -/
def ok (y m d : Int) : Prop := 1 ≤ m ∧ m ≤ 12 ∧ 1 ≤ d ∧ d ≤ md y m
theorem ok_in (y m d : Int) (h : ok y m d) : ny y ≤ num y m d ∧ num y m d < ny (y + 1) := by
  obtain ⟨a, b, c, e⟩ := h
  have h1 := cum_succ y m a b
  have h2 := cum_mono y (m+1) 13 (by omega) (by omega) (by omega)
  have h3 := cum_bd y m a (by omega)
  rw [cum_13] at h2
  rw [ny_succ]; unfold num; omega
theorem uniq {y m d y' m' d' : Int} (h : ok y m d) (h' : ok y' m' d') (e : num y m d = num y' m' d') : y = y' ∧ m = m' ∧ d = d' := by
  have a := ok_in y m d h
  have a' := ok_in y' m' d' h'
  have hy : y = y' := by
    rcases Int.lt_trichotomy y y' with g | g | g
    · have := ny_mono (y+1) y' (by omega); omega
    · exact g
    · have := ny_mono (y'+1) y (by omega); omega
  subst hy
  obtain ⟨p, q, r, s⟩ := h
  obtain ⟨p', q', r', s'⟩ := h'
  have hm : m = m' := by
    rcases Int.lt_trichotomy m m' with g | g | g
    · have := cum_mono y (m+1) m' (by omega) (by omega) (by omega); have := cum_succ y m p q; unfold num at e; omega
    · exact g
    · have := cum_mono y (m'+1) m (by omega) (by omega) (by omega); have := cum_succ y m' p' q'; unfold num at e; omega
  subst hm
  exact ⟨rfl, rfl, by unfold num at e; omega⟩
theorem lp_400 (y : Int) : lp (y + 400) = lp y := by rw [lp_eq, lp_eq]; have h1 : (y+400) % 4 = y % 4 := by omega
                                                     have h2 : (y+400) % 100 = y % 100 := by omega
                                                     have h3 : (y+400) % 400 = y % 400 := by omega
                                                     rw [h1, h2, h3]
theorem ny_400 (y : Int) : ny (y + 400) = ny y + 146097 := by unfold ny lb; omega
theorem md_400 (y m : Int) : md (y + 400) m = md y m := by unfold md; rw [lp_400]
theorem cum_400 (y m : Int) : cum (y + 400) m = cum y m := by unfold cum; rw [lp_400]
/-- so many months later -/
def later (y m d n : Int) : Int := num ((y * 12 + m - 1 + n) / 12) ((y * 12 + m - 1 + n) % 12 + 1) (min d (md ((y * 12 + m - 1 + n) / 12) ((y * 12 + m - 1 + n) % 12 + 1)))
theorem later_4800 (y m d : Int) (h : ok y m d) : later y m d 4800 = num y m d + 146097 := by
  obtain ⟨a, b, c, e⟩ := h
  unfold later
  rw [show (y * 12 + m - 1 + 4800) / 12 = y + 400 from by omega, show (y * 12 + m - 1 + 4800) % 12 + 1 = m from by omega, md_400, Int.min_eq_left e]
  unfold num; rw [ny_400, cum_400]; omega
/-- the first day of a month counted over the years, and its length -/
def ms (N : Int) : Int := ny (N / 12) + cum (N / 12) (N % 12 + 1)
def ml (N : Int) : Int := md (N / 12) (N % 12 + 1)
theorem ms_succ (N : Int) : ms (N + 1) = ms N + ml N := by
  unfold ms ml
  by_cases h : N % 12 = 11
  · rw [show (N + 1) / 12 = N / 12 + 1 from by omega, show (N + 1) % 12 + 1 = 1 from by omega, h, ny_succ, cum_1]
    have := cum_succ (N / 12) 12 (by omega) (by omega)
    rw [show (12 : Int) + 1 = 13 from rfl, cum_13] at this
    rw [show (11 : Int) + 1 = 12 from rfl]; omega
  · rw [show (N + 1) / 12 = N / 12 from by omega, show (N + 1) % 12 + 1 = N % 12 + 1 + 1 from by omega, cum_succ _ _ (by omega) (by omega)]; omega
theorem ml_bd (N : Int) : 28 ≤ ml N ∧ ml N ≤ 31 := md_bd _ _
theorem ms_mono' (N : Int) : ∀ n : Nat, ms N ≤ ms (N + n)
  | 0 => by simp
  | n + 1 => by
    have ih := ms_mono' N n
    have := ms_succ (N + n); have := ml_bd (N + n)
    rw [show N + ((n + 1 : Nat) : Int) = N + n + 1 from by omega]; omega
theorem ms_mono (a b : Int) (h : a ≤ b) : ms a ≤ ms b := by
  have := ms_mono' a (b - a).toNat
  rwa [show a + ((b - a).toNat : Int) = b from by omega] at this
theorem num_ms (y m d : Int) (h1 : 1 ≤ m) (h2 : m ≤ 12) : num y m d = ms (y * 12 + m - 1) + d - 1 := by
  unfold num ms; rw [show (y * 12 + m - 1) / 12 = y from by omega, show (y * 12 + m - 1) % 12 + 1 = m from by omega]
theorem md_ml (y m : Int) (h1 : 1 ≤ m) (h2 : m ≤ 12) : md y m = ml (y * 12 + m - 1) := by
  unfold ml; rw [show (y * 12 + m - 1) / 12 = y from by omega, show (y * 12 + m - 1) % 12 + 1 = m from by omega]
/-- the day d of a month, or its last one -/
def lt (N d : Int) : Int := ms N + min d (ml N) - 1
theorem later_lt (y m d n : Int) : later y m d n = lt (y * 12 + m - 1 + n) d := rfl
theorem lt_in (N d : Int) (h : 1 ≤ d) : ms N ≤ lt N d ∧ lt N d < ms (N + 1) := by
  have := ml_bd N; rw [ms_succ]; unfold lt; omega
theorem lt_0 (y m d : Int) (h : ok y m d) : lt (y * 12 + m - 1) d = num y m d := by
  obtain ⟨a, b, c, e⟩ := h
  rw [num_ms _ _ _ a b]; rw [md_ml _ _ a b] at e; unfold lt; omega
theorem lt_mono (N K d : Int) (h : 1 ≤ d) (hk : N < K) : lt N d < lt K d := by
  have a := lt_in N d h; have b := lt_in K d h; have := ms_mono (N + 1) K (by omega); omega
/-- two dates in order have their months in order, and the one's month from there on ends behind it -/
theorem months_le {y m d y' m' d' : Int} (h : ok y m d) (h' : ok y' m' d') (e : num y m d ≤ num y' m' d') : y * 12 + m - 1 ≤ y' * 12 + m' - 1 := by
  obtain ⟨a, b, c, f⟩ := h; obtain ⟨a', b', c', f'⟩ := h'
  rw [num_ms _ _ _ a b, num_ms _ _ _ a' b'] at e
  rw [md_ml _ _ a' b'] at f'
  by_cases g : y * 12 + m - 1 ≤ y' * 12 + m' - 1
  · exact g
  · exfalso
    have := ms_mono (y' * 12 + m' - 1 + 1) (y * 12 + m - 1) (by omega)
    rw [ms_succ] at this; omega
/-- the months' difference, K - N, is right or by one too great -/
theorem age_step {y' m' d' : Int} (d : Int) (hd : 1 ≤ d) (h' : ok y' m' d') : lt (y' * 12 + m' - 1 - 1) d < num y' m' d' ∧ num y' m' d' < lt (y' * 12 + m' - 1 + 1) d := by
  obtain ⟨a', b', c', f'⟩ := h'
  rw [num_ms _ _ _ a' b']; rw [md_ml _ _ a' b'] at f'
  have h1 := lt_in (y' * 12 + m' - 1 - 1) d hd
  have h2 := lt_in (y' * 12 + m' - 1 + 1) d hd
  have h3 := ms_succ (y' * 12 + m' - 1)
  rw [show y' * 12 + m' - 1 - 1 + 1 = y' * 12 + m' - 1 from by omega] at h1
  omega
theorem num_lo (N d : Int) (h : 1 ≤ d) (h0 : lt N d < 0 ∨ N < 21600) : N < 21600 := by
  rcases h0 with h0 | h0
  · by_cases g : N < 21600
    · exact g
    · have a := lt_in N d h; have b := ms_mono 21600 N (by omega); have : ms 21600 = 0 := by decide
      omega
  · exact h0
theorem lt_neg (N d : Int) (h : 1 ≤ d) (h0 : N < 21600) : lt N d < 0 := by
  have a := lt_in N d h; have b := ms_mono (N + 1) 21600 (by omega); have : ms 21600 = 0 := by decide
  omega
theorem lt_nonneg (N d : Int) (h : 1 ≤ d) (h0 : 21600 ≤ N) : 0 ≤ lt N d := by
  have a := lt_in N d h; have b := ms_mono 21600 N (by omega); have : ms 21600 = 0 := by decide
  omega
/-- behind the year 2347 there is no day -/
theorem lt_big (N d : Int) (h : 1 ≤ d) (h0 : 2348 * 12 ≤ N) : 200000 < lt N d := by
  have a := lt_in N d h; have b := ms_mono (2348 * 12) N (by omega); have : ms (2348 * 12) = 200152 := by decide
  omega
end Go.Proofs.YtpfekgmimfkjcaaGreatDoor.Cal
