/-
  Plain arithmetic: every number from 0 on is the number of one right date. No program is named here.
-/
import Derived.Test.YtpfekgmimfkjcaaGreatDoorCal
namespace Go.Proofs.YtpfekgmimfkjcaaGreatDoor.Cal
/-- every number from 0 on is that of a right date -/
theorem ex : ∀ n : Nat, ∃ p : Int × Int × Int, 1800 ≤ p.1 ∧ ok p.1 p.2.1 p.2.2 ∧ num p.1 p.2.1 p.2.2 = n
  | 0 => ⟨(1800, 1, 1), by decide, by unfold ok; decide, by decide⟩
  | n + 1 => by
    obtain ⟨⟨y, m, d⟩, hy, hk, hn⟩ := ex n
    simp only at hy hk hn
    obtain ⟨a, b, c, e⟩ := hk
    by_cases h : d < md y m
    · exact ⟨(y, m, d + 1), hy, ⟨a, b, by simp only; omega, by simp only; omega⟩, by unfold num at hn ⊢; simp only; omega⟩
    · have hd : d = md y m := by omega
      by_cases hm : m < 12
      · have := md_bd y (m + 1); have cs := cum_succ y m a b
        exact ⟨(y, m + 1, 1), hy, ⟨by simp only; omega, by simp only; omega, by simp only; omega, by simp only; omega⟩, by unfold num at hn ⊢; simp only; omega⟩
      · have h12 : m = 12 := by omega
        subst h12
        have := md_bd (y + 1) 1; have cs := cum_succ y 12 (by omega) (by omega); have c1 := cum_1 (y + 1); have ns := ny_succ y
        rw [show (12 : Int) + 1 = 13 from rfl, cum_13] at cs
        exact ⟨(y + 1, 1, 1), by simp only; omega, ⟨by simp only; omega, by simp only; omega, by simp only; omega, by simp only; omega⟩, by unfold num at hn ⊢; simp only; omega⟩
/-- the date of a day -/
noncomputable def date (n : Int) : Int × Int × Int := Classical.choose (ex n.toNat)
noncomputable def yr (n : Int) : Int := (date n).1
noncomputable def mo (n : Int) : Int := (date n).2.1
noncomputable def da (n : Int) : Int := (date n).2.2
theorem date_spec (n : Int) (h : 0 ≤ n) : 1800 ≤ yr n ∧ ok (yr n) (mo n) (da n) ∧ num (yr n) (mo n) (da n) = n := by
  have t : 1800 ≤ yr n ∧ ok (yr n) (mo n) (da n) ∧ num (yr n) (mo n) (da n) = (n.toNat : Int) := Classical.choose_spec (ex n.toNat)
  exact ⟨t.1, t.2.1, t.2.2.trans (Int.toNat_of_nonneg h)⟩
theorem date_uniq {n y m d : Int} (h : 0 ≤ n) (hk : ok y m d) (hn : num y m d = n) : y = yr n ∧ m = mo n ∧ d = da n :=
  uniq hk (date_spec n h).2.1 (hn.trans (date_spec n h).2.2.symm)
theorem ok_num_lo {y m d : Int} (hk : ok y m d) : ny y ≤ num y m d ∧ num y m d < ny (y + 1) := ok_in y m d hk
theorem date_bd (n : Int) (h : 0 ≤ n) (h2 : n ≤ 1000000) : 1800 ≤ yr n ∧ yr n ≤ 4600 ∧ 1 ≤ mo n ∧ mo n ≤ 12 ∧ 1 ≤ da n ∧ da n ≤ 31 := by
  obtain ⟨a, b, c⟩ := date_spec n h
  have l := ok_num_lo b
  rw [c] at l
  obtain ⟨b1, b2, b3, b4⟩ := b
  have m := md_bd (yr n) (mo n)
  have := ny_lo (yr n)
  exact ⟨a, by omega, b1, b2, b3, by omega⟩
end Go.Proofs.YtpfekgmimfkjcaaGreatDoor.Cal
