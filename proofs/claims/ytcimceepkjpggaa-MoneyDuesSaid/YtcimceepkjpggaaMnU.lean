/-
  The order of the remainders (package money): comparisons by closures, the stable sort of few numbers; contracts.
-/
import Derived.Test.YtcimceepkjpggaaMnQ
import Derived.Test.YtcimceepkjpggaaShelf
import Derived.BigQuiet
namespace Go.Proofs.Ytcimceepkjpggaa
open Go.RowKit Go.Sort Go.Lib
attribute [local go_sem] set_drewN
/-- what a comparison tells -/
def cmpI (x y : Int) : Int := if x < y then -1 else if y < x then 1 else 0
theorem isNaN_any (x : Int) (w : World) : Calls Try.prog 93 #[.int .i64 x] w (Ret (.bool false) w) := by
  go_enter Try.func93, Try.ntmps93
  go_wp2
  go_ret
  exact ⟨rfl, rfl⟩
theorem Compare_any (x y : Int) (w : World) : Calls Try.prog 89 #[.int .i64 x, .int .i64 y] w (Ret (.int .i64 (cmpI x y)) w) := by
  unfold cmpI
  rcases (show x < y ∨ y < x ∨ x = y by omega) with h | h | h
  · rw [if_pos h]
    go_enter Try.func89, Try.ntmps89
    go_wp2_with (go_at_call 93; refine (isNaN_any _ _).mono ?_; rintro e w' ⟨rfl, rfl⟩)
    go_ret
    exact ⟨rfl, rfl⟩
  · have h2 : ¬ x < y := by omega
    rw [if_neg h2, if_pos h]
    go_enter Try.func89, Try.ntmps89
    go_wp2_with (go_at_call 93; refine (isNaN_any _ _).mono ?_; rintro e w' ⟨rfl, rfl⟩)
    go_ret
    exact ⟨rfl, rfl⟩
  · subst h
    have h2 : ¬ x < x := by omega
    rw [if_neg h2, if_neg h2]
    go_enter Try.func89, Try.ntmps89
    go_wp2_with (go_at_call 93; refine (isNaN_any _ _).mono ?_; rintro e w' ⟨rfl, rfl⟩)
    go_ret
    exact ⟨rfl, rfl⟩
/-- what the remainders are reckoned of: the amount, the units and their sum, in boxes -/
structure SQ (Bc Bu Ba bu cap : Nat) (us : List Int) (c A : Int) (W : World) : Prop where
  c : BoxI Bc c W
  u : W.cell? ⟨Bu, 0, none⟩ = some (.slice (some ⟨bu, 0, none⟩) us.length cap)
  a : BoxI Ba A W
  l : ∀ (i : Nat) (h : i < us.length), W.cell? ⟨bu, i, none⟩ = some (.int .i64 us[i])
theorem SQ.heap {Bc Bu Ba bu cap : Nat} {us : List Int} {c A : Int} {W W' : World} {B : Nat} (h : SQ Bc Bu Ba bu cap us c A W) (hn : Bc ≠ B ∧ Bu ≠ B ∧ Ba ≠ B ∧ bu ≠ B) (hh : ∀ k, k < W.heap.size → k ≠ B → W'.heap[k]? = W.heap[k]?) : SQ Bc Bu Ba bu cap us c A W' := by
  have g : ∀ (p : Addr) (v : Value), p.block ≠ B → W.cell? p = some v → W'.cell? p = some v := fun p v hp hv => (World.cell?_of_block (hh _ (World.block_lt_of_cell? _ _ hv) hp)).trans hv
  exact ⟨g _ _ hn.1 h.c, g _ _ hn.2.1 h.u, g _ _ hn.2.2.1 h.a, fun i hi => g _ _ hn.2.2.2 (h.l i hi)⟩
/-- the remainder of number i -/
def rmI (us : List Int) (c A : Int) (i : Nat) : Int := c * us.getD i 0 % A
abbrev rmF (Bc Bu Ba : Nat) : Value := .func (.func 86) #[] #[.pointer (some ⟨Bc, 0, none⟩), .pointer (some ⟨Bu, 0, none⟩), .pointer (some ⟨Ba, 0, none⟩)]
theorem rem_any (us : List Int) (c A : Int) (Bc Bu Ba bu cap i : Nat) (w : World) (hi : i < us.length) (c0 : 0 ≤ c) (c9 : c ≤ 1000000000000) (hu : ∀ u ∈ us, 0 ≤ u ∧ u ≤ 2000000) (hA : 0 < A) (hQ : SQ Bc Bu Ba bu cap us c A w) :
    Calls Try.prog 86 #[.int .i64 i, .pointer (some ⟨Bc, 0, none⟩), .pointer (some ⟨Bu, 0, none⟩), .pointer (some ⟨Ba, 0, none⟩)] w fun e w' => e = .returned (.int .i64 (rmI us c A i)) ∧ ∃ q, w' = w.drewN q := by
  obtain ⟨q0, q1, q2, q3⟩ := hQ
  have q3 := q3 i hi
  obtain ⟨u0, u9⟩ := hu _ (List.getElem_mem hi)
  have hr : rmI us c A i = c * us[i] % A := by unfold rmI; rw [List.getD_eq_getElem?_getD, List.getElem?_eq_getElem hi]; rfl
  rw [hr]
  unfold BoxI at q0 q2
  generalize us[i] = U at *
  have m0 : 0 ≤ c * U := Int.mul_nonneg c0 u0
  have m9 : c * U ≤ 2000000000000000000 := by
    have h1 := Int.mul_le_mul_of_nonneg_right c9 u0
    omega
  have wm : wrap64 (c * U) = c * U := by unfold wrap64; omega
  have hiz : (i : Int) < us.length := by omega
  clear hu hr hi
  go_enter Try.func86, Try.ntmps86
  go_wp2_with fail
  go_quiet (fail)
  go_wp2
  go_ret
  exact ⟨rfl, _, rfl⟩
abbrev cmF (B : Nat) : Value := .func (.func 88) #[] #[.pointer (some ⟨B, 0, none⟩)]
theorem cmp_any (us : List Int) (c A : Int) (Bc Bu Ba B4 bu cap i j : Nat) (w : World) (hi : i < us.length) (hj : j < us.length) (c0 : 0 ≤ c) (c9 : c ≤ 1000000000000) (hu : ∀ u ∈ us, 0 ≤ u ∧ u ≤ 2000000) (hA : 0 < A) (hQ : SQ Bc Bu Ba bu cap us c A w) (h4 : w.cell? ⟨B4, 0, none⟩ = some (rmF Bc Bu Ba)) :
    Calls Try.prog 88 #[.int .i64 i, .int .i64 j, .pointer (some ⟨B4, 0, none⟩)] w fun e w' => e = .returned (.int .i64 (cmpI (rmI us c A j) (rmI us c A i))) ∧ ∃ q, w' = w.drewN q := by
  have R := Lib.hid (fun k (hk : k < us.length) n => rem_any us c A Bc Bu Ba bu cap k (w.drewN n) hk c0 c9 hu hA ⟨hQ.c, hQ.u, hQ.a, hQ.l⟩)
  unfold rmF at h4
  clear hu hQ
  go_enter Try.func88, Try.ntmps88
  go_wp2_with fail
  go_quiet (first
    | (go_at_call 89; exact Calls.quiet_of_same (same_n (Compare_any _ _ _)))
    | (go_at_call 86; first | (with_reducible exact Calls.quiet_of (R.out j hj _)) | (with_reducible exact Calls.quiet_of (R.out i hi _))))
  go_wp2
  go_ret
  exact ⟨rfl, _, rfl⟩
end Go.Proofs.Ytcimceepkjpggaa
