/-
  remitted of package money: a contract for all worlds.
-/
import Derived.Test.YtcimceepkjpggaaRowG
namespace Go.Proofs.Ytcimceepkjpggaa
open Go.RowKit
attribute [local go_sem] set_drewN
theorem str_ne {a b : ByteArray} (h : ¬ a = b) : (a.toList == b.toList) = false := by
  rw [beq_eq_false_iff_ne]
  intro c
  rw [ByteArray.toList_eq, ByteArray.toList_eq] at c
  exact h (ByteArray.ext (Array.toList_inj.1 c))
/-- a remission is of a class on a day -/
def rmOn (nm : ByteArray) (d : Int) (r : Rm) : Prop := r.nm = nm ∧ r.fr ≤ d ∧ d < r.to
instance (nm : ByteArray) (d : Int) (r : Rm) : Decidable (rmOn nm d r) := by unfold rmOn; infer_instance
def remS (nm : ByteArray) (d : Int) : List Rm → Int
  | [] => 0
  | r :: l => (if rmOn nm d r then r.pm else 0) + remS nm d l
theorem remS_app (nm : ByteArray) (d : Int) : ∀ a b : List Rm, remS nm d (a ++ b) = remS nm d a + remS nm d b
  | [], b => by simp [remS]
  | x :: a, b => by rw [List.cons_append, remS, remS, remS_app nm d a b]; omega
theorem remS_bd {nm : ByteArray} {d : Int} : ∀ {l : List Rm}, (∀ r ∈ l, 0 ≤ r.pm ∧ r.pm ≤ 1000) → 0 ≤ remS nm d l ∧ remS nm d l ≤ l.length * 1000
  | [], _ => by simp [remS]
  | x :: l, h => by
    have h1 := remS_bd (nm := nm) (d := d) (l := l) fun u m => h u (by simp [m])
    have h2 := h x (by simp)
    rw [remS, List.length_cons]
    split <;> omega
theorem remS_step {l : List Rm} {nm : ByteArray} {d : Int} {k : Nat} (h : k < l.length) (hr : ∀ r ∈ l, 0 ≤ r.pm ∧ r.pm ≤ 1000) (hl : l.length ≤ 1000) : ∃ S T, remS nm d (l.take k) = S ∧ remS nm d (l.take (k + 1)) = T ∧ T = S + (if rmOn nm d l[k] then l[k].pm else 0) ∧ 0 ≤ S ∧ S ≤ 1000000 ∧ 0 ≤ l[k].pm ∧ l[k].pm ≤ 1000 := by
  have h1 := remS_bd (nm := nm) (d := d) (l := l.take k) (fun u m => hr u (List.mem_of_mem_take m))
  have h2 : ((l.take k).length : Int) ≤ 1000 := by
    have := List.length_take_le' k l
    omega
  refine ⟨_, _, rfl, rfl, ?_, h1.1, by omega, (hr _ (List.getElem_mem h)).1, (hr _ (List.getElem_mem h)).2⟩
  rw [List.take_succ_eq_append_getElem h, remS_app]
  simp [remS]
/-- what is taken off -/
def remM (l : List Rm) (nm : ByteArray) (d : Int) : Int := min (remS nm d l) 1000
set_option maxRecDepth 100000 in
set_option maxHeartbeats 2000000 in
theorem remitted_any (L : List Rm) (v : Value) (nm : ByteArray) (t : Int) (w : World) (hl : L.length ≤ 1000) (hr : ∀ r ∈ L, 0 ≤ r.pm ∧ r.pm ≤ 1000) (hv : LG rmC 4 w v L) :
    Calls Try.prog 61 #[v, .string nm, .int .i64 t] w (RetB (.int .i64 (remM L nm t)) w) := by
  obtain ⟨a, cp, rfl, -, hp⟩ := hv
  have HP := Lib.hid hp
  have HR := Lib.hid hr
  clear hp hr
  go_enter Try.func61, Try.ntmps61
  go_wp2
  go_loopw [7, 12] (fun sv iv wr => ∃ (k : Nat) (S : Int), k ≤ L.length ∧ sv = .int .i64 S ∧ iv = .int .i64 k ∧ Hid (remS nm t (L.take k) = S) ∧ Hid (Below w.heap.size w wr)) (fun _ iv _ => L.length - (intOf iv).toNat)
  case atStart => exact ⟨0, 0, Nat.zero_le _, rfl, rfl, Lib.hid rfl, Lib.hid (Below.refl _ _)⟩
  case round =>
    obtain ⟨k, S, hk, rfl, rfl, HS, HB⟩ := hrel
    have hsz := HB.out.size
    by_cases hlt : k < L.length
    · have hne : L ≠ [] := by rintro rfl; simp at hlt
      obtain ⟨b, o, rfl, hd⟩ := HP.out hne
      have hd2 := (hd.below HB.out).2 k hlt
      have c0 := hd2 0 _ rfl
      have c1 := hd2 1 _ rfl
      have c2 := hd2 2 _ rfl
      have c3 := hd2 3 _ rfl
      rw [Nat.add_zero] at c0
      obtain ⟨S', T, e1, e2, e3, b1, b2, b3, b4⟩ := remS_step (nm := nm) (d := t) hlt HR.out hl
      obtain rfl : S' = S := e1.symm.trans HS.out
      have E2 := Lib.hid e2
      clear hd hd2 e1 e2
      generalize L[k] = r at *
      obtain ⟨rn, rf, rt, rp⟩ := r
      simp only at c0 c1 c2 c3 b3 b4
      by_cases h1 : rn = nm
      · subst h1
        by_cases h2 : rf ≤ t
        · by_cases h3 : t < rt
          · have E3 := Lib.hid (show T = S' + rp by rw [e3, if_pos (show rmOn rn t ⟨rn, rf, rt, rp⟩ from ⟨rfl, h2, h3⟩)])
            clear e3
            go_wp2
            go_roundw
            case rel => exact ⟨k + 1, T, by omega, by rw [E3.out], by go_num, E2, Lib.hid (HB.out.alloc hsz _)⟩
            case measure => simp [intOf]; omega
          · have E3 := Lib.hid (show T = S' by rw [e3, if_neg (fun h => h3 h.2.2)]; omega)
            have d3 : decide (t < rt) = false := decide_eq_false h3
            clear e3
            go_wp2
            go_roundw
            case rel => exact ⟨k + 1, T, by omega, by rw [E3.out], by go_num, E2, Lib.hid (HB.out.alloc hsz _)⟩
            case measure => simp [intOf]; omega
        · have E3 := Lib.hid (show T = S' by rw [e3, if_neg (fun h => h2 h.2.1)]; omega)
          have d2 : decide (rf ≤ t) = false := decide_eq_false h2
          clear e3
          go_wp2
          go_roundw
          case rel => exact ⟨k + 1, T, by omega, by rw [E3.out], by go_num, E2, Lib.hid (HB.out.alloc hsz _)⟩
          case measure => simp [intOf]; omega
      · have E3 := Lib.hid (show T = S' by rw [e3, if_neg (fun h => h1 h.1)]; omega)
        have hn1 := str_ne h1
        clear e3
        go_wp2
        go_roundw
        case rel => exact ⟨k + 1, T, by omega, by rw [E3.out], by go_num, E2, Lib.hid (HB.out.alloc hsz _)⟩
        case measure => simp [intOf]; omega
    · obtain rfl : k = L.length := by omega
      have HS2 := Lib.hid (show remM L nm t = min S 1000 by unfold remM; have := HS.out; rw [List.take_of_length_le (Nat.le_refl _)] at this; rw [this])
      rcases (show S < 1000 ∨ S = 1000 ∨ 1000 < S by omega) with h | h | h
      · have HS3 := Lib.hid (HS2.out.trans (show min S 1000 = S by omega))
        go_wp2
        go_ret
        exact ⟨ret_i HS3.out.symm, HB.out⟩
      · subst h
        have HS3 := Lib.hid (HS2.out.trans (show min (1000 : Int) 1000 = 1000 by omega))
        go_wp2
        go_ret
        exact ⟨ret_i HS3.out.symm, HB.out⟩
      · have HS3 := Lib.hid (HS2.out.trans (show min S 1000 = 1000 by omega))
        go_wp2
        go_ret
        exact ⟨ret_i HS3.out.symm, HB.out⟩
end Go.Proofs.Ytcimceepkjpggaa
