/-
  Lists of whole numbers as they lie; base.Ints at equal ones; instalments of package money and of its specification.
-/
import Derived.Test.YtcimceepkjpggaaMnB
import Derived.Laws.AppendOwn
import Derived.Deep.AppendLies
namespace Go.Proofs.Ytcimceepkjpggaa
open Go.RowKit
attribute [local go_sem] set_drewN
theorem infoI : (Try.prog.info? 3).map (fun i => (i.zero, i.size, i.bytes)) = some (some (.int .i64 0), 1, 8) := by kernel_rfl
/-- a slice of these numbers lies -/
def LI (W : World) (v : Value) (L : List Int) : Prop := ∃ a c, v = .slice a L.length c ∧ (L ≠ [] → ∃ b, a = some ⟨b, 0, none⟩ ∧ b < W.heap.size ∧ ∀ (i : Nat) (h : i < L.length), W.cell? ⟨b, i, none⟩ = some (.int .i64 L[i]))
theorem LI.below {W W' : World} {v : Value} {L : List Int} (h : LI W v L) (hb : Below W.heap.size W W') : LI W' v L := by
  obtain ⟨a, c, e, h⟩ := h
  refine ⟨a, c, e, fun hn => ?_⟩
  obtain ⟨b, e2, hl, hc⟩ := h hn
  exact ⟨b, e2, Nat.lt_of_lt_of_le hl hb.size, fun i hi => (hb.cell (p := ⟨b, i, none⟩) hl).trans (hc i hi)⟩
theorem LI.nil (W : World) : LI W (.slice none 0 0) [] := ⟨none, 0, rfl, fun h => absurd rfl h⟩
theorem LI.of_own {W : World} {base : Nat} {e : TypeId} {v : Value} {L : List Int} (h : W.ownsRow base e 1 v L.length (L.map (Value.int .i64))) : LI W v L := by
  rcases h.2 with ⟨rfl, h0⟩ | ⟨g, cap, cur, rfl, hg, hgb, _⟩
  · have : L = [] := List.length_eq_zero_iff.1 h0
    subst this
    exact LI.nil W
  · refine ⟨_, cap, rfl, fun _ => ⟨g, rfl, (Array.getElem?_eq_some_iff.1 hgb).1, fun i hi => ?_⟩⟩
    have := h.cells (g := g) rfl i (.int .i64 L[i]) (by simp [hi])
    rw [show ((⟨g, 0, none⟩ : Addr).add i) = ⟨g, i, none⟩ by cases i <;> simp [Addr.add]] at this
    exact this
theorem ints_eq {W : World} {v1 v2 : Value} {L : List Int} (h1 : LI W v1 L) (h2 : LI W v2 L) (hl : L.length ≤ 1000) : Calls Try.prog 33 #[v1, v2] W (RetB (.bool true) W) := by
  obtain ⟨a1, c1, rfl, p1⟩ := h1
  obtain ⟨a2, c2, rfl, p2⟩ := h2
  have P1 := Lib.hid p1
  have P2 := Lib.hid p2
  clear p1 p2
  go_enter Try.func33, Try.ntmps33
  go_wp2
  go_loopw [5] (fun i wr => ∃ k : Nat, k ≤ L.length ∧ i = .int .i64 k ∧ Below W.heap.size W wr) (fun i _ => L.length - (intOf i).toNat)
  case atStart => exact ⟨0, Nat.zero_le _, rfl, Below.refl _ _⟩
  case round =>
    obtain ⟨k, hk, rfl, hB⟩ := hrel
    by_cases hlt : k < L.length
    · have hne : L ≠ [] := by rintro rfl; simp at hlt
      obtain ⟨b1, rfl, l1, q1⟩ := P1.out hne
      obtain ⟨b2, rfl, l2, q2⟩ := P2.out hne
      have a1 := (hB.cell (p := ⟨b1, k, none⟩) l1).trans (q1 k hlt)
      have a2 := (hB.cell (p := ⟨b2, k, none⟩) l2).trans (q2 k hlt)
      generalize L[k] = X at *
      clear q1 q2
      go_wp2
      go_quiet (fail)
      go_wp2
      go_roundw
      case rel => exact ⟨k + 1, by omega, by go_num, below_n hB _⟩
      case measure => simp [intOf]; omega
    · go_wp2
      go_ret
      exact ⟨rfl, hB⟩
/-- a row of numbers of one's own, and what lay before lies as it lay -/
def IRow (w0 W : World) (F : List Int) (v : Value) : Prop := W.ownsRow w0.heap.size 3 1 v F.length (F.map (Value.int .i64)) ∧ Below w0.heap.size w0 W
theorem IRow.nil (w : World) : IRow w w [] (.slice none 0 0) := ⟨World.ownsRow_nil _ _ _ _, Below.refl _ _⟩
theorem IRow.LI {w0 W : World} {F : List Int} {v : Value} (h : IRow w0 W F v) : LI W v F := LI.of_own h.1
theorem ownsRow_below {w w' : World} {base : Nat} {e : TypeId} {size n : Nat} {v : Value} {xs : List Value} (h : w.ownsRow base e size v n xs) (hb : Below w.heap.size w w') : w'.ownsRow base e size v n xs :=
  h.kept (row := none) ⟨hb.os, hb.tape, hb.output, hb.size, fun j hj _ => hb.block j hj⟩ (by cases v.ownBlock <;> simp)
theorem IRow.snoc {w0 w1 w2 : World} {F : List Int} {x : Int} {v v' : Value} (h : w2.ownsRow w0.heap.size 3 1 v' (F.length + 1) (F.map (Value.int .i64) ++ [.int .i64 x])) (hb : Below w0.heap.size w0 w1) (hg : w1.grownBy w2 v.ownBlock) (ho : w1.ownsRow w0.heap.size 3 1 v F.length (F.map (Value.int .i64))) :
    IRow w0 w2 (F ++ [x]) v' :=
  ⟨by simpa using h, hb.grown hg hb.size (fun k' e' => (ho.lt k' e').1)⟩
/-- instalment number i of an amount in n parts -/
def ptM (c n : Int) (i : Nat) : Int := c / n + if (i : Int) < c % n then 1 else 0
def psM (c n : Int) (k : Nat) : List Int := (List.range k).map (ptM c n)
theorem psM_len (c n : Int) (k : Nat) : (psM c n k).length = k := by simp [psM]
theorem psM_succ (c n : Int) (k : Nat) : psM c n (k + 1) = psM c n k ++ [ptM c n k] := by simp [psM, List.range_succ]
theorem psM_get (c n : Int) (k i : Nat) (h : i < (psM c n k).length) : (psM c n k)[i] = ptM c n i := by simp [psM]
theorem ptM_1 {c n : Int} {i : Nat} (h : (i : Int) < c % n) : ptM c n i = c / n + 1 := by unfold ptM; rw [if_pos h]
theorem ptM_0 {c n : Int} {i : Nat} (h : ¬ (i : Int) < c % n) : ptM c n i = c / n := by unfold ptM; rw [if_neg h]; omega
set_option maxRecDepth 100000 in
theorem Instalments_ok (c : Int) (n : Nat) (w : World) (h0 : 0 ≤ c) (h9 : c ≤ 1000000000000) (n1 : 1 ≤ n) (n9 : n ≤ 120) :
    Calls Try.prog 30 #[.int .i64 c, .int .i64 n] w fun e w' => ∃ v, e = .returned (two v (.int .i64 0)) ∧ Hid (IRow w w' (psM c n n) v) := by
  have i1 := inB_yes (n := c) (a := 0) (b := 1000000000000) h0 h9
  have i2 := inB_yes (n := (n : Int)) (a := 1) (b := 120) (by omega) (by omega)
  have hq := Int.ediv_nonneg h0 (show (0 : Int) ≤ n by omega)
  have hq2 := Int.ediv_le_self (n : Int) h0
  have hm := Int.emod_nonneg c (show (n : Int) ≠ 0 by omega)
  have hm2 := Int.emod_lt_of_pos c (show (0 : Int) < n by omega)
  obtain ⟨i0, hi, hz0, hz1, hz2⟩ := info_parts infoI
  go_enter Try.func30, Try.ntmps30
  go_wp2_with (first
    | (go_at_call 60; refine (nIsFromTo_any _ _ _ _).mono ?_; rintro e w' ⟨rfl, rfl⟩; first | rw [i1] | rw [i2]))
  go_loopw [6, 18] (fun lv iv wr => ∃ k : Nat, k ≤ n ∧ iv = .int .i64 k ∧ Hid (IRow w wr (psM c n k) lv)) (fun _ iv _ => n - (intOf iv).toNat)
  case atStart => exact ⟨0, Nat.zero_le _, rfl, Lib.hid (IRow.nil w)⟩
  case round =>
    obtain ⟨k, hk, rfl, HR⟩ := hrel
    have hsz := HR.out.2.size
    by_cases hlt : k < n
    · have PS := Lib.hid (psM_succ c n k)
      have PL := Lib.hid (psM_len c n k)
      by_cases hr : (k : Int) < c % n
      · have PT := Lib.hid (ptM_1 hr)
        go_wp2_with (at_builtin; refine wpList_append_own _ rfl _ _ 57 rfl w.heap.size 3 i0 (.int .i64 0) 1 8 Try.underlying57 hi hz0 hz1 hz2 rfl (by decide) _ _ _ rfl (HR.out.1.alloc _) ⟨wr.heap.size, 0, none⟩ 1 1 [.int .i64 (c / n + 1)] rfl rfl ?c1 ?c2 ?c3 ?c4 ?c5 ?_)
        case c1 => exact World.news_of_block (cs := #[.int .i64 (c / n + 1)]) (heap_alloc_new _ _)
        case c2 => simp [Value.oneCell']
        case c3 => rw [PL.out]; unfold maxLen; omega
        case c4 => rw [PL.out]; omega
        case c5 => first | omega | (simp; omega)
        intro v3 w3 hown3 hgrow3 _
        have D3 := Lib.hid (IRow.snoc hown3 (HR.out.2.alloc hsz _) hgrow3 (HR.out.1.alloc _))
        go_wp2
        go_roundw
        case rel => exact ⟨k + 1, by omega, by go_num, Lib.hid (by rw [PS.out, PT.out]; exact D3.out)⟩
        case measure => simp [intOf]; omega
      · have PT := Lib.hid (ptM_0 hr)
        go_wp2_with (at_builtin; refine wpList_append_own _ rfl _ _ 57 rfl w.heap.size 3 i0 (.int .i64 0) 1 8 Try.underlying57 hi hz0 hz1 hz2 rfl (by decide) _ _ _ rfl (HR.out.1.alloc _) ⟨wr.heap.size, 0, none⟩ 1 1 [.int .i64 (c / n)] rfl rfl ?c1 ?c2 ?c3 ?c4 ?c5 ?_)
        try case c1 => exact World.news_of_block (cs := #[.int .i64 (c / n)]) (heap_alloc_new _ _)
        case c2 => simp [Value.oneCell']
        case c3 => rw [PL.out]; unfold maxLen; omega
        case c4 => rw [PL.out]; omega
        case c5 => first | omega | (simp; omega)
        intro v3 w3 hown3 hgrow3 _
        have D3 := Lib.hid (IRow.snoc hown3 (HR.out.2.alloc hsz _) hgrow3 (HR.out.1.alloc _))
        go_wp2
        go_roundw
        case rel => exact ⟨k + 1, by omega, by go_num, Lib.hid (by rw [PS.out, PT.out]; exact D3.out)⟩
        case measure => simp [intOf]; omega
    · obtain rfl : k = n := by omega
      go_wp2
      go_ret2
      exact ⟨_, rfl, HR⟩
theorem Instalments_bad (c n : Int) (w : World) (h : (inB c 0 1000000000000 && inB n 1 120) = false) :
    Calls Try.prog 30 #[.int .i64 c, .int .i64 n] w (Ret (two (.slice none 0 0) (.int .i64 2)) w) := by
  cases i1 : inB c 0 1000000000000
  · have I1 := Lib.hid i1
    clear i1 h
    go_enter Try.func30, Try.ntmps30
    go_wp2_with (go_at_call 60; refine (nIsFromTo_any _ _ _ _).mono ?_; rintro e w' ⟨rfl, rfl⟩; rw [I1.out])
    go_ret2
    exact ⟨rfl, rfl⟩
  · have i2 : inB n 1 120 = false := by rw [i1] at h; simpa using h
    have I1 := Lib.hid i1
    have I2 := Lib.hid i2
    clear i1 i2 h
    go_enter Try.func30, Try.ntmps30
    go_wp2_with (first
      | (go_at_call 60; refine (nIsFromTo_any _ _ _ _).mono ?_; rintro e w' ⟨rfl, rfl⟩; first | rw [I1.out] | rw [I2.out]))
    go_ret2
    exact ⟨rfl, rfl⟩
end Go.Proofs.Ytcimceepkjpggaa
