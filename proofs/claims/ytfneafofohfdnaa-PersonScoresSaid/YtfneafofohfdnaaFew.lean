/-
  few, copied and short of the law; CheckNotes of an empty list: contracts.
-/
import Derived.Test.YtfneafofohfdnaaNts
import Derived.Lib.SliceRun
namespace Go.Proofs.Ytfneafofohfdnaa
open Go.RowKit
attribute [local go_sem] set_drewN
theorem shS_any (s : List UInt8) (w : World) : Calls Try.prog 9 #[.string ⟨s.toArray⟩] w (Ret (.bool (decide (s.length ≤ 200))) w) := by
  by_cases h : s.length ≤ 200
  · have e : decide (s.length ≤ 200) = true := decide_eq_true h
    have e2 : decide ((s.length : Int) ≤ 200) = true := decide_eq_true (by omega)
    rw [e]
    go_enter Try.func9, Try.ntmps9
    go_wp2
    go_ret
    exact ⟨rfl, rfl⟩
  · have e : decide (s.length ≤ 200) = false := decide_eq_false h
    have e2 : decide ((s.length : Int) ≤ 200) = false := decide_eq_false (by omega)
    rw [e]
    go_enter Try.func9, Try.ntmps9
    go_wp2
    go_ret
    exact ⟨rfl, rfl⟩
/-- few enough entries, or too many -/
def cntB (n : Nat) : Bool := decide (n ≤ 10) || (decide (60 < n) && decide (n ≤ 63))
def fewB (l : List Nt) : Bool := decide (∀ p ∈ l, p.nm.length ≤ 200) && cntB l.length
theorem all_snoc {l : List Nt} {k : Nat} (h : k < l.length) (ha : ∀ p ∈ l.take k, p.nm.length ≤ 200) (hx : (l[k]).nm.length ≤ 200) : ∀ p ∈ l.take (k + 1), p.nm.length ≤ 200 := by
  intro p hp
  rw [List.take_succ_eq_append_getElem h] at hp
  rcases List.mem_append.1 hp with m | m
  · exact ha p m
  · rw [List.mem_singleton.1 m]; exact hx
theorem few_no {l : List Nt} {k : Nat} (h : k < l.length) (hx : ¬ (l[k]).nm.length ≤ 200) : fewB l = false := by
  unfold fewB
  rw [decide_eq_false (fun hh => hx (hh _ (List.getElem_mem h)))]
  rfl
theorem few_yes {l : List Nt} (ha : ∀ p ∈ l.take l.length, p.nm.length ≤ 200) : fewB l = cntB l.length := by
  rw [List.take_length] at ha
  unfold fewB
  rw [decide_eq_true ha]
  rfl
set_option maxRecDepth 100000 in
set_option maxHeartbeats 4000000 in
theorem few_any (l : List Nt) (a : Option Addr) (cap : Nat) (w : World) (hl : l.length ≤ maxLen) (hc : l ≠ [] → ∃ b o, a = some ⟨b, o, none⟩ ∧ NtsAt w b o l) :
    Calls Try.prog 25 #[.slice a l.length cap] w (RetB (.bool (fewB l)) w) := by
  unfold maxLen at hl
  have HC := Lib.hid hc
  clear hc
  obtain ⟨R, hR⟩ : ∃ R, fewB l = R := ⟨_, rfl⟩
  rw [hR]
  have HR := Lib.hid hR
  clear hR
  go_enter Try.func25, Try.ntmps25
  go_wp2
  go_loopw [3] (fun iv wr => ∃ k : Nat, k ≤ l.length ∧ iv = .int .i64 k ∧ Hid (∀ p ∈ l.take k, p.nm.length ≤ 200) ∧ Hid (Below w.heap.size w wr)) (fun iv _ => l.length - (intOf iv).toNat)
  case atStart => exact ⟨0, Nat.zero_le _, rfl, Lib.hid (by simp), Lib.hid (Below.refl _ _)⟩
  case round =>
    obtain ⟨k, hk, rfl, HA, HB⟩ := hrel
    by_cases hlt : k < l.length
    · obtain ⟨b, o, rfl, hn⟩ := HC.out (by rintro rfl; simp at hlt)
      obtain ⟨c0, -⟩ := (hn.below HB.out).2 k hlt
      have hbl := hn.1
      have HS := Lib.hid (fun W => shS_any (l[k]).nm W)
      by_cases hs : (l[k]).nm.length ≤ 200
      · have HA2 := Lib.hid (all_snoc hlt HA.out hs)
        rw [decide_eq_true hs] at HS
        generalize (l[k]).nm = X at *
        clear hn hs
        go_wp2_with (go_at_call 9; refine (HS.out _).mono ?_; rintro e w' ⟨rfl, rfl⟩)
        go_roundw
        case rel => exact ⟨k + 1, by omega, by go_num, HA2, HB⟩
        case measure => simp [intOf]; omega
      · have HF := Lib.hid (show false = R by rw [← HR.out]; exact (few_no hlt hs).symm)
        rw [decide_eq_false hs] at HS
        have e := HF.out
        subst e
        generalize (l[k]).nm = X at *
        clear hn hs
        go_wp2_with (go_at_call 9; refine (HS.out _).mono ?_; rintro e w' ⟨rfl, rfl⟩)
        go_ret
        exact ⟨rfl, HB.out⟩
    · obtain rfl : k = l.length := by omega
      have HF := Lib.hid (show cntB l.length = R by rw [← HR.out]; exact (few_yes HA.out).symm)
      unfold cntB at HF
      by_cases g1 : l.length ≤ 10
      · have f1 : decide ((l.length : Int) ≤ 10) = true := decide_eq_true (by omega)
        rw [decide_eq_true g1] at HF
        have e := HF.out
        subst e
        go_wp2
        go_ret
        exact ⟨rfl, HB.out⟩
      · have f1 : decide ((l.length : Int) ≤ 10) = false := decide_eq_false (by omega)
        rw [decide_eq_false g1] at HF
        by_cases g2 : 60 < l.length
        · have f2 : decide ((60 : Int) < (l.length : Int)) = true := decide_eq_true (by omega)
          rw [decide_eq_true g2] at HF
          by_cases g3 : l.length ≤ 63
          · have f3 : decide ((l.length : Int) ≤ 63) = true := decide_eq_true (by omega)
            rw [decide_eq_true g3] at HF
            have e := HF.out
            subst e
            go_wp2
            go_ret
            exact ⟨rfl, HB.out⟩
          · have f3 : decide ((l.length : Int) ≤ 63) = false := decide_eq_false (by omega)
            rw [decide_eq_false g3] at HF
            have e := HF.out
            subst e
            go_wp2
            go_ret
            exact ⟨rfl, HB.out⟩
        · have f2 : decide ((60 : Int) < (l.length : Int)) = false := decide_eq_false (by omega)
          rw [decide_eq_false g2] at HF
          have e := HF.out
          subst e
          go_wp2
          go_ret
          exact ⟨rfl, HB.out⟩
theorem infoNt : (Try.prog.info? 50).map (fun i => (i.zero, i.size, i.bytes)) = some (some (.agg #[.string ⟨#[]⟩, .int .i64 0, .int .i64 0, .int .i64 0, .int .i64 0]), 5, 48) := by kernel_rfl
/-- a list of entries lies, or is empty -/
def NLie (W : World) (v : Value) (l : List Nt) : Prop := ∃ a cap, v = .slice a l.length cap ∧ (l ≠ [] → ∃ b o, a = some ⟨b, o, none⟩ ∧ NtsAt W b o l)
theorem NLie.below {W W' : World} {v : Value} {l : List Nt} (h : NLie W v l) (hb : Below W.heap.size W W') : NLie W' v l := by
  obtain ⟨a, cap, e, h⟩ := h
  refine ⟨a, cap, e, fun hn => ?_⟩
  obtain ⟨b, o, e2, ht⟩ := h hn
  exact ⟨b, o, e2, ht.below hb⟩
theorem NLie.of_own {W : World} {base : Nat} {e : TypeId} {v : Value} {l : List Nt} (h : W.ownsRow base e 5 v l.length (ncs l)) : NLie W v l := by
  rcases h.2 with ⟨e1, h0⟩ | ⟨g, cap, cur, rfl, _⟩
  · exact ⟨none, 0, by rw [e1, h0], fun hn => absurd (List.length_eq_zero_iff.1 h0) hn⟩
  · exact ⟨_, cap, rfl, fun _ => ⟨g, 0, rfl, NtsAt.of_own h⟩⟩
theorem addO' (b o j : Nat) : Addr.add ⟨b, o, none⟩ j = ⟨b, o + j, none⟩ := by
  unfold Addr.add
  split
  · rename_i e; subst e; rfl
  · rfl
abbrev CpPost (l : List Nt) (w : World) : Ending → World → Prop := fun e w' => ∃ v', e = .returned v' ∧ NLie w' v' l ∧ Below w.heap.size w w'
set_option maxRecDepth 100000 in
set_option maxHeartbeats 2000000 in
theorem copied_some (l : List Nt) (b o cap : Nat) (w : World) (hl : l.length ≤ 1000) (hn : NtsAt w b o l) :
    Calls Try.prog 29 #[.slice (some ⟨b, o, none⟩) l.length cap] w (CpPost l w) := by
  obtain ⟨i0, hi, hz0, hz1, hz2⟩ := info_parts infoNt
  have HC := Lib.hid hn
  clear hn
  go_enter Try.func29, Try.ntmps29
  go_wp2_with (at_builtin; refine wpList_append_own _ rfl _ _ 46 rfl w.heap.size 50 i0 _ 5 48 Try.underlying46 hi hz0 hz1 hz2 rfl (by decide) _ _ _ rfl (World.ownsRow_made w #[] 0 (Nat.le_refl _) (Nat.zero_le _) (by simp)) ⟨b, o, none⟩ l.length cap (ncs l) rfl ?qc1 ?qc2 ?qc3 ?qc4 ?qc5 ?qc6 ?_)
  case qc1 => exact ncs_len l
  case qc2 =>
    intro j u hj
    refine Lib.cell?_alloc_some _ ?_
    rw [addO']
    exact HC.out.cells j u hj
  case qc3 => exact ncs_one_cell
  case qc4 => unfold maxLen; omega
  case qc5 => omega
  case qc6 => simp
  intro v' w1 hown hgrow hnil
  go_wp2
  go_ret
  exact ⟨v', rfl, NLie.of_own (by simpa using hown), ((Below.refl _ w).alloc (Nat.le_refl _) _).grown hgrow (by simp) (by intro k hk; simp [Value.ownBlock] at hk; omega)⟩
set_option maxRecDepth 100000 in
set_option maxHeartbeats 2000000 in
theorem copied_nil (a : Option Addr) (cap : Nat) (w : World) :
    Calls Try.prog 29 #[.slice a 0 cap] w (CpPost [] w) := by
  cases a with
  | none =>
    go_enter Try.func29, Try.ntmps29
    go_wp2
    go_ret
    exact ⟨_, rfl, ⟨_, _, rfl, fun h => absurd rfl h⟩, (Below.refl _ _).alloc (Nat.le_refl _) _⟩
  | some ad =>
    go_enter Try.func29, Try.ntmps29
    go_wp2
    go_ret
    exact ⟨_, rfl, ⟨_, _, rfl, fun h => absurd rfl h⟩, (Below.refl _ _).alloc (Nat.le_refl _) _⟩
theorem copied_any (l : List Nt) (v : Value) (w : World) (hl : l.length ≤ 1000) (hc : NLie w v l) : Calls Try.prog 29 #[v] w (CpPost l w) := by
  obtain ⟨a, cap, rfl, hc⟩ := hc
  by_cases h : l = []
  · subst h
    exact copied_nil a cap w
  · obtain ⟨b, o, rfl, hn⟩ := hc h
    exact copied_some l b o cap w hl hn
set_option maxRecDepth 100000 in
theorem CheckNotes_nil (a : Option Addr) (cap : Nat) (w : World) : Calls Try.prog 28 #[.slice a 0 cap] w (RetB (.int .i64 (cnsE [])) w) := by
  have e : cnsE [] = 0 := rfl
  rw [e]
  go_enter Try.func28, Try.ntmps28
  go_wp2
  go_loopw [11] (fun i wr => ∃ k : Nat, k ≤ 0 ∧ i = .int .i64 k ∧ Hid (Below w.heap.size w wr)) (fun i _ => 0 - (intOf i).toNat)
  case atStart => exact ⟨0, Nat.zero_le _, rfl, Lib.hid (Below.refl _ _)⟩
  case round =>
    obtain ⟨k, hk, rfl, HB⟩ := hrel
    obtain rfl : k = 0 := by omega
    go_wp2
    go_ret
    exact ⟨rfl, HB.out⟩
set_option maxRecDepth 100000 in
theorem xCheckNotes_nil (a : Option Addr) (cap : Nat) (w : World) : Calls Try.prog 27 #[.slice a 0 cap] w (RetB (.int .i64 (cnsE [])) w) := by
  have e : cnsE [] = 0 := rfl
  rw [e]
  go_enter Try.func27, Try.ntmps27
  go_wp2
  go_loopw [3] (fun i wr => ∃ k : Nat, k ≤ 0 ∧ i = .int .i64 k ∧ Hid (Below w.heap.size w wr)) (fun i _ => 0 - (intOf i).toNat)
  case atStart => exact ⟨0, Nat.zero_le _, rfl, Lib.hid (Below.refl _ _)⟩
  case round =>
    obtain ⟨k, hk, rfl, HB⟩ := hrel
    obtain rfl : k = 0 := by omega
    go_wp2
    go_ret
    exact ⟨rfl, HB.out⟩
theorem CheckNotes_lie (l : List Nt) (v : Value) (w : World) (hl : l.length ≤ 1000) (hn : ∀ p ∈ l, p.nm.length ≤ 2000000) (h : NLie w v l) : Calls Try.prog 28 #[v] w (RetB (.int .i64 (cnsE l)) w) := by
  obtain ⟨a, cap, rfl, h⟩ := h
  by_cases e : l = []
  · subst e; exact CheckNotes_nil a cap w
  · obtain ⟨b, o, rfl, h2⟩ := h e
    exact CheckNotes_any l b o cap w (by omega) hn h2
theorem xCheckNotes_lie (l : List Nt) (v : Value) (w : World) (hl : l.length ≤ 1000) (hn : ∀ p ∈ l, p.nm.length ≤ 2000000) (h : NLie w v l) : Calls Try.prog 27 #[v] w (RetB (.int .i64 (cnsE l)) w) := by
  obtain ⟨a, cap, rfl, h⟩ := h
  by_cases e : l = []
  · subst e; exact xCheckNotes_nil a cap w
  · obtain ⟨b, o, rfl, h2⟩ := h e
    exact xCheckNotes_any l b o cap w (by omega) hn h2
/-- a literal list of one entry -/
theorem NtsAt.lit (w : World) (p : Nt) (t : TypeId) : NtsAt (w.alloc (.cells #[.string ⟨p.nm.toArray⟩, .int .i64 p.bf, .int .i64 p.bt, .int .i64 p.df, .int .i64 p.dt] t)) w.heap.size 0 [p] :=
  ⟨by simp, fun i hi => by
    obtain rfl : i = 0 := by simpa using hi
    exact ⟨by simp [go_sem], by simp [go_sem], by simp [go_sem], by simp [go_sem], by simp [go_sem]⟩⟩
theorem cns_one (p : Nt) : cnsE [p] = cn p := by
  unfold cnsE
  rw [if_neg (by simp)]
  simp only [List.map_cons, List.map_nil, feE]
  split
  · rename_i h; exact h.symm
  · rfl
end Go.Proofs.Ytfneafofohfdnaa
