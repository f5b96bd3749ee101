/-
  What Source of the specification of package rule, and atErr and Laws of the statements, return: contracts.
-/
import Derived.Test.YtfphedcgmaakjaaGreatDoorRefSrc
namespace Go.Proofs.YtfphedcgmaakjaaGreatDoor
open Go.RowKit
attribute [local go_sem] set_drewN
theorem str_ne {a b : ByteArray} (h : ¬ a = b) : (a.toList == b.toList) = false := by
  rw [beq_eq_false_iff_ne]
  intro c
  rw [ByteArray.toList_eq, ByteArray.toList_eq] at c
  exact h (keyL_inj (by rw [keyL, keyL, c]))
/-- the number that decides, or -1 -/
def srcI : Option Nat → Int
  | none => -1
  | some i => i
set_option maxRecDepth 100000 in
set_option maxHeartbeats 2000000 in
theorem xSource_any (l : List Pv) (nm : ByteArray) (a0 a1 : Int) (b o cap : Nat) (w : World) (hl : l.length ≤ 1000000) (hc : PvsAt w b o l) :
    Calls Tryz.prog 46 #[.slice (some ⟨b, o, none⟩) l.length cap, .string nm, .agg #[.int .i64 a0, .int .i64 a1]] w (RetB (.int .i64 (srcI (dec l a0 a1 nm l.length))) w) := by
  have HC := Lib.hid hc
  clear hc
  go_enter Tryz.func46, Tryz.ntmps46
  go_wp2
  go_loopw [7, 8] (fun bv i wr => ∃ k : Nat, k ≤ l.length ∧ i = .int .i64 k ∧ bv = .int .i64 (srcI (dec l a0 a1 nm k)) ∧ Below w.heap.size w wr ∧ wr.cell? ⟨w.heap.size, 0, none⟩ = some (.int .i64 a0) ∧ wr.cell? ⟨w.heap.size, 1, none⟩ = some (.int .i64 a1)) (fun _ i _ => l.length - (intOf i).toNat)
  case atStart => exact ⟨0, Nat.zero_le _, rfl, rfl, (Below.refl _ _).alloc (Nat.le_refl _) _, by simp [go_sem], by simp [go_sem]⟩
  case round =>
    obtain ⟨k, hk, rfl, rfl, hB, ha0, ha1⟩ := hrel
    by_cases hlt : k < l.length
    · obtain ⟨⟨c0, c1, c2, c3, c4⟩, hsz⟩ := (HC.out.below hB).2 k hlt
      obtain ⟨p, hp⟩ : ∃ p, l[k] = p := ⟨_, rfl⟩
      rw [hp] at c0 c1 c2 c3 c4 hsz
      have HP := Lib.hid hp
      clear hp
      by_cases hn : p.name = nm
      · subst hn
        by_cases s2 : p.entered ≤ a1
        · by_cases s1 : p.from' ≤ a0
          · cases hdec : dec l a0 a1 p.name k with
            | none =>
              have NX := Lib.hid (dec_new hlt HP.out s1 s2 (fun i h => by rw [hdec] at h; cases h))
              have hsn : srcI (none : Option Nat) = -1 := rfl
              rw [hsn]
              obtain ⟨qn, qv, qf, qe, qr⟩ := p
              simp only at c0 c1 c2 c3 c4 hsz s1 s2
              clear hdec hsn
              go_wp2
              go_quiet (fail)
              go_wp2
              go_roundw
              case rel => exact ⟨k + 1, by omega, by go_num, by rw [NX.out]; rfl, below_n hB _, ha0, ha1⟩
              case measure => simp [intOf]; omega
            | some i =>
              obtain ⟨hik, hil⟩ := dec_lt l a0 a1 p.name k i hdec
              have hsn : srcI (some i) = (i : Int) := rfl
              rw [hsn]
              obtain ⟨⟨_, _, q2, _, _⟩, _⟩ := (HC.out.below hB).2 i hil
              obtain ⟨q, hq⟩ : ∃ q, l[i] = q := ⟨_, rfl⟩
              rw [hq] at q2
              have hqf : (l[i]?.map (·.from')).getD 0 = q.from' := by rw [List.getElem?_eq_getElem hil, hq]; rfl
              have hi0 : decide ((i : Int) < 0) = false := by simp
              by_cases ht : q.from' ≤ p.from'
              · have NX := Lib.hid (dec_new hlt HP.out s1 s2 (fun i' h => by rw [hdec] at h; cases h; rw [hqf]; exact ht))
                clear hdec hqf hq hsn
                obtain ⟨pn, pv, pf, pe, pr⟩ := p
                obtain ⟨qn, qv, qf, qe, qr⟩ := q
                simp only at c0 c1 c2 c3 c4 hsz s1 s2 q2 ht
                go_wp2
                go_quiet (fail)
                go_wp2
                go_roundw
                case rel => exact ⟨k + 1, by omega, by go_num, by rw [NX.out]; rfl, below_n hB _, ha0, ha1⟩
                case measure => simp [intOf]; omega
              · have NX := Lib.hid ((dec_keep hlt HP.out hdec (by rw [hqf]; omega)).trans hdec)
                clear hdec hqf hq hsn
                obtain ⟨pn, pv, pf, pe, pr⟩ := p
                obtain ⟨qn, qv, qf, qe, qr⟩ := q
                simp only at c0 c1 c2 c3 c4 hsz s1 s2 q2 ht
                go_wp2
                go_quiet (fail)
                go_wp2
                go_roundw
                case rel => exact ⟨k + 1, by omega, by go_num, by rw [NX.out]; rfl, below_n hB _, ha0, ha1⟩
                case measure => simp [intOf]; omega
          · have NX := Lib.hid (dec_skip (a0 := a0) (a1 := a1) hlt HP.out (Or.inl (by omega)) p.name)
            have s1' : decide (p.from' ≤ a0) = false := by simpa using s1
            obtain ⟨pn, pv, pf, pe, pr⟩ := p
            simp only at c0 c1 c2 c3 c4 hsz s1 s2 s1'
            go_wp2
            go_quiet (fail)
            go_wp2
            go_roundw
            case rel => exact ⟨k + 1, by omega, by go_num, by rw [NX.out], below_n hB _, ha0, ha1⟩
            case measure => simp [intOf]; omega
        · have NX := Lib.hid (dec_skip (a0 := a0) (a1 := a1) hlt HP.out (Or.inr (by omega)) p.name)
          have s2' : decide (p.entered ≤ a1) = false := by simpa using s2
          obtain ⟨pn, pv, pf, pe, pr⟩ := p
          simp only at c0 c1 c2 c3 c4 hsz s2 s2'
          go_wp2
          go_quiet (fail)
          go_wp2
          go_roundw
          case rel => exact ⟨k + 1, by omega, by go_num, by rw [NX.out], below_n hB _, ha0, ha1⟩
          case measure => simp [intOf]; omega
      · have NX := Lib.hid (dec_other (a0 := a0) (a1 := a1) hlt HP.out hn)
        obtain ⟨pn, pv, pf, pe, pr⟩ := p
        simp only at c0 c1 c2 c3 c4 hsz hn
        have hn1 := str_ne hn
        go_wp2
        go_quiet (fail)
        go_wp2
        go_roundw
        case rel => exact ⟨k + 1, by omega, by go_num, by rw [NX.out], below_n hB _, ha0, ha1⟩
        case measure => simp [intOf]; omega
    · obtain rfl : k = l.length := by omega
      go_wp2
      go_ret
      exact ⟨rfl, hB⟩
/-- the error of a list and a pair of days, in the words of the specification -/
theorem srcE_1 {l : List Pv} {a0 a1 : Int} (h : cpE l ≠ 0) : srcE l a0 a1 = cpE l := by unfold srcE feE; rw [if_neg h]
theorem srcE_2 {l : List Pv} {a0 a1 : Int} (h : cpE l = 0) : srcE l a0 a1 = cdE [a0, a1] := by
  unfold srcE feE; rw [if_pos h]
  unfold feE; split
  · rename_i e; rw [e]; rfl
  · rfl
set_option maxRecDepth 100000 in
set_option maxHeartbeats 1000000 in
theorem atErr_any (l : List Pv) (a0 a1 : Int) (b o cap : Nat) (w : World) (hl : l.length ≤ 1000000) (hc : PvsAt w b o l) :
    Calls Tryz.prog 8 #[.slice (some ⟨b, o, none⟩) l.length cap, .agg #[.int .i64 a0, .int .i64 a1]] w (RetB (.int .i64 (srcE l a0 a1)) w) := by
  have HX := Lib.hid (xCheckProvisions_any l b o cap (w.alloc (.cells #[.int .i64 a0, .int .i64 a1] 23)) hl (hc.below ((Below.refl _ _).alloc (Nat.le_refl _) _)))
  clear hc
  by_cases hz : cpE l = 0
  · rw [srcE_2 hz]
    rw [hz] at HX
    have HX := HX
    clear hz
    cases h0 : inB a0 0 200000
    · rw [cdE_2n (Or.inl h0)]
      go_enter Tryz.func8, Tryz.ntmps8
      go_wp2_with (first
        | (go_at_call 24; refine (HX.out).mono ?_; rintro e w1 ⟨rfl, hb1⟩; obtain ⟨hc1, hf1⟩ := bcell hb1)
        | (go_at_call 25; refine (xIsDay_any _ _).mono ?_; rintro e w' ⟨rfl, rfl⟩))
      go_ret
      exact ⟨rfl, ((Below.refl _ _).alloc (Nat.le_refl _) _).trans (hb1.mono (by simp))⟩
    · cases h1 : inB a1 0 200000
      · rw [cdE_2n (Or.inr h1)]
        go_enter Tryz.func8, Tryz.ntmps8
        go_wp2_with (first
          | (go_at_call 24; refine (HX.out).mono ?_; rintro e w1 ⟨rfl, hb1⟩; obtain ⟨hc1, hf1⟩ := bcell hb1)
          | (go_at_call 25; refine (xIsDay_any _ _).mono ?_; rintro e w' ⟨rfl, rfl⟩))
        go_ret
        exact ⟨rfl, ((Below.refl _ _).alloc (Nat.le_refl _) _).trans (hb1.mono (by simp))⟩
      · rw [cdE_2 h0 h1]
        go_enter Tryz.func8, Tryz.ntmps8
        go_wp2_with (first
          | (go_at_call 24; refine (HX.out).mono ?_; rintro e w1 ⟨rfl, hb1⟩; obtain ⟨hc1, hf1⟩ := bcell hb1)
          | (go_at_call 25; refine (xIsDay_any _ _).mono ?_; rintro e w' ⟨rfl, rfl⟩))
        go_ret
        exact ⟨rfl, ((Below.refl _ _).alloc (Nat.le_refl _) _).trans (hb1.mono (by simp))⟩
  · rw [srcE_1 hz]
    generalize cpE l = r at *
    have hrb : (r != 0) = true := by simpa using hz
    clear hz
    go_enter Tryz.func8, Tryz.ntmps8
    go_wp2_with (go_at_call 24; refine (HX.out).mono ?_; rintro e w1 ⟨rfl, hb1⟩)
    go_ret
    exact ⟨rfl, ((Below.refl _ _).alloc (Nat.le_refl _) _).trans (hb1.mono (by simp))⟩
end Go.Proofs.YtfphedcgmaakjaaGreatDoor
