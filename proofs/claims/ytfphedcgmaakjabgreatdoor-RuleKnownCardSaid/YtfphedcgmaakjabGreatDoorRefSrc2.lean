/-
  What Source of the specification of package rule, and atErr and Laws of the statements, return: contracts.
-/
import Derived.Test.YtfphedcgmaakjabGreatDoorValue
namespace Go.Proofs.YtfphedcgmaakjabGreatDoor
open Go.RowKit
attribute [local go_sem] set_drewN
theorem bLetter_any (n : Int) (w : World) : Calls Tryz.prog 66 #[.int .u8 n] w (Ret (.bool (letB n)) w) := by
  by_cases h1 : 97 ≤ n
  · by_cases h2 : n ≤ 122
    · have e : letB n = true := by simp [letB, h1, h2]
      rw [e]
      clear e
      go_enter Tryz.func66, Tryz.ntmps66
      go_wp2
      go_ret
      exact ⟨rfl, rfl⟩
    · have e : letB n = false := by simp [letB]; omega
      have h3 : 65 ≤ n := by omega
      have h4 : ¬ n ≤ 90 := by omega
      rw [e]
      clear e
      go_enter Tryz.func66, Tryz.ntmps66
      go_wp2
      go_ret
      exact ⟨rfl, rfl⟩
  · have d1 : decide (97 ≤ n) = false := by simpa using h1
    by_cases h3 : 65 ≤ n
    · by_cases h4 : n ≤ 90
      · have e : letB n = true := by simp [letB, h3, h4]
        rw [e]
        clear e
        go_enter Tryz.func66, Tryz.ntmps66
        go_wp2
        go_ret
        exact ⟨rfl, rfl⟩
      · have e : letB n = false := by simp [letB]; omega
        rw [e]
        clear e
        go_enter Tryz.func66, Tryz.ntmps66
        go_wp2
        go_ret
        exact ⟨rfl, rfl⟩
    · have e : letB n = false := by simp [letB]; omega
      have d3 : decide (65 ≤ n) = false := by simpa using h3
      rw [e]
      clear e
      go_enter Tryz.func66, Tryz.ntmps66
      go_wp2
      go_ret
      exact ⟨rfl, rfl⟩
theorem bDigit_any (n : Int) (w : World) : Calls Tryz.prog 67 #[.int .u8 n] w (Ret (.bool (digB n)) w) := by
  by_cases h1 : 48 ≤ n
  · by_cases h2 : n ≤ 57
    · have e : digB n = true := by simp [digB, h1, h2]
      rw [e]
      clear e
      go_enter Tryz.func67, Tryz.ntmps67
      go_wp2
      go_ret
      exact ⟨rfl, rfl⟩
    · have e : digB n = false := by simp [digB]; omega
      rw [e]
      clear e
      go_enter Tryz.func67, Tryz.ntmps67
      go_wp2
      go_ret
      exact ⟨rfl, rfl⟩
  · have e : digB n = false := by simp [digB]; omega
    have d1 : decide (48 ≤ n) = false := by simpa using h1
    rw [e]
    clear e
    go_enter Tryz.func67, Tryz.ntmps67
    go_wp2
    go_ret
    exact ⟨rfl, rfl⟩
theorem tail_head {s : ByteArray} (h0 : 0 < s.size) (h : letB (s[0].toNat : Int) = true) : ∀ j (hj : j < s.size), j < 1 → tailB (s[j].toNat : Int) = true := by
  intro j hj hj1
  have e0 : j = 0 := by omega
  subst e0
  simp [tailB, h]
set_option maxHeartbeats 1000000 in
theorem bIsName_any (s : ByteArray) (w : World) (hs : s.size ≤ maxLen) : Calls Tryz.prog 36 #[.string s] w (Ret (.bool (nameB s)) w) := by
  unfold maxLen at hs
  by_cases h1 : s.size < 1
  · rw [nameB_1 (Or.inl h1)]
    go_enter Tryz.func36, Tryz.ntmps36
    go_wp2
    go_ret
    exact ⟨rfl, rfl⟩
  · have d1 : decide (s.size < 1) = false := by simpa using h1
    by_cases h2 : 12 < s.size
    · rw [nameB_1 (Or.inr h2)]
      go_enter Tryz.func36, Tryz.ntmps36
      go_wp2
      go_ret
      exact ⟨rfl, rfl⟩
    · have d2 : decide (12 < s.size) = false := by simpa using h2
      have h0 : 0 < s.size := by omega
      cases h3 : letB (s[0].toNat : Int)
      · rw [nameB_2 h0 h3]
        go_enter Tryz.func36, Tryz.ntmps36
        go_wp2_with (go_at_call 66; refine (bLetter_any _ _).mono ?_; rintro e w' ⟨rfl, rfl⟩)
        go_ret
        exact ⟨rfl, rfl⟩
      · have H3 := Lib.hid h3
        go_enter Tryz.func36, Tryz.ntmps36
        go_wp2_with (go_at_call 66; refine (bLetter_any _ _).mono ?_; rintro e w' ⟨rfl, rfl⟩)
        go_loop [3] (fun i => ∃ k : Nat, k ≤ s.size ∧ i = .int .i64 k ∧ (∀ j (hj : j < s.size), j < k → tailB (s[j].toNat : Int) = true) ∧ 1 ≤ k) (fun i => s.size - (intOf i).toNat)
        case atStart => exact ⟨1, by omega, rfl, tail_head h0 H3.out, Nat.le_refl _⟩
        case round =>
          obtain ⟨k, hk, rfl, hall, hk1⟩ := hrel
          have HA := Lib.hid hall
          clear hall
          by_cases hlt : k < s.size
          · cases hb : tailB (s[k].toNat : Int)
            · have N3 := Lib.hid (nameB_3 hlt hb)
              have hb' := hb
              simp only [tailB, Bool.or_eq_false_iff] at hb'
              obtain ⟨⟨b1, b2⟩, b3⟩ := hb'
              have b3' : ((s[k].toNat : Int) != 45) = true := by simpa using b3
              clear hb
              go_wp2_with (first
                | (go_at_call 66; refine (bLetter_any _ _).mono ?_; rintro e w' ⟨rfl, rfl⟩)
                | (go_at_call 67; refine (bDigit_any _ _).mono ?_; rintro e w' ⟨rfl, rfl⟩))
              go_ret
              exact ⟨by rw [N3.out]; rfl, rfl⟩
            · have HB := Lib.hid hb
              clear hb
              have ext : ∀ j (hj : j < s.size), j < k + 1 → tailB (s[j].toNat : Int) = true := by
                intro j hj hjk
                by_cases e : j = k
                · subst e; exact HB.out
                · exact HA.out j hj (by omega)
              have EX := Lib.hid ext
              clear ext
              cases b1 : letB (s[k].toNat : Int)
              · cases b2 : digB (s[k].toNat : Int)
                · have b3 : ((s[k].toNat : Int) != 45) = false := by
                    have := HB.out; simp only [tailB, b1, b2, Bool.false_or] at this; simpa using this
                  go_wp2_with (first
                    | (go_at_call 66; refine (bLetter_any _ _).mono ?_; rintro e w' ⟨rfl, rfl⟩)
                    | (go_at_call 67; refine (bDigit_any _ _).mono ?_; rintro e w' ⟨rfl, rfl⟩))
                  go_round
                  case rel => exact ⟨k + 1, by omega, by go_num, EX.out, by omega⟩
                  case measure => simp [intOf]; omega
                · go_wp2_with (first
                    | (go_at_call 66; refine (bLetter_any _ _).mono ?_; rintro e w' ⟨rfl, rfl⟩)
                    | (go_at_call 67; refine (bDigit_any _ _).mono ?_; rintro e w' ⟨rfl, rfl⟩))
                  go_round
                  case rel => exact ⟨k + 1, by omega, by go_num, EX.out, by omega⟩
                  case measure => simp [intOf]; omega
              · go_wp2_with (first
                  | (go_at_call 66; refine (bLetter_any _ _).mono ?_; rintro e w' ⟨rfl, rfl⟩)
                  | (go_at_call 67; refine (bDigit_any _ _).mono ?_; rintro e w' ⟨rfl, rfl⟩))
                go_round
                case rel => exact ⟨k + 1, by omega, by go_num, EX.out, by omega⟩
                case measure => simp [intOf]; omega
          · go_wp2
            go_ret
            exact ⟨by rw [nameB_4 (by omega) (by omega) H3.out (fun j hj => HA.out j hj (by omega))]; rfl, rfl⟩
theorem pvE_1 {p : Pv} (h : nameB p.name = false) : pvE p = 4 := by simp [pvE, feE, eI, h]
theorem pvE_2 {p : Pv} (h : nameB p.name = true) (h2 : inB p.value (-1000000000) 1000000000 = false ∨ inB p.from' 0 200000 = false ∨ inB p.entered 0 200000 = false) : pvE p = 2 := by
  rcases h2 with h2 | h2 | h2
  · simp [pvE, feE, eI, h, h2]
  · cases h3 : inB p.value (-1000000000) 1000000000 <;> simp [pvE, feE, eI, h, h2, h3, cdE]
  · cases h3 : inB p.value (-1000000000) 1000000000 <;> simp [pvE, feE, eI, h, h2, h3, cdE]
theorem pvE_3 {p : Pv} (h : nameB p.name = true) (h1 : inB p.value (-1000000000) 1000000000 = true) (h2 : inB p.from' 0 200000 = true) (h3 : inB p.entered 0 200000 = true) : pvE p = eI (p.repeal && p.value != 0) 3 := by
  unfold pvE
  rw [h, h1, cdE_2 h2 h3]
  cases (p.repeal && p.value != 0) <;> rfl
set_option maxRecDepth 100000 in
set_option maxHeartbeats 1000000 in
theorem xProvisionErr_any (p : Pv) (w : World) (hs : p.name.size ≤ maxLen) : Calls Tryz.prog 11 #[p.val] w (RetB (.int .i64 (pvE p)) w) := by
  obtain ⟨nm, v, fr, en, rp⟩ := p
  simp only [Pv.val]
  simp only at hs
  cases h : nameB nm
  · rw [pvE_1 h]
    go_enter Tryz.func11, Tryz.ntmps11
    go_wp2_with (go_at_call 36; refine (bIsName_any _ _ hs).mono ?_; rintro e w' ⟨rfl, rfl⟩)
    go_ret
    exact ⟨rfl, (Below.refl _ _).alloc (Nat.le_refl _) _⟩
  · cases h1 : inB v (-1000000000) 1000000000
    · rw [pvE_2 h (Or.inl h1)]
      go_enter Tryz.func11, Tryz.ntmps11
      go_wp2_with (first
        | (go_at_call 36; refine (bIsName_any _ _ hs).mono ?_; rintro e w' ⟨rfl, rfl⟩)
        | (go_at_call 37; refine (bWithin_any _ _ _ _).mono ?_; rintro e w' ⟨rfl, rfl⟩)
        | (go_at_call 38; refine (xIsDay_any _ _).mono ?_; rintro e w' ⟨rfl, rfl⟩))
      go_ret
      exact ⟨rfl, (Below.refl _ _).alloc (Nat.le_refl _) _⟩
    · cases h2 : inB fr 0 200000
      · rw [pvE_2 h (Or.inr (Or.inl h2))]
        go_enter Tryz.func11, Tryz.ntmps11
        go_wp2_with (first
          | (go_at_call 36; refine (bIsName_any _ _ hs).mono ?_; rintro e w' ⟨rfl, rfl⟩)
          | (go_at_call 37; refine (bWithin_any _ _ _ _).mono ?_; rintro e w' ⟨rfl, rfl⟩)
          | (go_at_call 38; refine (xIsDay_any _ _).mono ?_; rintro e w' ⟨rfl, rfl⟩))
        go_ret
        exact ⟨rfl, (Below.refl _ _).alloc (Nat.le_refl _) _⟩
      · cases h3 : inB en 0 200000
        · rw [pvE_2 h (Or.inr (Or.inr h3))]
          go_enter Tryz.func11, Tryz.ntmps11
          go_wp2_with (first
            | (go_at_call 36; refine (bIsName_any _ _ hs).mono ?_; rintro e w' ⟨rfl, rfl⟩)
            | (go_at_call 37; refine (bWithin_any _ _ _ _).mono ?_; rintro e w' ⟨rfl, rfl⟩)
            | (go_at_call 38; refine (xIsDay_any _ _).mono ?_; rintro e w' ⟨rfl, rfl⟩))
          go_ret
          exact ⟨rfl, (Below.refl _ _).alloc (Nat.le_refl _) _⟩
        · rw [pvE_3 h h1 h2 h3]
          simp only
          cases rp
          · rw [Bool.false_and, eI_f]
            go_enter Tryz.func11, Tryz.ntmps11
            go_wp2_with (first
              | (go_at_call 36; refine (bIsName_any _ _ hs).mono ?_; rintro e w' ⟨rfl, rfl⟩)
              | (go_at_call 37; refine (bWithin_any _ _ _ _).mono ?_; rintro e w' ⟨rfl, rfl⟩)
              | (go_at_call 38; refine (xIsDay_any _ _).mono ?_; rintro e w' ⟨rfl, rfl⟩))
            go_ret
            exact ⟨rfl, (Below.refl _ _).alloc (Nat.le_refl _) _⟩
          · rw [Bool.true_and]
            cases hv : (v != 0)
            · rw [eI_f]
              go_enter Tryz.func11, Tryz.ntmps11
              go_wp2_with (first
                | (go_at_call 36; refine (bIsName_any _ _ hs).mono ?_; rintro e w' ⟨rfl, rfl⟩)
                | (go_at_call 37; refine (bWithin_any _ _ _ _).mono ?_; rintro e w' ⟨rfl, rfl⟩)
                | (go_at_call 38; refine (xIsDay_any _ _).mono ?_; rintro e w' ⟨rfl, rfl⟩))
              go_ret
              exact ⟨rfl, (Below.refl _ _).alloc (Nat.le_refl _) _⟩
            · rw [eI_t]
              go_enter Tryz.func11, Tryz.ntmps11
              go_wp2_with (first
                | (go_at_call 36; refine (bIsName_any _ _ hs).mono ?_; rintro e w' ⟨rfl, rfl⟩)
                | (go_at_call 37; refine (bWithin_any _ _ _ _).mono ?_; rintro e w' ⟨rfl, rfl⟩)
                | (go_at_call 38; refine (xIsDay_any _ _).mono ?_; rintro e w' ⟨rfl, rfl⟩))
              go_ret
              exact ⟨rfl, (Below.refl _ _).alloc (Nat.le_refl _) _⟩
end Go.Proofs.YtfphedcgmaakjabGreatDoor
namespace Go.Proofs.YtfphedcgmaakjabGreatDoor
open Go.RowKit
attribute [local go_sem] set_drewN
set_option maxRecDepth 100000 in
set_option maxHeartbeats 1000000 in
theorem xCheckProvisions_any (l : List Pv) (b o cap : Nat) (w : World) (hl : l.length ≤ 1000000) (hc : PvsAt w b o l) :
    Calls Tryz.prog 17 #[.slice (some ⟨b, o, none⟩) l.length cap] w (RetB (.int .i64 (cpE l)) w) := by
  by_cases h2 : 200 < l.length
  · have e : cpE l = 8 := by unfold cpE; rw [if_pos h2]
    rw [e]
    clear e hc
    go_enter Tryz.func17, Tryz.ntmps17
    go_wp2
    go_ret
    exact ⟨rfl, Below.refl _ _⟩
  · have HC := Lib.hid hc
    clear hc
    go_enter Tryz.func17, Tryz.ntmps17
    go_wp2
    go_loopw [3] (fun i wr => ∃ k : Nat, k ≤ l.length ∧ i = .int .i64 k ∧ (∀ j, j < k → bE l j = 0) ∧ Below w.heap.size w wr) (fun i _ => l.length - (intOf i).toNat)
    case atStart => exact ⟨0, Nat.zero_le _, rfl, fun j h => absurd h (by omega), Below.refl _ _⟩
    case round =>
      obtain ⟨k, hk, rfl, hall, hB⟩ := hrel
      have HA := Lib.hid hall
      clear hall
      by_cases hlt : k < l.length
      · have hc := HC.out.below hB
        obtain ⟨⟨c0, c1, c2, c3, c4⟩, hsz⟩ := hc.2 k hlt
        have hbl := hc.1
        clear hc
        obtain ⟨p, hp⟩ : ∃ p, l[k] = p := ⟨_, rfl⟩
        rw [hp] at c0 c1 c2 c3 c4 hsz
        have HP := Lib.hid hp
        clear hp
        have ck := fun w => xProvisionErr_any p w hsz
        have kb := bE_bad hlt HP.out
        by_cases hz : pvE p = 0
        · have hz' := Lib.hid hz
          rw [hz] at ck
          have CK := Lib.hid ck
          clear ck kb hz
          have nxt : bE l k = 0 → ∀ j, j < k + 1 → bE l j = 0 := fun e j hj => by
            by_cases g : j = k
            · subst g; exact e
            · exact HA.out j (by omega)
          have NX := Lib.hid nxt
          clear nxt
          cases k with
          | zero =>
            have HN := Lib.hid (NX.out (bE_0 hlt HP.out hz'.out))
            obtain ⟨nm, v, fr, en, rp⟩ := p
            simp only [Nat.zero_mul, Nat.add_zero] at c0 c1 c2 c3 c4 hsz
            go_wp2_with (go_at_call 11; refine (CK.out _).mono ?_; rintro e w1 ⟨rfl, hb1⟩; obtain ⟨hc1, hf1⟩ := bcell hb1)
            go_quiet (fail)
            go_wp2
            go_roundw
            case rel => exact ⟨1, by omega, by go_num, HN.out, below_n ((hB.trans (hb1.mono hB.size))) _⟩
            case measure => simp [intOf]; omega
          | succ k =>
            obtain ⟨⟨_, _, _, q3, _⟩, _⟩ := (HC.out.below hB).2 k (by omega)
            obtain ⟨q, hq⟩ : ∃ q, l[k] = q := ⟨_, rfl⟩
            rw [hq] at q3
            have bs := bE_s hlt HP.out hq hz'.out
            have HQ := Lib.hid hq
            clear hq
            obtain ⟨qn, qv, qf, qe, qr⟩ := q
            obtain ⟨nm, v, fr, en, rp⟩ := p
            simp only at c0 c1 c2 c3 c4 hsz q3 bs
            by_cases hlt2 : en < qe
            · rw [if_pos hlt2] at bs
              have e9 := Lib.hid (cpE_no h2 hlt HA.out (by rw [bs]; decide))
              have BS := Lib.hid bs
              clear bs
              go_wp2_with (go_at_call 11; refine (CK.out _).mono ?_; rintro e w1 ⟨rfl, hb1⟩; obtain ⟨hc1, hf1⟩ := bcell hb1)
              go_quiet (fail)
              go_wp2
              go_ret
              exact ⟨ret_i (by rw [e9.out, BS.out]), below_n ((hB.trans (hb1.mono hB.size))) _⟩
            · rw [if_neg hlt2] at bs
              have HN := Lib.hid (NX.out bs)
              clear bs
              go_wp2_with (go_at_call 11; refine (CK.out _).mono ?_; rintro e w1 ⟨rfl, hb1⟩; obtain ⟨hc1, hf1⟩ := bcell hb1)
              go_quiet (fail)
              go_wp2
              go_roundw
              case rel => exact ⟨k + 1 + 1, by omega, by go_num, HN.out, below_n ((hB.trans (hb1.mono hB.size))) _⟩
              case measure => simp [intOf]; omega
        · have kb := kb hz
          have e9 := Lib.hid (cpE_no h2 hlt HA.out (by rw [kb]; exact hz))
          have KB := Lib.hid kb
          generalize hr : pvE p = r at *
          have HR := Lib.hid hr
          have CK := Lib.hid ck
          have hzb : (r != 0) = true := by simpa using hz
          clear kb hr ck hz
          obtain ⟨nm, v, fr, en, rp⟩ := p
          simp only at c0 c1 c2 c3 c4 hsz
          go_wp2_with (go_at_call 11; refine (CK.out _).mono ?_; rintro e w1 ⟨rfl, hb1⟩)
          go_ret
          exact ⟨ret_i (by rw [e9.out, KB.out]), hB.trans (hb1.mono hB.size)⟩
      · go_wp2
        go_ret
        exact ⟨ret_i (cpE_ok h2 (fun j hj => HA.out j (by omega))).symm, hB⟩
end Go.Proofs.YtfphedcgmaakjabGreatDoor
namespace Go.Proofs.YtfphedcgmaakjabGreatDoor
open Go.RowKit
attribute [local go_sem] set_drewN
theorem str_ne {a b : ByteArray} (h : ¬ a = b) : (a.toList == b.toList) = false := by
  rw [beq_eq_false_iff_ne]
  intro c
  rw [ByteArray.toList_eq, ByteArray.toList_eq] at c
  exact h (keyL_inj (by rw [keyL, keyL, c]))
/-- the number that decides, or -1 -/
def srcI : Option Nat → Int
  | none => -1
  | some i => i
/-- the error of a list and a pair of days, in the words of the specification -/
theorem srcE_1 {l : List Pv} {a0 a1 : Int} (h : cpE l ≠ 0) : srcE l a0 a1 = cpE l := by unfold srcE feE; rw [if_neg h]
theorem srcE_2 {l : List Pv} {a0 a1 : Int} (h : cpE l = 0) : srcE l a0 a1 = cdE [a0, a1] := by
  unfold srcE feE; rw [if_pos h]
  unfold feE; split
  · rename_i e; rw [e]; rfl
  · rfl
set_option maxRecDepth 100000 in
set_option maxHeartbeats 1000000 in
theorem atErr_any (l : List Pv) (a0 a1 : Int) (b o cap : Nat) (w : World) (hl : l.length ≤ 1000000) (hc : PvsAt w b o l) :
    Calls Tryz.prog 19 #[.slice (some ⟨b, o, none⟩) l.length cap, .agg #[.int .i64 a0, .int .i64 a1]] w (RetB (.int .i64 (srcE l a0 a1)) w) := by
  have HX := Lib.hid (xCheckProvisions_any l b o cap (w.alloc (.cells #[.int .i64 a0, .int .i64 a1] 45)) hl (hc.below ((Below.refl _ _).alloc (Nat.le_refl _) _)))
  clear hc
  by_cases hz : cpE l = 0
  · rw [srcE_2 hz]
    rw [hz] at HX
    have HX := HX
    clear hz
    cases h0 : inB a0 0 200000
    · rw [cdE_2n (Or.inl h0)]
      go_enter Tryz.func19, Tryz.ntmps19
      go_wp2_with (first
        | (go_at_call 17; refine (HX.out).mono ?_; rintro e w1 ⟨rfl, hb1⟩; obtain ⟨hc1, hf1⟩ := bcell hb1)
        | (go_at_call 38; refine (xIsDay_any _ _).mono ?_; rintro e w' ⟨rfl, rfl⟩))
      go_ret
      exact ⟨rfl, ((Below.refl _ _).alloc (Nat.le_refl _) _).trans (hb1.mono (by simp))⟩
    · cases h1 : inB a1 0 200000
      · rw [cdE_2n (Or.inr h1)]
        go_enter Tryz.func19, Tryz.ntmps19
        go_wp2_with (first
          | (go_at_call 17; refine (HX.out).mono ?_; rintro e w1 ⟨rfl, hb1⟩; obtain ⟨hc1, hf1⟩ := bcell hb1)
          | (go_at_call 38; refine (xIsDay_any _ _).mono ?_; rintro e w' ⟨rfl, rfl⟩))
        go_ret
        exact ⟨rfl, ((Below.refl _ _).alloc (Nat.le_refl _) _).trans (hb1.mono (by simp))⟩
      · rw [cdE_2 h0 h1]
        go_enter Tryz.func19, Tryz.ntmps19
        go_wp2_with (first
          | (go_at_call 17; refine (HX.out).mono ?_; rintro e w1 ⟨rfl, hb1⟩; obtain ⟨hc1, hf1⟩ := bcell hb1)
          | (go_at_call 38; refine (xIsDay_any _ _).mono ?_; rintro e w' ⟨rfl, rfl⟩))
        go_ret
        exact ⟨rfl, ((Below.refl _ _).alloc (Nat.le_refl _) _).trans (hb1.mono (by simp))⟩
  · rw [srcE_1 hz]
    generalize cpE l = r at *
    have hrb : (r != 0) = true := by simpa using hz
    clear hz
    go_enter Tryz.func19, Tryz.ntmps19
    go_wp2_with (go_at_call 17; refine (HX.out).mono ?_; rintro e w1 ⟨rfl, hb1⟩)
    go_ret
    exact ⟨rfl, ((Below.refl _ _).alloc (Nat.le_refl _) _).trans (hb1.mono (by simp))⟩
end Go.Proofs.YtfphedcgmaakjabGreatDoor
