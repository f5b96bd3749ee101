/-
  What CheckProvisions and Source of the specification of package rule, and atErr and Laws of the statements, return: contracts.
-/
import Derived.Test.YtpfekgmimfkjcaaGreatDoorRefProv
namespace Go.Proofs.YtpfekgmimfkjcaaGreatDoor
open Go.RowKit
attribute [local go_sem] set_drewN
set_option maxRecDepth 100000 in
set_option maxHeartbeats 1000000 in
theorem xCheckProvisions_any (l : List Pv) (b o cap : Nat) (w : World) (hl : l.length ≤ 1000000) (hc : PvsAt w b o l) :
    Calls Tryz.prog 16 #[.slice (some ⟨b, o, none⟩) l.length cap] w (RetB (.int .i64 (cpE l)) w) := by
  by_cases h2 : 200 < l.length
  · have e : cpE l = 8 := by unfold cpE; rw [if_pos h2]
    rw [e]
    clear e hc
    go_enter Tryz.func16, Tryz.ntmps16
    go_wp2
    go_ret
    exact ⟨rfl, Below.refl _ _⟩
  · have HC := Lib.hid hc
    clear hc
    go_enter Tryz.func16, Tryz.ntmps16
    go_wp2
    go_loopw [3] (fun i wr => ∃ k : Nat, k ≤ l.length ∧ i = .int .i64 k ∧ (∀ j, j < k → bE l j = 0) ∧ Below w.heap.size w wr) (fun i _ => l.length - (intOf i).toNat)
    case atStart => exact ⟨0, Nat.zero_le _, rfl, fun j h => absurd h (by omega), Below.refl _ _⟩
    case round =>
      obtain ⟨k, hk, rfl, hall, hB⟩ := hrel
      have HA := Lib.hid hall
      clear hall
      by_cases hlt : k < l.length
      · have hc := HC.out.below hB
        obtain ⟨⟨c0, c1, c2, c3, c4⟩, hsz⟩ := hc.2 k hlt
        have hbl := hc.1
        clear hc
        obtain ⟨p, hp⟩ : ∃ p, l[k] = p := ⟨_, rfl⟩
        rw [hp] at c0 c1 c2 c3 c4 hsz
        have HP := Lib.hid hp
        clear hp
        have ck := fun w => xProvisionErr_any p w hsz
        have kb := bE_bad hlt HP.out
        by_cases hz : pvE p = 0
        · have hz' := Lib.hid hz
          rw [hz] at ck
          have CK := Lib.hid ck
          clear ck kb hz
          have nxt : bE l k = 0 → ∀ j, j < k + 1 → bE l j = 0 := fun e j hj => by
            by_cases g : j = k
            · subst g; exact e
            · exact HA.out j (by omega)
          have NX := Lib.hid nxt
          clear nxt
          cases k with
          | zero =>
            have HN := Lib.hid (NX.out (bE_0 hlt HP.out hz'.out))
            obtain ⟨nm, v, fr, en, rp⟩ := p
            simp only [Nat.zero_mul, Nat.add_zero] at c0 c1 c2 c3 c4 hsz
            go_wp2_with (go_at_call 10; refine (CK.out _).mono ?_; rintro e w1 ⟨rfl, hb1⟩; obtain ⟨hc1, hf1⟩ := bcell hb1)
            go_quiet (fail)
            go_wp2
            go_roundw
            case rel => exact ⟨1, by omega, by go_num, HN.out, below_n ((hB.trans (hb1.mono hB.size))) _⟩
            case measure => simp [intOf]; omega
          | succ k =>
            obtain ⟨⟨_, _, _, q3, _⟩, _⟩ := (HC.out.below hB).2 k (by omega)
            obtain ⟨q, hq⟩ : ∃ q, l[k] = q := ⟨_, rfl⟩
            rw [hq] at q3
            have bs := bE_s hlt HP.out hq hz'.out
            have HQ := Lib.hid hq
            clear hq
            obtain ⟨qn, qv, qf, qe, qr⟩ := q
            obtain ⟨nm, v, fr, en, rp⟩ := p
            simp only at c0 c1 c2 c3 c4 hsz q3 bs
            by_cases hlt2 : en < qe
            · rw [if_pos hlt2] at bs
              have e9 := Lib.hid (cpE_no h2 hlt HA.out (by rw [bs]; decide))
              have BS := Lib.hid bs
              clear bs
              go_wp2_with (go_at_call 10; refine (CK.out _).mono ?_; rintro e w1 ⟨rfl, hb1⟩; obtain ⟨hc1, hf1⟩ := bcell hb1)
              go_quiet (fail)
              go_wp2
              go_ret
              exact ⟨ret_i (by rw [e9.out, BS.out]), below_n ((hB.trans (hb1.mono hB.size))) _⟩
            · rw [if_neg hlt2] at bs
              have HN := Lib.hid (NX.out bs)
              clear bs
              go_wp2_with (go_at_call 10; refine (CK.out _).mono ?_; rintro e w1 ⟨rfl, hb1⟩; obtain ⟨hc1, hf1⟩ := bcell hb1)
              go_quiet (fail)
              go_wp2
              go_roundw
              case rel => exact ⟨k + 1 + 1, by omega, by go_num, HN.out, below_n ((hB.trans (hb1.mono hB.size))) _⟩
              case measure => simp [intOf]; omega
        · have kb := kb hz
          have e9 := Lib.hid (cpE_no h2 hlt HA.out (by rw [kb]; exact hz))
          have KB := Lib.hid kb
          generalize hr : pvE p = r at *
          have HR := Lib.hid hr
          have CK := Lib.hid ck
          have hzb : (r != 0) = true := by simpa using hz
          clear kb hr ck hz
          obtain ⟨nm, v, fr, en, rp⟩ := p
          simp only at c0 c1 c2 c3 c4 hsz
          go_wp2_with (go_at_call 10; refine (CK.out _).mono ?_; rintro e w1 ⟨rfl, hb1⟩)
          go_ret
          exact ⟨ret_i (by rw [e9.out, KB.out]), hB.trans (hb1.mono hB.size)⟩
      · go_wp2
        go_ret
        exact ⟨ret_i (cpE_ok h2 (fun j hj => HA.out j (by omega))).symm, hB⟩
end Go.Proofs.YtpfekgmimfkjcaaGreatDoor
