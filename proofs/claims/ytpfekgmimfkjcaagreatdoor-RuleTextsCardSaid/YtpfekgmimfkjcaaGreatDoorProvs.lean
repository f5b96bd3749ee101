/-
  What CheckProvisions of package rule returns: a contract for all worlds in which the list lies in one block.
-/
import Derived.Test.YtpfekgmimfkjcaaGreatDoorProv
namespace Go.Proofs.YtpfekgmimfkjcaaGreatDoor
open Go.RowKit
attribute [local go_sem] set_drewN
/-- a provision lies in block b, from cell o on -/
def PvAt (w : World) (b o : Nat) (p : Pv) : Prop :=
  w.cell? ⟨b, o, none⟩ = some (.string p.name) ∧ w.cell? ⟨b, o + 1, none⟩ = some (.int .i64 p.value) ∧ w.cell? ⟨b, o + 2, none⟩ = some (.int .i64 p.from') ∧
  w.cell? ⟨b, o + 3, none⟩ = some (.int .i64 p.entered) ∧ w.cell? ⟨b, o + 4, none⟩ = some (.bool p.repeal)
/-- a list of provisions lies in block b, from cell o on -/
def PvsAt (w : World) (b o : Nat) (l : List Pv) : Prop := b < w.heap.size ∧ ∀ i (h : i < l.length), PvAt w b (o + i * 5) l[i] ∧ l[i].name.size ≤ maxLen
theorem PvAt.below {w w' : World} {b o : Nat} {p : Pv} (h : PvAt w b o p) (hb : Below w.heap.size w w') (hlt : b < w.heap.size) : PvAt w' b o p := by
  obtain ⟨a0, a1, a2, a3, a4⟩ := h
  exact ⟨(hb.cell hlt).trans a0, (hb.cell hlt).trans a1, (hb.cell hlt).trans a2, (hb.cell hlt).trans a3, (hb.cell hlt).trans a4⟩
theorem PvsAt.below {w w' : World} {b o : Nat} {l : List Pv} (h : PvsAt w b o l) (hb : Below w.heap.size w w') : PvsAt w' b o l :=
  ⟨Nat.lt_of_lt_of_le h.1 hb.size, fun i hi => ⟨(h.2 i hi).1.below hb h.1, (h.2 i hi).2⟩⟩
/-- the error at one place of a list -/
def bE (l : List Pv) (k : Nat) : Int :=
  match l[k]? with
  | none => 0
  | some p => if pvE p = 0 then (match k, l[k - 1]? with | _ + 1, some q => if p.entered < q.entered then 9 else 0 | _, _ => 0) else pvE p
/-- the error of a list -/
def cpE (l : List Pv) : Int := if 200 < l.length then 8 else feE ((List.range l.length).map (bE l))
theorem bE_bad {l : List Pv} {k : Nat} {p : Pv} (hk : k < l.length) (hp : l[k] = p) (h : pvE p ≠ 0) : bE l k = pvE p := by
  unfold bE; rw [List.getElem?_eq_getElem hk, hp]; simp only; rw [if_neg h]
theorem bE_0 {l : List Pv} {p : Pv} (hk : 0 < l.length) (hp : l[0] = p) (h : pvE p = 0) : bE l 0 = 0 := by
  unfold bE; rw [List.getElem?_eq_getElem hk, hp]; simp only; rw [if_pos h]
theorem bE_s {l : List Pv} {k : Nat} {p q : Pv} (hk : k + 1 < l.length) (hp : l[k + 1] = p) (hq : l[k] = q) (h : pvE p = 0) : bE l (k + 1) = if p.entered < q.entered then 9 else 0 := by
  unfold bE; rw [List.getElem?_eq_getElem hk, hp]; simp only; rw [if_pos h, show k + 1 - 1 = k from rfl, List.getElem?_eq_getElem (by omega), hq]
theorem cpE_ok {l : List Pv} (h : ¬ 200 < l.length) (h0 : ∀ j, j < l.length → bE l j = 0) : cpE l = 0 := by
  unfold cpE; rw [if_neg h]
  exact feE_ok (by intro x hx; simp only [List.mem_map, List.mem_range] at hx; obtain ⟨j, hj, rfl⟩ := hx; exact h0 j hj)
theorem cpE_no {l : List Pv} {k : Nat} (h : ¬ 200 < l.length) (hk : k < l.length) (h0 : ∀ j, j < k → bE l j = 0) (hb : bE l k ≠ 0) : cpE l = bE l k := by
  unfold cpE; rw [if_neg h]
  have := feE_no (xs := (List.range l.length).map (bE l)) (k := k) (by simpa using hk)
    (by intro x hx; rw [← List.map_take] at hx; simp only [List.mem_map] at hx; obtain ⟨j, hj, rfl⟩ := hx; rw [List.take_range] at hj; exact h0 j (by have := List.mem_range.1 hj; omega)) (by simpa using hb)
  simpa using this
set_option maxRecDepth 100000 in
set_option maxHeartbeats 1000000 in
theorem CheckProvisions_any (l : List Pv) (b o cap : Nat) (w : World) (hl : l.length ≤ 1000000) (hc : PvsAt w b o l) :
    Calls Tryz.prog 33 #[.slice (some ⟨b, o, none⟩) l.length cap] w (RetB (.int .i64 (cpE l)) w) := by
  by_cases h2 : 200 < l.length
  · have e : cpE l = 8 := by unfold cpE; rw [if_pos h2]
    rw [e]
    clear e hc
    go_enter Tryz.func33, Tryz.ntmps33
    go_wp2
    go_ret
    exact ⟨rfl, Below.refl _ _⟩
  · have HC := Lib.hid hc
    clear hc
    go_enter Tryz.func33, Tryz.ntmps33
    go_wp2
    go_loopw [11] (fun i wr => ∃ k : Nat, k ≤ l.length ∧ i = .int .i64 k ∧ (∀ j, j < k → bE l j = 0) ∧ Below w.heap.size w wr) (fun i _ => l.length - (intOf i).toNat)
    case atStart => exact ⟨0, Nat.zero_le _, rfl, fun j h => absurd h (by omega), Below.refl _ _⟩
    case round =>
      obtain ⟨k, hk, rfl, hall, hB⟩ := hrel
      have HA := Lib.hid hall
      clear hall
      by_cases hlt : k < l.length
      · have hc := HC.out.below hB
        obtain ⟨⟨c0, c1, c2, c3, c4⟩, hsz⟩ := hc.2 k hlt
        have hbl := hc.1
        clear hc
        obtain ⟨p, hp⟩ : ∃ p, l[k] = p := ⟨_, rfl⟩
        rw [hp] at c0 c1 c2 c3 c4 hsz
        have HP := Lib.hid hp
        clear hp
        have ck := fun w => checkProvision_any p w hsz
        have kb := bE_bad hlt HP.out
        by_cases hz : pvE p = 0
        · have hz' := Lib.hid hz
          rw [hz] at ck
          have CK := Lib.hid ck
          clear ck kb hz
          have nxt : bE l k = 0 → ∀ j, j < k + 1 → bE l j = 0 := fun e j hj => by
            by_cases g : j = k
            · subst g; exact e
            · exact HA.out j (by omega)
          have NX := Lib.hid nxt
          clear nxt
          cases k with
          | zero =>
            have HN := Lib.hid (NX.out (bE_0 hlt HP.out hz'.out))
            obtain ⟨nm, v, fr, en, rp⟩ := p
            simp only [Nat.zero_mul, Nat.add_zero] at c0 c1 c2 c3 c4 hsz
            go_wp2_with (go_at_call 25; refine (CK.out _).mono ?_; rintro e w1 ⟨rfl, hb1⟩)
            go_quiet (fail)
            go_wp2
            go_roundw
            case rel => exact ⟨1, by omega, by go_num, HN.out, below_n (((hB.alloc hB.size _).trans (hb1.mono (by have := hB.size; simp; omega)))) _⟩
            case measure => simp [intOf]; omega
          | succ k =>
            obtain ⟨⟨_, _, _, q3, _⟩, _⟩ := (HC.out.below hB).2 k (by omega)
            obtain ⟨q, hq⟩ : ∃ q, l[k] = q := ⟨_, rfl⟩
            rw [hq] at q3
            have bs := bE_s hlt HP.out hq hz'.out
            have HQ := Lib.hid hq
            clear hq
            obtain ⟨qn, qv, qf, qe, qr⟩ := q
            obtain ⟨nm, v, fr, en, rp⟩ := p
            simp only at c0 c1 c2 c3 c4 hsz q3 bs
            by_cases hlt2 : en < qe
            · rw [if_pos hlt2] at bs
              have e9 := Lib.hid (cpE_no h2 hlt HA.out (by rw [bs]; decide))
              have BS := Lib.hid bs
              clear bs
              go_wp2_with (go_at_call 25; refine (CK.out _).mono ?_; rintro e w1 ⟨rfl, hb1⟩; obtain ⟨hc1, hf1⟩ := bcell hb1)
              go_quiet (fail)
              go_wp2
              go_ret
              exact ⟨ret_i (by rw [e9.out, BS.out]), below_n (((hB.alloc hB.size _).trans (hb1.mono (by have := hB.size; simp; omega)))) _⟩
            · rw [if_neg hlt2] at bs
              have HN := Lib.hid (NX.out bs)
              clear bs
              go_wp2_with (go_at_call 25; refine (CK.out _).mono ?_; rintro e w1 ⟨rfl, hb1⟩; obtain ⟨hc1, hf1⟩ := bcell hb1)
              go_quiet (fail)
              go_wp2
              go_roundw
              case rel => exact ⟨k + 1 + 1, by omega, by go_num, HN.out, below_n (((hB.alloc hB.size _).trans (hb1.mono (by have := hB.size; simp; omega)))) _⟩
              case measure => simp [intOf]; omega
        · have kb := kb hz
          have e9 := Lib.hid (cpE_no h2 hlt HA.out (by rw [kb]; exact hz))
          have KB := Lib.hid kb
          generalize hr : pvE p = r at *
          have HR := Lib.hid hr
          have CK := Lib.hid ck
          have hzb : (r != 0) = true := by simpa using hz
          clear kb hr ck hz
          obtain ⟨nm, v, fr, en, rp⟩ := p
          simp only at c0 c1 c2 c3 c4 hsz
          go_wp2_with (go_at_call 25; refine (CK.out _).mono ?_; rintro e w1 ⟨rfl, hb1⟩)
          go_ret
          exact ⟨ret_i (by rw [e9.out, KB.out]), (hB.alloc hB.size _).trans (hb1.mono (by have := hB.size; simp; omega))⟩
      · go_wp2
        go_ret
        exact ⟨ret_i (cpE_ok h2 (fun j hj => HA.out j (by omega))).symm, hB⟩
end Go.Proofs.YtpfekgmimfkjcaaGreatDoor
