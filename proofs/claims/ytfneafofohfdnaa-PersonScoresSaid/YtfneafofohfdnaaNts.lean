/-
  Lists of entries in memory; what CheckNotes of package person and of its specification return.
-/
import Derived.Test.YtfneafofohfdnaaRCkN
import Derived.Laws.AppendOwn
import Derived.Deep.AppendLies
namespace Go.Proofs.Ytfneafofohfdnaa
open Go.RowKit
attribute [local go_sem] set_drewN
/-- an entry -/
structure Nt where
  nm : List UInt8
  bf : Int
  bt : Int
  df : Int
  dt : Int
abbrev Nt.val (p : Nt) : Value := .agg #[.string ⟨p.nm.toArray⟩, .int .i64 p.bf, .int .i64 p.bt, .int .i64 p.df, .int .i64 p.dt]
/-- the cells of an entry, and of a list -/
def ntC (p : Nt) : List Value := [.string ⟨p.nm.toArray⟩, .int .i64 p.bf, .int .i64 p.bt, .int .i64 p.df, .int .i64 p.dt]
def ncs : List Nt → List Value
  | [] => []
  | p :: l => ntC p ++ ncs l
theorem ncs_len : ∀ l : List Nt, (ncs l).length = l.length * 5
  | [] => rfl
  | p :: l => by rw [ncs, List.length_append, ncs_len l]; simp [ntC]; omega
theorem ncs_app : ∀ a b : List Nt, ncs (a ++ b) = ncs a ++ ncs b
  | [], _ => rfl
  | p :: a, b => by rw [List.cons_append, ncs, ncs, ncs_app a b, List.append_assoc]
theorem ncs_one (p : Nt) : ncs [p] = ntC p := by simp [ncs]
theorem ncs_get : ∀ (l : List Nt) (i : Nat) (h : i < l.length) (r : Nat), r < 5 → (ncs l)[i * 5 + r]? = (ntC l[i])[r]?
  | p :: l, 0, _, r, hr => by
    rw [ncs, List.getElem?_append_left (by simp [ntC]; omega)]; simp
  | p :: l, i + 1, h, r, hr => by
    rw [ncs, List.getElem?_append_right (by simp [ntC]; omega)]
    have := ncs_get l i (by simpa using h) r hr
    rw [show (i + 1) * 5 + r - (ntC p).length = i * 5 + r from by simp [ntC]; omega, this]; simp
theorem ncs_one_cell {l : List Nt} : ∀ u ∈ ncs l, u.oneCell' = true := by
  induction l with
  | nil => intro u hu; cases hu
  | cons p l ih =>
    intro u hu
    rw [ncs, List.mem_append] at hu
    rcases hu with hu | hu
    · simp [ntC] at hu
      rcases hu with rfl | rfl | rfl | rfl | rfl <;> rfl
    · exact ih u hu
/-- an entry lies from a cell on -/
def NtAt (w : World) (b o : Nat) (p : Nt) : Prop :=
  w.cell? ⟨b, o, none⟩ = some (.string ⟨p.nm.toArray⟩) ∧ w.cell? ⟨b, o + 1, none⟩ = some (.int .i64 p.bf) ∧ w.cell? ⟨b, o + 2, none⟩ = some (.int .i64 p.bt) ∧ w.cell? ⟨b, o + 3, none⟩ = some (.int .i64 p.df) ∧ w.cell? ⟨b, o + 4, none⟩ = some (.int .i64 p.dt)
def NtsAt (w : World) (b o : Nat) (l : List Nt) : Prop := b < w.heap.size ∧ ∀ i (h : i < l.length), NtAt w b (o + i * 5) l[i]
theorem NtsAt.below {w w' : World} {b o : Nat} {l : List Nt} (h : NtsAt w b o l) (hb : Below w.heap.size w w') : NtsAt w' b o l :=
  ⟨Nat.lt_of_lt_of_le h.1 hb.size, fun i hi => by
    obtain ⟨a0, a1, a2, a3, a4⟩ := h.2 i hi
    exact ⟨(hb.cell h.1).trans a0, (hb.cell h.1).trans a1, (hb.cell h.1).trans a2, (hb.cell h.1).trans a3, (hb.cell h.1).trans a4⟩⟩
theorem NtsAt.cells {w : World} {b o : Nat} {l : List Nt} (h : NtsAt w b o l) : ∀ j u, (ncs l)[j]? = some u → w.cell? ⟨b, o + j, none⟩ = some u := by
  intro j u hj
  have hl : j < (ncs l).length := (List.getElem?_eq_some_iff.1 hj).1
  rw [ncs_len] at hl
  have hi : j / 5 < l.length := by omega
  obtain ⟨c0, c1, c2, c3, c4⟩ := h.2 (j / 5) hi
  have e := ncs_get l (j / 5) hi (j % 5) (by omega)
  rw [show j / 5 * 5 + j % 5 = j from by omega, hj] at e
  have h5 : j % 5 = 0 ∨ j % 5 = 1 ∨ j % 5 = 2 ∨ j % 5 = 3 ∨ j % 5 = 4 := by omega
  rcases h5 with q | q | q | q | q <;> rw [q] at e <;> simp [ntC] at e <;> subst e
  · rw [show o + j = o + j / 5 * 5 from by omega]; exact c0
  · rw [show o + j = o + j / 5 * 5 + 1 from by omega]; exact c1
  · rw [show o + j = o + j / 5 * 5 + 2 from by omega]; exact c2
  · rw [show o + j = o + j / 5 * 5 + 3 from by omega]; exact c3
  · rw [show o + j = o + j / 5 * 5 + 4 from by omega]; exact c4
theorem NtsAt.of_cells {w : World} {b o : Nat} {l : List Nt} (hb : b < w.heap.size) (hc : ∀ j u, (ncs l)[j]? = some u → w.cell? ⟨b, o + j, none⟩ = some u) : NtsAt w b o l := by
  refine ⟨hb, fun i hi => ?_⟩
  have g := fun r (hr : r < 5) => ncs_get l i hi r hr
  have g0 := g 0 (by omega); have g1 := g 1 (by omega); have g2 := g 2 (by omega); have g3 := g 3 (by omega); have g4 := g 4 (by omega)
  simp only [ntC, List.getElem?_cons_zero, List.getElem?_cons_succ, Nat.add_zero] at g0 g1 g2 g3 g4
  exact ⟨hc _ _ g0, hc _ _ g1, hc _ _ g2, hc _ _ g3, hc _ _ g4⟩
theorem NtsAt.of_own {w : World} {base g cap n : Nat} {e : TypeId} {l : List Nt} (h : w.ownsRow base e 5 (.slice (some ⟨g, 0, none⟩) n cap) n (ncs l)) : NtsAt w g 0 l := by
  refine NtsAt.of_cells (h.lt g rfl).2 (fun j u hj => ?_)
  have := h.cells (g := g) rfl j u hj
  rw [addB] at this
  rw [Nat.zero_add]; exact this
/-- the error of an entry, and of a list -/
def cn (p : Nt) : Int := cnE p.nm p.bf p.bt p.df p.dt
def cnsE (l : List Nt) : Int := if 60 < l.length then 8 else feE (l.map cn)
theorem map_take_ok {l : List Nt} {k : Nat} (h : k < l.length) (ha : ∀ x ∈ (l.map cn).take k, x = 0) (hx : cn l[k] = 0) : ∀ x ∈ (l.map cn).take (k + 1), x = 0 :=
  mem_take_succ (xs := l.map cn) (by simpa using h) ha (by simpa using hx)
theorem map_bad {l : List Nt} {k : Nat} (h : k < l.length) (ha : ∀ x ∈ (l.map cn).take k, x = 0) (hx : cn l[k] ≠ 0) : feE (l.map cn) = cn l[k] := by
  have := feE_no (xs := l.map cn) (k := k) (by simpa using h) ha (by simpa using hx)
  simpa using this
theorem map_all {l : List Nt} (ha : ∀ x ∈ (l.map cn).take l.length, x = 0) : feE (l.map cn) = 0 :=
  feE_ok (by rwa [List.take_of_length_le (by simp)] at ha)
set_option maxRecDepth 100000 in
set_option maxHeartbeats 2000000 in
theorem CheckNotes_any (l : List Nt) (b o cap : Nat) (w : World) (hl : l.length ≤ 2000000) (hn : ∀ p ∈ l, p.nm.length ≤ 2000000) (hc : NtsAt w b o l) :
    Calls Try.prog 28 #[.slice (some ⟨b, o, none⟩) l.length cap] w (RetB (.int .i64 (cnsE l)) w) := by
  by_cases h2 : 60 < l.length
  · have e : cnsE l = 8 := by unfold cnsE; rw [if_pos h2]
    rw [e]
    clear e hc hn
    go_enter Try.func28, Try.ntmps28
    go_wp2
    go_ret
    exact ⟨rfl, Below.refl _ _⟩
  · have e : cnsE l = feE (l.map cn) := by unfold cnsE; rw [if_neg h2]
    obtain ⟨R, hR⟩ : ∃ R, feE (l.map cn) = R := ⟨_, rfl⟩
    rw [e, hR]
    have HR := Lib.hid hR
    have HC := Lib.hid hc
    have HN := Lib.hid hn
    have d60 : decide (60 < l.length) = false := decide_eq_false h2
    clear hc hn e hR
    go_enter Try.func28, Try.ntmps28
    go_wp2
    go_loopw [11] (fun i wr => ∃ k : Nat, k ≤ l.length ∧ i = .int .i64 k ∧ Hid (∀ x ∈ (l.map cn).take k, x = 0) ∧ Hid (Below w.heap.size w wr)) (fun i _ => l.length - (intOf i).toNat)
    case atStart => exact ⟨0, Nat.zero_le _, rfl, Lib.hid (by simp), Lib.hid (Below.refl _ _)⟩
    case round =>
      obtain ⟨k, hk, rfl, HA, HB⟩ := hrel
      have hsz := HB.out.size
      by_cases hlt : k < l.length
      · have hcc := HC.out.below HB.out
        have hbl := hcc.1
        obtain ⟨c0, c1, c2, c3, c4⟩ := hcc.2 k hlt
        have hnl := HN.out _ (List.getElem_mem hlt)
        clear hcc
        by_cases hz : cn l[k] = 0
        · have HA2 := Lib.hid (map_take_ok hlt HA.out hz)
          obtain ⟨p, hp⟩ : ∃ p, l[k] = p := ⟨_, rfl⟩
          rw [hp] at c0 c1 c2 c3 c4 hz hnl
          obtain ⟨nm, bf, bt, df, dt⟩ := p
          simp only at c0 c1 c2 c3 c4 hnl
          have CK := Lib.hid (fun w => checkNote_any nm bf bt df dt w (by omega))
          have hz2 : cnE nm bf bt df dt = 0 := hz
          rw [hz2] at CK
          clear hz hz2 hp
          go_wp2_with (go_at_call 47; refine (CK.out _).mono ?_; rintro e w2 ⟨rfl, hb2⟩; have q2 := hb2.size)
          go_roundw
          case rel => exact ⟨k + 1, by omega, by go_num, HA2, Lib.hid ((HB.out.alloc hsz _).trans (hb2.mono (by simp; omega)))⟩
          case measure => simp [intOf]; omega
        · have HRk := Lib.hid ((map_bad hlt HA.out hz).symm.trans HR.out)
          obtain ⟨p, hp⟩ : ∃ p, l[k] = p := ⟨_, rfl⟩
          rw [hp] at c0 c1 c2 c3 c4 hz hnl HRk
          obtain ⟨nm, bf, bt, df, dt⟩ := p
          simp only at c0 c1 c2 c3 c4 hnl
          have CK := Lib.hid (fun w => checkNote_any nm bf bt df dt w (by omega))
          have e1 : cnE nm bf bt df dt = R := HRk.out
          rw [e1] at CK
          have hz2 : ¬ R = 0 := fun h => hz (e1.trans h)
          have hzb : (R != 0) = true := by simpa using hz2
          clear hz e1 hp
          go_wp2_with (go_at_call 47; refine (CK.out _).mono ?_; rintro e w2 ⟨rfl, hb2⟩; have q2 := hb2.size)
          go_ret
          exact ⟨rfl, (HB.out.alloc hsz _).trans (hb2.mono (by simp; omega))⟩
      · obtain rfl : k = l.length := by omega
        have e0 : R = 0 := HR.out.symm.trans (map_all HA.out)
        subst e0
        go_wp2
        go_ret
        exact ⟨rfl, HB.out⟩
set_option maxRecDepth 100000 in
set_option maxHeartbeats 2000000 in
theorem xCheckNotes_any (l : List Nt) (b o cap : Nat) (w : World) (hl : l.length ≤ 2000000) (hn : ∀ p ∈ l, p.nm.length ≤ 2000000) (hc : NtsAt w b o l) :
    Calls Try.prog 27 #[.slice (some ⟨b, o, none⟩) l.length cap] w (RetB (.int .i64 (cnsE l)) w) := by
  by_cases h2 : 60 < l.length
  · have e : cnsE l = 8 := by unfold cnsE; rw [if_pos h2]
    rw [e]
    clear e hc hn
    go_enter Try.func27, Try.ntmps27
    go_wp2
    go_ret
    exact ⟨rfl, Below.refl _ _⟩
  · have e : cnsE l = feE (l.map cn) := by unfold cnsE; rw [if_neg h2]
    obtain ⟨R, hR⟩ : ∃ R, feE (l.map cn) = R := ⟨_, rfl⟩
    rw [e, hR]
    have HR := Lib.hid hR
    have HC := Lib.hid hc
    have HN := Lib.hid hn
    have d60 : decide (60 < l.length) = false := decide_eq_false h2
    clear hc hn e hR
    go_enter Try.func27, Try.ntmps27
    go_wp2
    go_loopw [3] (fun i wr => ∃ k : Nat, k ≤ l.length ∧ i = .int .i64 k ∧ Hid (∀ x ∈ (l.map cn).take k, x = 0) ∧ Hid (Below w.heap.size w wr)) (fun i _ => l.length - (intOf i).toNat)
    case atStart => exact ⟨0, Nat.zero_le _, rfl, Lib.hid (by simp), Lib.hid (Below.refl _ _)⟩
    case round =>
      obtain ⟨k, hk, rfl, HA, HB⟩ := hrel
      have hsz := HB.out.size
      by_cases hlt : k < l.length
      · have hcc := HC.out.below HB.out
        have hbl := hcc.1
        obtain ⟨c0, c1, c2, c3, c4⟩ := hcc.2 k hlt
        have hnl := HN.out _ (List.getElem_mem hlt)
        clear hcc
        by_cases hz : cn l[k] = 0
        · have HA2 := Lib.hid (map_take_ok hlt HA.out hz)
          obtain ⟨p, hp⟩ : ∃ p, l[k] = p := ⟨_, rfl⟩
          rw [hp] at c0 c1 c2 c3 c4 hz hnl
          obtain ⟨nm, bf, bt, df, dt⟩ := p
          simp only at c0 c1 c2 c3 c4 hnl
          have CK := Lib.hid (fun w => xCheckNote_any nm bf bt df dt w (by omega))
          have hz2 : cnE nm bf bt df dt = 0 := hz
          rw [hz2] at CK
          clear hz hz2 hp
          go_wp2_with (go_at_call 50; refine (CK.out _).mono ?_; rintro e w2 ⟨rfl, hb2⟩; have q2 := hb2.size)
          go_roundw
          case rel => exact ⟨k + 1, by omega, by go_num, HA2, Lib.hid (HB.out.trans (hb2.mono hsz))⟩
          case measure => simp [intOf]; omega
        · have HRk := Lib.hid ((map_bad hlt HA.out hz).symm.trans HR.out)
          obtain ⟨p, hp⟩ : ∃ p, l[k] = p := ⟨_, rfl⟩
          rw [hp] at c0 c1 c2 c3 c4 hz hnl HRk
          obtain ⟨nm, bf, bt, df, dt⟩ := p
          simp only at c0 c1 c2 c3 c4 hnl
          have CK := Lib.hid (fun w => xCheckNote_any nm bf bt df dt w (by omega))
          have e1 : cnE nm bf bt df dt = R := HRk.out
          rw [e1] at CK
          have hz2 : ¬ R = 0 := fun h => hz (e1.trans h)
          have hzb : (R != 0) = true := by simpa using hz2
          clear hz e1 hp
          go_wp2_with (go_at_call 50; refine (CK.out _).mono ?_; rintro e w2 ⟨rfl, hb2⟩; have q2 := hb2.size)
          go_ret
          exact ⟨rfl, HB.out.trans (hb2.mono hsz)⟩
      · obtain rfl : k = l.length := by omega
        have e0 : R = 0 := HR.out.symm.trans (map_all HA.out)
        subst e0
        go_wp2
        go_ret
        exact ⟨rfl, HB.out⟩
end Go.Proofs.Ytfneafofohfdnaa
