/-
  What deciding of package rule returns: a map of its own, from each name to the number of the entry that decides; a contract for all worlds.
-/
import Derived.Test.YtpfekgmimfkjcaaGreatDoorProvs
import Derived.Maps.OwnOps
import Derived.Maps.OwnSet
import Derived.Maps.Views
namespace Go.Proofs.YtpfekgmimfkjcaaGreatDoor
open Go.RowKit Go.WideMaps Go.Maps
attribute [local go_sem] set_drewN
theorem lawS : Keyed Tryz.prog 9 := string_keyed Tryz.underlying9
theorem zeroInt (w : World) : (zeroValue 3).run Tryz.prog w = .ok (.int .i64 0) w := by kernel_rfl
theorem wf_nat (k : Nat) (h : k ≤ 1000000) : (Lit.int .i64 (k : Int)).wf = true := by
  simp only [Lit.wf, Bool.and_eq_true, decide_eq_true_eq]
  exact ⟨by show (-9223372036854775808 : Int) ≤ k; omega, by show (k : Int) ≤ 9223372036854775807; omega⟩
/-- the number of the entry that decides of a name, among the first k ones -/
def dec (l : List Pv) (a0 a1 : Int) (nm : ByteArray) : Nat → Option Nat
  | 0 => none
  | k + 1 => match l[k]? with
    | none => dec l a0 a1 nm k
    | some p => if p.from' ≤ a0 ∧ p.entered ≤ a1 ∧ p.name = nm ∧ (∀ i, dec l a0 a1 nm k = some i → (l[i]?.map (·.from')).getD 0 ≤ p.from') then some k else dec l a0 a1 nm k
theorem dec_lt (l : List Pv) (a0 a1 : Int) (nm : ByteArray) : ∀ (k i : Nat), dec l a0 a1 nm k = some i → i < k ∧ i < l.length
  | 0, i, h => by cases h
  | k + 1, i, h => by
    unfold dec at h
    split at h
    · have := dec_lt l a0 a1 nm k i h; omega
    · rename_i p hp
      split at h
      · cases h; exact ⟨by omega, (List.getElem?_eq_some_iff.1 hp).1⟩
      · have := dec_lt l a0 a1 nm k i h; omega
abbrev keyL (nm : ByteArray) : Lit := .string nm.data.toList
/-- what the map says of each name -/
def DecD (l : List Pv) (a0 a1 : Int) (k : Nat) (D : DataW Unit) : Prop :=
  IsMap D ∧ ∀ nm : ByteArray, Maps.has D (keyL nm) = (dec l a0 a1 nm k).isSome ∧ ∀ i, dec l a0 a1 nm k = some i → ∀ z, D.atKey (keyL nm) z = .lit (.int .i64 i)
theorem isK (nm : ByteArray) : WideAt.IsKeyLit (keyL nm) := trivial
theorem keyL_inj {a b : ByteArray} (h : keyL a = keyL b) : a = b := by
  have h1 : a.data.toList = b.data.toList := by injection h
  have : a.data = b.data := Array.toList_inj.1 h1
  cases a; cases b; simp_all
theorem DecD_0 (l : List Pv) (a0 a1 : Int) : DecD l a0 a1 0 (.map []) := ⟨⟨[], rfl⟩, fun nm => ⟨rfl, fun i h => by cases h⟩⟩
theorem dec_skip {l : List Pv} {a0 a1 : Int} {k : Nat} {p : Pv} (hk : k < l.length) (hp : l[k] = p) (h : a0 < p.from' ∨ a1 < p.entered) (nm : ByteArray) : dec l a0 a1 nm (k + 1) = dec l a0 a1 nm k := by
  conv => lhs; unfold dec
  rw [List.getElem?_eq_getElem hk, hp]
  simp only
  rw [if_neg (by omega)]
theorem dec_other {l : List Pv} {a0 a1 : Int} {k : Nat} {p : Pv} (hk : k < l.length) (hp : l[k] = p) {nm : ByteArray} (h : p.name ≠ nm) : dec l a0 a1 nm (k + 1) = dec l a0 a1 nm k := by
  conv => lhs; unfold dec
  rw [List.getElem?_eq_getElem hk, hp]
  simp only
  rw [if_neg (fun c => h c.2.2.1)]
theorem dec_new {l : List Pv} {a0 a1 : Int} {k : Nat} {p : Pv} (hk : k < l.length) (hp : l[k] = p) (h1 : p.from' ≤ a0) (h2 : p.entered ≤ a1) (h : ∀ i, dec l a0 a1 p.name k = some i → (l[i]?.map (·.from')).getD 0 ≤ p.from') : dec l a0 a1 p.name (k + 1) = some k := by
  conv => lhs; unfold dec
  rw [List.getElem?_eq_getElem hk, hp]
  simp only
  rw [if_pos ⟨h1, h2, trivial, h⟩]
theorem dec_keep {l : List Pv} {a0 a1 : Int} {k i : Nat} {p : Pv} (hk : k < l.length) (hp : l[k] = p) (h0 : dec l a0 a1 p.name k = some i) (h : p.from' < (l[i]?.map (·.from')).getD 0) : dec l a0 a1 p.name (k + 1) = dec l a0 a1 p.name k := by
  conv => lhs; unfold dec
  rw [List.getElem?_eq_getElem hk, hp]
  simp only
  rw [if_neg (fun c => by have := c.2.2.2 i h0; omega)]
theorem DecD.same {l : List Pv} {a0 a1 : Int} {k : Nat} {D : DataW Unit} (h : DecD l a0 a1 k D) (e : ∀ nm, dec l a0 a1 nm (k + 1) = dec l a0 a1 nm k) : DecD l a0 a1 (k + 1) D :=
  ⟨h.1, fun nm => by rw [e nm]; exact h.2 nm⟩
theorem IsMap.put {D : DataW Unit} (h : IsMap D) (k : Lit) (d : DataW Unit) : IsMap (D.put k d) := by obtain ⟨es, rfl⟩ := h; exact ⟨_, rfl⟩
theorem DecD.put {l : List Pv} {a0 a1 : Int} {k : Nat} {p : Pv} {D : DataW Unit} (h : DecD l a0 a1 k D) (hk : k < l.length) (hp : l[k] = p) (e : dec l a0 a1 p.name (k + 1) = some k) :
    DecD l a0 a1 (k + 1) (D.put (keyL p.name) (.lit (.int .i64 k))) := by
  refine ⟨IsMap.put h.1 _ _, fun nm => ?_⟩
  by_cases g : p.name = nm
  · subst g
    rw [e]
    refine ⟨has_put_same h.1 (isK _) _, fun i hi z => ?_⟩
    cases hi
    exact atKey_put_same h.1 (isK _) _ _
  · have g' : keyL nm ≠ keyL p.name := fun c => g (keyL_inj c).symm
    rw [has_put_other g', dec_other hk hp g]
    exact ⟨(h.2 nm).1, fun i hi z => by rw [atKey_put_other g']; exact (h.2 nm).2 i hi z⟩
set_option maxRecDepth 100000 in
set_option maxHeartbeats 1000000 in
theorem deciding_any (l : List Pv) (a0 a1 : Int) (b o cap : Nat) (w : World) (hl : l.length ≤ 1000000) (hc : PvsAt w b o l) :
    Calls Tryz.prog 62 #[.slice (some ⟨b, o, none⟩) l.length cap, .agg #[.int .i64 a0, .int .i64 a1]] w
      fun e w' => e = .returned (.map (some (w.heap.size + 1))) ∧ (∃ D, w'.ownsMap Tryz.prog 9 (plainElem Tryz.prog 3) (w.heap.size + 1) l.length D ∧ DecD l a0 a1 l.length D) ∧ Below w.heap.size w w' := by
  have HC := Lib.hid hc
  clear hc
  have hmm := @run_makeMap Tryz.prog
  go_enter Tryz.func62, Tryz.ntmps62
  go_wp2
  go_loopw [13] (fun i wr => ∃ (k : Nat) (D : DataW Unit), k ≤ l.length ∧ i = .int .i64 k ∧ wr.ownsMap Tryz.prog 9 (plainElem Tryz.prog 3) (w.heap.size + 1) k D ∧ DecD l a0 a1 k D ∧ Below w.heap.size w wr ∧ wr.cell? ⟨w.heap.size, 0, none⟩ = some (.int .i64 a0) ∧ wr.cell? ⟨w.heap.size, 1, none⟩ = some (.int .i64 a1)) (fun i _ => l.length - (intOf i).toNat)
  case atStart => exact ⟨0, _, Nat.zero_le _, rfl, by have := World.ownsMap_made (H := Unit) (w.alloc (.cells #[.int .i64 a0, .int .i64 a1] 53)) Tryz.prog 9 (plainElem Tryz.prog 3); simpa using this, DecD_0 l a0 a1, ((Below.refl _ _).alloc (Nat.le_refl _) _).alloc (by simp) _, by simp [go_sem], by simp [go_sem]⟩
  case round =>
    obtain ⟨k, D, hk, rfl, hown, hD, hB, ha0, ha1⟩ := hrel
    have hDD := Lib.hid hD
    clear hD
    have hbig := hown.lt
    by_cases hlt : k < l.length
    · obtain ⟨⟨c0, c1, c2, c3, c4⟩, hsz⟩ := (HC.out.below hB).2 k hlt
      obtain ⟨p, hp⟩ : ∃ p, l[k] = p := ⟨_, rfl⟩
      rw [hp] at c0 c1 c2 c3 c4 hsz
      have HP := Lib.hid hp
      clear hp
      have hlt0 : w.heap.size < wr.heap.size := by omega
      have hbl := (HC.out.below hB).1
      have BA : Below wr.heap.size wr (wr.alloc (.cells #[.string p.name, .int .i64 p.value, .int .i64 p.from', .int .i64 p.entered, .bool p.repeal] 23)) := (Below.refl _ _).alloc (Nat.le_refl _) _
      by_cases s1 : a0 < p.from'
      · have NX := Lib.hid (hDD.out.same (dec_skip hlt HP.out (Or.inl s1)))
        obtain ⟨nm, v, fr, en, rp⟩ := p
        simp only at c0 c1 c2 c3 c4 hsz s1 BA
        go_wp2
        go_roundw
        case rel => exact ⟨k + 1, D, by omega, by go_num, (hown.alloc _).mono (Nat.le_succ _), NX.out, hB.alloc hB.size _, (BA.cell (p := ⟨w.heap.size, 0, none⟩) hlt0).trans ha0, (BA.cell (p := ⟨w.heap.size, 1, none⟩) hlt0).trans ha1⟩
        case measure => simp [intOf]; omega
      · have s1' : decide (a0 < p.from') = false := by simpa using s1
        by_cases s2 : a1 < p.entered
        · have NX := Lib.hid (hDD.out.same (dec_skip hlt HP.out (Or.inr s2)))
          obtain ⟨nm, v, fr, en, rp⟩ := p
          simp only at c0 c1 c2 c3 c4 hsz s1 s2 BA s1'
          go_wp2
          go_roundw
          case rel => exact ⟨k + 1, D, by omega, by go_num, (hown.alloc _).mono (Nat.le_succ _), NX.out, hB.alloc hB.size _, (BA.cell (p := ⟨w.heap.size, 0, none⟩) hlt0).trans ha0, (BA.cell (p := ⟨w.heap.size, 1, none⟩) hlt0).trans ha1⟩
          case measure => simp [intOf]; omega
        · have hkey : keyOf Tryz.prog 9 (.string p.name) = some (keyL p.name) := keyOf_string_mk Tryz.underlying9 hsz
          have wfk : (Lit.int .i64 (k : Int)).wf = true := wf_nat k (by omega)
          obtain ⟨hhas, hat0⟩ := hDD.out.2 p.name
          cases hdec : dec l a0 a1 p.name k with
          | none =>
            rw [hdec] at hhas
            have hhas' : Maps.has D (keyL p.name) = false := hhas
            have NX := Lib.hid (hDD.out.put hlt HP.out (dec_new hlt HP.out (by omega) (by omega) (fun i h => by rw [hdec] at h; cases h)))
            clear hhas hat0 hdec
            obtain ⟨nm, v, fr, en, rp⟩ := p
            simp only at c0 c1 c2 c3 c4 hsz s1 s2 s1' hkey hhas' BA
            go_wp2_with (at_lookup; refine wpList_lookup_own_ok_int _ rfl _ _ 92 rfl 9 3 .i64 lawS Tryz.underlying92 Tryz.underlying3 (zeroInt _) (w.heap.size + 1) k D rfl (hown.alloc _) _ _ rfl hkey ?_; intro c hat hwc; clear hat hwc)
            go_quiet (fail)
            go_wp2_with (at_mapUpdate; refine wpList_mapUpdate_own _ rfl _ _ _ 92 rfl 9 3 lawS Tryz.underlying92 _ (w.heap.size + 1) k D rfl (hown.alloc _) (by unfold maxLen; omega) _ _ _ rfl rfl hkey _ [] (plainElem_int Tryz.underlying3 wfk) ?_; intro w1 hown1 hgrow1)
            have hBk : Below (w.heap.size + 1) wr w1 := (below_n ((Below.refl _ _).alloc (by omega) _) _).grown hgrow1 (by simp; omega) (fun j e => by cases e; exact Nat.le_refl _)
            have g0 := (hBk.cell (p := ⟨w.heap.size, 0, none⟩) (Nat.lt_succ_self _)).trans ha0
            have g1 := (hBk.cell (p := ⟨w.heap.size, 1, none⟩) (Nat.lt_succ_self _)).trans ha1
            have R2 := hB.trans (hBk.mono (Nat.le_succ _))
            clear hgrow1 hBk
            go_wp2
            go_roundw
            case rel => exact ⟨k + 1, _, by omega, by go_num, hown1, NX.out, R2, g0, g1⟩
            case measure => simp [intOf]; omega
          | some i =>
            obtain ⟨hik, hil⟩ := dec_lt l a0 a1 p.name k i hdec
            have hat1 := Lib.hid (hat0 i hdec)
            rw [hdec] at hhas
            have hhas' : Maps.has D (keyL p.name) = true := hhas
            obtain ⟨⟨_, _, q2, _, _⟩, _⟩ := (HC.out.below hB).2 i hil
            obtain ⟨q, hq⟩ : ∃ q, l[i] = q := ⟨_, rfl⟩
            rw [hq] at q2
            have hqf : (l[i]?.map (·.from')).getD 0 = q.from' := by rw [List.getElem?_eq_getElem hil, hq]; rfl
            by_cases ht : q.from' ≤ p.from'
            · have NX := Lib.hid (hDD.out.put hlt HP.out (dec_new hlt HP.out (by omega) (by omega) (fun i' h => by rw [hdec] at h; cases h; rw [hqf]; exact ht)))
              clear hhas hat0 hdec hqf hq
              obtain ⟨nm, v, fr, en, rp⟩ := p
              obtain ⟨qn, qv, qf, qe, qr⟩ := q
              simp only at c0 c1 c2 c3 c4 hsz s1 s2 s1' hkey hhas' BA q2 ht
              have q2 := (BA.cell (p := ⟨b, o + i * 5 + 2, none⟩) hbl).trans q2
              go_wp2_with (at_lookup; refine wpList_lookup_own_ok_int _ rfl _ _ 92 rfl 9 3 .i64 lawS Tryz.underlying92 Tryz.underlying3 (zeroInt _) (w.heap.size + 1) k D rfl (hown.alloc _) _ _ rfl hkey ?_; intro c hat hwc; obtain rfl : c = (i : Int) := by (rw [hat1.out] at hat; injection hat with h1; injection h1 with _ h2; exact h2.symm))
              go_quiet (fail)
              go_wp2_with (at_mapUpdate; refine wpList_mapUpdate_own _ rfl _ _ _ 92 rfl 9 3 lawS Tryz.underlying92 _ (w.heap.size + 1) k D rfl (hown.alloc _) (by unfold maxLen; omega) _ _ _ rfl rfl hkey _ [] (plainElem_int Tryz.underlying3 wfk) ?_; intro w1 hown1 hgrow1)
              have hBk : Below (w.heap.size + 1) wr w1 := (below_n ((Below.refl _ _).alloc (by omega) _) _).grown hgrow1 (by simp; omega) (fun j e => by cases e; exact Nat.le_refl _)
              have g0 := (hBk.cell (p := ⟨w.heap.size, 0, none⟩) (Nat.lt_succ_self _)).trans ha0
              have g1 := (hBk.cell (p := ⟨w.heap.size, 1, none⟩) (Nat.lt_succ_self _)).trans ha1
              have R2 := hB.trans (hBk.mono (Nat.le_succ _))
              clear hgrow1 hBk
              go_wp2
              go_roundw
              case rel => exact ⟨k + 1, _, by omega, by go_num, hown1, NX.out, R2, g0, g1⟩
              case measure => simp [intOf]; omega
            · have NX := Lib.hid (hDD.out.same (fun nm => by
                by_cases g : p.name = nm
                · subst g; exact dec_keep hlt HP.out hdec (by rw [hqf]; omega)
                · exact dec_other hlt HP.out g))
              clear hhas hat0 hdec hqf hq
              obtain ⟨nm, v, fr, en, rp⟩ := p
              obtain ⟨qn, qv, qf, qe, qr⟩ := q
              simp only at c0 c1 c2 c3 c4 hsz s1 s2 s1' hkey hhas' BA q2 ht
              have q2 := (BA.cell (p := ⟨b, o + i * 5 + 2, none⟩) hbl).trans q2
              go_wp2_with (at_lookup; refine wpList_lookup_own_ok_int _ rfl _ _ 92 rfl 9 3 .i64 lawS Tryz.underlying92 Tryz.underlying3 (zeroInt _) (w.heap.size + 1) k D rfl (hown.alloc _) _ _ rfl hkey ?_; intro c hat hwc; obtain rfl : c = (i : Int) := by (rw [hat1.out] at hat; injection hat with h1; injection h1 with _ h2; exact h2.symm))
              go_quiet (fail)
              go_wp2
              go_roundw
              case rel => exact ⟨k + 1, D, by omega, by go_num, (hown.alloc _).mono (Nat.le_succ _), NX.out, below_n (hB.alloc hB.size _) _, (BA.cell (p := ⟨w.heap.size, 0, none⟩) hlt0).trans ha0, (BA.cell (p := ⟨w.heap.size, 1, none⟩) hlt0).trans ha1⟩
              case measure => simp [intOf]; omega
    · obtain rfl : k = l.length := by omega
      go_wp2
      go_ret
      exact ⟨rfl, ⟨D, hown, hDD.out⟩, hB⟩
end Go.Proofs.YtpfekgmimfkjcaaGreatDoor
