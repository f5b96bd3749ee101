/-
  What CheckHolidays of package rule returns: a contract for all worlds in which the list lies in one block.
-/
import Derived.Test.YtfphedcgmaakjaaGreatDoorHol3
namespace Go.Proofs.YtfphedcgmaakjaaGreatDoor
open Go.RowKit Go.WideMaps Go.Maps
attribute [local go_sem] set_drewN
/-- a holiday lies in block b, from cell o on -/
def HdAt (w : World) (b o : Nat) (h : Hd) : Prop :=
  w.cell? ⟨b, o, none⟩ = some (.string h.name) ∧ w.cell? ⟨b, o + 1, none⟩ = some (.int .i64 h.kind) ∧ w.cell? ⟨b, o + 2, none⟩ = some (.int .i64 h.month) ∧
  w.cell? ⟨b, o + 3, none⟩ = some (.int .i64 h.day) ∧ w.cell? ⟨b, o + 4, none⟩ = some (.int .i64 h.weekday)
/-- a list of holidays lies in block b, from cell o on -/
def HdsAt (w : World) (b o : Nat) (l : List Hd) : Prop := b < w.heap.size ∧ ∀ i (h : i < l.length), HdAt w b (o + i * 5) l[i] ∧ l[i].name.size ≤ maxLen
theorem HdAt.below {w w' : World} {b o : Nat} {p : Hd} (h : HdAt w b o p) (hb : Below w.heap.size w w') (hlt : b < w.heap.size) : HdAt w' b o p := by
  obtain ⟨a0, a1, a2, a3, a4⟩ := h
  exact ⟨(hb.cell hlt).trans a0, (hb.cell hlt).trans a1, (hb.cell hlt).trans a2, (hb.cell hlt).trans a3, (hb.cell hlt).trans a4⟩
theorem HdsAt.below {w w' : World} {b o : Nat} {l : List Hd} (h : HdsAt w b o l) (hb : Below w.heap.size w w') : HdsAt w' b o l :=
  ⟨Nat.lt_of_lt_of_le h.1 hb.size, fun i hi => ⟨(h.2 i hi).1.below hb h.1, (h.2 i hi).2⟩⟩
/-- a name is among the first k ones -/
def hsn (l : List Hd) (k : Nat) (nm : ByteArray) : Bool := (l.take k).any fun h => decide (h.name = nm)
def hbE (l : List Hd) (k : Nat) : Int := match l[k]? with | none => 0 | some h => hdE h (hsn l k h.name)
/-- the error of a list -/
def chE (l : List Hd) : Int := if 40 < l.length then 8 else feE ((List.range l.length).map (hbE l))
theorem hbE_at {l : List Hd} {k : Nat} {h : Hd} (hk : k < l.length) (hp : l[k] = h) : hbE l k = hdE h (hsn l k h.name) := by
  unfold hbE; rw [List.getElem?_eq_getElem hk, hp]
theorem chE_ok {l : List Hd} (h : ¬ 40 < l.length) (h0 : ∀ j, j < l.length → hbE l j = 0) : chE l = 0 := by
  unfold chE; rw [if_neg h]
  exact feE_ok (by intro x hx; simp only [List.mem_map, List.mem_range] at hx; obtain ⟨j, hj, rfl⟩ := hx; exact h0 j hj)
theorem chE_no {l : List Hd} {k : Nat} (h : ¬ 40 < l.length) (hk : k < l.length) (h0 : ∀ j, j < k → hbE l j = 0) (hb : hbE l k ≠ 0) : chE l = hbE l k := by
  unfold chE; rw [if_neg h]
  have := feE_no (xs := (List.range l.length).map (hbE l)) (k := k) (by simpa using hk)
    (by intro x hx; rw [← List.map_take] at hx; simp only [List.mem_map] at hx; obtain ⟨j, hj, rfl⟩ := hx; rw [List.take_range] at hj; exact h0 j (by have := List.mem_range.1 hj; omega)) (by simpa using hb)
  simpa using this
theorem hsn_succ {l : List Hd} {k : Nat} {h : Hd} (hk : k < l.length) (hp : l[k] = h) (nm : ByteArray) : hsn l (k + 1) nm = (hsn l k nm || decide (h.name = nm)) := by
  unfold hsn
  rw [List.take_succ_eq_append_getElem hk, hp, List.any_append]
  simp
theorem isKS (nm : ByteArray) : WideAt.IsKeyLit (keyS nm) := trivial
theorem keyS_inj {a b : ByteArray} (h : keyS a = keyS b) : a = b := by
  have h1 : a.data.toList = b.data.toList := by injection h
  have : a.data = b.data := Array.toList_inj.1 h1
  cases a; cases b; simp_all
/-- what the map says of each name -/
def SeenD (l : List Hd) (k : Nat) (D : DataW Unit) : Prop := IsMap D ∧ ∀ nm : ByteArray, D.atKey (keyS nm) (.lit (.bool false)) = .lit (.bool (hsn l k nm))
theorem SeenD_0 (l : List Hd) : SeenD l 0 (.map []) := ⟨⟨[], rfl⟩, fun _ => rfl⟩
theorem SeenD.put {l : List Hd} {k : Nat} {h : Hd} {D : DataW Unit} (s : SeenD l k D) (hk : k < l.length) (hp : l[k] = h) : SeenD l (k + 1) (D.put (keyS h.name) (.lit (.bool true))) := by
  obtain ⟨es, he⟩ := s.1
  refine ⟨⟨_, by rw [he]; rfl⟩, fun nm => ?_⟩
  rw [hsn_succ hk hp]
  by_cases g : h.name = nm
  · subst g
    rw [atKey_put_same s.1 (isKS _)]; simp
  · rw [atKey_put_other (fun c => g (keyS_inj c).symm), s.2 nm]
    have : decide (h.name = nm) = false := by simpa using g
    rw [this, Bool.or_false]
theorem ownsMap_below {H : Type} {P : Program} {W W' : World} {k : TypeId} {R : Value → Option (DataW H × List MemPlace)} {b n : Nat} {D : DataW H} (h : W.ownsMap P k R b n D) (hb : Below W.heap.size W W') : W'.ownsMap P k R b n D :=
  h.kept (row := none) ⟨hb.os, hb.tape, hb.output, hb.size, fun j hj _ => hb.block j hj⟩ (by simp)
set_option maxRecDepth 100000 in
set_option maxHeartbeats 2000000 in
theorem CheckHolidays_any (l : List Hd) (b o cap : Nat) (w : World) (hl : l.length ≤ maxLen) (hc : HdsAt w b o l) :
    Calls Tryz.prog 35 #[.slice (some ⟨b, o, none⟩) l.length cap] w (RetB (.int .i64 (chE l)) w) := by
  unfold maxLen at hl
  by_cases h2 : 40 < l.length
  · have e : chE l = 8 := by unfold chE; rw [if_pos h2]
    rw [e]
    clear e hc
    go_enter Tryz.func35, Tryz.ntmps35
    go_wp2
    go_ret
    exact ⟨rfl, Below.refl _ _⟩
  · have HC := Lib.hid hc
    clear hc
    have hmm := @run_makeMap Tryz.prog
    go_enter Tryz.func35, Tryz.ntmps35
    go_wp2
    go_loopw [13] (fun i wr => ∃ (k : Nat) (D : DataW Unit), k ≤ l.length ∧ i = .int .i64 k ∧ (∀ j, j < k → hbE l j = 0) ∧ wr.ownsMap Tryz.prog 9 (plainElem Tryz.prog 4) w.heap.size k D ∧ SeenD l k D ∧ Below w.heap.size w wr) (fun i _ => l.length - (intOf i).toNat)
    case atStart => exact ⟨0, _, Nat.zero_le _, rfl, fun j h => absurd h (by omega), World.ownsMap_made (H := Unit) _ _ _ _, SeenD_0 l, (Below.refl _ _).alloc (Nat.le_refl _) _⟩
    case round =>
      obtain ⟨k, D, hk, rfl, hall, hown, hS, hB⟩ := hrel
      have HA := Lib.hid hall
      have HS := Lib.hid hS
      clear hall hS
      by_cases hlt : k < l.length
      · obtain ⟨⟨c0, c1, c2, c3, c4⟩, hsz⟩ := (HC.out.below hB).2 k hlt
        obtain ⟨p, hp⟩ : ∃ p, l[k] = p := ⟨_, rfl⟩
        rw [hp] at c0 c1 c2 c3 c4 hsz
        have hbk := hbE_at hlt hp
        have NX := Lib.hid (HS.out.put hlt hp)
        clear hp
        have hkey : keyOf Tryz.prog 9 (.string p.name) = some (keyS p.name) := keyOf_string_mk Tryz.underlying9 hsz
        have CK := Lib.hid (fun W (hW : W.ownsMap Tryz.prog 9 (plainElem Tryz.prog 4) w.heap.size k D) => checkHoliday_any p w.heap.size k D (hsn l k p.name) W hsz hW (HS.out.2 p.name))
        by_cases hz : hdE p (hsn l k p.name) = 0
        · have hall2 : ∀ j, j < k + 1 → hbE l j = 0 := fun j hj => by
            by_cases g : j = k
            · subst g; rw [hbk]; exact hz
            · exact HA.out j (by omega)
          have H2 := Lib.hid hall2
          rw [hz] at CK
          clear hbk hz hall2
          obtain ⟨nm, kd, mo, dy, wd⟩ := p
          simp only at c0 c1 c2 c3 c4 hsz hkey
          have hbs := hB.size
          go_wp2_with (first
            | (go_at_call 50; refine (CK.out _ (hown.alloc _)).mono ?_; rintro e w1 ⟨rfl, hb1⟩; obtain ⟨hc1, hf1⟩ := bcell hb1; have hown1 := ownsMap_below (hown.alloc _) hb1)
            | (at_mapUpdate; refine wpList_mapUpdate_own _ rfl _ _ _ 77 rfl 9 4 lawS' Tryz.underlying77 _ w.heap.size k D rfl hown1 (by unfold maxLen; omega) _ _ _ rfl rfl hkey _ [] (plainElem_bool Tryz.underlying4 true) ?_; intro w2 hown2 hgrow2))
          have R2 := (((hB.alloc hB.size _).trans (hb1.mono (by simp; omega))).grown hgrow2 (by have := hb1.size; simp at this; omega) (fun j e => by cases e; exact Nat.le_refl _))
          clear hgrow2 hc1 hf1 hown1 hown
          go_wp2
          go_roundw
          case rel => exact ⟨k + 1, _, by omega, by go_num, H2.out, hown2, NX.out, R2⟩
          case measure => simp [intOf]; omega
        · have e9 := Lib.hid (chE_no h2 hlt HA.out (by rw [hbk]; exact hz))
          have KB := Lib.hid hbk
          generalize hr : hdE p (hsn l k p.name) = r at *
          have hzb : (r != 0) = true := by simpa using hz
          clear hbk hr hz
          obtain ⟨nm, kd, mo, dy, wd⟩ := p
          simp only at c0 c1 c2 c3 c4 hsz hkey
          have hbs := hB.size
          go_wp2_with (go_at_call 50; refine (CK.out _ (hown.alloc _)).mono ?_; rintro e w1 ⟨rfl, hb1⟩)
          go_ret
          exact ⟨ret_i (by rw [e9.out, KB.out]), (hB.alloc hB.size _).trans (hb1.mono (by simp; omega))⟩
      · go_wp2
        go_ret
        exact ⟨ret_i (chE_ok h2 (fun j hj => HA.out j (by omega))).symm, hB⟩
end Go.Proofs.YtfphedcgmaakjaaGreatDoor
