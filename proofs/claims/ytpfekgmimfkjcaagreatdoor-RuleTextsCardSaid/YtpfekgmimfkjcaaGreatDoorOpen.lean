/-
  Arguments opened: a list of provisions in memory, a pair of whole numbers by value.
-/
import Derived.Test.YtpfekgmimfkjcaaGreatDoorLawSrc2
import Derived.Deep.Slices
import Derived.Deep.Fields
import Derived.ChangeSame
import Derived.OpenShut
import Derived.ProofKit
namespace Go.Proofs.YtpfekgmimfkjcaaGreatDoor
open Go.ChangeShapes Go.WideShapes Go.Deep Go.RowKit
section
variable {H : Type} {enc : TypeId × Value → H} {P : Program} {w : World} {base : Nat} {spare : Nat → Bool} {held : Bool}
theorem open_slice_fields {t e : TypeId} {fs : Array Field} {fuel : Nat} {cs : List Value} {x : DataW H × List MemPlace} (ht : P.underlying t = some (.slice e)) (he : P.underlying e = some (.struct fs))
    (hone : oneCellFields P fs = true) (hC : P.cellsOf e = fs.size) (h : DataW.trod enc P w base spare held fuel t cs = some x) :
    (cs = [.slice none 0 0] ∧ x = (.nil, [])) ∨
    ∃ (a : Addr) (len cap m : Nat) (D : Nat → DataW H) (Pl : Nat → List MemPlace), cs = [.slice (some a) len cap] ∧ base ≤ a.block ∧ len ≤ cap ∧ cap ≤ maxLen ∧ m = (if spare a.block then cap else len) ∧
      x = (.slice ((List.range len).map D) ((List.range (m - len)).map fun j => D (len + j)), MemPlace.row a (m * fs.size) ++ (List.range m).flatMap Pl) ∧
      ∀ i, i < m → ∃ (ys : List (DataW H × List MemPlace)) (n : Nat), D i = .agg (ys.map (·.1)) ∧ Pl i = ys.flatMap (·.2) ∧ ys.length = fs.size ∧
        ∀ (j : Nat) (f : Field), fs[j]? = some f → ∃ (v : Value) (y : DataW H × List MemPlace), w.cell? (a.add (i * fs.size + j)) = some v ∧ ys[j]? = some y ∧ DataW.trod enc P w base spare held n f.type [v] = some y := by
  rcases open_slice ht h with h0 | ⟨a, len, cap, m, n, D, Pl, hcs, hb, hl, hm, hmm, hx, hi⟩
  · exact .inl h0
  · refine .inr ⟨a, len, cap, m, D, Pl, hcs, hb, hl, hm, hmm, by rw [hC] at hx; exact hx, fun i him => ?_⟩
    obtain ⟨cs', hc, ht'⟩ := hi i him
    rw [hC] at hc
    obtain ⟨ys, n', hn', hy, hlen, hyl, hf⟩ := DataW.trod_struct he ht'
    obtain ⟨_, hcl, hat⟩ := World.cells?_some hc
    simp only [Prod.mk.injEq] at hy
    refine ⟨ys, n', hy.1, hy.2, hyl, fun j f hj => ?_⟩
    obtain ⟨ho, hk⟩ := hone_of hone j f hj
    have hjl : j < fs.size := (Array.getElem?_eq_some_iff.1 hj).1
    have hcell := hat j hjl
    have hv : cs'[j]? = some (cs'[j]'(by omega)) := List.getElem?_eq_getElem (by omega)
    have h1 := hf j f hj
    rw [ho, hk] at h1
    have hone' : (cs'.drop j).take 1 = [cs'[j]'(by omega)] := by
      rw [List.drop_eq_getElem_cons (by omega)]
      rfl
    rw [hone'] at h1
    have hys : ys[j]? = some (ys[j]'(by omega)) := List.getElem?_eq_getElem (by omega)
    refine ⟨_, _, ?_, hys, h1.trans hys⟩
    rw [← Go.Deep.add_add, hcell, hv]
end
theorem cells_pv : Tryz.prog.cellsOf 23 = 5 := by kernel_rfl
theorem cells_2 : Tryz.prog.cellsOf 53 = 2 := by kernel_rfl
theorem cells_i : Tryz.prog.cellsOf 3 = 1 := by kernel_rfl
section
variable {H : Type} {enc : TypeId × Value → H} {w : World} {base : Nat} {spare : Nat → Bool} {held : Bool}
set_option maxRecDepth 100000 in
/-- a list of provisions, opened: nil or empty, or it lies in one block -/
theorem pvs_open {v : Value} {d : DataW H} {ps : List MemPlace} {r : Reach} {b0 : Nat} (hv : Value.okWide Tryz.prog w r b0 33 v) (h : DataW.Trod enc Tryz.prog w base spare held 33 v d ps) :
    (∃ a cap, v = .slice a 0 cap) ∨ ∃ (b o cap : Nat) (l : List Pv), v = .slice (some ⟨b, o, none⟩) l.length cap ∧ l.length ≤ maxLen ∧ PvsAt w b o l := by
  obtain ⟨a', len', cap', rfl⟩ := okWide_slice Tryz.underlying33 hv
  obtain ⟨fuel, hf⟩ := h
  rcases open_slice_fields Tryz.underlying33 Tryz.underlying23 (by kernel_rfl) cells_pv hf with ⟨hc, _⟩ | ⟨a, len, cap, m, D, Pl, hc, _, hle, hcap, hm, _, hi⟩
  · simp [Value.cells] at hc
    obtain ⟨rfl, rfl, rfl⟩ := hc
    exact .inl ⟨_, _, rfl⟩
  · simp [Value.cells] at hc
    obtain ⟨rfl, rfl, rfl⟩ := hc
    by_cases h0 : len' = 0
    · subst h0; exact .inl ⟨_, _, rfl⟩
    have hmle : len' ≤ m := by rw [hm]; split <;> omega
    have each : ∀ i, i < len' → ∃ p : Pv, (w.cell? (a.add (i * 5)) = some (.string p.name) ∧ w.cell? (a.add (i * 5 + 1)) = some (.int .i64 p.value) ∧ w.cell? (a.add (i * 5 + 2)) = some (.int .i64 p.from') ∧ w.cell? (a.add (i * 5 + 3)) = some (.int .i64 p.entered) ∧ w.cell? (a.add (i * 5 + 4)) = some (.bool p.repeal)) ∧ p.name.size ≤ maxLen := by
      intro i hil
      obtain ⟨ys, n, _, _, _, hfld⟩ := hi i (by omega)
      obtain ⟨v0, y0, k0, _, t0⟩ := hfld 0 _ rfl
      obtain ⟨v1, y1, k1, _, t1⟩ := hfld 1 _ rfl
      obtain ⟨v2, y2, k2, _, t2⟩ := hfld 2 _ rfl
      obtain ⟨v3, y3, k3, _, t3⟩ := hfld 3 _ rfl
      obtain ⟨v4, y4, k4, _, t4⟩ := hfld 4 _ rfl
      obtain ⟨s, e0, _, hs⟩ := DataW.trod_string Tryz.underlying9 t0
      obtain ⟨x1, e1, _, _⟩ := DataW.trod_int Tryz.underlying3 t1
      obtain ⟨x2, e2, _, _⟩ := DataW.trod_int Tryz.underlying3 t2
      obtain ⟨x3, e3, _, _⟩ := DataW.trod_int Tryz.underlying3 t3
      obtain ⟨x4, e4, _⟩ := DataW.trod_bool Tryz.underlying4 t4
      simp only [List.cons.injEq, and_true] at e0 e1 e2 e3 e4
      subst e0 e1 e2 e3 e4
      exact ⟨⟨s, x1, x2, x3, x4⟩, ⟨k0, k1, k2, k3, k4⟩, hs⟩
    obtain ⟨p0, ⟨z0, _⟩, _⟩ := each 0 (by omega)
    obtain ⟨b, o, sp⟩ := a
    have hsp : sp = none := by have := World.cell?_spot z0; simpa [Addr.add] using this
    subst hsp
    have hadd : ∀ k, Addr.add ⟨b, o, none⟩ k = ⟨b, o + k, none⟩ := fun k => by
      unfold Addr.add
      split
      · rename_i e; subst e; rfl
      · rfl
    have hb : b < w.heap.size := by
      have := World.block_lt_of_cell? w _ z0
      rw [hadd] at this; exact this
    have ex : ∀ i : Nat, ∃ p : Pv, i < len' → (PvAt w b (o + i * 5) p ∧ p.name.size ≤ maxLen) := by
      intro i
      by_cases hil : i < len'
      · obtain ⟨p, ⟨k0, k1, k2, k3, k4⟩, hs⟩ := each i hil
        rw [hadd] at k0 k1 k2 k3 k4
        exact ⟨p, fun _ => ⟨⟨k0, k1, k2, k3, k4⟩, hs⟩⟩
      · exact ⟨p0, fun h => absurd h hil⟩
    obtain ⟨g, hg⟩ := Classical.axiomOfChoice ex
    refine .inr ⟨b, o, cap', (List.range len').map g, by simp, by simp; omega, hb, fun i hil => ?_⟩
    have hil' : i < len' := by simpa using hil
    simpa using hg i hil'
set_option maxRecDepth 100000 in
/-- a pair of whole numbers, opened -/
theorem two_open {v : Value} {d : DataW H} {ps : List MemPlace} {r : Reach} {b0 : Nat} (hv : Value.okWide Tryz.prog w r b0 53 v) (h : DataW.Trod enc Tryz.prog w base spare held 53 v d ps) :
    ∃ x y : Int, v = .agg #[.int .i64 x, .int .i64 y] := by
  simp only [Value.okWide, Tryz.underlying53] at hv
  obtain ⟨cs, rfl, hsz, _⟩ := hv
  rw [cells_2] at hsz
  obtain ⟨l⟩ := cs
  match l, hsz with
  | [c0, c1], _ =>
    obtain ⟨fuel, hf⟩ := h
    obtain ⟨xs, m, _, _, _, hxl, hx⟩ := DataW.trod_array Tryz.underlying53 hf
    have h0 := hx 0 (by omega)
    have h1 := hx 1 (by omega)
    rw [List.getElem?_eq_getElem (by omega)] at h0 h1
    simp [Value.cells, cells_i] at h0 h1
    obtain ⟨x, e0, _, _⟩ := DataW.trod_int Tryz.underlying3 h0
    obtain ⟨y, e1, _, _⟩ := DataW.trod_int Tryz.underlying3 h1
    simp only [List.cons.injEq, and_true] at e0 e1
    subst e0 e1
    exact ⟨x, y, rfl⟩
end
end Go.Proofs.YtpfekgmimfkjcaaGreatDoor
