/-
  A list of entries, and an entry by value, opened.
-/
import Derived.Test.YtfneafofohfdnaaNts
import Derived.Deep.Slices
import Derived.Deep.Fields
import Derived.ChangeSame
import Derived.OpenShut
import Derived.ProofKit
import Derived.Lib.SmallJoins
namespace Go.Proofs.Ytfneafofohfdnaa
open Go.Joins Go.ChangeShapes Go.WideShapes Go.Deep Go.RowKit
theorem cells_nt : Try.prog.cellsOf 50 = 5 := by kernel_rfl
theorem cells_int1 : Try.prog.cellsOf 3 = 1 := by kernel_rfl
theorem cells_str1 : Try.prog.cellsOf 9 = 1 := by kernel_rfl
theorem cells_days : Try.prog.cellsOf 48 = 2 := by kernel_rfl
theorem addO (b o j : Nat) : Addr.add ⟨b, o, none⟩ j = ⟨b, o + j, none⟩ := by
  unfold Addr.add
  split
  · rename_i e; subst e; rfl
  · rfl
section
variable {H : Type} {enc : TypeId × Value → H} {w : World} {base : Nat} {spare : Nat → Bool} {held : Bool}
theorem days_cells {fuel : Nat} {c0 c1 : Value} {y : DataW H × List MemPlace} (h : DataW.trod enc Try.prog w base spare held fuel 48 [c0, c1] = some y) : ∃ x1 x2 : Int, c0 = .int .i64 x1 ∧ c1 = .int .i64 x2 := by
  obtain ⟨zs, n', _, _, _, hlen', hg'⟩ := DataW.trod_struct Try.underlying48 h
  have k0 := hg' 0 _ rfl
  have k1 := hg' 1 _ rfl
  match zs, hlen' with
  | [z0, z1], _ =>
    simp [cells_int1] at k0
    simp [cells_int1] at k1
    obtain ⟨x0, e0, _, _⟩ := DataW.trod_int Try.underlying3 k0
    obtain ⟨x1, e1, _, _⟩ := DataW.trod_int Try.underlying3 k1
    simp only [List.cons.injEq, and_true] at e0 e1
    exact ⟨x0, x1, e0, e1⟩
set_option maxRecDepth 100000 in
theorem note_cells {fuel : Nat} {cs : List Value} {x : DataW H × List MemPlace} (h : DataW.trod enc Try.prog w base spare held fuel 50 cs = some x) :
    ∃ p : Nt, cs = ntC p := by
  obtain ⟨xs, n, _, hx, hcl, hlen, hg⟩ := DataW.trod_struct Try.underlying50 h
  have h0 := hg 0 _ rfl
  have h1 := hg 1 _ rfl
  have h2 := hg 2 _ rfl
  rw [cells_nt] at hcl
  match cs, hcl with
  | [c0, c1, c2, c3, c4], _ =>
    match xs, hlen with
    | [y0, y1, y2], _ =>
      simp [cells_str1] at h0
      simp [cells_days] at h1
      simp [cells_days] at h2
      obtain ⟨s, e0, ex, hs⟩ := DataW.trod_string Try.underlying9 h0
      obtain ⟨x1, x2, rfl, rfl⟩ := days_cells h1
      obtain ⟨x3, x4, rfl, rfl⟩ := days_cells h2
      simp only [List.cons.injEq, and_true] at e0
      subst e0
      exact ⟨⟨s.data.toList, x1, x2, x3, x4⟩, by simp [ntC]⟩
set_option maxRecDepth 100000 in
/-- an entry by value, opened -/
theorem nt_open {v : Value} {d : DataW H} {ps : List MemPlace} {r : Reach} {b0 : Nat} (hv : Value.okWide Try.prog w r b0 50 v) (h : DataW.Trod enc Try.prog w base spare held 50 v d ps) : ∃ p : Nt, v = p.val := by
  obtain ⟨cs, rfl, hsz⟩ := okWide_struct Try.underlying50 hv
  obtain ⟨l⟩ := cs
  obtain ⟨fuel, hf⟩ := h
  obtain ⟨p, hp⟩ := note_cells hf
  refine ⟨p, ?_⟩
  have e : l = ntC p := by simpa [Value.cells] using hp
  rw [e]
  rfl
set_option maxRecDepth 100000 in
/-- a list of entries, opened: nil or empty, or it lies in one block -/
theorem nts_open {v : Value} {d : DataW H} {ps : List MemPlace} {r : Reach} {b0 : Nat} (hv : Value.okWide Try.prog w r b0 46 v) (h : DataW.Trod enc Try.prog w base spare held 46 v d ps) :
    (∃ a cap, v = .slice a 0 cap) ∨ ∃ (b o cap : Nat) (l : List Nt), v = .slice (some ⟨b, o, none⟩) l.length cap ∧ l.length ≤ maxLen ∧ NtsAt w b o l := by
  obtain ⟨a', len', cap', rfl⟩ := okWide_slice Try.underlying46 hv
  obtain ⟨fuel, hf⟩ := h
  rcases open_slice Try.underlying46 hf with ⟨hc, _⟩ | ⟨a, len, cap, m, n, D, Pl, hc, _, hle, hcap, hm, hx, hi⟩
  · simp [Value.cells] at hc
    obtain ⟨rfl, rfl, rfl⟩ := hc
    exact .inl ⟨_, _, rfl⟩
  · simp [Value.cells] at hc
    obtain ⟨rfl, rfl, rfl⟩ := hc
    by_cases h0 : len' = 0
    · subst h0; exact .inl ⟨_, _, rfl⟩
    have hmle : len' ≤ m := by rw [hm]; split <;> omega
    rw [cells_nt] at hi
    have each : ∀ i, i < len' → ∃ p : Nt, (∀ j u, (ntC p)[j]? = some u → w.cell? ((a.add (i * 5)).add j) = some u) := by
      intro i hil
      obtain ⟨cs', hcs, ht⟩ := hi i (by omega)
      obtain ⟨p, hp⟩ := note_cells ht
      obtain ⟨_, hcl, hat⟩ := World.cells?_some hcs
      refine ⟨p, fun j u hj => ?_⟩
      have hj5 : j < 5 := by
        have := (List.getElem?_eq_some_iff.1 hj).1
        simpa [ntC] using this
      rw [hat j hj5, hp]; exact hj
    obtain ⟨p0, z⟩ := each 0 (by omega)
    have z0 := z 0 _ rfl
    obtain ⟨b, o, sp⟩ := a
    have hsp : sp = none := by have := World.cell?_spot z0; simpa [Addr.add] using this
    subst hsp
    have hb : b < w.heap.size := by
      have := World.block_lt_of_cell? w _ z0
      rw [addO, addO] at this; exact this
    have ex : ∀ i : Nat, ∃ p : Nt, i < len' → NtAt w b (o + i * 5) p := by
      intro i
      by_cases hil : i < len'
      · obtain ⟨p, hk⟩ := each i hil
        have g : ∀ j u, (ntC p)[j]? = some u → w.cell? ⟨b, o + i * 5 + j, none⟩ = some u := fun j u hj => by
          have := hk j u hj
          rw [addO, addO] at this; exact this
        exact ⟨p, fun _ => ⟨g 0 _ rfl, g 1 _ rfl, g 2 _ rfl, g 3 _ rfl, g 4 _ rfl⟩⟩
      · exact ⟨p0, fun h => absurd h hil⟩
    obtain ⟨g, hg⟩ := Classical.axiomOfChoice ex
    refine .inr ⟨b, o, cap', (List.range len').map g, by simp, by simp; omega, ⟨hb, fun i hil => ?_⟩⟩
    have hil' : i < len' := by simpa using hil
    simpa using (hg i hil')
end
end Go.Proofs.Ytfneafofohfdnaa
