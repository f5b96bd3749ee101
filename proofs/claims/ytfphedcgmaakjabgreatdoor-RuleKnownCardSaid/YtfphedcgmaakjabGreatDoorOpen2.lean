/-
  Arguments opened: a provision by value, a list of holidays in memory, a period by value.
-/
import Derived.Test.YtfphedcgmaakjabGreatDoorOpen
import Derived.Test.YtfphedcgmaakjabGreatDoorHols
import Derived.Lib.SmallJoins
namespace Go.Proofs.YtfphedcgmaakjabGreatDoor
open Go.Joins Go.ChangeShapes Go.WideShapes Go.RowKit Go.Deep
section
variable {H : Type} {enc : TypeId × Value → H} {P : Program} {w : World} {base : Nat} {spare : Nat → Bool} {held : Bool}
theorem open_agg5 {r : Reach} {b0 : Nat} {t : TypeId} {f0 f1 f2 f3 f4 : Field} {v : Value} {d : DataW H} {p : List MemPlace} (hs : P.underlying t = some (.struct #[f0, f1, f2, f3, f4])) (hone : oneCellFields P #[f0, f1, f2, f3, f4] = true) (hC : P.cellsOf t = 5)
    (hv : Value.okWide P w r b0 t v) (h : DataW.Trod enc P w base spare held t v d p) :
    ∃ (v0 v1 v2 v3 v4 : Value) (y0 y1 y2 y3 y4 : DataW H × List MemPlace) (n : Nat), v = .agg #[v0, v1, v2, v3, v4] ∧ d = .agg [y0.1, y1.1, y2.1, y3.1, y4.1] ∧ p = y0.2 ++ (y1.2 ++ (y2.2 ++ (y3.2 ++ y4.2))) ∧
      DataW.trod enc P w base spare held n f0.type [v0] = some y0 ∧ DataW.trod enc P w base spare held n f1.type [v1] = some y1 ∧ DataW.trod enc P w base spare held n f2.type [v2] = some y2 ∧ DataW.trod enc P w base spare held n f3.type [v3] = some y3 ∧ DataW.trod enc P w base spare held n f4.type [v4] = some y4 := by
  obtain ⟨cs, rfl, hsz⟩ := okWide_struct hs hv
  obtain ⟨l⟩ := cs
  match l, hsz.trans hC with
  | [c0, c1, c2, c3, c4], _ =>
    obtain ⟨fuel, hf⟩ := h
    obtain ⟨xs, n, _, hx, _, hlen, hg⟩ := DataW.trod_struct hs hf
    obtain ⟨o0, k0⟩ := hone_of hone 0 f0 rfl
    obtain ⟨o1, k1⟩ := hone_of hone 1 f1 rfl
    obtain ⟨o2, k2⟩ := hone_of hone 2 f2 rfl
    obtain ⟨o3, k3⟩ := hone_of hone 3 f3 rfl
    obtain ⟨o4, k4⟩ := hone_of hone 4 f4 rfl
    match xs, hlen with
    | [y0, y1, y2, y3, y4], _ =>
      simp only [Prod.mk.injEq] at hx
      exact ⟨c0, c1, c2, c3, c4, y0, y1, y2, y3, y4, n, rfl, by simpa using hx.1, by simpa using hx.2, by simpa [Value.cells, o0, k0] using hg 0 f0 rfl, by simpa [Value.cells, o1, k1] using hg 1 f1 rfl, by simpa [Value.cells, o2, k2] using hg 2 f2 rfl, by simpa [Value.cells, o3, k3] using hg 3 f3 rfl, by simpa [Value.cells, o4, k4] using hg 4 f4 rfl⟩
end
theorem cells_hd : Tryz.prog.cellsOf 110 = 5 := by kernel_rfl
section
variable {H : Type} {enc : TypeId × Value → H} {w : World} {base : Nat} {spare : Nat → Bool} {held : Bool}
set_option maxRecDepth 100000 in
/-- a provision, opened -/
theorem pv_open {v : Value} {d : DataW H} {ps : List MemPlace} {r : Reach} {b0 : Nat} (hv : Value.okWide Tryz.prog w r b0 23 v) (h : DataW.Trod enc Tryz.prog w base spare held 23 v d ps) :
    ∃ p : Pv, v = .agg #[.string p.name, .int .i64 p.value, .int .i64 p.from', .int .i64 p.entered, .bool p.repeal] ∧ p.name.size ≤ maxLen := by
  obtain ⟨v0, v1, v2, v3, v4, y0, y1, y2, y3, y4, n, rfl, _, _, t0, t1, t2, t3, t4⟩ := open_agg5 Tryz.underlying23 (by kernel_rfl) cells_pv hv h
  obtain ⟨s, e0, _, hs⟩ := DataW.trod_string Tryz.underlying9 t0
  obtain ⟨x1, e1, _, _⟩ := DataW.trod_int Tryz.underlying3 t1
  obtain ⟨x2, e2, _, _⟩ := DataW.trod_int Tryz.underlying3 t2
  obtain ⟨x3, e3, _, _⟩ := DataW.trod_int Tryz.underlying3 t3
  obtain ⟨x4, e4, _⟩ := DataW.trod_bool Tryz.underlying4 t4
  simp only [List.cons.injEq, and_true] at e0 e1 e2 e3 e4
  subst e0 e1 e2 e3 e4
  exact ⟨⟨s, x1, x2, x3, x4⟩, rfl, hs⟩
set_option maxRecDepth 100000 in
/-- a list of holidays, opened: nil or empty, or it lies in one block -/
theorem hds_open {v : Value} {d : DataW H} {ps : List MemPlace} {r : Reach} {b0 : Nat} (hv : Value.okWide Tryz.prog w r b0 94 v) (h : DataW.Trod enc Tryz.prog w base spare held 94 v d ps) :
    (∃ a cap, v = .slice a 0 cap) ∨ ∃ (b o cap : Nat) (l : List Hd), v = .slice (some ⟨b, o, none⟩) l.length cap ∧ l.length ≤ maxLen ∧ HdsAt w b o l := by
  obtain ⟨a', len', cap', rfl⟩ := okWide_slice Tryz.underlying94 hv
  obtain ⟨fuel, hf⟩ := h
  rcases open_slice_fields Tryz.underlying94 Tryz.underlying110 (by kernel_rfl) cells_hd hf with ⟨hc, _⟩ | ⟨a, len, cap, m, D, Pl, hc, _, hle, hcap, hm, _, hi⟩
  · simp [Value.cells] at hc
    obtain ⟨rfl, rfl, rfl⟩ := hc
    exact .inl ⟨_, _, rfl⟩
  · simp [Value.cells] at hc
    obtain ⟨rfl, rfl, rfl⟩ := hc
    by_cases h0 : len' = 0
    · subst h0; exact .inl ⟨_, _, rfl⟩
    have hmle : len' ≤ m := by rw [hm]; split <;> omega
    have each : ∀ i, i < len' → ∃ p : Hd, (w.cell? (a.add (i * 5)) = some (.string p.name) ∧ w.cell? (a.add (i * 5 + 1)) = some (.int .i64 p.kind) ∧ w.cell? (a.add (i * 5 + 2)) = some (.int .i64 p.month) ∧ w.cell? (a.add (i * 5 + 3)) = some (.int .i64 p.day) ∧ w.cell? (a.add (i * 5 + 4)) = some (.int .i64 p.weekday)) ∧ p.name.size ≤ maxLen := by
      intro i hil
      obtain ⟨ys, n, _, _, _, hfld⟩ := hi i (by omega)
      obtain ⟨v0, y0, k0, _, t0⟩ := hfld 0 _ rfl
      obtain ⟨v1, y1, k1, _, t1⟩ := hfld 1 _ rfl
      obtain ⟨v2, y2, k2, _, t2⟩ := hfld 2 _ rfl
      obtain ⟨v3, y3, k3, _, t3⟩ := hfld 3 _ rfl
      obtain ⟨v4, y4, k4, _, t4⟩ := hfld 4 _ rfl
      obtain ⟨s, e0, _, hs⟩ := DataW.trod_string Tryz.underlying9 t0
      obtain ⟨x1, e1, _, _⟩ := DataW.trod_int Tryz.underlying3 t1
      obtain ⟨x2, e2, _, _⟩ := DataW.trod_int Tryz.underlying3 t2
      obtain ⟨x3, e3, _, _⟩ := DataW.trod_int Tryz.underlying3 t3
      obtain ⟨x4, e4, _, _⟩ := DataW.trod_int Tryz.underlying3 t4
      simp only [List.cons.injEq, and_true] at e0 e1 e2 e3 e4
      subst e0 e1 e2 e3 e4
      exact ⟨⟨s, x1, x2, x3, x4⟩, ⟨k0, k1, k2, k3, k4⟩, hs⟩
    obtain ⟨p0, ⟨z0, _⟩, _⟩ := each 0 (by omega)
    obtain ⟨b, o, sp⟩ := a
    have hsp : sp = none := by have := World.cell?_spot z0; simpa [Addr.add] using this
    subst hsp
    have hadd : ∀ k, Addr.add ⟨b, o, none⟩ k = ⟨b, o + k, none⟩ := fun k => by
      unfold Addr.add
      split
      · rename_i e; subst e; rfl
      · rfl
    have hb : b < w.heap.size := by
      have := World.block_lt_of_cell? w _ z0
      rw [hadd] at this; exact this
    have ex : ∀ i : Nat, ∃ p : Hd, i < len' → (HdAt w b (o + i * 5) p ∧ p.name.size ≤ maxLen) := by
      intro i
      by_cases hil : i < len'
      · obtain ⟨p, ⟨k0, k1, k2, k3, k4⟩, hs⟩ := each i hil
        rw [hadd] at k0 k1 k2 k3 k4
        exact ⟨p, fun _ => ⟨⟨k0, k1, k2, k3, k4⟩, hs⟩⟩
      · exact ⟨p0, fun h => absurd h hil⟩
    obtain ⟨g, hg⟩ := Classical.axiomOfChoice ex
    refine .inr ⟨b, o, cap', (List.range len').map g, by simp, by simp; omega, hb, fun i hil => ?_⟩
    have hil' : i < len' := by simpa using hil
    simpa using hg i hil'
end
end Go.Proofs.YtfphedcgmaakjabGreatDoor
