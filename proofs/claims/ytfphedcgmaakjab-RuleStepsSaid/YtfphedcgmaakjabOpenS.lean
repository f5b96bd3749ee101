/-
  Steps by value, opened.
-/
import Derived.Test.YtfphedcgmaakjabOpenH
import Derived.Lib.SmallJoins
namespace Go.Proofs.Ytfphedcgmaakjab
open Go.Joins Go.ChangeShapes Go.WideShapes Go.RowKit Go.Deep
theorem cells_stp : Try.prog.cellsOf 26 = 5 := by kernel_rfl
theorem cells_prd : Try.prog.cellsOf 24 = 3 := by kernel_rfl
theorem cells_int1 : Try.prog.cellsOf 3 = 1 := by kernel_rfl
theorem cells_bool1 : Try.prog.cellsOf 4 = 1 := by kernel_rfl
section
variable {H : Type} {enc : TypeId × Value → H} {w : World} {base : Nat} {spare : Nat → Bool} {held : Bool}
set_option maxRecDepth 100000 in
/-- steps, opened -/
theorem stp_open {v : Value} {d : DataW H} {ps : List MemPlace} {r : Reach} {b0 : Nat} (hv : Value.okWide Try.prog w r b0 26 v) (h : DataW.Trod enc Try.prog w base spare held 26 v d ps) :
    ∃ (f t x y : Int) (b : Bool), v = .agg #[.int .i64 f, .int .i64 t, .int .i64 x, .int .i64 y, .bool b] := by
  obtain ⟨cs, rfl, hsz⟩ := okWide_struct Try.underlying26 hv
  obtain ⟨l⟩ := cs
  match l, hsz.trans cells_stp with
  | [c0, c1, c2, c3, c4], _ =>
    obtain ⟨fuel, hf⟩ := h
    obtain ⟨xs, n, _, _, _, hlen, hg⟩ := DataW.trod_struct Try.underlying26 hf
    have h0 := hg 0 _ rfl
    have h1 := hg 1 _ rfl
    have h2 := hg 2 _ rfl
    match xs, hlen with
    | [y0, y1, y2], _ =>
      simp [Value.cells, cells_int1] at h0
      simp [Value.cells, cells_int1] at h1
      simp [Value.cells, cells_prd] at h2
      obtain ⟨zs, n', _, _, _, hlen', hg'⟩ := DataW.trod_struct Try.underlying24 h2
      have k0 := hg' 0 _ rfl
      have k1 := hg' 1 _ rfl
      have k2 := hg' 2 _ rfl
      match zs, hlen' with
      | [z0, z1, z2], _ =>
        simp [cells_int1] at k0
        simp [cells_int1] at k1
        simp [cells_bool1] at k2
        obtain ⟨x0, e0, _, _⟩ := DataW.trod_int Try.underlying3 h0
        obtain ⟨x1, e1, _, _⟩ := DataW.trod_int Try.underlying3 h1
        obtain ⟨x2, e2, _, _⟩ := DataW.trod_int Try.underlying3 k0
        obtain ⟨x3, e3, _, _⟩ := DataW.trod_int Try.underlying3 k1
        obtain ⟨x4, e4, _⟩ := DataW.trod_bool Try.underlying4 k2
        simp only [List.cons.injEq, and_true] at e0 e1 e2 e3 e4
        subst e0 e1 e2 e3 e4
        exact ⟨x0, x1, x2, x3, x4, rfl⟩
end
end Go.Proofs.Ytfphedcgmaakjab
