/-
  Groups of entries in a map of slices: what it reads as; look-ups in whatever world the map lies on; the sorted keys.
-/
import Derived.Test.YtfneafofohfdnaaRead
import Derived.Test.YtfneafofohfdnaaIter
import Derived.Maps.GroupsBeside
import Derived.Maps.AppendAt
namespace Go.Proofs.Ytfneafofohfdnaa
open Go.RowKit Go.WideMaps Go.Maps Go.Sort Go.WideElems Go.ChangeShapes Go.MapKept
theorem pair_one {α β : Type} {f : α → β} : ∀ {l : List α}, l.Pairwise (fun x y => f x ≠ f y) → ∀ {x y : α}, x ∈ l → y ∈ l → f x = f y → x = y
  | a :: l, h, x, y, hx, hy, e => by
    obtain ⟨h1, h2⟩ := List.pairwise_cons.1 h
    rcases List.mem_cons.1 hx with hx' | hx'
    · rcases List.mem_cons.1 hy with hy' | hy'
      · rw [hx', hy']
      · subst hx'; exact absurd e (h1 y hy')
    · rcases List.mem_cons.1 hy with hy' | hy'
      · subst hy'; exact absurd e.symm (h1 x hx')
      · exact pair_one h2 hx' hy' e
/-- a look-up says the same wherever the map lies as it lay -/
theorem look_same {H : Type} {P : Program} {k E t : TypeId} {R : Value → Option (DataW H × List MemPlace)} {w X : World} {b clock : Nat} {es : Array MapEntry} {z v key : Value} {kl : Lit} (K : Keyed P k) (ht : P.underlying t = some (.map k E)) (hz : ∀ X, (zeroValue E).run P X = .ok z X)
    (hb : w.heap[b]? = some (.map es clock)) (F : Fit P k R es clock) (hkey : keyOf P k key = some kl) (h : (Instr.lookup t (.map (some b)) key false).run P w = .ok v w) (hX : X.heap[b]? = w.heap[b]?) :
    (Instr.lookup t (.map (some b)) key false).run P X = .ok v X := by
  have hbX := hX.trans hb
  have one := ((stamped_iff es clock).1 F.stamped).2.2
  rcases Maps.fit_look false K ht (hz w) hb F hkey with ⟨h1, h2, _⟩ | ⟨e0, y, h1, h2, h3, _⟩
  · rcases Maps.fit_look false K ht (hz X) hbX F hkey with ⟨g1, g2, _⟩ | ⟨e0, y, g1, g2, g3, _⟩
    · rw [h1] at h
      injection h with h
      rw [g1, ← h]
    · exact absurd g2 (h2 e0 g1)
  · rcases Maps.fit_look false K ht (hz X) hbX F hkey with ⟨g1, g2, _⟩ | ⟨e1, y', g1, g2, g3, _⟩
    · exact absurd h2 (g2 e0 h1)
    · have : e0 = e1 := pair_one one h1 g1 (h2.trans g2.symm)
      subst this
      rw [h3] at h
      injection h with h
      rw [g3, ← h]
theorem zeroIs (w : World) : (zeroValue 68).run Try.prog w = .ok (.slice none 0 0) w := by kernel_rfl
/-- groups as they read -/
def GD (D : DataW Unit) (G : Int → List Int) : Prop := IsMap D ∧ ∀ x : Int, Maps.has D (.int .i64 x) = !(G x).isEmpty ∧ D.atKey (.int .i64 x) .nil = if G x = [] then .nil else .slice (lits .i64 (G x)) []
theorem GD_nil : GD (.map []) (fun _ => []) := ⟨⟨[], rfl⟩, fun _ => ⟨rfl, rfl⟩⟩
theorem lits_inj : ∀ {a b : List Int}, (lits .i64 a : List (DataW Unit)) = lits .i64 b → a = b
  | [], [], _ => rfl
  | [], y :: b, h => by simp [lits] at h
  | x :: a, [], h => by simp [lits] at h
  | x :: a, y :: b, h => by
    simp [lits] at h
    rw [h.1]
    congr 1
    exact lits_inj (by simpa [lits] using h.2)
theorem GD_at {W : World} {D : DataW Unit} {G : Int → List Int} {x : Int} {base : Nat} {e : TypeId} {v : Value} {zs : List Int} (h : GD D G) (hat : D.atKey (.int .i64 x) .nil = rowDatum .i64 v zs) (ho : W.ownsInts base e .i64 v zs) : zs = G x := by
  rw [(h.2 x).2] at hat
  rcases ho.datum (H := Unit) with ⟨h1, h2⟩ | h1
  · rw [h1] at hat
    by_cases c : G x = []
    · rw [h2, c]
    · rw [if_neg c] at hat; cases hat
  · rw [h1] at hat
    by_cases c : G x = []
    · rw [if_pos c] at hat; cases hat
    · rw [if_neg c] at hat
      injection hat with hat
      exact (lits_inj hat).symm
theorem GD_put {W : World} {D : DataW Unit} {G : Int → List Int} {x y : Int} {base : Nat} {e : TypeId} {v : Value} (h : GD D G) (ho : W.ownsInts base e .i64 v (G x ++ [y])) :
    GD (D.put (.int .i64 x) (rowDatum .i64 v (G x ++ [y]))) (fun z => if z = x then G z ++ [y] else G z) := by
  refine ⟨Maps.IsMap.put h.1 _ _, fun z => ?_⟩
  by_cases c : z = x
  · subst c
    simp only [if_true]
    refine ⟨by rw [has_put_same h.1 (isKI _)]; simp, ?_⟩
    rw [atKey_put_same h.1 (isKI _), ho.datum_pos (by simp), if_neg (by simp)]
  · have c' := litI_ne c
    simp only [if_neg c]
    rw [has_put_other c', atKey_put_other c']
    exact h.2 z
end Go.Proofs.Ytfneafofohfdnaa
