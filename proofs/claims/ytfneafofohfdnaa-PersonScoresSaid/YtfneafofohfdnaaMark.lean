/-
  Ranges over functions within a loop: each leaves a mark among the deferred calls; the marks are taken at the function's end. No program is named here.
-/
import Derived.RangeFuncNested
import Derived.RangeFuncBound
import Derived.RangeFuncCalls
import Derived.RangeFuncLeaves
import Derived.RangeFuncFrom
namespace Go.Proofs.Ytfneafofohfdnaa
open Go.RowKit
/-- the marks of ranges that have been gone through -/
def marks (Ds : List Nat) : List Deferred := Ds.map fun D => { target := .collected D, args := #[] }
theorem marks_nil : marks [] = [] := rfl
theorem marks_cons (D : Nat) (Ds : List Nat) : { target := .collected D, args := #[] } :: marks Ds = marks (D :: Ds) := rfl
/-- their blocks lie open, from block B on -/
def OpenD (B : Nat) (Ds : List Nat) (W : World) : Prop := Ds.Nodup ∧ ∀ D ∈ Ds, B ≤ D ∧ W.heap[D]? = some (.deferred (some []))
theorem OpenD.nil (B : Nat) (W : World) : OpenD B [] W := ⟨List.nodup_nil, by simp⟩
theorem OpenD.lt {B : Nat} {Ds : List Nat} {W : World} (h : OpenD B Ds W) : ∀ D ∈ Ds, D < W.heap.size := fun D m => (Array.getElem?_eq_some_iff.1 (h.2 D m).2).1
theorem OpenD.grown {B : Nat} {Ds : List Nat} {W W' : World} {row : Option Nat} (h : OpenD B Ds W) (hg : W.grownBy W' row) (hne : ∀ j, row = some j → ∀ D ∈ Ds, D ≠ j) : OpenD B Ds W' :=
  ⟨h.1, fun D m => ⟨(h.2 D m).1, (hg.block D (h.lt D m) (fun e => hne D e.symm D m rfl)).trans (h.2 D m).2⟩⟩
theorem OpenD.below {B X : Nat} {Ds : List Nat} {W W' : World} (h : OpenD B Ds W) (hb : Below X W W') (hX : ∀ D ∈ Ds, D < X) : OpenD B Ds W' :=
  ⟨h.1, fun D m => ⟨(h.2 D m).1, (hb.block D (hX D m)).trans (h.2 D m).2⟩⟩
theorem OpenD.up {B : Nat} {Ds : List Nat} {W W' : World} (h : OpenD B Ds W) (hb : Below W.heap.size W W') : OpenD B Ds W' := h.below hb h.lt
theorem OpenD.alloc {B : Nat} {Ds : List Nat} {W : World} (h : OpenD B Ds W) (o : Obj) : OpenD B Ds (W.alloc o) := h.up ((Below.refl _ _).alloc (Nat.le_refl _) _)
theorem OpenD.kept {B : Nat} {Ds : List Nat} {W W' : World} (h : OpenD B Ds W) (hk : KeepsOthers W W') : OpenD B Ds W' :=
  ⟨h.1, fun D m => ⟨(h.2 D m).1, hk.same D _ (h.2 D m).2 rfl⟩⟩
theorem OpenD.set {B : Nat} {Ds : List Nat} {W : World} (h : OpenD B Ds W) (p : Addr) (v : Value) : OpenD B Ds (W.setCell p v) := h.kept (KeepsOthers.setCell _ _ _)
theorem OpenD.cons {B D : Nat} {Ds : List Nat} {W W0 : World} (h : OpenD B Ds W) (h0 : OpenD B Ds W0) (hD : W0.heap.size ≤ D) (hB : B ≤ W0.heap.size) (hk : W.heap[D]? = some (.deferred (some []))) : OpenD B (D :: Ds) W :=
  ⟨List.nodup_cons.2 ⟨fun m => by have := h0.lt D m; omega, h.1⟩, fun E m => by
    rcases List.mem_cons.1 m with rfl | m
    · exact ⟨by omega, hk⟩
    · exact h.2 E m⟩
theorem OpenD.own {β : Type} {B X : Nat} {Ds : List Nat} (hX : ∀ D ∈ Ds, D < X) : OwnFrom X (fun (_ : β) W => OpenD B Ds W) := fun _ _ _ _ h hg hr => h.grown hg (fun j e D m c => by
  have := (hr j e).1
  have := hX D m
  omega)
variable {P : Program} {F : Fence} {n : Nat}
/-- at the function's end: the marks are taken, one after the other -/
theorem leaves_marks {fn : Func} {tmps : Array Value} {R : Ending → World → Prop} {B : Nat} (Φ : World → Prop)
    (hΦ : ∀ W D, Φ W → B ≤ D → W.heap[D]? = some (.deferred (some [])) → Φ (W.putObj D (.deferred none)))
    (hfin : ∀ W, Φ W → ∃ v, (results fn tmps).run P W = .ok v W ∧ R (.returned v) W) :
    ∀ (Ds : List Nat) (W : World), OpenD B Ds W → Φ W → LeavesInM F n P fn tmps R (marks Ds) .returning W
  | [], W, _, h => hfin W h
  | D :: Ds, W, ho, h => by
    obtain ⟨hn, hm⟩ := ho
    obtain ⟨hB, hk⟩ := hm D (by simp)
    have hnd := List.nodup_cons.1 hn
    refine ⟨by simp, .inl ⟨D, _, rfl, run_takeDeferred hk, ?_⟩⟩
    refine leaves_marks Φ hΦ hfin Ds _ ⟨hnd.2, fun E m => ⟨(hm E (by simp [m])).1, ?_⟩⟩ (hΦ W D h hB hk)
    exact (World.putObj_heap_other (by intro e; subst e; exact hnd.1 m)).trans (hm E (by simp [m])).2
theorem open_ne {D : Nat} {W : World} {o : Obj} {b : Nat} (hk : W.heap[D]? = some (.deferred (some []))) (hb : W.heap[b]? = some o) (ho : ∀ x, o ≠ .deferred x) : b ≠ D := by
  intro e
  subst e
  rw [hb] at hk
  injection hk with hk
  exact ho _ hk
end Go.Proofs.Ytfneafofohfdnaa
