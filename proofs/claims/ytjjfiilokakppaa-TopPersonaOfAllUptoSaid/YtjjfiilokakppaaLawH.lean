/-
  The law of the order: rows side by side, boxes, and what is held while the third persona is asked for.
-/
import Derived.Test.YtjjfiilokakppaaPaM
import Derived.Test.YtjjfiilokakppaaLawPer
import Derived.Deep.DeepCutAuto
import Derived.Deep.CutBlock
namespace Go.Proofs.Ytjjfiilokakppaa
open Go.RowKit
attribute [local go_sem] set_drewN
/-- two rows of one's own, apart -/
def I2 (n₀ : Nat) (w0 : World) (A B : List Nat) (v u : Value) (W : World) : Prop := IR W n₀ A v ∧ IR W n₀ B u ∧ apart2 v u ∧ Below n₀ w0 W ∧ n₀ ≤ W.heap.size
theorem I2.below {n₀ : Nat} {w0 W W' : World} {A B : List Nat} {v u : Value} (h : I2 n₀ w0 A B v u W) (hb : Below W.heap.size W W') : I2 n₀ w0 A B v u W' := by
  obtain ⟨a, b, c, d, e⟩ := h
  have g : W.grownBy W' none := ⟨hb.os, hb.tape, hb.output, hb.size, fun j hj _ => hb.block j hj⟩
  exact ⟨a.kept g (by cases v.ownBlock <;> simp), b.kept g (by cases u.ownBlock <;> simp), c, d.trans (hb.mono e), Nat.le_trans e hb.size⟩
theorem I2.alloc {n₀ : Nat} {w0 W : World} {A B : List Nat} {v u : Value} (h : I2 n₀ w0 A B v u W) (o : Obj) : I2 n₀ w0 A B v u (W.alloc o) := h.below ((Below.refl _ _).alloc (Nat.le_refl _) o)
theorem I2.first {n₀ : Nat} {w0 W W' : World} {A B : List Nat} {v u v' : Value} {k : Nat} (h : I2 n₀ w0 A B v u W) (h1 : W'.ownsRow n₀ 3 1 v' (A.length + 1) (A.map iV ++ [iV k])) (hg : W.grownBy W' v.ownBlock)
    (h4 : ∃ k, v'.ownBlock = some k ∧ (v.ownBlock = some k ∨ W.heap.size ≤ k)) : I2 n₀ w0 (A ++ [k]) B v' u W' := by
  obtain ⟨a, b, c, d, e⟩ := h
  refine ⟨by unfold IR; simpa using h1, b.kept hg ?_, ?_, d.grown hg e (fun k' e' => (World.ownsRow.lt a k' e').1), Nat.le_trans e hg.size⟩
  · cases hu : u.ownBlock with
    | none => exact .inl rfl
    | some q => exact .inr (fun e => c q e.symm hu)
  · intro q hq
    obtain ⟨k', hk, hk2⟩ := h4
    rw [hk] at hq
    obtain rfl : k' = q := Option.some.inj hq
    rcases hk2 with hk2 | hk2
    · exact c _ hk2
    · intro hu
      have := (World.ownsRow.lt b _ hu).2
      omega
theorem I2.second {n₀ : Nat} {w0 W W' : World} {A B : List Nat} {v u u' : Value} {k : Nat} (h : I2 n₀ w0 A B v u W) (h1 : W'.ownsRow n₀ 3 1 u' (B.length + 1) (B.map iV ++ [iV k])) (hg : W.grownBy W' u.ownBlock)
    (h4 : ∃ k, u'.ownBlock = some k ∧ (u.ownBlock = some k ∨ W.heap.size ≤ k)) : I2 n₀ w0 A (B ++ [k]) v u' W' := by
  obtain ⟨a, b, c, d, e⟩ := h
  have h' : I2 n₀ w0 B A u v W := ⟨b, a, fun q hq hv => c q hv hq, d, e⟩
  obtain ⟨a', b', c', d', e'⟩ := h'.first h1 hg h4
  exact ⟨b', a', fun q hq hv => c' q hv hq, d', e'⟩
theorem I2.start (n₀ : Nat) (w0 W : World) (h : Below n₀ w0 W) (e : n₀ ≤ W.heap.size) : I2 n₀ w0 [] [] (.slice none 0 0) (.slice none 0 0) W :=
  ⟨World.ownsRow_nil _ _ _ _, World.ownsRow_nil _ _ _ _, fun k hk => by simp [Value.ownBlock] at hk, h, e⟩
theorem addO (b o j : Nat) : Addr.add ⟨b, o, none⟩ j = ⟨b, o + j, none⟩ := by
  unfold Addr.add
  split
  · rename_i e; subst e; rfl
  · rfl
theorem P5.keep {W W' : World} {B n : Nat} {p : Nt} (h : P5 W B p) (hB : B < n) (hs : W.heap.size ≤ W'.heap.size) (hb : Below n W W') : P5 W' B p := by
  obtain ⟨hl, ⟨a, b, c, d, e⟩, f, g, h, i, j⟩ := h
  exact ⟨Nat.lt_of_lt_of_le hl hs, ⟨(hb.cell hB).trans a, (hb.cell hB).trans b, (hb.cell hB).trans c, (hb.cell hB).trans d, (hb.cell hB).trans e⟩, (hb.frozen hB).trans f, (hb.frozen hB).trans g, (hb.frozen hB).trans h, (hb.frozen hB).trans i, (hb.frozen hB).trans j⟩
theorem perR_len {l : List Nt} (hn : ∀ p ∈ l, p.nm.length ≤ 2000000) (c : Nat) (r : List Nat) : (perR l (c :: r)).1.nm.length ≤ 2000000 := by
  unfold perR
  split
  · exact perN_len hn c r
  · show ([] : List UInt8).length ≤ _
    exact Nat.zero_le _
/-- while the third persona is asked for: the box of the second, the entry, and all from before -/
def S9 (W : World) (B b i : Nat) (q x : Nt) (w' : World) : Prop :=
  (w'.cell? ⟨B, 0, none⟩ = some (.string ⟨q.nm.toArray⟩) ∧ w'.cell? ⟨B, 1, none⟩ = some (.int .i64 q.bf) ∧ w'.cell? ⟨B, 2, none⟩ = some (.int .i64 q.bt) ∧ w'.cell? ⟨B, 3, none⟩ = some (.int .i64 q.df) ∧ w'.cell? ⟨B, 4, none⟩ = some (.int .i64 q.dt)) ∧
  (w'.cell? ⟨b, i, none⟩ = some (.string ⟨x.nm.toArray⟩) ∧ w'.cell? ⟨b, i + 1, none⟩ = some (.int .i64 x.bf) ∧ w'.cell? ⟨b, i + 2, none⟩ = some (.int .i64 x.bt) ∧ w'.cell? ⟨b, i + 3, none⟩ = some (.int .i64 x.df) ∧ w'.cell? ⟨b, i + 4, none⟩ = some (.int .i64 x.dt)) ∧
  Hid (Below W.heap.size W w')
theorem S9.below {W w1 w2 : World} {B b i : Nat} {q x : Nt} (h : S9 W B b i q x w1) (hb : Below w1.heap.size w1 w2) : S9 W B b i q x w2 := by
  obtain ⟨⟨a0, a1, a2, a3, a4⟩, ⟨c0, c1, c2, c3, c4⟩, hH⟩ := h
  have hB := hH.out
  exact ⟨⟨below_keep hb a0, below_keep hb a1, below_keep hb a2, below_keep hb a3, below_keep hb a4⟩, ⟨below_keep hb c0, below_keep hb c1, below_keep hb c2, below_keep hb c3, below_keep hb c4⟩, Lib.hid (hB.trans (hb.mono hB.size))⟩
theorem S9.size {W w1 : World} {B b i : Nat} {q x : Nt} (h : S9 W B b i q x w1) : W.heap.size ≤ w1.heap.size := h.2.2.out.size
theorem S9.of {W w1 : World} {B b i : Nat} {q x : Nt} (h : P5 W B q) (hn : NtAt W b i x) (hb : Below W.heap.size W w1) : S9 W B b i q x w1 := by
  obtain ⟨_, ⟨a0, a1, a2, a3, a4⟩, _⟩ := h
  obtain ⟨c0, c1, c2, c3, c4⟩ := hn
  exact ⟨⟨below_keep hb a0, below_keep hb a1, below_keep hb a2, below_keep hb a3, below_keep hb a4⟩, ⟨below_keep hb c0, below_keep hb c1, below_keep hb c2, below_keep hb c3, below_keep hb c4⟩, Lib.hid hb⟩
theorem S9.set5 {W w1 : World} {B b i A : Nat} {q x : Nt} (hq : P5 W B q) (hn : NtAt W b i x) (h : S9 W B b i q x w1) (hA : W.heap.size ≤ A) (y0 y1 y2 y3 y4 : Value) :
    S9 W B b i q x (((((w1.setCell ⟨A, 0, none⟩ y0).setCell ⟨A, 1, none⟩ y1).setCell ⟨A, 2, none⟩ y2).setCell ⟨A, 3, none⟩ y3).setCell ⟨A, 4, none⟩ y4) :=
  S9.of hq hn (set5_below h.2.2.out hA y0 y1 y2 y3 y4)
theorem P5.set5 {W : World} {B : Nat} {p : Nt} (h : P5 W B p) (n : Nt) : P5 (((((W.setCell ⟨B, 0, none⟩ (.string ⟨n.nm.toArray⟩)).setCell ⟨B, 1, none⟩ (.int .i64 n.bf)).setCell ⟨B, 2, none⟩ (.int .i64 n.bt)).setCell ⟨B, 3, none⟩ (.int .i64 n.df)).setCell ⟨B, 4, none⟩ (.int .i64 n.dt)) B n :=
  ((h.setName n.nm).set12 n.bf n.bt).set34 n.df n.dt
theorem nts2 (W : World) (q x : Nt) : NtsAt (W.alloc (.cells #[.string ⟨q.nm.toArray⟩, .int .i64 q.bf, .int .i64 q.bt, .int .i64 q.df, .int .i64 q.dt, .string ⟨x.nm.toArray⟩, .int .i64 x.bf, .int .i64 x.bt, .int .i64 x.df, .int .i64 x.dt] 30)) W.heap.size 0 [q, x] := by
  refine NtsAt.of_cells (by simp) (fun j u hj => ?_)
  have := World.news_of_block (cs := #[.string ⟨q.nm.toArray⟩, .int .i64 q.bf, .int .i64 q.bt, .int .i64 q.df, .int .i64 q.dt, .string ⟨x.nm.toArray⟩, .int .i64 x.bf, .int .i64 x.bt, .int .i64 x.df, .int .i64 x.dt]) (heap_alloc_new W (.cells #[.string ⟨q.nm.toArray⟩, .int .i64 q.bf, .int .i64 q.bt, .int .i64 q.df, .int .i64 q.dt, .string ⟨x.nm.toArray⟩, .int .i64 x.bf, .int .i64 x.bt, .int .i64 x.df, .int .i64 x.dt] 30)) j u hj
  rw [addO] at this
  exact this
theorem ints2 (W : World) : IntsAt (W.alloc (.cells #[.int .i64 0, .int .i64 1] 3)) W.heap.size 0 (([0, 1] : List Nat).map (fun k : Nat => (k : Int))) ∧ W.heap.size < (W.alloc (.cells #[.int .i64 0, .int .i64 1] 3)).heap.size :=
  ⟨IntsAt.cons (by simp [go_sem]) (IntsAt.one (by simp [go_sem])), by simp⟩
def I6 (W : World) (g : Nat) : Prop := IntsAt W g 0 (([0, 1] : List Nat).map (fun k : Nat => (k : Int))) ∧ g < W.heap.size
theorem I6.below {W W' : World} {g : Nat} (h : I6 W g) (hb : Below W.heap.size W W') : I6 W' g :=
  ⟨fun i hi => (hb.cell (p := ⟨g, 0 + i, none⟩) h.2).trans (h.1 i hi), Nat.lt_of_lt_of_le h.2 hb.size⟩
theorem i6new (W : World) : I6 (W.alloc (.cells #[.int .i64 0, .int .i64 1] 3)) W.heap.size := ints2 W
def Z5 (n : Nat) (W : World) (g : Nat) : Prop := n ≤ g ∧ P5 W g nt0
theorem Z5.below {n : Nat} {W W' : World} {g : Nat} (h : Z5 n W g) (hb : Below W.heap.size W W') : Z5 n W' g := ⟨h.1, h.2.below hb⟩
theorem z5 {n : Nat} (W : World) (h : n ≤ W.heap.size) : Z5 n (W.alloc (.cells #[.string ⟨#[]⟩, .int .i64 0, .int .i64 0, .int .i64 0, .int .i64 0] 30)) W.heap.size := ⟨h, P5.new W nt0 30⟩
end Go.Proofs.Ytjjfiilokakppaa
