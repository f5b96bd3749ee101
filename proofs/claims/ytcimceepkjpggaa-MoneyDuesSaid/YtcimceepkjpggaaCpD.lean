/-
  A copy of a list of dues into a new block; a list of dues among the arguments, opened.
-/
import Derived.Test.YtcimceepkjpggaaMnK
import Derived.Laws.AppendOwnNone
import Derived.Deep.Slices
import Derived.Deep.Fields
import Derived.ChangeSame
import Derived.OpenShut
import Derived.ProofKit
namespace Go.Proofs.Ytcimceepkjpggaa
open Go.ChangeShapes Go.WideShapes Go.Deep Go.RowKit
theorem addO (b o j : Nat) : Addr.add ⟨b, o, none⟩ j = ⟨b, o + j, none⟩ := by
  unfold Addr.add
  split
  · rename_i e; subst e; rfl
  · rfl
/-- at the operation: append of a list of dues onto a slice just made of none -/
theorem wpList_copy {ops : Array Oper} {rest : List Oper} {o : Oper} {a : Act} {Q : Exit → Act → World → Prop} (w : World) {L : List Du} {v1 : Value} (hgd : o.guard = none) (s x : Operand)
    (ho : o.op = .call { callee := .builtin .append, args := #[s, x], argTypes := #[60, 60] })
    (hs : a.eval s = .slice (some ⟨w.heap.size, 0, none⟩) 0 0) (hx : a.eval x = v1) (hL : LD w v1 L) (hl : L.length ≤ 1000) (hz : ∀ c, v1 = .slice none 0 c → c = 0)
    (h : ∀ v' w', LD w' v' L → Below w.heap.size w w' → wpList Try.prog ops Q rest (a.put o.dst v') w') :
    wpList Try.prog ops Q (o :: rest) a (w.alloc (.cells #[] 69)) := by
  obtain ⟨i0, hi, hz0, hz1, hz2⟩ := info_parts infoDu
  have hown : (w.alloc (.cells #[] 69)).ownsRow w.heap.size 69 2 (.slice (some ⟨w.heap.size, 0, none⟩) 0 0) 0 [] := World.ownsRow_made w #[] 0 (Nat.le_refl _) (Nat.zero_le _) (by simp)
  obtain ⟨ad, c, rfl, hc, hp⟩ := hL
  by_cases hn : L = []
  · subst hn
    cases ad with
    | none =>
      obtain rfl := hz c rfl
      refine wpList_append_own_none hgd s x 60 ho w.heap.size 69 i0 2 Try.underlying60 hi _ _ _ hs hown hx ?_
      exact h _ _ (LD.of_own (L := []) hown) ((Below.refl _ w).alloc (Nat.le_refl _) _)
    | some ad =>
      refine wpList_append_own _ hgd s x 60 ho w.heap.size 69 i0 _ 2 16 Try.underlying60 hi hz0 hz1 hz2 rfl (by decide) _ _ _ hs hown ad 0 c [] hx rfl (by simp) (by simp) (by decide) (by decide) (by simp) ?_
      intro v' w1 hown' hgrow hnil
      exact h v' w1 (LD.of_own (L := []) hown') (((Below.refl _ w).alloc (Nat.le_refl _) _).grown hgrow (by simp) (by intro k hk; simp [Value.ownBlock] at hk; omega))
  · obtain ⟨b, o', rfl, hd⟩ := hp hn
    refine wpList_append_own _ hgd s x 60 ho w.heap.size 69 i0 _ 2 16 Try.underlying60 hi hz0 hz1 hz2 rfl (by decide) _ _ _ hs hown ⟨b, o', none⟩ L.length c (dcs L) hx ?c1 ?c2 ?c3 ?c4 ?c5 ?c6 ?_
    case c1 => exact dcs_len L
    case c2 =>
      intro j u hj
      refine Lib.cell?_alloc_some _ ?_
      rw [addO]
      exact hd.cells j u hj
    case c3 => exact dcs_one_cell
    case c4 => unfold maxLen; omega
    case c5 => omega
    case c6 => simp
    intro v' w1 hown' hgrow hnil
    exact h v' w1 (LD.of_own (by simpa using hown')) (((Below.refl _ w).alloc (Nat.le_refl _) _).grown hgrow (by simp) (by intro k hk; simp [Value.ownBlock] at hk; omega))
section
variable {H : Type} {enc : TypeId × Value → H} {P : Program} {w : World} {base : Nat} {spare : Nat → Bool} {held : Bool}
theorem open_slice_fields {t e : TypeId} {fs : Array Field} {fuel : Nat} {cs : List Value} {x : DataW H × List MemPlace} (ht : P.underlying t = some (.slice e)) (he : P.underlying e = some (.struct fs))
    (hone : oneCellFields P fs = true) (hC : P.cellsOf e = fs.size) (h : DataW.trod enc P w base spare held fuel t cs = some x) :
    (cs = [.slice none 0 0] ∧ x = (.nil, [])) ∨
    ∃ (a : Addr) (len cap m : Nat) (D : Nat → DataW H) (Pl : Nat → List MemPlace), cs = [.slice (some a) len cap] ∧ base ≤ a.block ∧ len ≤ cap ∧ cap ≤ maxLen ∧ m = (if spare a.block then cap else len) ∧
      x = (.slice ((List.range len).map D) ((List.range (m - len)).map fun j => D (len + j)), MemPlace.row a (m * fs.size) ++ (List.range m).flatMap Pl) ∧
      ∀ i, i < m → ∃ (ys : List (DataW H × List MemPlace)) (n : Nat), D i = .agg (ys.map (·.1)) ∧ Pl i = ys.flatMap (·.2) ∧ ys.length = fs.size ∧
        ∀ (j : Nat) (f : Field), fs[j]? = some f → ∃ (v : Value) (y : DataW H × List MemPlace), w.cell? (a.add (i * fs.size + j)) = some v ∧ ys[j]? = some y ∧ DataW.trod enc P w base spare held n f.type [v] = some y := by
  rcases open_slice ht h with h0 | ⟨a, len, cap, m, n, D, Pl, hcs, hb, hl, hm, hmm, hx, hi⟩
  · exact .inl h0
  · refine .inr ⟨a, len, cap, m, D, Pl, hcs, hb, hl, hm, hmm, by rw [hC] at hx; exact hx, fun i him => ?_⟩
    obtain ⟨cs', hc, ht'⟩ := hi i him
    rw [hC] at hc
    obtain ⟨ys, n', hn', hy, hlen, hyl, hf⟩ := DataW.trod_struct he ht'
    obtain ⟨_, hcl, hat⟩ := World.cells?_some hc
    simp only [Prod.mk.injEq] at hy
    refine ⟨ys, n', hy.1, hy.2, hyl, fun j f hj => ?_⟩
    obtain ⟨ho, hk⟩ := hone_of hone j f hj
    have hjl : j < fs.size := (Array.getElem?_eq_some_iff.1 hj).1
    have hcell := hat j hjl
    have hv : cs'[j]? = some (cs'[j]'(by omega)) := List.getElem?_eq_getElem (by omega)
    have h1 := hf j f hj
    rw [ho, hk] at h1
    have hone' : (cs'.drop j).take 1 = [cs'[j]'(by omega)] := by
      rw [List.drop_eq_getElem_cons (by omega)]
      rfl
    rw [hone'] at h1
    have hys : ys[j]? = some (ys[j]'(by omega)) := List.getElem?_eq_getElem (by omega)
    refine ⟨_, _, ?_, hys, h1.trans hys⟩
    rw [← Go.Deep.add_add, hcell, hv]
end
theorem cells_du : Try.prog.cellsOf 69 = 2 := by kernel_rfl
section
variable {H : Type} {enc : TypeId × Value → H} {w : World} {base : Nat} {spare : Nat → Bool} {held : Bool}
set_option maxRecDepth 100000 in
/-- a list of dues, opened: nil, or it lies in one block -/
theorem dus_open {v : Value} {d : DataW H} {ps : List MemPlace} {r : Reach} {b0 : Nat} (hv : Value.okWide Try.prog w r b0 60 v) (h : DataW.Trod enc Try.prog w base spare held 60 v d ps) :
    ∃ (a : Option Addr) (c : Nat) (L : List Du), v = .slice a L.length c ∧ LD w v L ∧ ∀ c', v = .slice none 0 c' → c' = 0 := by
  obtain ⟨a', len', cap', rfl⟩ := okWide_slice Try.underlying60 hv
  obtain ⟨fuel, hf⟩ := h
  rcases open_slice_fields Try.underlying60 Try.underlying69 (by kernel_rfl) cells_du hf with ⟨hc, _⟩ | ⟨a, len, cap, m, D, Pl, hc, _, hle, hcap, hm, _, hi⟩
  · simp [Value.cells] at hc
    obtain ⟨rfl, rfl, rfl⟩ := hc
    exact ⟨none, 0, [], rfl, LD.nil w, fun c' e => by injection e with _ _ e3; exact e3.symm⟩
  · simp [Value.cells] at hc
    obtain ⟨rfl, rfl, rfl⟩ := hc
    by_cases h0 : len' = 0
    · subst h0
      exact ⟨some a, cap', [], rfl, ⟨some a, cap', rfl, Nat.zero_le _, fun h => absurd rfl h⟩, fun c' e => by injection e with e1; cases e1⟩
    have hmle : len' ≤ m := by rw [hm]; split <;> omega
    have each : ∀ i, i < len' → ∃ p : Du, (w.cell? (a.add (i * 2)) = some (.int .i64 p.day) ∧ w.cell? (a.add (i * 2 + 1)) = some (.int .i64 p.cents)) := by
      intro i hil
      obtain ⟨ys, n, _, _, _, hfld⟩ := hi i (by omega)
      obtain ⟨v0, y0, k0, _, t0⟩ := hfld 0 _ rfl
      obtain ⟨v1, y1, k1, _, t1⟩ := hfld 1 _ rfl
      obtain ⟨x0, e0, _, _⟩ := DataW.trod_int Try.underlying3 t0
      obtain ⟨x1, e1, _, _⟩ := DataW.trod_int Try.underlying3 t1
      simp only [List.cons.injEq, and_true] at e0 e1
      subst e0 e1
      exact ⟨⟨x0, x1⟩, k0, k1⟩
    obtain ⟨p0, z0, _⟩ := each 0 (by omega)
    obtain ⟨b, o, sp⟩ := a
    have hsp : sp = none := by have := World.cell?_spot z0; simpa [Addr.add] using this
    subst hsp
    have hb : b < w.heap.size := by
      have := World.block_lt_of_cell? w _ z0
      rw [addO] at this; exact this
    have ex : ∀ i : Nat, ∃ p : Du, i < len' → (w.cell? ⟨b, o + i * 2, none⟩ = some (.int .i64 p.day) ∧ w.cell? ⟨b, o + i * 2 + 1, none⟩ = some (.int .i64 p.cents)) := by
      intro i
      by_cases hil : i < len'
      · obtain ⟨p, k0, k1⟩ := each i hil
        rw [addO] at k0 k1
        exact ⟨p, fun _ => ⟨k0, k1⟩⟩
      · exact ⟨p0, fun h => absurd h hil⟩
    obtain ⟨g, hg⟩ := Classical.axiomOfChoice ex
    have hlen : ((List.range len').map g).length = len' := by simp
    refine ⟨some ⟨b, o, none⟩, cap', (List.range len').map g, by rw [hlen], ⟨some ⟨b, o, none⟩, cap', by rw [hlen], by omega, fun _ => ⟨b, o, rfl, hb, fun i hil => ?_⟩⟩, fun c' e => by injection e with e1; cases e1⟩
    have hil' : i < len' := by simpa using hil
    simpa using hg i hil'
end
end Go.Proofs.Ytcimceepkjpggaa
