/-
  Two rows of whole numbers that grow side by side: what is appended to one leaves the other.
-/
import Derived.Test.YtjjfiilokakppaaPBase
import Derived.Laws.AppendOwn
import Derived.Deep.AppendLies
namespace Go.Proofs.Ytjjfiilokakppaa
open Go.RowKit
theorem infoI : (Try.prog.info? 3).map (fun i => (i.zero, i.size, i.bytes)) = some (some (.int .i64 0), 1, 8) := by kernel_rfl
theorem run_own2 {w : World} {base n : Nat} {v x : Value} {xs : List Value} (ty : TypeId) (hown : w.ownsRow base 3 1 v n xs) (hn : n ≤ 1000) (hbase : base ≤ w.heap.size) (ad : Addr) (c : Nat) (hx : ∀ j u, [x][j]? = some u → w.cell? (ad.add j) = some u) (h1 : x.oneCell' = true) :
    ∃ v' w', (Builtin.append_ #[25, 25] ty #[v, .slice (some ad) 1 c]).run Try.prog w = .ok v' w' ∧ w'.ownsRow base 3 1 v' (n + 1) (xs ++ [x]) ∧ w.grownBy w' v.ownBlock ∧
      ∃ k, v'.ownBlock = some k ∧ (v.ownBlock = some k ∨ w.heap.size ≤ k) := by
  obtain ⟨i, hi, hz, hs, hb⟩ := info_parts infoI
  have h1' : ∀ u ∈ [x], u.oneCell' = true := fun u hu => by rw [List.mem_singleton.1 hu]; exact h1
  have hl : [x].length = 1 * i.size := by rw [hs]; rfl
  obtain ⟨v', w', hr, h2, h3, _⟩ := run_append_own (P := Try.prog) w base 25 ty 3 i (.int .i64 0) 1 8 Try.underlying25 hi hz hs hb rfl (by decide) v n xs hown ad 1 c [x] rfl hx h1' (by unfold maxLen; omega) (by omega) hbase
  refine ⟨v', w', hr, h2, h3, ?_⟩
  rcases hown.2 with ⟨rfl, rfl⟩ | ⟨g, cap, cur, rfl, hbg, hg, hnc, hcm, hcs, htake⟩
  · have hq := run_append_nil (P := Try.prog) w 25 ty 3 i (.int .i64 0) Try.underlying25 hi hz ad 1 c [x] hl hx (by omega) (by omega) (by rw [hb]; omega)
    rw [hr] at hq
    injection hq with e1 e2
    subst e1
    exact ⟨w.heap.size, rfl, .inr (Nat.le_refl _)⟩
  · by_cases hroom : n + 1 ≤ cap
    · have hfit : n * i.size + [x].length ≤ cur.size := by rw [hs, hcs]; simp; omega
      have hq := run_append_room (P := Try.prog) w 25 ty 3 i Try.underlying25 hi g n cap cur hg ad 1 c [x] hl hx h1' hroom hfit
      rw [hr] at hq
      injection hq with e1 e2
      subst e1
      exact ⟨g, rfl, .inl rfl⟩
    · have holds := hown.cells (g := g) rfl
      have hq := run_append_grow (P := Try.prog) w 25 ty 3 i (.int .i64 0) Try.underlying25 hi hz ⟨g, 0, none⟩ n cap xs (by rw [hs]; exact hown.1) holds ad 1 c [x] hl hx (by omega) (by omega) (growslice_fits (by omega) (by rw [hb]; omega))
      rw [hr] at hq
      injection hq with e1 e2
      subst e1
      exact ⟨w.heap.size, rfl, .inr (Nat.le_refl _)⟩
theorem wpList_two {ops : Array Oper} {rest : List Oper} {o : Oper} {a : Act} {Q : Exit → Act → World → Prop} {w : World} (hgd : o.guard = none) (s y : Operand)
    (ho : o.op = .call { callee := .builtin .append, args := #[s, y], argTypes := #[25, 25] }) (base n : Nat) (v x : Value) (xs : List Value) (hs : a.eval s = v) (hown : w.ownsRow base 3 1 v n xs) (hn : n ≤ 1000) (hbase : base ≤ w.heap.size)
    (ad : Addr) (c : Nat) (hy : a.eval y = .slice (some ad) 1 c) (hx : ∀ j u, [x][j]? = some u → w.cell? (ad.add j) = some u) (h1 : x.oneCell' = true)
    (h : ∀ v' w', w'.ownsRow base 3 1 v' (n + 1) (xs ++ [x]) → w.grownBy w' v.ownBlock → (∃ k, v'.ownBlock = some k ∧ (v.ownBlock = some k ∨ w.heap.size ≤ k)) → wpList Try.prog ops Q rest (a.put o.dst v') w') : wpList Try.prog ops Q (o :: rest) a w := by
  obtain ⟨v', w', hr, h2, h3, h4⟩ := run_own2 o.type hown hn hbase ad c hx h1
  refine wpList_plain hgd fun _ hK => ?_
  unfold Oper.wp execOp
  simp only [ho, resolve, invoke, builtin, Sem.run_bind, Sem.run_pure, Result.andThen_ok, List.map_toArray, List.map_cons, List.map_nil, hs, hy, hr]
  exact hK _ _ (h v' w' h2 h3 h4)
/-- a row of whole numbers of one's own -/
def iV (k : Nat) : Value := .int .i64 (k : Int)
def IR (W : World) (n₀ : Nat) (D : List Nat) (v : Value) : Prop := W.ownsRow n₀ 3 1 v D.length (D.map iV)
/-- two such rows apart -/
def apart2 (v u : Value) : Prop := ∀ k, v.ownBlock = some k → u.ownBlock ≠ some k
theorem IR.lies {W : World} {n₀ : Nat} {D : List Nat} {v : Value} (h : IR W n₀ D v) (hD : D ≠ []) : ∃ g cap, v = .slice (some ⟨g, 0, none⟩) D.length cap ∧ g < W.heap.size ∧ IntsAt W g 0 (D.map (fun k : Nat => (k : Int))) ∧ D.length ≤ cap ∧ cap ≤ maxLen := by
  have ho := h
  rcases h.2 with ⟨_, h0⟩ | ⟨g, cap, cur, rfl, _, _, hnc, hcm, _⟩
  · exact absurd (List.length_eq_zero_iff.1 h0) hD
  · refine ⟨g, cap, rfl, (World.ownsRow.lt ho g rfl).2, fun i hi => ?_, hnc, hcm⟩
    have hi' : i < D.length := by simpa using hi
    have := World.ownsRow.cells ho (g := g) rfl i (iV D[i]) (by rw [List.getElem?_map, List.getElem?_eq_getElem hi']; rfl)
    have ha : (Addr.add ⟨g, 0, none⟩ i) = ⟨g, 0 + i, none⟩ := by
      unfold Addr.add
      split
      · rename_i e; subst e; rfl
      · rfl
    rw [ha] at this
    simpa [iV] using this
end Go.Proofs.Ytjjfiilokakppaa
