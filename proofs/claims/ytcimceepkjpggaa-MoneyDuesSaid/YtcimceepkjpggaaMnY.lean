/-
  Two rows of whole numbers that grow side by side; the shares' parts and their order (package money): the first two loops of shared.
-/
import Derived.Test.YtcimceepkjpggaaMnX
import Derived.Deep.AppendLies
namespace Go.Proofs.Ytcimceepkjpggaa
open Go.RowKit
attribute [local go_sem] set_drewN
theorem run_own2 {w : World} {base n : Nat} {v x : Value} {xs : List Value} (ty : TypeId) (hown : w.ownsRow base 3 1 v n xs) (hn : n ≤ 1000) (hbase : base ≤ w.heap.size) (ad : Addr) (c : Nat) (hx : ∀ j u, [x][j]? = some u → w.cell? (ad.add j) = some u) (h1 : x.oneCell' = true) :
    ∃ v' w', (Builtin.append_ #[57, 57] ty #[v, .slice (some ad) 1 c]).run Try.prog w = .ok v' w' ∧ w'.ownsRow base 3 1 v' (n + 1) (xs ++ [x]) ∧ w.grownBy w' v.ownBlock ∧
      ∃ k, v'.ownBlock = some k ∧ (v.ownBlock = some k ∨ w.heap.size ≤ k) := by
  obtain ⟨i, hi, hz, hs, hb⟩ := info_parts infoI
  have h1' : ∀ u ∈ [x], u.oneCell' = true := fun u hu => by rw [List.mem_singleton.1 hu]; exact h1
  have hl : [x].length = 1 * i.size := by rw [hs]; rfl
  obtain ⟨v', w', hr, h2, h3, _⟩ := run_append_own (P := Try.prog) w base 57 ty 3 i (.int .i64 0) 1 8 Try.underlying57 hi hz hs hb rfl (by decide) v n xs hown ad 1 c [x] rfl hx h1' (by unfold maxLen; omega) (by omega) hbase
  refine ⟨v', w', hr, h2, h3, ?_⟩
  rcases hown.2 with ⟨rfl, rfl⟩ | ⟨g, cap, cur, rfl, hbg, hg, hnc, hcm, hcs, htake⟩
  · have hq := run_append_nil (P := Try.prog) w 57 ty 3 i (.int .i64 0) Try.underlying57 hi hz ad 1 c [x] hl hx (by omega) (by omega) (by rw [hb]; omega)
    rw [hr] at hq
    injection hq with e1 e2
    subst e1
    exact ⟨w.heap.size, rfl, .inr (Nat.le_refl _)⟩
  · by_cases hroom : n + 1 ≤ cap
    · have hfit : n * i.size + [x].length ≤ cur.size := by rw [hs, hcs]; simp; omega
      have hq := run_append_room (P := Try.prog) w 57 ty 3 i Try.underlying57 hi g n cap cur hg ad 1 c [x] hl hx h1' hroom hfit
      rw [hr] at hq
      injection hq with e1 e2
      subst e1
      exact ⟨g, rfl, .inl rfl⟩
    · have holds := hown.cells (g := g) rfl
      have hq := run_append_grow (P := Try.prog) w 57 ty 3 i (.int .i64 0) Try.underlying57 hi hz ⟨g, 0, none⟩ n cap xs (by rw [hs]; exact hown.1) holds ad 1 c [x] hl hx (by omega) (by omega) (growslice_fits (by omega) (by rw [hb]; omega))
      rw [hr] at hq
      injection hq with e1 e2
      subst e1
      exact ⟨w.heap.size, rfl, .inr (Nat.le_refl _)⟩
theorem wpList_two {ops : Array Oper} {rest : List Oper} {o : Oper} {a : Act} {Q : Exit → Act → World → Prop} {w : World} (hgd : o.guard = none) (s y : Operand)
    (ho : o.op = .call { callee := .builtin .append, args := #[s, y], argTypes := #[57, 57] }) (base n : Nat) (v x : Value) (xs : List Value) (hs : a.eval s = v) (hown : w.ownsRow base 3 1 v n xs) (hn : n ≤ 1000) (hbase : base ≤ w.heap.size)
    (ad : Addr) (c : Nat) (hy : a.eval y = .slice (some ad) 1 c) (hx : ∀ j u, [x][j]? = some u → w.cell? (ad.add j) = some u) (h1 : x.oneCell' = true)
    (h : ∀ v' w', w'.ownsRow base 3 1 v' (n + 1) (xs ++ [x]) → w.grownBy w' v.ownBlock → (∃ k, v'.ownBlock = some k ∧ (v.ownBlock = some k ∨ w.heap.size ≤ k)) → wpList Try.prog ops Q rest (a.put o.dst v') w') : wpList Try.prog ops Q (o :: rest) a w := by
  obtain ⟨v', w', hr, h2, h3, h4⟩ := run_own2 o.type hown hn hbase ad c hx h1
  refine wpList_plain hgd fun _ hK => ?_
  unfold Oper.wp execOp
  simp only [ho, resolve, invoke, builtin, Sem.run_bind, Sem.run_pure, Result.andThen_ok, List.map_toArray, List.map_cons, List.map_nil, hs, hy, hr]
  exact hK _ _ (h v' w' h2 h3 h4)
/-- two such rows apart -/
def apart2 (v u : Value) : Prop := ∀ k, v.ownBlock = some k → u.ownBlock ≠ some k
def IR (W : World) (n₀ : Nat) (D : List Int) (v : Value) : Prop := W.ownsRow n₀ 3 1 v D.length (D.map (Value.int .i64))
theorem IR.lies {W : World} {n₀ : Nat} {D : List Int} {v : Value} (h : IR W n₀ D v) (hD : D ≠ []) : ∃ g cap cur, v = .slice (some ⟨g, 0, none⟩) D.length cap ∧ n₀ ≤ g ∧ g < W.heap.size ∧ W.heap[g]? = some (.cells cur 3 (0, 0)) ∧ (∀ (i : Nat) (h : i < D.length), W.cell? ⟨g, i, none⟩ = some (.int .i64 D[i])) ∧ D.length ≤ cap := by
  have ho := h
  rcases h.2 with ⟨_, h0⟩ | ⟨g, cap, cur, rfl, hb, hc, hnc, hcm, _⟩
  · exact absurd (List.length_eq_zero_iff.1 h0) hD
  · refine ⟨g, cap, cur, rfl, hb, (World.ownsRow.lt ho g rfl).2, hc, fun i hi => ?_, hnc⟩
    have := World.ownsRow.cells ho (g := g) rfl i (.int .i64 D[i]) (by rw [List.getElem?_map, List.getElem?_eq_getElem hi]; rfl)
    rwa [addB] at this
/-- two rows of one's own, apart -/
def I2 (n₀ : Nat) (w0 : World) (A B : List Int) (v u : Value) (W : World) : Prop := IR W n₀ A v ∧ IR W n₀ B u ∧ apart2 v u ∧ Below n₀ w0 W ∧ n₀ ≤ W.heap.size
theorem I2.below {n₀ : Nat} {w0 W W' : World} {A B : List Int} {v u : Value} (h : I2 n₀ w0 A B v u W) (hb : Below W.heap.size W W') : I2 n₀ w0 A B v u W' := by
  obtain ⟨a, b, c, d, e⟩ := h
  have g : W.grownBy W' none := ⟨hb.os, hb.tape, hb.output, hb.size, fun j hj _ => hb.block j hj⟩
  exact ⟨a.kept g (by cases v.ownBlock <;> simp), b.kept g (by cases u.ownBlock <;> simp), c, d.trans (hb.mono e), Nat.le_trans e hb.size⟩
theorem I2.alloc {n₀ : Nat} {w0 W : World} {A B : List Int} {v u : Value} (h : I2 n₀ w0 A B v u W) (o : Obj) : I2 n₀ w0 A B v u (W.alloc o) := h.below ((Below.refl _ _).alloc (Nat.le_refl _) o)
theorem I2.first {n₀ : Nat} {w0 W W' : World} {A B : List Int} {v u v' : Value} {x : Int} (h : I2 n₀ w0 A B v u W) (h1 : W'.ownsRow n₀ 3 1 v' (A.length + 1) (A.map (Value.int .i64) ++ [.int .i64 x])) (hg : W.grownBy W' v.ownBlock)
    (h4 : ∃ k, v'.ownBlock = some k ∧ (v.ownBlock = some k ∨ W.heap.size ≤ k)) : I2 n₀ w0 (A ++ [x]) B v' u W' := by
  obtain ⟨a, b, c, d, e⟩ := h
  refine ⟨by unfold IR; simpa using h1, b.kept hg ?_, ?_, d.grown hg e (fun k' e' => (World.ownsRow.lt a k' e').1), Nat.le_trans e hg.size⟩
  · cases hu : u.ownBlock with
    | none => exact .inl rfl
    | some q => exact .inr (fun e => c q e.symm hu)
  · intro q hq
    obtain ⟨k', hk, hk2⟩ := h4
    rw [hk] at hq
    obtain rfl : k' = q := Option.some.inj hq
    rcases hk2 with hk2 | hk2
    · exact c _ hk2
    · intro hu
      have := (World.ownsRow.lt b _ hu).2
      omega
theorem I2.second {n₀ : Nat} {w0 W W' : World} {A B : List Int} {v u u' : Value} {x : Int} (h : I2 n₀ w0 A B v u W) (h1 : W'.ownsRow n₀ 3 1 u' (B.length + 1) (B.map (Value.int .i64) ++ [.int .i64 x])) (hg : W.grownBy W' u.ownBlock)
    (h4 : ∃ k, u'.ownBlock = some k ∧ (u.ownBlock = some k ∨ W.heap.size ≤ k)) : I2 n₀ w0 A (B ++ [x]) v u' W' := by
  obtain ⟨a, b, c, d, e⟩ := h
  have h' : I2 n₀ w0 B A u v W := ⟨b, a, fun q hq hv => c q hv hq, d, e⟩
  obtain ⟨a', b', c', d', e'⟩ := h'.first h1 hg h4
  exact ⟨b', a', fun q hq hv => c' q hv hq, d', e'⟩
theorem I2.start (n₀ : Nat) (w0 W : World) (h : Below n₀ w0 W) (e : n₀ ≤ W.heap.size) : I2 n₀ w0 [] [] (.slice none 0 0) (.slice none 0 0) W :=
  ⟨World.ownsRow_nil _ _ _ _, World.ownsRow_nil _ _ _ _, fun k hk => by simp [Value.ownBlock] at hk, h, e⟩
theorem part_bd {us : List Int} {c : Int} (c0 : 0 ≤ c) (hu : ∀ u ∈ us, 0 ≤ u ∧ u ≤ 2000000) (hA : 0 < sumL us) (k : Nat) : 0 ≤ c - sumL ((qL us c (sumL us)).take k) ∧ c - sumL ((qL us c (sumL us)).take k) ≤ c := by
  have hb := left_bd (c := c) hA
  have h1 : ∀ q ∈ qL us c (sumL us), 0 ≤ q := by
    intro q m
    obtain ⟨u, hm, rfl⟩ := List.mem_map.1 m
    exact Int.ediv_nonneg (Int.mul_nonneg c0 (hu u hm).1) (Int.le_of_lt hA)
  have pos : ∀ {l : List Int}, (∀ q ∈ l, 0 ≤ q) → 0 ≤ sumL l := by
    intro l
    induction l with
    | nil => intro _; simp [sumL]
    | cons x l ih => intro h; have := ih (fun q m => h q (by simp [m])); have := h x (by simp); rw [sumL]; omega
  have e : sumL (qL us c (sumL us)) = sumL ((qL us c (sumL us)).take k) + sumL ((qL us c (sumL us)).drop k) := by rw [← sumL_app, List.take_append_drop]
  have p1 := pos (l := (qL us c (sumL us)).take k) (fun q m => h1 q (List.mem_of_mem_take m))
  have p2 := pos (l := (qL us c (sumL us)).drop k) (fun q m => h1 q (List.mem_of_mem_drop m))
  unfold leftL at hb
  omega
theorem q_step {us : List Int} {c A : Int} {k : Nat} (h : k < us.length) : ∃ X Y, (qL us c A).take k = X ∧ (qL us c A).take (k + 1) = Y ∧ Y = X ++ [c * us[k] / A] ∧ sumL Y = sumL X + c * us[k] / A ∧ X.length = k := by
  have hk : k < (qL us c A).length := by simpa [qL] using h
  have e : (qL us c A)[k] = c * us[k] / A := by simp [qL]
  refine ⟨_, _, rfl, rfl, ?_, ?_, ?_⟩
  · rw [List.take_succ_eq_append_getElem hk, e]
  · rw [sumL_succ hk, e]
  · rw [List.length_take]; omega
def idL (k : Nat) : List Int := (List.range k).map fun i : Nat => (i : Int)
theorem idL_len (k : Nat) : (idL k).length = k := by simp [idL]
theorem idL_succ (k : Nat) : idL (k + 1) = idL k ++ [(k : Int)] := by simp [idL, List.range_succ]
theorem idL_get (k i : Nat) (h : i < (idL k).length) : (idL k)[i] = i := by simp [idL]
theorem sum_stepL {us : List Int} {k : Nat} (h : k < us.length) (hu : ∀ u ∈ us, 0 ≤ u ∧ u ≤ 2000000) (hl : us.length ≤ 1000) : ∃ S T, sumL (us.take k) = S ∧ sumL (us.take (k + 1)) = T ∧ T = S + us[k] ∧ 0 ≤ S ∧ S ≤ 2000000000 ∧ 0 ≤ us[k] ∧ us[k] ≤ 2000000 := by
  have h1 := sumL_bd (l := us.take k) (M := 2000000) (fun u m => hu u (List.mem_of_mem_take m))
  have h2 : ((us.take k).length : Int) ≤ 1000 := by
    have := List.length_take_le' k us
    omega
  exact ⟨_, _, rfl, rfl, sumL_succ h, h1.1, by omega, (hu _ (List.getElem_mem h)).1, (hu _ (List.getElem_mem h)).2⟩
end Go.Proofs.Ytcimceepkjpggaa
