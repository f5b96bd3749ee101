/-
  Steps of a region that draws its order: a look-up, an append of one's own with where it lies, a store into a map; look-ups in a map of numbers, whatever world it lies on.
-/
import Derived.Test.YtfneafofohfdnaaGrp
import Derived.Deep.RegionHeld
namespace Go.Proofs.Ytfneafofohfdnaa
open Go.RowKit Go.WideMaps Go.Maps Go.WideElems Go.MapKept
section
variable {P : Program} {w : World}
theorem yields_look {ops : Array Oper} {o : Oper} {a : Act} {S : World → Prop} (hgd : o.guard = none) (m x : Operand) (t : TypeId) (ho : o.op = .lookup t m x false) {mv key v : Value} (hm : a.eval m = mv) (hx : a.eval x = key) (h : ∀ X, S X → (Instr.lookup t mv key false).run P X = .ok v X) :
    YieldsIf P ops S o v a := by
  refine Or.inl ⟨by simp [Region.wanted, hgd], fun X hX => ?_⟩
  simp [execOp, ho, hm, hx, h X hX, Result.andThen]
theorem step_look {ops : Array Oper} {o : Oper} {a : Act} {K : Act → World → Prop} {Q : Exit → Act → World → Prop} {E : Prop} (hgd : o.guard = none) (m x : Operand) (t : TypeId) (ho : o.op = .lookup t m x false) {mv key v : Value} (hm : a.eval m = mv) (hx : a.eval x = key)
    (hrun : (Instr.lookup t mv key false).run P w = .ok v w) (h : K (a.put o.dst v) w) : if Region.wanted o (yielded ops a.tmps) = true then Oper.wp P o a w K Q else E := by
  rw [if_pos (by simp [Region.wanted, hgd])]
  unfold Oper.wp
  simp [execOp, ho, hm, hx, hrun, Result.andThen]
  exact h
theorem step_upd {ops : Array Oper} {o : Oper} {a : Act} {K : Act → World → Prop} {Q : Exit → Act → World → Prop} {E : Prop} (hgd : o.guard = none) (m x y : Operand) (t : TypeId) (ho : o.op = .mapUpdate t m x y) {mv key v : Value} {w' : World} (hm : a.eval m = mv) (hx : a.eval x = key) (hy : a.eval y = v)
    (hrun : (Instr.mapUpdate t mv key v).run P w = .ok () w') (h : K (a.put o.dst undef) w') : if Region.wanted o (yielded ops a.tmps) = true then Oper.wp P o a w K Q else E := by
  rw [if_pos (by simp [Region.wanted, hgd])]
  unfold Oper.wp
  simp [execOp, ho, hm, hx, hy, hrun, Result.andThen]
  exact h
theorem step_app_at {ops : Array Oper} {o : Oper} {a : Act} {K : Act → World → Prop} {Q : Exit → Act → World → Prop} {E : Prop} (hgd : o.guard = none) (s x : Operand) (t : TypeId)
    (ho : o.op = .call { callee := .builtin .append, args := #[s, x], argTypes := #[t, t] })
    {e : TypeId} {i : TypeInfo} {z : Value} {size bytes : Nat} (base : Nat) {n m c : Nat} {v : Value} {ad : Addr} {xs news : List Value} (ht : P.underlying t = some (.slice e)) (hi : P.info? e = some i) (hz : i.zero = some z)
    (hsize : i.size = size) (hby : i.bytes = bytes) (hzs : z.cells.size = size) (hsz : 0 < size) (hs : a.eval s = v) (hx : a.eval x = .slice (some ad) m c) (hown : w.ownsRow base e size v n xs) (hl : news.length = m * size)
    (hA : ∀ j u, news[j]? = some u → w.cell? (ad.add j) = some u) (h1 : ∀ u ∈ news, u.oneCell' = true)
    (h63 : n + m ≤ maxLen) (hbytes : (n + m) * bytes ≤ 140737488355328) (hbase : base ≤ w.heap.size)
    (h : ∀ v' w', w'.ownsRow base e size v' (n + m) (xs ++ news) → w.grownBy w' v.ownBlock → (v'.ownBlock = v.ownBlock ∨ v'.ownBlock = some w.heap.size) → K (a.put o.dst v') w') :
    if Region.wanted o (yielded ops a.tmps) = true then Oper.wp P o a w K Q else E := by
  rw [if_pos (by simp [Region.wanted, hgd])]
  obtain ⟨v', w', hr, h2, h3, _, h5⟩ := run_append_own_at (P := P) w base t o.type e i z size bytes ht hi hz hsize hby hzs hsz v n xs hown ad m c news hl hA h1 h63 hbytes hbase
  unfold Oper.wp execOp
  simp only [ho, resolve, invoke, builtin, Sem.run_bind, Sem.run_pure, Result.andThen_ok, List.map_toArray, List.map_cons, List.map_nil, hs, hx, hr]
  exact h v' w' h2 h3 h5
end
theorem look_first {w X : World} {b n : Nat} {D : DataW Unit} {F : Int → Option Int} {x f : Int} (hown : w.ownsMap Try.prog 3 (plainElem Try.prog 3) b n D) (hM : MD D F) (hF : F x = some f) (h0 : 0 ≤ x) (h1 : x ≤ 100) (hX : X.heap[b]? = w.heap[b]?) :
    (Instr.lookup 92 (.map (some b)) (.int .i64 x) false).run Try.prog X = .ok (.int .i64 f) X := by
  obtain ⟨es, clock, hb, Ft, hs, rfl⟩ := hown
  have hk := keyI (x := x) (by omega) (by omega)
  have h2 := hM.2 x
  rcases Maps.fit_look false lawI Try.underlying92 (zeroI X) (hX.trans hb) Ft hk with ⟨_, _, hat⟩ | ⟨e0, y, _, _, hrun, hR, hat, _⟩
  · have := has_false_of_atKey hat
    rw [this, hF] at h2
    cases h2.1
  · obtain ⟨c, e1, e2, _⟩ := plainElem_int_inv Try.underlying3 hR
    have h3 := h2.2 f hF .nil
    rw [hat, e2] at h3
    simp at h3
    subst h3
    rw [hrun, e1]
    rfl
theorem look_group {w X : World} {base b n : Nat} {D : DataW Unit} {x : Int} {v : Value} (hown : w.ownsGroups Try.prog 3 base 3 .i64 b n D) (h0 : 0 ≤ x) (h1 : x ≤ 100) (hrun : (Instr.lookup 94 (.map (some b)) (.int .i64 x) false).run Try.prog w = .ok v w) (hX : X.heap[b]? = w.heap[b]?) :
    (Instr.lookup 94 (.map (some b)) (.int .i64 x) false).run Try.prog X = .ok v X := by
  obtain ⟨es, clock, hb, Ft, _⟩ := hown
  exact look_same lawI Try.underlying94 (fun X => zeroIs X) hb Ft (keyI (x := x) (by omega) (by omega)) hrun hX
end Go.Proofs.Ytfneafofohfdnaa
