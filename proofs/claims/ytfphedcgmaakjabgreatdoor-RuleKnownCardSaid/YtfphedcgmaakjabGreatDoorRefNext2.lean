/-
  What both functions Next return, for a list in one block and for an empty one.
-/
import Derived.Test.YtfphedcgmaakjabGreatDoorNums
import Derived.Laws.AppendOwn
import Derived.Deep.AppendLies
import Derived.Test.YtfphedcgmaakjabGreatDoorNext
namespace Go.Proofs.YtfphedcgmaakjabGreatDoor
open Go.RowKit
section
variable {P : Program} {w : World}
theorem run_app_src {t ty e : TypeId} {i : TypeInfo} {z : Value} {size bytes base n m c : Nat} {v : Value} {A : Option Addr} {xs news : List Value} (ht : P.underlying t = some (.slice e)) (hi : P.info? e = some i) (hz : i.zero = some z)
    (hsize : i.size = size) (hby : i.bytes = bytes) (hzs : z.cells.size = size) (hsz : 0 < size) (hown : w.ownsRow base e size v n xs) (hl : news.length = m * size)
    (hA : ∀ ad, A = some ad → ∀ j u, news[j]? = some u → w.cell? (ad.add j) = some u) (hN : A = none → m = 0) (h1 : ∀ u ∈ news, u.oneCell' = true)
    (h63 : n + m ≤ maxLen) (hbytes : (n + m) * bytes ≤ 140737488355328) (hbase : base ≤ w.heap.size) :
    ∃ v' w', (Builtin.append_ #[t, t] ty #[v, .slice A m c]).run P w = .ok v' w' ∧ w'.ownsRow base e size v' (n + m) (xs ++ news) ∧ w.grownBy w' v.ownBlock := by
  cases A with
  | some ad =>
    obtain ⟨v', w', a, b, c, _⟩ := run_append_own (P := P) w base t ty e i z size bytes ht hi hz hsize hby hzs hsz v n xs hown ad m c news hl (hA ad rfl) h1 h63 hbytes hbase
    exact ⟨v', w', a, b, c⟩
  | none =>
    obtain rfl : m = 0 := hN rfl
    obtain rfl : news = [] := List.eq_nil_of_length_eq_zero (by simpa using hl)
    refine ⟨v, w, ?_, by simpa using hown, ⟨rfl, rfl, rfl, Nat.le_refl _, fun _ _ _ => rfl⟩⟩
    rcases hown.2 with ⟨rfl, rfl⟩ | ⟨g, cap, cur, rfl, _, _, hnc, _⟩
    · simp [Builtin.append_, run_underlying ht, sizeOf, typeInfo, hi, Builtin.lenOf, Builtin.firstCells]
    · simp [Builtin.append_, run_underlying ht, sizeOf, typeInfo, hi, Builtin.lenOf, Builtin.firstCells, hnc, storeCells]
theorem step_app {ops : Array Oper} {o : Oper} {a : Act} {K : Act → World → Prop} {Q : Exit → Act → World → Prop} {E : Prop} (hgd : o.guard = none) (s x : Operand) (t : TypeId)
    (ho : o.op = .call { callee := .builtin .append, args := #[s, x], argTypes := #[t, t] })
    {e : TypeId} {i : TypeInfo} {z : Value} {size bytes : Nat} (base : Nat) {n m c : Nat} {v : Value} {A : Option Addr} {xs news : List Value} (ht : P.underlying t = some (.slice e)) (hi : P.info? e = some i) (hz : i.zero = some z)
    (hsize : i.size = size) (hby : i.bytes = bytes) (hzs : z.cells.size = size) (hsz : 0 < size) (hs : a.eval s = v) (hx : a.eval x = .slice A m c) (hown : w.ownsRow base e size v n xs) (hl : news.length = m * size)
    (hA : ∀ ad, A = some ad → ∀ j u, news[j]? = some u → w.cell? (ad.add j) = some u) (hN : A = none → m = 0) (h1 : ∀ u ∈ news, u.oneCell' = true)
    (h63 : n + m ≤ maxLen) (hbytes : (n + m) * bytes ≤ 140737488355328) (hbase : base ≤ w.heap.size)
    (h : ∀ v' w', w'.ownsRow base e size v' (n + m) (xs ++ news) → w.grownBy w' v.ownBlock → K (a.put o.dst v') w') :
    if Region.wanted o (yielded ops a.tmps) = true then Oper.wp P o a w K Q else E := by
  have hw : Region.wanted o (yielded ops a.tmps) = true := by simp [Region.wanted, hgd]
  rw [if_pos hw]
  obtain ⟨v', w', hr, h2, h3⟩ := run_app_src (P := P) (w := w) (ty := o.type) ht hi hz hsize hby hzs hsz hown hl hA hN h1 h63 hbytes hbase (c := c)
  unfold Oper.wp execOp
  simp only [ho, resolve, invoke, builtin, Sem.run_bind, Sem.run_pure, Result.andThen_ok, List.map_toArray, List.map_cons, List.map_nil, hs, hx, hr]
  exact h v' w' h2 h3
end
end Go.Proofs.YtfphedcgmaakjabGreatDoor
namespace Go.Proofs.YtfphedcgmaakjabGreatDoor
open Go.RowKit
attribute [local go_sem] set_drewN
theorem heap_new_at {w : World} {o : Obj} {n : Nat} (h : n = w.heap.size) : (w.alloc o).heap[n]? = some o := by subst h; exact heap_alloc_new _ _
theorem heap_old_at {w : World} {o : Obj} {n : Nat} (h : n < w.heap.size) : (w.alloc o).heap[n]? = w.heap[n]? := heap_alloc_old w o h
end Go.Proofs.YtfphedcgmaakjabGreatDoor
namespace Go.Proofs.YtfphedcgmaakjabGreatDoor
open Go.RowKit
theorem cpE0 : cpE [] = 0 := rfl
theorem hasB0 (nm : ByteArray) (a0 a1 : Int) : hasB [] nm a0 a1 = false := rfl
theorem Next_0 (p : Pv) (a : Option Addr) (cap : Nat) (w : World) (hn : p.name.size ≤ maxLen) :
    (nxE [] p ≠ 0 → Calls Tryz.prog 20 #[.slice a 0 cap, p.val] w (RetB (two (.slice none 0 0) (.int .i64 (nxE [] p))) w)) ∧
    (nxE [] p = 0 → Calls Tryz.prog 20 #[.slice a 0 cap, p.val] w (NextOk [] p w)) := by
  have hn' : ∀ q ∈ ([] : List Pv) ++ [p], q.name.size ≤ maxLen := fun q hq => by
    rw [List.nil_append, List.mem_singleton] at hq; subst hq; exact hn
  have cC : Hid (∀ W : World, True → Calls Tryz.prog 39 #[.slice a 0 cap] W (RetB (.int .i64 0) W)) := Lib.hid fun W _ => CheckProvisions_0 a cap W
  have cK : Hid (∀ (W : World) B, True → B ≤ W.heap.size → Calls Tryz.prog 42 #[.slice a 0 cap] W (CloneP [] B W)) := Lib.hid fun W B _ hB => clone_0 a cap B W hB
  have cM := fun (W : World) g c (hW : PvsAt W g 0 ([] ++ [p])) => CheckProvisions_any ([] ++ [p]) g 0 c W (by simp) hW
  simp only [List.length_append, List.length_singleton, List.length_nil] at cM
  constructor
  · intro he
    by_cases h2 : cpE ([] ++ [p]) = 0
    · cases h3 : (p.repeal && !hasB [] p.name p.from' p.entered)
      · exact absurd (nxE_4 cpE0 h2 h3) he
      · rw [nxE_3 cpE0 h2 h3]
        rw [h2] at cM
        obtain ⟨nm, v, fr, en, rp⟩ := p
        simp only [Bool.and_eq_true, Bool.not_eq_true'] at h3
        obtain ⟨h3, h4⟩ := h3
        subst h3
        exact Next_3 [] (fun _ => True) (fun _ _ _ _ => trivial) (fun _ _ => trivial) a cap nm v fr en (by simp) w trivial (fun _ _ => trivial) hn' cC cK (Lib.hid cM) 0 (Lib.hid fun W _ => heldBy_none_0 nm fr en a cap W hn)
    · rw [nxE_2 cpE0 h2]
      exact Next_2 [] (fun _ => True) (fun _ _ _ _ => trivial) (fun _ _ => trivial) a cap p _ (by simpa using h2) (by simp) w trivial hn' cC cK (Lib.hid cM)
  · intro he
    have h2 : cpE ([] ++ [p]) = 0 := by
      by_cases h2 : cpE ([] ++ [p]) = 0
      · exact h2
      · rw [nxE_2 cpE0 h2] at he; exact absurd he h2
    have h3 : (p.repeal && !hasB [] p.name p.from' p.entered) = false := by
      cases h3 : (p.repeal && !hasB [] p.name p.from' p.entered)
      · rfl
      · rw [nxE_3 cpE0 h2 h3] at he; cases he
    rw [h2] at cM
    obtain ⟨nm, v, fr, en, rp⟩ := p
    cases rp
    · exact Next_5 [] (fun _ => True) (fun _ _ _ _ => trivial) (fun _ _ => trivial) a cap nm v fr en (by simp) w trivial (fun _ _ => trivial) hn' cC cK (Lib.hid cM)
    · simp [hasB0] at h3
end Go.Proofs.YtfphedcgmaakjabGreatDoor
