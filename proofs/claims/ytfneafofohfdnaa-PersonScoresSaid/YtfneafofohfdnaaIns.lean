/-
  An entry of a map's literal, by the map's laws; maps from numbers to numbers as lists of pairs.
-/
import Derived.Test.YtfneafofohfdnaaStd
import Derived.Maps.OwnIn
import Derived.Maps.OwnOps
import Derived.Maps.OwnSet
import Derived.Maps.Views
namespace Go.Proofs.Ytfneafofohfdnaa
open Go.RowKit Go.WideMaps Go.Maps
theorem wpListIn_insert_own {H : Type} {F : Fence} {nF : Nat} {P : Program} (w : World) {ops : Array Oper} {rest : List Oper} {o : Oper} {a : Act} {Q : Exit → Act → World → Prop}
    (hg : o.guard = none) (m x v : Operand) (t : TypeId) (hop : o.op = Op.insert t m x v)
    (k e : TypeId) (K : Keyed P k) (ht : P.underlying t = some (.map k e)) (R : Value → Option (DataW H × List MemPlace)) (b n : Nat) (D : DataW H)
    (hm : a.eval m = .map (some b)) (hown : w.ownsMap P k R b n D) (hn : n < maxLen) (key val : Value) (kl : Lit) (hx : a.eval x = key) (hv : a.eval v = val) (hkey : keyOf P k key = some kl)
    (d : DataW H) (ps : List MemPlace) (hval : R val = some (d, ps))
    (hK : ∀ w', w'.ownsMap P k R b (n + 1) (D.put kl d) → w.grownBy w' (some b) → wpListIn F nF P ops Q rest (a.put o.dst undef) w') :
    wpListIn F nF P ops Q (o :: rest) a w := by
  refine wpListIn_plain hg fun K' hK' => ?_
  obtain ⟨w', hrun, r1, r2⟩ := hown.update K ht hn hkey hval
  unfold Oper.wpIn
  refine ⟨by simp [Oper.about, hop], ?_⟩
  rw [Oper.semAt_plain F _ _ (by rw [hop]; intro c hc'; cases hc')]
  simp [execOp, hop, hm, hx, hv, hrun, Result.andThen]
  exact hK' _ _ (hK w' r1 r2)
theorem lawI : Keyed Try.prog 3 := int_keyed Try.underlying3
theorem zeroI (w : World) : (zeroValue 3).run Try.prog w = .ok (.int .i64 0) w := by kernel_rfl
theorem wfI {x : Int} (h0 : -1000000000000 ≤ x) (h1 : x ≤ 1000000000000) : (Lit.int .i64 x).wf = true := by
  simp only [Lit.wf, Bool.and_eq_true, decide_eq_true_eq]
  exact ⟨by show (-9223372036854775808 : Int) ≤ x; omega, by show x ≤ 9223372036854775807; omega⟩
theorem keyI {x : Int} (h0 : -1000000000000 ≤ x) (h1 : x ≤ 1000000000000) : keyOf Try.prog 3 (.int .i64 x) = some (.int .i64 x) := Maps.keyOf_int_mk Try.underlying3 (wfI h0 h1)
/-- a map as it reads is a list of pairs -/
def AD (D : DataW Unit) (A : List (Int × Int)) : Prop := IsMap D ∧ ∀ x : Int, Maps.has D (.int .i64 x) = hasA A x ∧ (hasA A x = true → ∀ z, D.atKey (.int .i64 x) z = .lit (.int .i64 (valA A x)))
theorem AD_nil : AD (.map []) [] := ⟨⟨[], rfl⟩, fun _ => ⟨rfl, fun h => by cases h⟩⟩
theorem isKI (x : Int) : WideAt.IsKeyLit (.int .i64 x) := trivial
theorem litI_ne {x y : Int} (h : x ≠ y) : (Lit.int .i64 x) ≠ Lit.int .i64 y := fun e => h (by injection e)
theorem valA_snoc_other {A : List (Int × Int)} {t j x : Int} (h : x ≠ t) : valA (A ++ [(t, j)]) x = valA A x := by
  unfold valA
  rw [List.find?_append]
  have : List.find? (fun p : Int × Int => p.1 == x) [(t, j)] = none := by simp; exact fun e => h e.symm
  rw [this]
  simp
theorem valA_snoc_same {A : List (Int × Int)} {t j : Int} (h : hasA A t = false) : valA (A ++ [(t, j)]) t = j := by
  unfold valA
  rw [List.find?_append]
  have e : A.find? (fun p => p.1 == t) = none := by
    rw [List.find?_eq_none]
    intro p hp c
    unfold hasA at h
    rw [List.any_eq_false] at h
    exact h p hp c
  rw [e]
  simp
theorem AD_put {D : DataW Unit} {A : List (Int × Int)} {t j : Int} (h : AD D A) (hn : hasA A t = false) : AD (D.put (.int .i64 t) (.lit (.int .i64 j))) (A ++ [(t, j)]) := by
  refine ⟨Maps.IsMap.put h.1 _ _, fun x => ?_⟩
  by_cases e : x = t
  · subst e
    refine ⟨by rw [has_put_same h.1 (isKI _), hasA_snoc]; simp, fun _ z => ?_⟩
    rw [atKey_put_same h.1 (isKI _), valA_snoc_same hn]
  · have e' := litI_ne e
    refine ⟨by rw [has_put_other e', (h.2 x).1, hasA_snoc]; have : (t == x) = false := by simp; exact fun c => e c.symm
               rw [this]; simp, fun hx z => ?_⟩
    rw [atKey_put_other e', valA_snoc_other e]
    rw [hasA_snoc] at hx
    refine (h.2 x).2 ?_ z
    have : (t == x) = false := by simp; exact fun c => e c.symm
    rw [this] at hx
    simpa using hx
end Go.Proofs.Ytfneafofohfdnaa
