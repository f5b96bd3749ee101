/-
  The map of starts (package money): its keys; what it says of each.
-/
import Derived.Test.YtcimceepkjpggaaMnRt
import Derived.Maps.OwnOps
import Derived.Maps.OwnSet
import Derived.Maps.Views
import Derived.DeepKeys4
namespace Go.Proofs.Ytcimceepkjpggaa
open Go.RowKit Go.WideMaps Go.Maps
theorem laidOutP : laidOutB Try.prog = true := by kernel_rfl
theorem rowSt : (104 : TypeId) < Try.prog.types.size := of_decide_eq_true (by kernel_rfl)
theorem wideSt : (match Try.prog.underlying 104 with | some (.array _ _) | some (.struct _) => true | _ => false) = true := by kernel_rfl
set_option maxRecDepth 100000 in
theorem lawSt : Keyed Try.prog 104 := Keyed.of_law (deep_law_laid laidOutP (m := 2) (by omega) rowSt (by kernel_rfl) wideSt)
abbrev stV (nm : ByteArray) (fr : Int) : Value := .agg #[.string nm, .int .i64 fr]
def kS (nm : ByteArray) (fr : Int) : Lit := .string (keyBytes [.string nm.data.toList, .int .i64 fr])
theorem ktSt : Try.prog.keyType 104 = true := by kernel_rfl
theorem cellsSt : Try.prog.cellsOf 104 = 2 := by kernel_rfl
theorem cellsS1 : Try.prog.cellsOf 9 = 1 := by kernel_rfl
theorem cellsI1 : Try.prog.cellsOf 3 = 1 := by kernel_rfl
theorem wf64 {x : Int} (h0 : -9223372036854775808 ≤ x) (h1 : x ≤ 9223372036854775807) : (Lit.int .i64 x).wf = true := by
  simp only [Lit.wf, Bool.and_eq_true, decide_eq_true_eq]
  exact ⟨by show (-9223372036854775808 : Int) ≤ x; omega, by show x ≤ 9223372036854775807; omega⟩
theorem key_gen {P : Program} {T S I : TypeId} {f0 f1 : Field} (hT : P.underlying T = some (.struct #[f0, f1])) (n0 : (f0.name != "_") = true) (n1 : (f1.name != "_") = true) (t0 : f0.type = S) (o0 : f0.offset = 0) (t1 : f1.type = I) (o1 : f1.offset = 1)
    (hS : P.underlying S = some .string) (hI : P.underlying I = some (.int .i64)) (cT : P.cellsOf T = 2) (cS : P.cellsOf S = 1) (cI : P.cellsOf I = 1) (kt : P.keyType T = true) (hn : 0 < P.types.size)
    {nm : ByteArray} {fr : Int} (hs : nm.size ≤ maxLen) (hw : (Lit.int .i64 fr).wf = true) : keyOf P T (.agg #[.string nm, .int .i64 fr]) = some (kS nm fr) := by
  obtain ⟨n, hn⟩ : ∃ n, P.types.size = n + 1 := ⟨P.types.size - 1, by omega⟩
  unfold keyOf
  rw [hT]
  have hf : (Value.agg #[.string nm, .int .i64 fr]).formed P T = true := by simp [Value.formed, hT, cT]
  simp only [kt, hf, Bool.and_self, if_true, hn]
  have h2 : P.keyLits (n + 1) S [.string nm] = some [.string nm.data.toList] := by simp [Program.keyLits, hS, hs]
  have h3 : P.keyLits (n + 1) I [.int .i64 fr] = some [.int .i64 fr] := by simp [Program.keyLits, hI, hw]
  have h4 : P.keyLits (n + 1 + 1) T [.string nm, .int .i64 fr] = some [.string nm.data.toList, .int .i64 fr] := by
    unfold Program.keyLits
    rw [hT]
    simp [cT, n0, n1, t0, o0, t1, o1, cS, cI, h2, h3]
  simp [Value.cells, h4, kS]
theorem sizeP : 0 < Try.prog.types.size := of_decide_eq_true (by kernel_rfl)
theorem key_ok {nm : ByteArray} {fr : Int} (hs : nm.size ≤ maxLen) (h0 : -9223372036854775808 ≤ fr) (h1 : fr ≤ 9223372036854775807) : keyOf Try.prog 104 (stV nm fr) = some (kS nm fr) :=
  key_gen Try.underlying104 rfl rfl rfl rfl rfl rfl Try.underlying9 Try.underlying3 cellsSt cellsS1 cellsI1 ktSt sizeP hs (wf64 h0 h1)
theorem kS_inj {a b : ByteArray} {x y : Int} (ha : a.size ≤ maxLen) (hb : b.size ≤ maxLen) (hx0 : -9223372036854775808 ≤ x) (hx1 : x ≤ 9223372036854775807) (hy0 : -9223372036854775808 ≤ y) (hy1 : y ≤ 9223372036854775807) (h : kS a x = kS b y) : a = b ∧ x = y := by
  have h1 := key_ok ha hx0 hx1
  have h2 := key_ok hb hy0 hy1
  rw [h] at h1
  have := lawSt.inj h1 h2
  injection this with e
  have e1 : [Value.string a, .int .i64 x] = [.string b, .int .i64 y] := by simpa using e
  simp at e1
  exact e1
theorem isKSt (nm : ByteArray) (fr : Int) : WideAt.IsKeyLit (kS nm fr) := trivial
/-- fit to be a key -/
def FitR (r : Ra) : Prop := r.nm.size ≤ maxLen ∧ -9223372036854775808 ≤ r.fr ∧ r.fr ≤ 9223372036854775807
/-- a rate of the first k has the class and the day -/
def seenR (l : List Ra) (k : Nat) (nm : ByteArray) (fr : Int) : Bool := (l.take k).any fun r => decide (r.nm = nm ∧ r.fr = fr)
theorem seenR_succ {l : List Ra} {k : Nat} (hk : k < l.length) (nm : ByteArray) (fr : Int) : seenR l (k + 1) nm fr = (seenR l k nm fr || decide (l[k].nm = nm ∧ l[k].fr = fr)) := by
  unfold seenR
  rw [List.take_succ_eq_append_getElem hk, List.any_append]
  simp
def SeenR (l : List Ra) (k : Nat) (D : DataW Unit) : Prop := IsMap D ∧ ∀ r : Ra, FitR r → D.atKey (kS r.nm r.fr) (.lit (.bool false)) = .lit (.bool (seenR l k r.nm r.fr))
theorem SeenR_0 (l : List Ra) : SeenR l 0 (.map []) := ⟨⟨[], rfl⟩, fun _ _ => rfl⟩
theorem SeenR.put {l : List Ra} {k : Nat} {D : DataW Unit} (s : SeenR l k D) (hk : k < l.length) (hf : FitR l[k]) : SeenR l (k + 1) (D.put (kS l[k].nm l[k].fr) (.lit (.bool true))) := by
  obtain ⟨es, he⟩ := s.1
  refine ⟨⟨_, by rw [he]; rfl⟩, fun r hr => ?_⟩
  rw [seenR_succ hk]
  by_cases g : l[k].nm = r.nm ∧ l[k].fr = r.fr
  · rw [g.1, g.2, atKey_put_same s.1 (isKSt _ _)]; simp
  · rw [atKey_put_other (fun c => g (by
      have := kS_inj hf.1 hr.1 hf.2.1 hf.2.2 hr.2.1 hr.2.2 c.symm
      exact this)), s.2 r hr, decide_eq_false g, Bool.or_false]
theorem ownsMap_below {H : Type} {P : Program} {W W' : World} {k : TypeId} {R : Value → Option (DataW H × List MemPlace)} {b n : Nat} {D : DataW H} (h : W.ownsMap P k R b n D) (hb : Below W.heap.size W W') : W'.ownsMap P k R b n D :=
  h.kept (row := none) ⟨hb.os, hb.tape, hb.output, hb.size, fun j hj _ => hb.block j hj⟩ (by simp)
theorem zeroB (w : World) : (zeroValue 4).run Try.prog w = .ok (.bool false) w := by kernel_rfl
set_option maxRecDepth 100000 in
theorem look_seen {l : List Ra} {k BM n : Nat} {D : DataW Unit} {W : World} {r : Ra} (ho : W.ownsMap Try.prog 104 (plainElem Try.prog 4) BM n D) (s : SeenR l k D) (hf : FitR r) :
    (Instr.lookup 101 (.map (some BM)) (stV r.nm r.fr) false).run Try.prog W = .ok (.bool (seenR l k r.nm r.fr)) W := by
  obtain ⟨v, ps, hrun, hv⟩ := ho.lookup lawSt Try.underlying101 (zeroB W) (plainElem_bool Try.underlying4 false) (key_ok hf.1 hf.2.1 hf.2.2)
  rw [s.2 r hf] at hv
  rw [hrun]
  unfold plainElem at hv
  rw [Try.underlying4] at hv
  cases v <;> simp at hv
  rw [hv.1]
end Go.Proofs.Ytcimceepkjpggaa
