/-
  TopPersonaOfAll returns true for every input within the bound, in every world, and leaves its arguments as they were: the given statement of the second form.
-/
import Derived.Test.YtjjfiilokakppaaRows
import Derived.Test.YtjjfiilokakppaaOpenN
import Derived.Test.YtjjfiilokakppaaLawG
import Derived.Test.YtjjfiilokakppaaBelP
import Derived.WalkKit
import Derived.ProofKit
import Derived.OpenShut
import Derived.JoinedCond
import Derived.Carry
import Derived.ChangeMaps5
namespace Go.Proofs.Ytjjfiilokakppaa.topPersonaOfAll
open Go.ChangeShapes Go.WideShapes Go.ChangeAt Go.RowKit
set_option linter.unusedVariables false
theorem own : ownKnob Try.prog.godebug = none := by kernel_rfl
theorem laidOut : laidOutB Try.prog = true := by kernel_rfl
/-- the law at every list of entries that lies, whose names are of such a length -/
theorem law_list (l : List Nt) (b o cap : Nat) (x : Int) (W : World) (hl : l.length ≤ maxLen) (hn : ∀ p ∈ l, p.nm.length ≤ 2000000) (hc : NtsAt W b o l) :
    Calls Try.prog 3 #[.slice (some ⟨b, o, none⟩) l.length cap, .int .i64 x] W (RetB (.bool true) W) := by
  unfold maxLen at hl
  by_cases h2 : 2 ≤ l.length
  · by_cases h8 : l.length ≤ 8
    · by_cases hE : cnsE l = 0
      · exact law_good l b o cap x W h2 h8 hn hc hE
      · exact law_bad l b o cap x W h2 h8 hn hc hE
    · exact law_few _ _ _ _ _ (Or.inr (by omega)) (by omega)
  · exact law_few _ _ _ _ _ (Or.inl (by omega)) (by omega)
set_option maxRecDepth 100000 in
theorem contract (H : Type) (enc : TypeId × Value → H) (W : World) (base : Nat) (args : Array Value) (ds gs : List (DataW H)) (before : List MemPlace)
    (hval0 : ∀ (j : Nat) t v, Try.f3.params[j]? = some t → args[j]? = some v → Value.okWide Try.prog W .any base t v)
    (hW : DataW.Whole enc Try.prog Try.f3.params.toList Rows.topPersonaOfAllSpec.vars false W args.toList ds gs before) (hk : Rows.uptoSmall H (ds ++ gs) = true) :
    Calls Try.prog 3 args W fun e W' => ∃ v, e = .returned v ∧ Rows.topPersonaOfAllSpec.post enc Try.prog Try.f3 false true false false W args v W' := by
  have hval : ∀ (j : Nat) t v, Try.f3.params[j]? = some t → args[j]? = some v → Value.okWide Try.prog W .any base t v := hval0
  have hW' := hW
  obtain ⟨p, q, hA0, hV, rfl, hfz, hnd⟩ := hW
  have hA : DataW.TrodAll enc Try.prog W 0 (fun _ => true) true Try.f3.params.toList args.toList ds p := hA0
  rw [Try.params3] at hA hval
  obtain ⟨v0, vs0, d0, ds0, p0, q0, hargs, rfl, rfl, h0, r0⟩ := trodAll_cons hA
  obtain ⟨v1, vs1, d1, ds1, p1, q1, rfl, rfl, rfl, h1, r1⟩ := trodAll_cons r0
  obtain ⟨rfl, rfl, rfl⟩ := trodAll_nil r1
  obtain rfl : args = #[v0, v1] := by cases args; simp_all
  obtain ⟨rfl, rfl⟩ := trodVars_none hV
  have hbd : Rows.uptoBulk d0 ≤ 1048576 := Nat.le_trans (blk_part (by simp)) (blk_bound hk)
  have hlt : ∀ x ∈ p0 ++ (p1 ++ []), x.block < W.heap.size := fun x hx => by simpa using hW'.lt x (by simpa using hx)
  have walk : Calls Try.prog 3 #[v0, v1] W (RetB (.bool true) W) := by
    clear hlt hW' hfz hnd hA hA0 hV hk
    obtain ⟨x, rfl, _, _, _⟩ := open_int Try.underlying3 (hval 1 3 v1 rfl rfl) h1
    rcases nts_open (hval 0 22 v0 rfl rfl) h0 with ⟨a, cap, rfl⟩ | ⟨b, o, cap, l, rfl, hl, hc, hb⟩
    · exact law_few a 0 cap x W (Or.inl (by omega)) (by omega)
    · exact law_list l b o cap x W hl (fun p hp => Nat.le_trans (hb p hp) (by omega)) hc
  clear hA0 hval0
  refine walk.mono fun e W' ⟨he, hg⟩ => ?_
  subst he
  refine ⟨_, rfl, post_of_below (pa := p0 ++ (p1 ++ [])) (pv := []) hW' (fun _ _ _ => (trodAll_cons_mk (shut_bool Try.underlying4 _) trodAll_mk0)) (fun sp hsp => ?_) (fun _ _ => rfl) (by simp) hg (ok_one (by kernel_rfl) rfl (okWide_bool_mk Try.underlying4 _))⟩
  have hin : ∀ x ∈ p0 ++ (p1 ++ []), sp x.block = true := fun x hx => hsp x (by simpa using hx)
  exact trodAll_cons_mk (WideElems.Trod_stays laidOut (by kernel_rfl) (of_decide_eq_true (by kernel_rfl)) h0 (fun x hx => hg.same (hlt x (by simp [hx]))) (fun x hx => hin x (by simp [hx])))
    (trodAll_cons_mk (WideElems.Trod_stays laidOut (by kernel_rfl) (of_decide_eq_true (by kernel_rfl)) h1 (fun x hx => hg.same (hlt x (by simp [hx]))) (fun x hx => hin x (by simp [hx]))) trodAll_mk0)
set_option maxRecDepth 100000 in
theorem lifted (os : Os) (started : os.Started) (H : Type) (enc : TypeId × Value → H) (F : Stop.Interp) :
    ReturnsInHanded {} Try.checked os 3 .any ((Rows.OpenSpec.upto Rows.topPersonaOfAllSpec).pre6 enc Try.prog Try.f3 Rows.topPersonaOfAllUptoRow.domain false) (((Rows.OpenSpec.upto Rows.topPersonaOfAllSpec).at F).post enc Try.prog Try.f3 false true false false) := by
  refine returnsInHanded_of_cond (C := Try.checked) (s := Rows.OpenSpec.upto Rows.topPersonaOfAllSpec) (k := Rows.uptoSmall) rfl own started (by kernel_rfl) Try.func3
    (OpenSpec.witness (enc := enc) (C := Try.checked) (s := Rows.OpenSpec.upto Rows.topPersonaOfAllSpec) (k := Rows.uptoSmall) rfl false ⟨#[], #[.slice none 0 0, .int .i64 0], []⟩ 8 (by kernel_rfl) (by kernel_rfl) (by kernel_rfl)
      (x := ([.nil, .lit (.int .i64 0)], [], [])) (by first | kernel_rfl | rfl) (by first | rfl | kernel_rfl) (by first | kernel_rfl | rfl)) ?_
  intro W base args ds gs before hval hW _ hk _
  exact contract H enc W base args ds gs before hval hW hk
theorem over : Rows.topPersonaOfAllUptoRow.holds Try.pinned (Rows.OpenSpec.upto Rows.topPersonaOfAllSpec) :=
  OpenClaim.holds_of_cond 3 Try.f3 rfl rfl rfl rfl rfl rfl rfl ⟨rfl, rfl, rfl, rfl, rfl⟩ rfl rfl rfl rfl rfl (by kernel_rfl) Try.func3 (by kernel_rfl)
    (of_decide_eq_true (by kernel_rfl)) (by unfold Func.isWrapper; first | (rw [if_pos (by decide +kernel)]; kernel_rfl) | (rw [if_neg (by decide +kernel)]; exact ⟨rfl, rfl⟩))
    (fun os started H enc _ F => lifted os started H enc F)
/-- the statement -/
theorem proved : Rows.TopPersonaOfAllUptoSaid :=
  over
#print axioms proved
end Go.Proofs.Ytjjfiilokakppaa.topPersonaOfAll
