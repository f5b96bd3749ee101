/-
  The distance of two names as package person counts it: a contract for all worlds.
-/
import Derived.Test.YtfneafofohfdnaaCom
import Derived.Test.YtfneafofohfdnaaDiM
import Derived.Laws.MakeOwn
import Derived.StillTailTactics
namespace Go.Proofs.Ytfneafofohfdnaa
open Go.RowKit
/-- a row of numbers lies and may be written -/
def RW (W : World) (B M : Nat) (ρ : Nat → Nat) : Prop := ∀ j, j ≤ M → W.cell? ⟨B, j, none⟩ = some (.int .i64 (ρ j : Nat)) ∧ W.frozen? ⟨B, j, none⟩ = false
theorem RW.set {W : World} {B M q : Nat} {ρ : Nat → Nat} (h : RW W B M ρ) (hq : q ≤ M) (x : Nat) : RW (W.setCell ⟨B, q, none⟩ (.int .i64 (x : Nat))) B M (fun j => if j = q then x else ρ j) := fun j hj => by
  refine ⟨?_, by rw [World.frozen?_setCell]; exact (h j hj).2⟩
  by_cases e : j = q
  · subst e
    simp only [if_true]
    exact World.cell?_setCell_same _ _ _ (h j hj).1
  · simp only [if_neg e]
    refine (World.cell?_setCell_other _ _ _ _ ?_).trans (h j hj).1
    intro e'
    injection e' with _ e2 _
    exact e e2.symm
theorem RW.congr {W : World} {B M : Nat} {ρ ρ' : Nat → Nat} (h : RW W B M ρ) (e : ∀ j, j ≤ M → ρ j = ρ' j) : RW W B M ρ' := fun j hj => by rw [← e j hj]; exact h j hj
theorem RW.drew {W : World} {B M n : Nat} {ρ : Nat → Nat} (h : RW W B M ρ) : RW (W.drewN n) B M ρ := h
theorem RW.lt {W : World} {B M : Nat} {ρ : Nat → Nat} (h : RW W B M ρ) : B < W.heap.size := World.block_lt_of_cell? W ⟨B, 0, none⟩ (h 0 (Nat.zero_le _)).1
theorem RW_made (W : World) (M : Nat) (e : TypeId) : RW (W.alloc (.cells (madeCells #[.int .i64 0] (M + 1)) e)) W.heap.size M (fun _ => 0) := fun j hj => by
  have h1 := heap_alloc_new W (.cells (madeCells #[.int .i64 0] (M + 1)) e)
  have hj' : j < M + 1 := by omega
  have h2 : (madeCells #[.int .i64 0] (M + 1))[j]? = some (Value.int .i64 0) := by
    have h0 : j % 1 = 0 := Nat.mod_one j
    simp [madeCells, hj', h0]
  exact ⟨by unfold World.cell?; simp only [h1]; exact h2, by unfold World.frozen?; simp only [h1]; simp⟩
theorem infoI64 : (Try.prog.info? 3).map (fun i => (i.zero, i.size, i.bytes)) = some (some (.int .i64 0), 1, 8) := by kernel_rfl
theorem wpList_make {P : Program} {w w' : World} {ops : Array Oper} {rest : List Oper} {o : Oper} {a : Act} {Q : Exit → Act → World → Prop} (hgd : o.guard = none) (l c : Operand) (t : TypeId) (ho : o.op = .makeSlice t l c) {lv cv v : Value} (hl : a.eval l = lv) (hc : a.eval c = cv)
    (hrun : (Instr.makeSlice t lv cv).run P w = .ok v w') (h : wpList P ops Q rest (a.put o.dst v) w') : wpList P ops Q (o :: rest) a w := by
  refine wpList_plain hgd fun K hK => ?_
  unfold Oper.wp
  simp [execOp, ho, hl, hc, hrun, Result.andThen]
  exact hK _ _ h
/-- 0 where two signs have a common letter, 1 elsewhere -/
def cM (x y : List Nat) (i k : Nat) : Nat := if (x.getD i 0) &&& (y.getD k 0) = 0 then 1 else 0
theorem RW.step {W : World} {B M i k : Nat} {c : Nat → Nat → Nat} (h : RW W B M (fun j => if j ≤ k then diM c (i + 1) j else diM c i j)) (hk : k < M) {v : Int} (hv : v = (diM c (i + 1) (k + 1) : Nat)) :
    RW (W.setCell ⟨B, k + 1, none⟩ (.int .i64 v)) B M (fun j => if j ≤ k + 1 then diM c (i + 1) j else diM c i j) := by
  subst hv
  refine (h.set (q := k + 1) hk _).congr fun j _ => ?_
  by_cases e : j = k + 1
  · subst e; simp
  · by_cases e2 : j ≤ k
    · simp [e, e2, Nat.le_succ_of_le e2]
    · have e3 : ¬ j ≤ k + 1 := by omega
      simp [e, e2, e3]
set_option maxRecDepth 100000 in
set_option maxHeartbeats 8000000 in
theorem dist_any (w : World) (x y : List Nat) (b1 c1 b2 c2 : Nat) (hx : x.length ≤ 25) (hy : y.length ≤ 25) (hxb : ∀ m ∈ x, m < 2 ^ 53) (hyb : ∀ m ∈ y, m < 2 ^ 53) (h1 : SgAt w b1 x) (h2 : SgAt w b2 y) :
    Calls Try.prog 44 #[.slice (some ⟨b1, 0, none⟩) x.length c1, .slice (some ⟨b2, 0, none⟩) y.length c2] w (RetB (.int .i64 (diM (cM x y) x.length y.length : Nat)) w) := by
  obtain ⟨i0, hi, hz0, hz1, hz2⟩ := info_parts infoI64
  have S1 := Lib.hid h1
  have S2 := Lib.hid h2
  have HXB := Lib.hid hxb
  have HYB := Lib.hid hyb
  clear h1 h2 hxb hyb
  have HMK := Lib.hid (run_makeSlice w 68 3 i0 (.int .i64 0) Try.underlying68 hi hz0 .i64 .i64 ((y.length : Int) + 1) ((y.length : Int) + 1) (by omega) (by omega) (by rw [hz1]; omega) (by rw [hz2]; omega) (by omega))
  have hT : ((y.length : Int) + 1).toNat = y.length + 1 := by omega
  rw [hT, hz1] at HMK
  have R0 := Lib.hid (RW_made w y.length 3)
  have B0 := Lib.hid ((Below.refl _ w).alloc (Nat.le_refl _) (.cells (madeCells #[.int .i64 0] (y.length + 1)) 3))
  clear hT
  go_enter Try.func44, Try.ntmps44
  have hmk := HMK.out
  have hw1 : (Value.int IntKind.i64 0).cells = #[.int .i64 0] := rfl
  rw [hw1, Nat.mul_one] at hmk
  clear hw1 HMK
  generalize hW0 : w.alloc (.cells (madeCells #[.int .i64 0] (y.length + 1)) 3) = W0 at *
  clear hW0
  go_wp2
  clear hmk
  go_loopw [17] (fun kv wr => ∃ k : Nat, k ≤ y.length + 1 ∧ kv = .int .i64 k ∧ Hid (RW wr w.heap.size y.length (fun j => if j < k then j else 0)) ∧ Hid (Below w.heap.size w wr)) (fun kv _ => y.length + 1 - (intOf kv).toNat)
  case atStart => exact ⟨0, Nat.zero_le _, rfl, Lib.hid (R0.out.congr (by simp)), B0⟩
  case round =>
    obtain ⟨k, hk, rfl, HR, HB⟩ := hrel
    by_cases hlt : k < y.length + 1
    · obtain ⟨q1, q2⟩ := HR.out k (by omega)
      have R1 := Lib.hid ((HR.out.set (q := k) (by omega) k).congr (ρ' := fun j => if j < k + 1 then j else 0) (fun j _ => by by_cases e : j = k; simp [e]; by_cases e2 : j < k; simp [e, e2, Nat.lt_succ_of_lt e2]; simp [e, e2]; omega))
      have B1 := Lib.hid (HB.out.setCell (p := ⟨w.heap.size, k, none⟩) (Nat.le_refl _) (.int .i64 (k : Nat)))
      go_wp2
      go_roundw
      case rel => exact ⟨k + 1, by omega, by go_num, R1, B1⟩
      case measure => simp [intOf]; omega
    · obtain rfl : k = y.length + 1 := by omega
      have R1 := Lib.hid (HR.out.congr (ρ' := diM (cM x y) 0) (fun j hj => by rw [if_pos (by omega)]; rfl))
      clear HR
      go_wp2
      go_loopw [27] (fun iv wr => ∃ i : Nat, i ≤ x.length ∧ iv = .int .i64 i ∧ Hid (RW wr w.heap.size y.length (diM (cM x y) i)) ∧ Hid (Below w.heap.size w wr)) (fun iv _ => x.length - (intOf iv).toNat)
      case atStart => exact ⟨0, Nat.zero_le _, rfl, R1, HB⟩
      case round =>
        obtain ⟨i, hi2, rfl, HR, HBi⟩ := hrel
        by_cases hlt2 : i < x.length
        · obtain ⟨q1, q2⟩ := HR.out 0 (by omega)
          have R2 := Lib.hid ((HR.out.set (q := 0) (by omega) (i + 1)).congr (ρ' := fun j => if j ≤ 0 then diM (cM x y) (i + 1) j else diM (cM x y) i j) (fun j _ => by by_cases e : j = 0; simp [e, diM_i0]; simp [e]))
          have B2 := Lib.hid (HBi.out.setCell (p := ⟨w.heap.size, 0, none⟩) (Nat.le_refl _) (.int .i64 ((i + 1 : Nat) : Int)))
          clear HR
          go_wp2
          go_loopw [8, 39] (fun sv kv wi => ∃ k : Nat, k ≤ y.length ∧ sv = .int .i64 (diM (cM x y) i k : Nat) ∧ kv = .int .i64 k ∧ Hid (RW wi w.heap.size y.length (fun j => if j ≤ k then diM (cM x y) (i + 1) j else diM (cM x y) i j)) ∧ Hid (Below w.heap.size w wi)) (fun _ kv _ => y.length - (intOf kv).toNat)
          case atStart => exact ⟨0, Nat.zero_le _, rfl, rfl, R2, B2⟩
          case round =>
            obtain ⟨k, hk3, rfl, rfl, HRi, HBi⟩ := hrel
            by_cases hlt3 : k < y.length
            · have a1 := ((S1.out.below (HBi.out.mono (Nat.le_refl _)))).2 i hlt2
              have a2 := ((S2.out.below (HBi.out.mono (Nat.le_refl _)))).2 k hlt3
              obtain ⟨p1, p2⟩ := HRi.out k (by omega)
              obtain ⟨p3, p4⟩ := HRi.out (k + 1) (by omega)
              simp only [if_pos (Nat.le_refl k)] at p1
              simp only [if_neg (show ¬ k + 1 ≤ k by omega)] at p3
              have e1 := HXB.out _ (List.getElem_mem hlt2)
              have e2 := HYB.out _ (List.getElem_mem hlt3)
              have hand := u64_and_nat x[i] y[k] (Nat.lt_trans e1 (by decide)) (Nat.lt_trans e2 (by decide))
              have HCM := Lib.hid (show cM x y i k = if x[i] &&& y[k] = 0 then 1 else 0 by unfold cM; simp [hlt2, hlt3])
              have HSS := Lib.hid (diM_ss (c := cM x y) i k)
              have HL1 := diM_le (c := cM x y) i k
              have HL2 := diM_le (c := cM x y) (i + 1) k
              have HL3 := diM_le (c := cM x y) i (k + 1)
              obtain ⟨z, hz⟩ : ∃ z, x[i] &&& y[k] = z := ⟨_, rfl⟩
              rw [hz] at hand HCM
              obtain ⟨P, hP⟩ : ∃ P, diM (cM x y) i k = P := ⟨_, rfl⟩
              obtain ⟨Q, hQ⟩ : ∃ Q, diM (cM x y) (i + 1) k = Q := ⟨_, rfl⟩
              obtain ⟨R, hRr⟩ : ∃ R, diM (cM x y) i (k + 1) = R := ⟨_, rfl⟩
              rw [hP] at HSS HL1 ⊢
              rw [hQ] at HSS HL2 p1
              rw [hRr] at HSS HL3 p3
              have HRE := Lib.hid hRr
              generalize x[i] = xi at *
              generalize y[k] = yk at *
              clear hz hP hQ hRr e1 e2
              by_cases h0 : z = 0
              · subst h0
                go_wp2
                go_quiet (fail)
                go_wp2
                generalize hwd : wr.drewN _ = wd
                have HRw := Lib.hid (show RW wd w.heap.size y.length (fun j => if j ≤ k then diM (cM x y) (i + 1) j else diM (cM x y) i j) by rw [← hwd]; exact HRi.out)
                have HBw := Lib.hid (show Below w.heap.size w wd by rw [← hwd]; exact below_n HBi.out _)
                have r1 : wd.cell? ⟨w.heap.size, k, none⟩ = some (.int .i64 (Q : Int)) := by rw [← hwd]; exact p1
                have r3 : wd.cell? ⟨w.heap.size, k + 1, none⟩ = some (.int .i64 (R : Int)) := by rw [← hwd]; exact p3
                have r4 : wd.frozen? ⟨w.heap.size, k + 1, none⟩ = false := by rw [← hwd]; exact p4
                clear hwd p1 p2 p3 p4 a1 a2 hand
                have d1 : k < y.length + 1 := by omega
                have d2 : k + 1 < y.length + 1 := by omega
                have d3 : (k : Int) < (y.length : Int) + 1 := by omega
                have d4 : (k : Int) + 1 < (y.length : Int) + 1 := by omega
                have d5 : ¬ y.length + 1 ≤ k := by omega
                have d6 : ¬ y.length + 1 ≤ k + 1 := by omega
                have d7 : (0 : Int) ≤ (k : Int) + 1 := by omega
                have w1 : IntKind.i64.wrap ((k : Int) + 1) = (k : Int) + 1 := by rw [IntKind.wrap_i64]; omega
                have w2 : IntKind.i64.wrap ((Q : Int) + 1) = (Q : Int) + 1 := by rw [IntKind.wrap_i64]; omega
                have w3 : IntKind.i64.wrap ((R : Int) + 1) = (R : Int) + 1 := by rw [IntKind.wrap_i64]; omega
                have w4 : ((k : Int) + 1).toNat = k + 1 := by omega
                go_still_tail 17, (by kernel_rfl)
                change wpList _ _ _ _ _ wd.drew
                generalize hwe : wd.drew = we
                have HRe := Lib.hid (show RW we w.heap.size y.length (fun j => if j ≤ k then diM (cM x y) (i + 1) j else diM (cM x y) i j) by rw [← hwe]; exact HRw.out)
                have HBe := Lib.hid (show Below w.heap.size w we by rw [← hwe]; exact below_n HBw.out 1)
                obtain ⟨g3, g4⟩ := HRe.out (k + 1) hlt3
                clear hwe HRw HBw r1 r3 r4
                have HMN : (if (R : Int) + 1 < if Q < P then (Q : Int) + 1 else (P : Int) + 1 then (R : Int) + 1 else if Q < P then (Q : Int) + 1 else (P : Int) + 1) = ((diM (cM x y) (i + 1) (k + 1) : Nat) : Int) := by
                  have h1 := HCM.out
                  have h2 := HSS.out
                  simp only [if_true] at h1
                  rw [h1] at h2
                  by_cases hq : Q < P
                  · simp only [if_pos hq]; split <;> omega
                  · simp only [if_neg hq]; split <;> omega
                go_wp2
                go_roundw
                case rel =>
                  refine ⟨_, _, _, _, ?_, rfl, rfl, rfl, rfl⟩
                  exact ⟨k + 1, by omega, by rw [HRE.out], by go_num, Lib.hid (HRe.out.step hlt3 rfl), Lib.hid (HBe.out.setCell (p := ⟨w.heap.size, k + 1, none⟩) (Nat.le_refl _) _)⟩
                case measure => simp [intOf]; omega
              · have hzb : ((z : Int) == 0) = false := by simpa using h0
                go_wp2
                go_quiet (fail)
                go_wp2
                generalize hwd : wr.drewN _ = wd
                have HRw := Lib.hid (show RW wd w.heap.size y.length (fun j => if j ≤ k then diM (cM x y) (i + 1) j else diM (cM x y) i j) by rw [← hwd]; exact HRi.out)
                have HBw := Lib.hid (show Below w.heap.size w wd by rw [← hwd]; exact below_n HBi.out _)
                have r1 : wd.cell? ⟨w.heap.size, k, none⟩ = some (.int .i64 (Q : Int)) := by rw [← hwd]; exact p1
                have r3 : wd.cell? ⟨w.heap.size, k + 1, none⟩ = some (.int .i64 (R : Int)) := by rw [← hwd]; exact p3
                have r4 : wd.frozen? ⟨w.heap.size, k + 1, none⟩ = false := by rw [← hwd]; exact p4
                clear hwd p1 p2 p3 p4 a1 a2 hand
                have d1 : k < y.length + 1 := by omega
                have d2 : k + 1 < y.length + 1 := by omega
                have d3 : (k : Int) < (y.length : Int) + 1 := by omega
                have d4 : (k : Int) + 1 < (y.length : Int) + 1 := by omega
                have d5 : ¬ y.length + 1 ≤ k := by omega
                have d6 : ¬ y.length + 1 ≤ k + 1 := by omega
                have d7 : (0 : Int) ≤ (k : Int) + 1 := by omega
                have w1 : IntKind.i64.wrap ((k : Int) + 1) = (k : Int) + 1 := by rw [IntKind.wrap_i64]; omega
                have w2 : IntKind.i64.wrap ((Q : Int) + 1) = (Q : Int) + 1 := by rw [IntKind.wrap_i64]; omega
                have w3 : IntKind.i64.wrap ((R : Int) + 1) = (R : Int) + 1 := by rw [IntKind.wrap_i64]; omega
                have w4 : ((k : Int) + 1).toNat = k + 1 := by omega
                go_still_tail 17, (by kernel_rfl)
                change wpList _ _ _ _ _ wd.drew
                generalize hwe : wd.drew = we
                have HRe := Lib.hid (show RW we w.heap.size y.length (fun j => if j ≤ k then diM (cM x y) (i + 1) j else diM (cM x y) i j) by rw [← hwe]; exact HRw.out)
                have HBe := Lib.hid (show Below w.heap.size w we by rw [← hwe]; exact below_n HBw.out 1)
                obtain ⟨g3, g4⟩ := HRe.out (k + 1) hlt3
                clear hwe HRw HBw r1 r3 r4
                have HMN : (if (R : Int) + 1 < if (Q : Int) + 1 < (P : Int) then (Q : Int) + 1 else (P : Int) then (R : Int) + 1 else if (Q : Int) + 1 < (P : Int) then (Q : Int) + 1 else (P : Int)) = ((diM (cM x y) (i + 1) (k + 1) : Nat) : Int) := by
                  have h1 := HCM.out
                  have h2 := HSS.out
                  rw [if_neg h0] at h1
                  rw [h1] at h2
                  by_cases hq : (Q : Int) + 1 < (P : Int)
                  · simp only [if_pos hq]; split <;> omega
                  · simp only [if_neg hq]; split <;> omega
                go_wp2
                go_roundw
                case rel =>
                  refine ⟨_, _, _, _, ?_, rfl, rfl, rfl, rfl⟩
                  exact ⟨k + 1, by omega, by rw [HRE.out], by go_num, Lib.hid (HRe.out.step hlt3 rfl), Lib.hid (HBe.out.setCell (p := ⟨w.heap.size, k + 1, none⟩) (Nat.le_refl _) _)⟩
                case measure => simp [intOf]; omega
            · obtain rfl : k = y.length := by omega
              have R3 := Lib.hid (HRi.out.congr (ρ' := diM (cM x y) (i + 1)) (fun j hj => by rw [if_pos hj]))
              go_wp2
              go_roundw
              case rel => exact ⟨i + 1, by omega, by go_num, R3, HBi⟩
              case measure => simp [intOf]; omega
        · obtain rfl : i = x.length := by omega
          obtain ⟨q1, q2⟩ := HR.out y.length (Nat.le_refl _)
          go_wp2
          go_ret
          exact ⟨rfl, HBi.out⟩
end Go.Proofs.Ytfneafofohfdnaa
