/-
  Distance of the reference on rows of letters: a contract.
-/
import Derived.Test.YtfneafofohfdnaaBoth
import Derived.Test.YtfneafofohfdnaaDst
import Derived.Test.YtfneafofohfdnaaNaM
namespace Go.Proofs.Ytfneafofohfdnaa
open Go.RowKit
theorem RW.below {W W' : World} {B M : Nat} {ρ : Nat → Nat} (h : RW W B M ρ) (hb : Below W.heap.size W W') : RW W' B M ρ := fun j hj =>
  ⟨(hb.cell (p := ⟨B, j, none⟩) h.lt).trans (h j hj).1, (hb.frozen (p := ⟨B, j, none⟩) h.lt).trans (h j hj).2⟩
theorem RW.other {W : World} {B B' M q : Nat} {ρ : Nat → Nat} {v : Value} (h : RW W B M ρ) (hn : B' ≠ B) : RW (W.setCell ⟨B', q, none⟩ v) B M ρ := fun j hj =>
  ⟨(World.cell?_setCell_other _ _ _ _ (fun e => hn (by injection e))).trans (h j hj).1, by rw [World.frozen?_setCell]; exact (h j hj).2⟩
theorem RW.step0 {W : World} {B M i k : Nat} {c : Nat → Nat → Nat} (h : RW W B M (fun j => if j ≤ k then diM c (i + 1) j else 0)) (hk : k < M) {v : Int} (hv : v = (diM c (i + 1) (k + 1) : Nat)) :
    RW (W.setCell ⟨B, k + 1, none⟩ (.int .i64 v)) B M (fun j => if j ≤ k + 1 then diM c (i + 1) j else 0) := by
  subst hv
  refine (h.set (q := k + 1) hk _).congr fun j _ => ?_
  by_cases e : j = k + 1
  · subst e; simp
  · by_cases e2 : j ≤ k
    · simp [e, e2, Nat.le_succ_of_le e2]
    · have e3 : ¬ j ≤ k + 1 := by omega
      simp [e, e2, e3]
theorem cM_lets {x y : List Nat} {i k : Nat} (hi : i < x.length) (hk : k < y.length) (hx : x[i] < 2 ^ 53) :
    ∃ z, x[i] &&& y[k] = z ∧ z < 2 ^ 53 ∧ cM x y i k = if lets z = [] then 1 else 0 := by
  refine ⟨_, rfl, Nat.lt_of_le_of_lt Nat.and_le_left hx, ?_⟩
  have e : cM x y i k = if x[i] &&& y[k] = 0 then 1 else 0 := by unfold cM; simp [hi, hk]
  rw [e]
  by_cases h : x[i] &&& y[k] = 0
  · rw [if_pos h, h, lets_zero, if_pos rfl]
  · rw [if_neg h, if_neg (lets_ne (Nat.lt_of_le_of_lt Nat.and_le_left hx) h)]
set_option maxRecDepth 100000 in
set_option maxHeartbeats 8000000 in
theorem rDist_any (w : World) (x y : List Nat) (b1 c1 b2 c2 : Nat) (hx : x.length ≤ 24) (hy : y.length ≤ 24) (hxb : ∀ m ∈ x, m < 2 ^ 53) (h1 : TxAt w b1 (x.map lets)) (h2 : TxAt w b2 (y.map lets)) :
    Calls Try.prog 23 #[.slice (some ⟨b1, 0, none⟩) x.length c1, .slice (some ⟨b2, 0, none⟩) y.length c2] w (RetB (.int .i64 (diM (cM x y) x.length y.length : Nat)) w) := by
  obtain ⟨i0, hi, hz0, hz1, hz2⟩ := info_parts infoI64
  have S1 := Lib.hid h1
  have S2 := Lib.hid h2
  have HXB := Lib.hid hxb
  clear h1 h2 hxb
  have hT : ((y.length : Int) + 1).toNat = y.length + 1 := by omega
  have HMK := Lib.hid (fun W => run_makeSlice W 68 3 i0 (.int .i64 0) Try.underlying68 hi hz0 .i64 .i64 ((y.length : Int) + 1) ((y.length : Int) + 1) (by omega) (by omega) (by rw [hz1]; omega) (by rw [hz2]; omega) (by omega))
  rw [hT, hz1] at HMK
  have hw1 : (Value.int IntKind.i64 0).cells = #[.int .i64 0] := rfl
  rw [hw1, Nat.mul_one] at HMK
  have R0 := Lib.hid (RW_made w y.length 3)
  have B0 := Lib.hid ((Below.refl _ w).alloc (Nat.le_refl _) (.cells (madeCells #[.int .i64 0] (y.length + 1)) 3))
  clear hT hw1
  go_enter Try.func23, Try.ntmps23
  have hmk := HMK.out w
  generalize hW0 : w.alloc (.cells (madeCells #[.int .i64 0] (y.length + 1)) 3) = W0 at *
  clear hW0
  go_wp2
  clear hmk
  go_loopw [6] (fun kv wr => ∃ k : Nat, k ≤ y.length + 1 ∧ kv = .int .i64 k ∧ Hid (RW wr w.heap.size y.length (fun j => if j < k then j else 0)) ∧ Hid (Below w.heap.size w wr)) (fun kv _ => y.length + 1 - (intOf kv).toNat)
  case atStart => exact ⟨0, Nat.zero_le _, rfl, Lib.hid (R0.out.congr (by simp)), B0⟩
  case round =>
    obtain ⟨k, hk, rfl, HR, HB⟩ := hrel
    by_cases hlt : k < y.length + 1
    · obtain ⟨q1, q2⟩ := HR.out k (by omega)
      have R1 := Lib.hid ((HR.out.set (q := k) (by omega) k).congr (ρ' := fun j => if j < k + 1 then j else 0) (fun j _ => by by_cases e : j = k; simp [e]; by_cases e2 : j < k; simp [e, e2, Nat.lt_succ_of_lt e2]; simp [e, e2]; omega))
      have B1 := Lib.hid (HB.out.setCell (p := ⟨w.heap.size, k, none⟩) (Nat.le_refl _) (.int .i64 (k : Nat)))
      have hle : (k : Int) ≤ (y.length : Int) := by omega
      go_wp2
      go_roundw
      case rel => exact ⟨k + 1, by omega, by go_num, R1, B1⟩
      case measure => simp [intOf]; omega
    · obtain rfl : k = y.length + 1 := by omega
      have R1 := Lib.hid (HR.out.congr (ρ' := diM (cM x y) 0) (fun j hj => by rw [if_pos (by omega)]; rfl))
      have hle : ¬ ((y.length + 1 : Nat) : Int) ≤ (y.length : Int) := by omega
      clear HR
      go_wp2
      go_loopw [5, 7] (fun rv iv wr => ∃ (i B : Nat), i ≤ x.length ∧ rv = .slice (some ⟨B, 0, none⟩) (y.length + 1) (y.length + 1) ∧ iv = .int .i64 ((i : Int) + 1) ∧ w.heap.size ≤ B ∧ Hid (RW wr B y.length (diM (cM x y) i)) ∧ Hid (Below w.heap.size w wr)) (fun _ iv _ => x.length + 1 - (intOf iv).toNat)
      case atStart => exact ⟨0, w.heap.size, Nat.zero_le _, rfl, rfl, Nat.le_refl _, R1, HB⟩
      case round =>
        obtain ⟨i, B, hi2, rfl, rfl, hB, HR, HBi⟩ := hrel
        by_cases hlt2 : i < x.length
        · have hle2 : (i : Int) + 1 ≤ (x.length : Int) := by omega
          have hmk := HMK.out wr
          have HR1 := Lib.hid (HR.out.below ((Below.refl _ wr).alloc (Nat.le_refl _) (.cells (madeCells #[.int .i64 0] (y.length + 1)) 3)))
          have N0 := Lib.hid (RW_made wr y.length 3)
          have hsz := HBi.out.size
          have B1 := Lib.hid (HBi.out.alloc hsz (.cells (madeCells #[.int .i64 0] (y.length + 1)) 3))
          have hBl := HR.out.lt
          obtain ⟨B', hB'⟩ : ∃ B', wr.heap.size = B' := ⟨_, rfl⟩
          rw [hB'] at hmk N0 hsz hBl
          generalize hW1 : wr.alloc (.cells (madeCells #[.int .i64 0] (y.length + 1)) 3) = W1 at *
          clear hW1 hB' HR HBi
          obtain ⟨q1, q2⟩ := N0.out 0 (Nat.zero_le _)
          have N1 := Lib.hid ((N0.out.set (q := 0) (Nat.zero_le _) (i + 1)).congr (ρ' := fun j => if j ≤ 0 then diM (cM x y) (i + 1) j else 0) (fun j _ => by by_cases e : j = 0; simp [e, diM_i0]; simp [e]))
          have HR2 := Lib.hid (HR1.out.other (q := 0) (v := .int .i64 ((i : Int) + 1)) (show B' ≠ B by omega))
          have B2 := Lib.hid (B1.out.setCell (p := ⟨B', 0, none⟩) hsz (.int .i64 ((i : Int) + 1)))
          go_wp2
          go_loopw [9] (fun kv wi => ∃ k : Nat, k ≤ y.length ∧ kv = .int .i64 ((k : Int) + 1) ∧ Hid (RW wi B y.length (diM (cM x y) i)) ∧ Hid (RW wi B' y.length (fun j => if j ≤ k then diM (cM x y) (i + 1) j else 0)) ∧ Hid (Below w.heap.size w wi)) (fun kv _ => y.length + 1 - (intOf kv).toNat)
          case atStart => exact ⟨0, Nat.zero_le _, rfl, HR2, N1, B2⟩
          case round =>
            obtain ⟨k, hk3, rfl, HRi, HNi, HBi⟩ := hrel
            by_cases hlt3 : k < y.length
            · have hle3 : (k : Int) + 1 ≤ (y.length : Int) := by omega
              have a1 := (S1.out.below HBi.out).2 i (lets x[i]) (by simp [hlt2])
              have a2 := (S2.out.below HBi.out).2 k (lets y[k]) (by simp [hlt3])
              have w1 : IntKind.i64.wrap (i : Int) = (i : Int) := by rw [IntKind.wrap_i64]; omega
              have w2 : IntKind.i64.wrap (k : Int) = (k : Int) := by rw [IntKind.wrap_i64]; omega
              have d1 : (i : Int) < (x.length : Int) := by omega
              have d2 : (k : Int) < (y.length : Int) := by omega
              go_wp2
              go_still_tail 10, (by kernel_rfl)
              change wpList _ _ _ _ _ wr.drew
              generalize hwd : wr.drew = wd
              have HRd := Lib.hid (show RW wd B y.length (diM (cM x y) i) by rw [← hwd]; exact HRi.out)
              have HNd := Lib.hid (show RW wd B' y.length (fun j => if j ≤ k then diM (cM x y) (i + 1) j else 0) by rw [← hwd]; exact HNi.out)
              have HBd := Lib.hid (show Below w.heap.size w wd by rw [← hwd]; exact below_n HBi.out 1)
              clear hwd HRi HNi HBi a1 a2
              have bx := HXB.out _ (List.getElem_mem hlt2)
              have HBo := Lib.hid (fun W => both_any (lets x[i]) (lets y[k]) W (Nat.le_trans (lets_len _) (by omega)) (Nat.le_trans (lets_len _) (by omega)))
              rw [lets_and] at HBo
              obtain ⟨z, hzz, hzl, hzc⟩ := cM_lets (x := x) (y := y) hlt2 hlt3 bx
              rw [hzz] at HBo
              have HCM := Lib.hid hzc
              generalize lets x[i] = X1 at *
              generalize lets y[k] = X2 at *
              generalize lets z = Z at *
              clear hzz bx hzl hzc
              have HSS := Lib.hid (diM_ss (c := cM x y) i k)
              have HL1 := diM_le (c := cM x y) i k
              have HL2 := diM_le (c := cM x y) (i + 1) k
              have HL3 := diM_le (c := cM x y) i (k + 1)
              obtain ⟨P, hP⟩ : ∃ P, diM (cM x y) i k = P := ⟨_, rfl⟩
              obtain ⟨Q, hQ⟩ : ∃ Q, diM (cM x y) (i + 1) k = Q := ⟨_, rfl⟩
              obtain ⟨R, hRr⟩ : ∃ R, diM (cM x y) i (k + 1) = R := ⟨_, rfl⟩
              obtain ⟨N, hN⟩ : ∃ N, diM (cM x y) (i + 1) (k + 1) = N := ⟨_, rfl⟩
              rw [hP, hQ, hRr, hN] at HSS
              rw [hP] at HL1
              rw [hQ] at HL2
              rw [hRr] at HL3
              have HP := Lib.hid hP
              have HQ := Lib.hid hQ
              have HRr := Lib.hid hRr
              have HN := Lib.hid hN
              clear hP hQ hRr hN
              cases Z with
              | nil =>
                go_wp2_with (go_at_call 45; refine (HBo.out _).mono ?_; rintro e w2 ⟨rfl, hb2⟩)
                have hs2 := hb2.size
                have HRe := Lib.hid (HRd.out.below hb2)
                have HNe := Lib.hid (HNd.out.below hb2)
                have HBe := Lib.hid (HBd.out.trans (hb2.mono HBd.out.size))
                clear HRd HNd HBd
                obtain ⟨r1, -⟩ := HRe.out (k + 1) hlt3
                obtain ⟨r3, -⟩ := HRe.out k (by omega)
                obtain ⟨r2, -⟩ := HNe.out k (by omega)
                obtain ⟨-, r4⟩ := HNe.out (k + 1) hlt3
                simp only [if_pos (Nat.le_refl k)] at r2
                rw [HP.out] at r3
                rw [HQ.out] at r2
                rw [HRr.out] at r1
                have d3 : (k : Int) < (y.length : Int) + 1 := by omega
                have d4 : (k : Int) + 1 < (y.length : Int) + 1 := by omega
                have d5 : ¬ y.length + 1 ≤ k := by omega
                have d6 : ¬ y.length + 1 ≤ k + 1 := by omega
                have d7 : (0 : Int) ≤ (k : Int) + 1 := by omega
                have d8 : k < y.length + 1 := by omega
                have d9 : k + 1 < y.length + 1 := by omega
                have w3 : IntKind.i64.wrap ((Q : Int) + 1) = (Q : Int) + 1 := by rw [IntKind.wrap_i64]; omega
                have w4 : IntKind.i64.wrap ((R : Int) + 1) = (R : Int) + 1 := by rw [IntKind.wrap_i64]; omega
                have w5 : IntKind.i64.wrap ((P : Int) + 1) = (P : Int) + 1 := by rw [IntKind.wrap_i64]; omega
                have w6 : ((k : Int) + 1).toNat = k + 1 := by omega
                have w7 : IntKind.i64.wrap (P : Int) = (P : Int) := by rw [IntKind.wrap_i64]; omega
                go_still_tail 22, (by kernel_rfl)
                change wpList _ _ _ _ _ w2.drew
                generalize hwe : w2.drew = we
                have HRf := Lib.hid (show RW we B y.length (diM (cM x y) i) by rw [← hwe]; exact HRe.out)
                have HNf := Lib.hid (show RW we B' y.length (fun j => if j ≤ k then diM (cM x y) (i + 1) j else 0) by rw [← hwe]; exact HNe.out)
                have HBf := Lib.hid (show Below w.heap.size w we by rw [← hwe]; exact below_n HBe.out 1)
                obtain ⟨g3, g4⟩ := HNf.out (k + 1) hlt3
                clear hwe HRe HNe HBe r1 r2 r3 r4
                have HMN : (if (P : Int) + 1 < if Q < R then (Q : Int) + 1 else (R : Int) + 1 then (P : Int) + 1 else if Q < R then (Q : Int) + 1 else (R : Int) + 1) = (N : Int) := by
                  have h1 := HCM.out
                  have h2 := HSS.out
                  simp at h1
                  rw [h1] at h2
                  by_cases hq : Q < R
                  · simp only [if_pos hq]; split <;> omega
                  · simp only [if_neg hq]; split <;> omega
                go_wp2
                go_roundw
                case rel =>
                  exact ⟨k + 1, by omega, by go_num, Lib.hid (HRf.out.other (show B' ≠ B by omega)), Lib.hid (HNf.out.step0 hlt3 (by rw [HN.out])), Lib.hid (HBf.out.setCell (p := ⟨B', k + 1, none⟩) hsz _)⟩
                case measure => simp [intOf]; omega
              | cons z1 Z1 =>
                have hze : (z1 :: Z1).isEmpty = false := rfl
                go_wp2_with (go_at_call 45; refine (HBo.out _).mono ?_; rintro e w2 ⟨rfl, hb2⟩)
                have hs2 := hb2.size
                have HRe := Lib.hid (HRd.out.below hb2)
                have HNe := Lib.hid (HNd.out.below hb2)
                have HBe := Lib.hid (HBd.out.trans (hb2.mono HBd.out.size))
                clear HRd HNd HBd
                obtain ⟨r1, -⟩ := HRe.out (k + 1) hlt3
                obtain ⟨r3, -⟩ := HRe.out k (by omega)
                obtain ⟨r2, -⟩ := HNe.out k (by omega)
                obtain ⟨-, r4⟩ := HNe.out (k + 1) hlt3
                simp only [if_pos (Nat.le_refl k)] at r2
                rw [HP.out] at r3
                rw [HQ.out] at r2
                rw [HRr.out] at r1
                have d3 : (k : Int) < (y.length : Int) + 1 := by omega
                have d4 : (k : Int) + 1 < (y.length : Int) + 1 := by omega
                have d5 : ¬ y.length + 1 ≤ k := by omega
                have d6 : ¬ y.length + 1 ≤ k + 1 := by omega
                have d7 : (0 : Int) ≤ (k : Int) + 1 := by omega
                have d8 : k < y.length + 1 := by omega
                have d9 : k + 1 < y.length + 1 := by omega
                have w3 : IntKind.i64.wrap ((Q : Int) + 1) = (Q : Int) + 1 := by rw [IntKind.wrap_i64]; omega
                have w4 : IntKind.i64.wrap ((R : Int) + 1) = (R : Int) + 1 := by rw [IntKind.wrap_i64]; omega
                have w5 : IntKind.i64.wrap ((P : Int) + 1) = (P : Int) + 1 := by rw [IntKind.wrap_i64]; omega
                have w6 : ((k : Int) + 1).toNat = k + 1 := by omega
                have w7 : IntKind.i64.wrap (P : Int) = (P : Int) := by rw [IntKind.wrap_i64]; omega
                go_still_tail 22, (by kernel_rfl)
                change wpList _ _ _ _ _ w2.drew
                generalize hwe : w2.drew = we
                have HRf := Lib.hid (show RW we B y.length (diM (cM x y) i) by rw [← hwe]; exact HRe.out)
                have HNf := Lib.hid (show RW we B' y.length (fun j => if j ≤ k then diM (cM x y) (i + 1) j else 0) by rw [← hwe]; exact HNe.out)
                have HBf := Lib.hid (show Below w.heap.size w we by rw [← hwe]; exact below_n HBe.out 1)
                obtain ⟨g3, g4⟩ := HNf.out (k + 1) hlt3
                clear hwe HRe HNe HBe r1 r2 r3 r4
                have HMN : (if (P : Int) < if Q < R then (Q : Int) + 1 else (R : Int) + 1 then (P : Int) else if Q < R then (Q : Int) + 1 else (R : Int) + 1) = (N : Int) := by
                  have h1 := HCM.out
                  have h2 := HSS.out
                  simp at h1
                  rw [h1] at h2
                  by_cases hq : Q < R
                  · simp only [if_pos hq]; split <;> omega
                  · simp only [if_neg hq]; split <;> omega
                go_wp2
                go_roundw
                case rel =>
                  exact ⟨k + 1, by omega, by go_num, Lib.hid (HRf.out.other (show B' ≠ B by omega)), Lib.hid (HNf.out.step0 hlt3 (by rw [HN.out])), Lib.hid (HBf.out.setCell (p := ⟨B', k + 1, none⟩) hsz _)⟩
                case measure => simp [intOf]; omega
            · obtain rfl : k = y.length := by omega
              have hle3 : ¬ (y.length : Int) + 1 ≤ (y.length : Int) := by omega
              have R3 := Lib.hid (HNi.out.congr (ρ' := diM (cM x y) (i + 1)) (fun j hj => by rw [if_pos hj]))
              go_wp2
              go_roundw
              case rel => exact ⟨i + 1, B', by omega, rfl, by go_num, by omega, R3, HBi⟩
              case measure => simp [intOf]; omega
        · obtain rfl : i = x.length := by omega
          have hle2 : ¬ (x.length : Int) + 1 ≤ (x.length : Int) := by omega
          obtain ⟨q1, q2⟩ := HR.out y.length (Nat.le_refl _)
          go_wp2
          go_ret
          exact ⟨rfl, HBi.out⟩
end Go.Proofs.Ytfneafofohfdnaa
