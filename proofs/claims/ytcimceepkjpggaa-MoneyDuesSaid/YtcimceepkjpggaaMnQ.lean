/-
  The check of units (package money): the closure that keeps the greatest; a contract for all worlds and lists.
-/
import Derived.Test.YtcimceepkjpggaaMnG
import Derived.Laws.EntriesVeiled
namespace Go.Proofs.Ytcimceepkjpggaa
open Go.RowKit
attribute [local go_sem] set_drewN
theorem set_cell_same {W : World} {B : Nat} {x : Value} (v : Value) (hx : W.cell? ⟨B, 0, none⟩ = some x) : (W.setCell ⟨B, 0, none⟩ v).cell? ⟨B, 0, none⟩ = some v := World.cell?_setCell_same W ⟨B, 0, none⟩ v hx
theorem sh1_any (n m : Int) (Bm : Nat) (w : World) (hc : BoxI Bm m w) (hf : w.frozen? ⟨Bm, 0, none⟩ = false) : Calls Try.prog 77 #[.int .i64 n, .pointer (some ⟨Bm, 0, none⟩)] w
    fun e w' => e = .returned (.int .i64 (eI (!inB n 0 1000000) 2)) ∧ w' = w.setCell ⟨Bm, 0, none⟩ (.int .i64 (max m n)) := by
  unfold BoxI at hc
  rcases (show m < n ∨ n ≤ m by omega) with h | h
  · rw [show max m n = n by omega]
    go_enter Try.func77, Try.ntmps77
    go_wp2_with (first
      | (go_at_call 60; refine (nIsFromTo_any _ _ _ _).mono ?_; rintro e w' ⟨rfl, rfl⟩)
      | (go_at_call 59; refine (nErrorIf_any _ _ _).mono ?_; rintro e w' ⟨rfl, rfl⟩))
    go_ret
    exact ⟨rfl, rfl⟩
  · rw [show max m n = m by omega]
    go_enter Try.func77, Try.ntmps77
    go_wp2_with (first
      | (go_at_call 60; refine (nIsFromTo_any _ _ _ _).mono ?_; rintro e w' ⟨rfl, rfl⟩)
      | (go_at_call 59; refine (nErrorIf_any _ _ _).mono ?_; rintro e w' ⟨rfl, rfl⟩))
    go_ret
    exact ⟨rfl, rfl⟩
/-- the greatest of some numbers and m -/
def maxL (m : Int) : List Int → Int
  | [] => m
  | x :: l => maxL (max m x) l
theorem maxL_snoc : ∀ (m : Int) (l : List Int) (x : Int), maxL m (l ++ [x]) = max (maxL m l) x
  | _, [], _ => rfl
  | m, y :: l, x => by rw [List.cons_append, maxL, maxL, maxL_snoc]
theorem maxL_succ {m : Int} {l : List Int} {k : Nat} (h : k < l.length) : maxL m (l.take (k + 1)) = max (maxL m (l.take k)) l[k] := by
  rw [List.take_succ_eq_append_getElem h, maxL_snoc]
def unE (n : Int) : Int := eI (!inB n 0 1000000) 2
def unsE (l : List Int) : Int := if 40 < l.length then 8 else feE (l.map unE)
theorem un_take_ok {l : List Int} {k : Nat} (h : k < l.length) (ha : ∀ x ∈ (l.map unE).take k, x = 0) (hx : unE l[k] = 0) : ∀ x ∈ (l.map unE).take (k + 1), x = 0 :=
  mem_take_succ (xs := l.map unE) (by simpa using h) ha (by simpa using hx)
theorem un_bad {l : List Int} {k : Nat} (h : k < l.length) (ha : ∀ x ∈ (l.map unE).take k, x = 0) (hx : unE l[k] ≠ 0) : feE (l.map unE) = unE l[k] := by
  have := feE_no (xs := l.map unE) (k := k) (by simpa using h) ha (by simpa using hx)
  simpa using this
theorem un_all {l : List Int} (ha : ∀ x ∈ (l.map unE).take l.length, x = 0) : feE (l.map unE) = 0 :=
  feE_ok (by rwa [List.take_of_length_le (by simp)] at ha)
abbrev shF (B : Nat) : Value := .func (.func 77) #[] #[.pointer (some ⟨B, 0, none⟩)]
set_option maxRecDepth 100000 in
set_option maxHeartbeats 2000000 in
theorem each_int (L : List Int) (v : Value) (Bm : Nat) (w : World) (hl : L.length ≤ 1000000000000) (hv : LI w v L) (hs : L ≠ [] → ∀ b n c, v = .slice (some ⟨b, 0, none⟩) n c → b ≠ Bm) (hc : BoxI Bm 0 w) (hf : w.frozen? ⟨Bm, 0, none⟩ = false) :
    Calls Try.prog 76 #[v, .int .i64 40, shF Bm] w fun e w' => ∃ m, e = .returned (.int .i64 (unsE L)) ∧ w.grownBy w' (some Bm) ∧ BoxI Bm m w' ∧ (unsE L = 0 → m = maxL 0 L) := by
  obtain ⟨a, cp, rfl, hp⟩ := hv
  have HP := Lib.hid hp
  have HS := Lib.hid hs
  have HC := Lib.hid hc
  have HF := Lib.hid hf
  clear hp hs hc hf
  by_cases h2 : 40 < L.length
  · have e : unsE L = 8 := by unfold unsE; rw [if_pos h2]
    rw [e]
    clear e
    go_enter Try.func76, Try.ntmps76
    go_wp2
    go_ret
    exact ⟨0, rfl, gb_refl _ _, HC.out, fun h => by cases h⟩
  · have e : unsE L = feE (L.map unE) := by unfold unsE; rw [if_neg h2]
    obtain ⟨R, hR⟩ : ∃ R, feE (L.map unE) = R := ⟨_, rfl⟩
    rw [e, hR]
    have HR := Lib.hid hR
    have d40 : decide (40 < L.length) = false := decide_eq_false h2
    clear e hR
    go_enter Try.func76, Try.ntmps76
    go_wp2
    go_loopw [16] (fun i wr => ∃ (k : Nat) (m : Int), k ≤ L.length ∧ i = .int .i64 k ∧ Hid (∀ x ∈ (L.map unE).take k, x = 0) ∧ Hid (maxL 0 (L.take k) = m) ∧ Hid (BoxI Bm m wr) ∧ Hid (wr.frozen? ⟨Bm, 0, none⟩ = false) ∧ Hid (w.grownBy wr (some Bm))) (fun i _ => L.length - (intOf i).toNat)
    case atStart => exact ⟨0, 0, Nat.zero_le _, rfl, Lib.hid (by simp), Lib.hid rfl, Lib.hid HC.out, Lib.hid HF.out, Lib.hid (gb_refl _ _)⟩
    case round =>
      obtain ⟨k, m, hk, rfl, HA, HM, HB, HZ, HG⟩ := hrel
      by_cases hlt : k < L.length
      · have hne : L ≠ [] := by rintro rfl; simp at hlt
        obtain ⟨b, rfl, hbl, hd⟩ := HP.out hne
        have hnb := HS.out hne b _ _ rfl
        have c0 := HG.out.cell (hd k hlt) (fun e => hnb (Option.some.inj e))
        have CK := Lib.hid (fun x => sh1_any x m Bm wr HB.out HZ.out)
        have MS := Lib.hid (show maxL 0 (L.take (k + 1)) = max m L[k] by rw [maxL_succ hlt, HM.out])
        have hz' : unE L[k] = eI (!inB L[k] 0 1000000) 2 := rfl
        clear hd hnb
        by_cases hz : unE L[k] = 0
        · have HA2 := Lib.hid (un_take_ok hlt HA.out hz)
          rw [hz'] at hz
          have HZ2 := Lib.hid hz
          clear hz hz'
          generalize L[k] = X at *
          go_wp2_with (go_at_call 77; refine (CK.out _).mono ?_; rintro e w2 ⟨rfl, rfl⟩; rw [HZ2.out])
          go_roundw
          case rel => exact ⟨k + 1, _, by omega, by go_num, HA2, MS, Lib.hid (set_cell_same _ HB.out), Lib.hid ((World.frozen?_setCell _ _ _ _).trans HZ.out), Lib.hid (HG.out.trans (gb_set _))⟩
          case measure => simp [intOf]; omega
        · have HRk := (un_bad hlt HA.out hz).symm.trans HR.out
          rw [hz'] at hz HRk
          have HZ2 := Lib.hid HRk
          have hz2 : ¬ R = 0 := fun h => hz (HRk.trans h)
          have hzb : (R != 0) = true := by simpa using hz2
          clear hz hz' HRk
          generalize L[k] = X at *
          go_wp2_with (go_at_call 77; refine (CK.out _).mono ?_; rintro e w2 ⟨rfl, rfl⟩; rw [HZ2.out])
          go_ret
          exact ⟨_, rfl, HG.out.trans (gb_set _), set_cell_same _ HB.out, fun h => absurd h hz2⟩
      · obtain rfl : k = L.length := by omega
        have e0 : R = 0 := HR.out.symm.trans (un_all HA.out)
        subst e0
        have HM2 := Lib.hid (show maxL 0 L = m by have := HM.out; rwa [List.take_of_length_le (Nat.le_refl _)] at this)
        go_wp2
        go_ret
        first
          | exact ⟨m, rfl, HG.out, HB.out, fun _ => HM2.out.symm⟩
          | exact ⟨rfl, HG.out, by rw [HM2.out]; exact HB.out⟩
end Go.Proofs.Ytcimceepkjpggaa
