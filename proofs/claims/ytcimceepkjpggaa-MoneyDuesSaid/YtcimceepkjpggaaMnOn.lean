/-
  The rate of a class on a day (package money): a contract for all worlds in which the tariff lies.
-/
import Derived.Test.YtcimceepkjpggaaTrf
namespace Go.Proofs.Ytcimceepkjpggaa
open Go.RowKit
attribute [local go_sem] set_drewN
/-- the last rate by a day: its first day, its cents -/
def onS (d : Int) : List Ra → Int × Int → Int × Int
  | [], s => s
  | r :: l, s => onS d l (if s.1 < r.fr ∧ r.fr ≤ d then (r.fr, r.ct) else s)
theorem onS_snoc (d : Int) : ∀ (l : List Ra) (r : Ra) (s : Int × Int), onS d (l ++ [r]) s = if (onS d l s).1 < r.fr ∧ r.fr ≤ d then (r.fr, r.ct) else onS d l s
  | [], _, _ => rfl
  | x :: l, r, s => by rw [List.cons_append, onS, onS_snoc d l r, onS]
theorem onS_succ {d : Int} {l : List Ra} {k : Nat} (h : k < l.length) : onS d (l.take (k + 1)) (-1, 0) = if (onS d (l.take k) (-1, 0)).1 < l[k].fr ∧ l[k].fr ≤ d then (l[k].fr, l[k].ct) else onS d (l.take k) (-1, 0) := by
  rw [List.take_succ_eq_append_getElem h, onS_snoc]
def rateM (L : List Ra) (nm : ByteArray) (d : Int) : Int × Int := onS d (flt L nm) (-1, 0)
theorem ret2_i {a b a' b' : Int} (h : a = a') (h2 : b = b') : Ending.returned (two (.int .i64 a) (.int .i64 b)) = .returned (two (.int .i64 a') (.int .i64 b')) := by rw [h, h2]
/-- the box of the last one -/
def LB (B : Nat) (lf lc : Int) (W : World) : Prop := (∃ s, W.cell? ⟨B, 0, none⟩ = some (.string s)) ∧ W.cell? ⟨B, 1, none⟩ = some (.int .i64 lf) ∧ W.cell? ⟨B, 2, none⟩ = some (.int .i64 lc) ∧ W.frozen? ⟨B, 0, none⟩ = false ∧ W.frozen? ⟨B, 1, none⟩ = false ∧ W.frozen? ⟨B, 2, none⟩ = false
theorem LB.al {B : Nat} {lf lc : Int} {W : World} (h : LB B lf lc W) (o : Obj) : LB B lf lc (W.alloc o) := by
  obtain ⟨⟨s, h0⟩, h1, h2, f0, f1, f2⟩ := h
  have l := World.block_lt_of_cell? _ _ h0
  have hb := (Below.refl W.heap.size W).alloc (Nat.le_refl _) o
  exact ⟨⟨s, (hb.cell (p := ⟨B, 0, none⟩) l).trans h0⟩, (hb.cell (p := ⟨B, 1, none⟩) l).trans h1, (hb.cell (p := ⟨B, 2, none⟩) l).trans h2, (hb.frozen (p := ⟨B, 0, none⟩) l).trans f0, (hb.frozen (p := ⟨B, 1, none⟩) l).trans f1, (hb.frozen (p := ⟨B, 2, none⟩) l).trans f2⟩
theorem LB.set3 {B : Nat} {lf lc : Int} {W : World} (h : LB B lf lc W) (rn : ByteArray) (rf rc : Int) : LB B rf rc (((W.setCell ⟨B, 0, none⟩ (.string rn)).setCell ⟨B, 1, none⟩ (.int .i64 rf)).setCell ⟨B, 2, none⟩ (.int .i64 rc)) := by
  obtain ⟨⟨s, h0⟩, h1, h2, f0, f1, f2⟩ := h
  have n01 : (⟨B, 1, none⟩ : Addr) ≠ ⟨B, 0, none⟩ := by intro h; simp at h
  have n02 : (⟨B, 2, none⟩ : Addr) ≠ ⟨B, 0, none⟩ := by intro h; simp at h
  have n12 : (⟨B, 2, none⟩ : Addr) ≠ ⟨B, 1, none⟩ := by intro h; simp at h
  have a0 := World.cell?_setCell_same W ⟨B, 0, none⟩ (.string rn) h0
  have a1 := (World.cell?_setCell_other W ⟨B, 0, none⟩ ⟨B, 1, none⟩ (.string rn) n01.symm).trans h1
  have a2 := (World.cell?_setCell_other W ⟨B, 0, none⟩ ⟨B, 2, none⟩ (.string rn) n02.symm).trans h2
  generalize hW1 : W.setCell ⟨B, 0, none⟩ (.string rn) = W1 at *
  have b1 := World.cell?_setCell_same W1 ⟨B, 1, none⟩ (.int .i64 rf) a1
  have b0 := (World.cell?_setCell_other W1 ⟨B, 1, none⟩ ⟨B, 0, none⟩ (.int .i64 rf) n01).trans a0
  have b2 := (World.cell?_setCell_other W1 ⟨B, 1, none⟩ ⟨B, 2, none⟩ (.int .i64 rf) n12.symm).trans a2
  have g : ∀ x, W1.frozen? x = W.frozen? x := fun x => by rw [← hW1]; exact World.frozen?_setCell _ _ _ _
  generalize hW2 : W1.setCell ⟨B, 1, none⟩ (.int .i64 rf) = W2 at *
  have g2 : ∀ x, W2.frozen? x = W1.frozen? x := fun x => by rw [← hW2]; exact World.frozen?_setCell _ _ _ _
  refine ⟨⟨rn, (World.cell?_setCell_other W2 ⟨B, 2, none⟩ ⟨B, 0, none⟩ _ n02).trans b0⟩, (World.cell?_setCell_other W2 ⟨B, 2, none⟩ ⟨B, 1, none⟩ _ n12).trans b1, World.cell?_setCell_same W2 _ _ b2, ?_, ?_, ?_⟩
  · exact (World.frozen?_setCell _ _ _ _).trans ((g2 _).trans ((g _).trans f0))
  · exact (World.frozen?_setCell _ _ _ _).trans ((g2 _).trans ((g _).trans f1))
  · exact (World.frozen?_setCell _ _ _ _).trans ((g2 _).trans ((g _).trans f2))
set_option maxRecDepth 100000 in
set_option maxHeartbeats 4000000 in
theorem on_any (L : List Ra) (BM : Nat) (nm : ByteArray) (d : Int) (w : World) (hT : TA L BM w) (hs : nm.size ≤ maxLen) (hl : L.length ≤ 200) :
    Calls Try.prog 53 #[.map (some BM), .string nm, .int .i64 d] w (RetB (two (.int .i64 (rateM L nm d).2) (.int .i64 (eI (decide ((rateM L nm d).1 < 0)) 6))) w) := by
  obtain ⟨v, hv, hlk⟩ := hT nm hs
  have hX : (flt L nm).length ≤ 200 := Nat.le_trans (flt_len L nm) hl
  unfold rateM
  generalize flt L nm = X at *
  obtain ⟨a, cp, rfl, -, hp⟩ := hv
  have HP := Lib.hid hp
  have hlk1 := hlk (w.alloc (.cells #[.string ⟨#[]⟩, .int .i64 (-1), .int .i64 0] 34)) ((Below.refl _ _).alloc (Nat.le_refl _) _)
  have HB0 := Lib.hid (show LB w.heap.size (-1) 0 (w.alloc (.cells #[.string ⟨#[]⟩, .int .i64 (-1), .int .i64 0] 34)) from by
    refine ⟨⟨⟨#[]⟩, ?_⟩, ?_, ?_, ?_, ?_, ?_⟩ <;> simp [go_sem])
  clear hp hlk hT
  go_enter Try.func53, Try.ntmps53
  go_wp2
  go_loopw [16] (fun iv wr => ∃ (k : Nat) (lf lc : Int), k ≤ X.length ∧ iv = .int .i64 k ∧ Hid (onS d (X.take k) (-1, 0) = (lf, lc)) ∧ Hid (LB w.heap.size lf lc wr) ∧ Hid (Below w.heap.size w wr)) (fun iv _ => X.length - (intOf iv).toNat)
  case atStart => exact ⟨0, -1, 0, Nat.zero_le _, rfl, Lib.hid rfl, HB0, Lib.hid ((Below.refl _ _).alloc (Nat.le_refl _) _)⟩
  case round =>
    obtain ⟨k, lf, lc, hk, rfl, HS, HL, HB⟩ := hrel
    have hsz := HB.out.size
    obtain ⟨⟨s0, b0⟩, b1, b2, f0, f1, f2⟩ := HL.out
    have hlw := World.block_lt_of_cell? _ _ b0
    by_cases hlt : k < X.length
    · have hne : X ≠ [] := by rintro rfl; simp at hlt
      obtain ⟨b, o, rfl, hd⟩ := HP.out hne
      have hd2 := (hd.below HB.out).2 k hlt
      have c0 := hd2 0 _ rfl
      have c1 := hd2 1 _ rfl
      have c2 := hd2 2 _ rfl
      rw [Nat.add_zero] at c0
      have hs1 := onS_succ (d := d) hlt
      rw [HS.out] at hs1
      simp only at hs1
      clear hd hd2 hlk1
      generalize X[k] = r at *
      obtain ⟨rn, rf, rc⟩ := r
      simp only at c0 c1 c2 hs1
      have HLA := Lib.hid (HL.out.al (.cells #[.string rn, .int .i64 rf, .int .i64 rc] 34))
      by_cases h1 : lf < rf
      · by_cases h2 : rf ≤ d
        · rw [if_pos ⟨h1, h2⟩] at hs1
          have H1 := Lib.hid hs1
          clear hs1
          go_wp2
          go_roundw
          case rel => exact ⟨k + 1, rf, rc, by omega, by go_num, H1, Lib.hid ((HL.out.set3 rn rf rc).al _), Lib.hid ((((HB.out.setCell (Nat.le_refl _) _).setCell (Nat.le_refl _) _).setCell (Nat.le_refl _) _).alloc (by simpa using hsz) _)⟩
          case measure => simp [intOf]; omega
        · rw [if_neg (fun h => h2 h.2)] at hs1
          have H1 := Lib.hid hs1
          have d2 : decide (rf ≤ d) = false := decide_eq_false h2
          clear hs1
          go_wp2
          go_roundw
          case rel => exact ⟨k + 1, lf, lc, by omega, by go_num, H1, HLA, Lib.hid (HB.out.alloc hsz _)⟩
          case measure => simp [intOf]; omega
      · rw [if_neg (fun h => h1 h.1)] at hs1
        have H1 := Lib.hid hs1
        have d1 : decide (lf < rf) = false := decide_eq_false h1
        clear hs1
        go_wp2
        go_roundw
        case rel => exact ⟨k + 1, lf, lc, by omega, by go_num, H1, HLA, Lib.hid (HB.out.alloc hsz _)⟩
        case measure => simp [intOf]; omega
    · obtain rfl : k = X.length := by omega
      have HS2 := Lib.hid (show onS d X (-1, 0) = (lf, lc) by have := HS.out; rwa [List.take_of_length_le (Nat.le_refl _)] at this)
      go_wp2_with fail
      go_quiet (first | (go_at_call 59; exact Calls.quiet_of_same (same_n (nErrorIf_any _ _ _))))
      go_wp2
      go_ret2
      exact ⟨ret2_i (by rw [HS2.out]) (by rw [HS2.out]), below_n HB.out _⟩
end Go.Proofs.Ytcimceepkjpggaa
