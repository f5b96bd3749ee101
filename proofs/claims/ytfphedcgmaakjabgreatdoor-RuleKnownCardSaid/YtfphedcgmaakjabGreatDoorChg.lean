/-
  What Changes of package rule returns: contracts, over the contracts of what it calls.
-/
import Derived.Test.YtfphedcgmaakjabGreatDoorChgM2
import Derived.Test.YtfphedcgmaakjabGreatDoorIterL
import Derived.Test.YtfphedcgmaakjabGreatDoorHeld
import Derived.Deep.AppendLies
namespace Go.Proofs.YtfphedcgmaakjabGreatDoor
open Go.RowKit
attribute [local go_sem] set_drewN
theorem infoCh : (Tryz.prog.info? 86).map (fun i => (i.zero, i.size, i.bytes)) = some (some (.agg #[.int .i64 0, .int .i64 0, .bool false]), 3, 24) := by kernel_rfl
theorem ownsRow_below' {w w' : World} {base : Nat} {e : TypeId} {size n : Nat} {v : Value} {xs : List Value} (h : w.ownsRow base e size v n xs) (hb : Below w.heap.size w w') : w'.ownsRow base e size v n xs :=
  h.kept (row := none) ⟨hb.os, hb.tape, hb.output, hb.size, fun j hj _ => hb.block j hj⟩ (by cases v.ownBlock <;> simp)
theorem heap_new_at' {w : World} {o : Obj} {n : Nat} (h : n = w.heap.size) : (w.alloc o).heap[n]? = some o := by subst h; exact heap_alloc_new _ _
theorem grown_set (w : World) (a : Addr) (u : Value) : w.grownBy (w.setCell a u) (some a.block) :=
  ⟨rfl, rfl, rfl, by simp [World.setCell], fun k _ hne => Below.heap_setCell _ _ _ _ (fun e => hne (by rw [e]))⟩
/-- the box of what was before, and what lay before it -/
def ChgI (B0 : Nat) (w2 wr : World) (q : Int × Bool) : Prop :=
  Below B0 w2 wr ∧ B0 < wr.heap.size ∧ wr.cell? ⟨B0, 0, none⟩ = some (.int .i64 q.1) ∧ wr.cell? ⟨B0, 1, none⟩ = some (.bool q.2) ∧ wr.frozen? ⟨B0, 0, none⟩ = false ∧ wr.frozen? ⟨B0, 1, none⟩ = false
theorem ChgI.keep {B0 : Nat} {w2 wr W : World} {q : Int × Bool} (h : ChgI B0 w2 wr q) (hb : Below wr.heap.size wr W) : ChgI B0 w2 W q := by
  obtain ⟨h1, h2, h3, h4, h5, h6⟩ := h
  exact ⟨h1.trans (hb.mono (by omega)), Nat.lt_of_lt_of_le h2 hb.size, (hb.cell (p := ⟨B0, 0, none⟩) h2).trans h3, (hb.cell (p := ⟨B0, 1, none⟩) h2).trans h4, (hb.frozen (p := ⟨B0, 0, none⟩) h2).trans h5, (hb.frozen (p := ⟨B0, 1, none⟩) h2).trans h6⟩
theorem ChgI.grown {B0 : Nat} {w2 wr W : World} {q : Int × Bool} {row : Option Nat} (h : ChgI B0 w2 wr q) (hg : wr.grownBy W row) (hr : ∀ k, row = some k → B0 < k) : ChgI B0 w2 W q := by
  obtain ⟨h1, h2, h3, h4, h5, h6⟩ := h
  have e := hg.block B0 h2 (fun c => Nat.lt_irrefl _ (hr B0 c.symm))
  exact ⟨h1.grown hg (by omega) (fun k hk => Nat.le_of_lt (hr k hk)), Nat.lt_of_lt_of_le h2 hg.size, (World.cell?_of_block (a := ⟨B0, 0, none⟩) e).trans h3, (World.cell?_of_block (a := ⟨B0, 1, none⟩) e).trans h4, (World.frozen?_of_block (a := ⟨B0, 0, none⟩) e).trans h5, (World.frozen?_of_block (a := ⟨B0, 1, none⟩) e).trans h6⟩
theorem ChgI.set {B0 : Nat} {w2 wr : World} {q : Int × Bool} (h : ChgI B0 w2 wr q) (a : Int) (b : Bool) : ChgI B0 w2 ((wr.setCell ⟨B0, 0, none⟩ (.int .i64 a)).setCell ⟨B0, 1, none⟩ (.bool b)) (a, b) := by
  obtain ⟨h1, h2, h3, h4, h5, h6⟩ := h
  obtain ⟨g0, g1⟩ := cell_set2 h3 h4 (.int .i64 a) (.bool b)
  exact ⟨(h1.setCell (p := ⟨B0, 0, none⟩) (Nat.le_refl _) _).setCell (p := ⟨B0, 1, none⟩) (Nat.le_refl _) _, by simpa using h2, (World.cell?_setCell_other _ _ _ _ (by simp)).trans g0, g1, by rw [World.frozen?_setCell, World.frozen?_setCell]; exact h5, by rw [World.frozen?_setCell, World.frozen?_setCell]; exact h6⟩
theorem own_set {B0 base : Nat} {wr : World} {e : TypeId} {size n : Nat} {v : Value} {xs : List Value} (h : wr.ownsRow base e size v n xs) (hb : B0 < base) (a b : Value) : ((wr.setCell ⟨B0, 0, none⟩ a).setCell ⟨B0, 1, none⟩ b).ownsRow base e size v n xs := by
  have ne : v.ownBlock = none ∨ v.ownBlock ≠ some B0 := by
    cases hv : v.ownBlock with
    | none => exact .inl rfl
    | some k => right; intro c; have := (h.lt k hv).1; cases c; omega
  exact (h.kept (grown_set wr ⟨B0, 0, none⟩ a) ne).kept (grown_set _ ⟨B0, 1, none⟩ b) ne
/-- the box of the last change so far, and what lay before it -/
def LstI (B0 : Nat) (w2 wr : World) (d : Int) (q : Int × Bool) : Prop :=
  Below B0 w2 wr ∧ B0 < wr.heap.size ∧ wr.cell? ⟨B0, 0, none⟩ = some (.int .i64 d) ∧ wr.cell? ⟨B0, 1, none⟩ = some (.int .i64 q.1) ∧ wr.cell? ⟨B0, 2, none⟩ = some (.bool q.2) ∧ wr.frozen? ⟨B0, 0, none⟩ = false ∧ wr.frozen? ⟨B0, 1, none⟩ = false ∧ wr.frozen? ⟨B0, 2, none⟩ = false
theorem LstI.keep {B0 : Nat} {w2 wr W : World} {d : Int} {q : Int × Bool} (h : LstI B0 w2 wr d q) (hb : Below wr.heap.size wr W) : LstI B0 w2 W d q := by
  obtain ⟨h1, h2, h3, h4, h5, h6, h7, h8⟩ := h
  exact ⟨h1.trans (hb.mono (by omega)), Nat.lt_of_lt_of_le h2 hb.size, (hb.cell (p := ⟨B0, 0, none⟩) h2).trans h3, (hb.cell (p := ⟨B0, 1, none⟩) h2).trans h4, (hb.cell (p := ⟨B0, 2, none⟩) h2).trans h5,
    (hb.frozen (p := ⟨B0, 0, none⟩) h2).trans h6, (hb.frozen (p := ⟨B0, 1, none⟩) h2).trans h7, (hb.frozen (p := ⟨B0, 2, none⟩) h2).trans h8⟩
theorem LstI.grown {B0 : Nat} {w2 wr W : World} {d : Int} {q : Int × Bool} {row : Option Nat} (h : LstI B0 w2 wr d q) (hg : wr.grownBy W row) (hr : ∀ k, row = some k → B0 < k) : LstI B0 w2 W d q := by
  obtain ⟨h1, h2, h3, h4, h5, h6, h7, h8⟩ := h
  have e := hg.block B0 h2 (fun c => Nat.lt_irrefl _ (hr B0 c.symm))
  exact ⟨h1.grown hg (by omega) (fun k hk => Nat.le_of_lt (hr k hk)), Nat.lt_of_lt_of_le h2 hg.size, (World.cell?_of_block (a := ⟨B0, 0, none⟩) e).trans h3, (World.cell?_of_block (a := ⟨B0, 1, none⟩) e).trans h4, (World.cell?_of_block (a := ⟨B0, 2, none⟩) e).trans h5,
    (World.frozen?_of_block (a := ⟨B0, 0, none⟩) e).trans h6, (World.frozen?_of_block (a := ⟨B0, 1, none⟩) e).trans h7, (World.frozen?_of_block (a := ⟨B0, 2, none⟩) e).trans h8⟩
theorem LstI.set {B0 : Nat} {w2 wr : World} {d' : Int} {q : Int × Bool} (h : LstI B0 w2 wr d' q) (d a : Int) (b : Bool) :
    LstI B0 w2 (((wr.setCell ⟨B0, 0, none⟩ (.int .i64 d)).setCell ⟨B0, 1, none⟩ (.int .i64 a)).setCell ⟨B0, 2, none⟩ (.bool b)) d (a, b) := by
  obtain ⟨h1, h2, h3, h4, h5, h6, h7, h8⟩ := h
  refine ⟨((h1.setCell (p := ⟨B0, 0, none⟩) (Nat.le_refl _) _).setCell (p := ⟨B0, 1, none⟩) (Nat.le_refl _) _).setCell (p := ⟨B0, 2, none⟩) (Nat.le_refl _) _, by simpa using h2, ?_, ?_, ?_, ?_, ?_, ?_⟩
  · exact (World.cell?_setCell_other _ _ _ _ (by simp)).trans ((World.cell?_setCell_other _ _ _ _ (by simp)).trans (World.cell?_setCell_same _ _ _ h3))
  · exact (World.cell?_setCell_other _ _ _ _ (by simp)).trans (World.cell?_setCell_same _ _ _ ((World.cell?_setCell_other _ _ _ _ (by simp)).trans h4))
  · exact World.cell?_setCell_same _ _ _ ((World.cell?_setCell_other _ _ _ _ (by simp)).trans ((World.cell?_setCell_other _ _ _ _ (by simp)).trans h5))
  · rw [World.frozen?_setCell, World.frozen?_setCell, World.frozen?_setCell]; exact h6
  · rw [World.frozen?_setCell, World.frozen?_setCell, World.frozen?_setCell]; exact h7
  · rw [World.frozen?_setCell, World.frozen?_setCell, World.frozen?_setCell]; exact h8
theorem own_set3 {B0 base : Nat} {wr : World} {e : TypeId} {size n : Nat} {v : Value} {xs : List Value} (h : wr.ownsRow base e size v n xs) (hb : B0 < base) (a b c : Value) : (((wr.setCell ⟨B0, 0, none⟩ a).setCell ⟨B0, 1, none⟩ b).setCell ⟨B0, 2, none⟩ c).ownsRow base e size v n xs := by
  have ne : v.ownBlock = none ∨ v.ownBlock ≠ some B0 := by
    cases hv : v.ownBlock with
    | none => exact .inl rfl
    | some k => right; intro c; have := (h.lt k hv).1; cases c; omega
  exact ((h.kept (grown_set wr ⟨B0, 0, none⟩ a) ne).kept (grown_set _ ⟨B0, 1, none⟩ b) ne).kept (grown_set _ ⟨B0, 2, none⟩ c) ne
set_option maxRecDepth 100000 in
set_option maxHeartbeats 4000000 in
theorem Changes_err (sv : Value) (nm : ByteArray) (known : Int) (G : World → Prop) (hG : ∀ W W', G W → Below W.heap.size W W' → G W') (w : World) (g0 : G w) (C E : Int) (hE : E ≠ 0) (hr : feE [C, cdE [known]] = E)
    (cC : Hid (∀ W, G W → Calls Tryz.prog 39 #[sv] W (RetB (.int .i64 C) W))) :
    Calls Tryz.prog 22 #[sv, .string nm, .int .i64 known] w (RetB (two (.slice none 0 0) (.int .i64 E)) w) := by
  have hrb : (E != 0) = true := by simpa using hE
  have HR := Lib.hid hr
  clear hr
  go_enter Tryz.func22, Tryz.ntmps22
  go_wp2_with fail
  refine (cC.out _ g0).mono ?_
  rintro e w1 ⟨rfl, hb1⟩
  have G1 := hG _ _ g0 hb1
  have s1 := hb1.size
  go_wp2_with (first
    | (go_at_call 46; refine (check1 known _ _ _ (by simp [go_sem])).mono ?_; rintro e w' ⟨rfl, rfl⟩)
    | (go_at_call 30; refine (firstError_any [C, cdE [known]] _ 0 2 _ (by simp) (IntsAt.cons (by simp [go_sem]) (IntsAt.one (by simp [go_sem])))).mono ?_; rintro e w' ⟨rfl, rfl⟩; rw [HR.out])
    | fail)
  go_ret2
  exact ⟨rfl, ((hb1.alloc s1 _).alloc (by simp; omega) _)⟩
set_option maxRecDepth 100000 in
set_option maxHeartbeats 4000000 in
theorem Changes_none (sv : Value) (nm : ByteArray) (known : Int) (G : World → Prop) (hG : ∀ W W', G W → Below W.heap.size W W' → G W') (w : World) (g0 : G w) (L : List Int) (hL : L = []) (hd : inB known 0 200000 = true)
    (cC : Hid (∀ W, G W → Calls Tryz.prog 39 #[sv] W (RetB (.int .i64 0) W)))
    (cB : Hid (∀ W, G W → Calls Tryz.prog 47 #[sv, .string nm, .int .i64 known] W (DaysPost L W))) :
    Calls Tryz.prog 22 #[sv, .string nm, .int .i64 known] w (RetB (two (.slice none 0 0) (.int .i64 6)) w) := by
  subst hL
  have HR := Lib.hid (show feE [0, cdE [known]] = 0 by rw [cdE_1 hd]; rfl)
  go_enter Tryz.func22, Tryz.ntmps22
  go_wp2_with fail
  refine (cC.out _ g0).mono ?_
  rintro e w1 ⟨rfl, hb1⟩
  have G1 := hG _ _ g0 hb1
  have s1 := hb1.size
  go_wp2_with (first
    | (go_at_call 46; refine (check1 known _ _ _ (by simp [go_sem])).mono ?_; rintro e w' ⟨rfl, rfl⟩)
    | (go_at_call 30; refine (firstError_any [0, cdE [known]] _ 0 2 _ (by simp) (IntsAt.cons (by simp [go_sem]) (IntsAt.one (by simp [go_sem])))).mono ?_; rintro e w' ⟨rfl, rfl⟩; rw [HR.out])
    | fail)
  refine (cB.out _ (hG _ _ G1 (((Below.refl _ _).alloc (Nat.le_refl _) _).alloc (by simp) _))).mono ?_
  rintro e w2 ⟨v2, rfl, hc2, hb2⟩
  have B2 := Lib.hid (((hb1.alloc s1 _).alloc (by simp; omega) _).trans (hb2.mono (by simp; omega)))
  rcases hc2 with ⟨_, rfl⟩ | ⟨g, c, rfl, _, _, _⟩
  all_goals
    go_wp2
    go_ret2
    exact ⟨rfl, B2.out⟩
set_option maxRecDepth 100000 in
set_option maxHeartbeats 4000000 in
theorem Changes_ok (sv : Value) (nm : ByteArray) (known : Int) (G : World → Prop) (hG : ∀ W W', G W → Below W.heap.size W W' → G W') (w : World) (g0 : G w) (L : List Int) (hL : L ≠ []) (hl : L.length ≤ 1000) (hd : inB known 0 200000 = true) (H : Int → Int × Bool)
    (cC : Hid (∀ W, G W → Calls Tryz.prog 39 #[sv] W (RetB (.int .i64 0) W)))
    (cB : Hid (∀ W, G W → Calls Tryz.prog 47 #[sv, .string nm, .int .i64 known] W (DaysPost L W)))
    (cH : Hid (∀ W d, G W → Calls Tryz.prog 43 #[sv, .string nm, .agg #[.int .i64 d, .int .i64 known]] W (RetB (.agg #[.int .i64 (H d).1, .bool (H d).2]) W))) :
    Calls Tryz.prog 22 #[sv, .string nm, .int .i64 known] w (fun e w' => ∃ v, e = .returned (two v (.int .i64 0)) ∧ ChgAt w' w.heap.size v (chk H L L.length) ∧ Below w.heap.size w w') := by
  obtain ⟨i0, hi, hz0, hz1, hz2⟩ := info_parts infoCh
  have HR := Lib.hid (show feE [0, cdE [known]] = 0 by rw [cdE_1 hd]; rfl)
  go_enter Tryz.func22, Tryz.ntmps22
  go_wp2_with fail
  refine (cC.out _ g0).mono ?_
  rintro e w1 ⟨rfl, hb1⟩
  have G1 := hG _ _ g0 hb1
  have s1 := hb1.size
  go_wp2_with (first
    | (go_at_call 46; refine (check1 known _ _ _ (by simp [go_sem])).mono ?_; rintro e w' ⟨rfl, rfl⟩)
    | (go_at_call 30; refine (firstError_any [0, cdE [known]] _ 0 2 _ (by simp) (IntsAt.cons (by simp [go_sem]) (IntsAt.one (by simp [go_sem])))).mono ?_; rintro e w' ⟨rfl, rfl⟩; rw [HR.out])
    | fail)
  refine (cB.out _ (hG _ _ G1 (((Below.refl _ _).alloc (Nat.le_refl _) _).alloc (by simp) _))).mono ?_
  rintro e w2 ⟨v2, rfl, hc2, hb2⟩
  have B2 := Lib.hid (((hb1.alloc s1 _).alloc (by simp; omega) _).trans (hb2.mono (by simp; omega)))
  have G2 := Lib.hid (hG _ _ g0 B2.out)
  rcases hc2 with ⟨e, _⟩ | ⟨g, cap, rfl, hg1, hg2, hI⟩
  · exact absurd e hL
  have HI := Lib.hid hI
  have hln : ((L.length : Int) == 0) = false := by simpa using hL
  have hs2 := B2.out.size
  clear hb2 hI
  go_wp2
  go_loopw [10, 35] (fun v i wr => ∃ k : Nat, k ≤ L.length ∧ i = .int .i64 k ∧ wr.ownsRow (w2.heap.size + 1) 86 3 v (chk H L k).length (chcs (chk H L k)) ∧ NilC (chk H L k) v ∧ ChgI w2.heap.size w2 wr (prv H L k)) (fun _ i _ => L.length - (intOf i).toNat)
  case atStart => exact ⟨0, Nat.zero_le _, rfl, World.ownsRow_nil _ _ _ _, fun _ => rfl, (Below.refl _ _).alloc (Nat.le_refl _) _, by simp, by simp [go_sem, prv], by simp [go_sem, prv], by simp [go_sem], by simp [go_sem]⟩
  case round =>
    obtain ⟨k, hk, rfl, hown, hnil, hI⟩ := hrel
    have hB := hI.1
    have hsw := hI.2.1
    have CI := Lib.hid hI
    have HN := Lib.hid hnil
    have OW := Lib.hid hown
    have fl := chk_len H L k
    clear hnil hI hown
    by_cases hlt : k < L.length
    · have c0 : wr.cell? ⟨g, k, none⟩ = some (.int .i64 (L.getD k 0)) := by
        have := (hB.cell (p := ⟨g, 0 + k, none⟩) hg2).trans (HI.out k hlt)
        rw [Nat.zero_add] at this
        rw [this, List.getD_eq_getElem?_getD, List.getElem?_eq_getElem hlt]; rfl
      have GR := Lib.hid (hG _ _ G2.out (hB))
      have CH := Lib.hid (cH.out wr (L.getD k 0) GR.out)
      by_cases heq : H (L.getD k 0) = prv H L k
      · have SN := Lib.hid (chk_same heq)
        have PN := Lib.hid (show prv H L (k + 1) = prv H L k from heq)
        rw [heq] at CH
        generalize hq : prv H L k = q at *
        generalize L.getD k 0 = d at *
        clear heq hq
        obtain ⟨a, h⟩ := q
        simp only at CH
        go_wp2_with fail
        refine CH.out.mono ?_
        rintro e w3 ⟨rfl, hb3⟩
        have s3 := hb3.size
        have B4 := Lib.hid (hb3.alloc s3 (.cells #[.int .i64 a, .bool h] 79))
        have I4 := Lib.hid (CI.out.keep B4.out)
        have O4 := Lib.hid (ownsRow_below' OW.out B4.out)
        have I5 := Lib.hid (I4.out.set a h)
        have O5 := Lib.hid (own_set O4.out (Nat.lt_succ_self _) (.int .i64 a) (.bool h))
        obtain ⟨_, z9, z0, z1, y0, y1⟩ := I4.out
        simp only at z0 z1
        go_wp2
        go_roundw
        case rel => exact ⟨k + 1, by omega, by go_num, by rw [SN.out]; exact O5.out, by rw [SN.out]; exact HN.out, by rw [PN.out]; exact I5.out⟩
        case measure => simp [intOf]; omega
      · have SN := Lib.hid (chk_new heq)
        have PN := Lib.hid (show prv H L (k + 1) = H (L.getD k 0) from rfl)
        generalize hq : prv H L k = q at *
        generalize L.getD k 0 = d at *
        generalize hH : H d = r at *
        generalize chk H L k = F at *
        clear hq hH
        obtain ⟨a, h⟩ := r
        obtain ⟨pa, ph⟩ := q
        simp only at CH
        have cs : (h = ph ∧ (a == pa) = false) ∨ (h = true ∧ ph = false) ∨ (h = false ∧ ph = true) := by
          cases h <;> cases ph <;> simp at heq ⊢ <;> exact heq
        clear heq
        rcases cs with ⟨rfl, na⟩ | ⟨rfl, rfl⟩ | ⟨rfl, rfl⟩
        · go_wp2_with fail
          refine CH.out.mono ?_
          rintro e w3 ⟨rfl, hb3⟩
          have s3 := hb3.size
          have B4 := Lib.hid (hb3.alloc s3 (.cells #[.int .i64 a, .bool h] 79))
          have I4 := Lib.hid (CI.out.keep B4.out)
          have O4 := Lib.hid (ownsRow_below' OW.out B4.out)
          obtain ⟨_, z9, z0, z1, y0, y1⟩ := I4.out
          simp only at z0 z1
          simp only [World.size_alloc] at z9
          go_wp2_with (at_builtin; refine wpList_append_own _ rfl _ _ 51 rfl (w2.heap.size + 1) 86 i0 _ 3 24 Tryz.underlying51 hi hz0 hz1 hz2 rfl (by decide) _ _ _ rfl (O4.out.alloc _) ⟨w3.heap.size + 1, 0, none⟩ 1 1 [.int .i64 d, .int .i64 a, .bool h] rfl rfl ?c1 ?c2 ?c3 ?c4 ?c5 ?_)
          case c1 => exact World.news_of_block (cs := #[.int .i64 d, .int .i64 a, .bool h]) (heap_new_at' (by simp))
          case c2 => simp [Value.oneCell']
          case c3 => unfold maxLen; omega
          case c4 => omega
          case c5 => simp; omega
          intro v5 w5 hown5 hgrow5 _
          have I5 := Lib.hid ((I4.out.keep ((Below.refl _ _).alloc (Nat.le_refl _) _)).grown hgrow5 (fun k' e' => by have := (OW.out.lt k' e').1; omega))
          have e5 := hgrow5.block w3.heap.size (by simp; omega) (fun c => by have := (OW.out.lt _ c.symm).2; omega)
          have q0 : w5.cell? ⟨w3.heap.size, 0, none⟩ = some (.int .i64 a) := (World.cell?_of_block (a := ⟨w3.heap.size, 0, none⟩) e5).trans (by simp [go_sem])
          have q1 : w5.cell? ⟨w3.heap.size, 1, none⟩ = some (.bool h) := (World.cell?_of_block (a := ⟨w3.heap.size, 1, none⟩) e5).trans (by simp [go_sem])
          have I6 := Lib.hid (I5.out.set a h)
          have O6 := Lib.hid (own_set hown5 (Nat.lt_succ_self _) (.int .i64 a) (.bool h))
          obtain ⟨_, x9, x0, x1, u0, u1⟩ := I5.out
          simp only at x0 x1
          clear hown5 hgrow5
          go_wp2
          go_roundw
          case rel =>
            refine ⟨k + 1, by omega, by go_num, ?_, ?_, ?_⟩
            · rw [SN.out, chcs_app, chcs_one, List.length_append]; exact O6.out
            · rw [SN.out]; intro c; simp at c
            · rw [PN.out]; exact I6.out
          case measure => simp [intOf]; omega
        · go_wp2_with fail
          refine CH.out.mono ?_
          rintro e w3 ⟨rfl, hb3⟩
          have s3 := hb3.size
          have B4 := Lib.hid (hb3.alloc s3 (.cells #[.int .i64 a, .bool true] 79))
          have I4 := Lib.hid (CI.out.keep B4.out)
          have O4 := Lib.hid (ownsRow_below' OW.out B4.out)
          obtain ⟨_, z9, z0, z1, y0, y1⟩ := I4.out
          simp only at z0 z1
          simp only [World.size_alloc] at z9
          go_wp2_with (at_builtin; refine wpList_append_own _ rfl _ _ 51 rfl (w2.heap.size + 1) 86 i0 _ 3 24 Tryz.underlying51 hi hz0 hz1 hz2 rfl (by decide) _ _ _ rfl (O4.out.alloc _) ⟨w3.heap.size + 1, 0, none⟩ 1 1 [.int .i64 d, .int .i64 a, .bool true] rfl rfl ?c1 ?c2 ?c3 ?c4 ?c5 ?_)
          case c1 => exact World.news_of_block (cs := #[.int .i64 d, .int .i64 a, .bool true]) (heap_new_at' (by simp))
          case c2 => simp [Value.oneCell']
          case c3 => unfold maxLen; omega
          case c4 => omega
          case c5 => simp; omega
          intro v5 w5 hown5 hgrow5 _
          have I5 := Lib.hid ((I4.out.keep ((Below.refl _ _).alloc (Nat.le_refl _) _)).grown hgrow5 (fun k' e' => by have := (OW.out.lt k' e').1; omega))
          have e5 := hgrow5.block w3.heap.size (by simp; omega) (fun c => by have := (OW.out.lt _ c.symm).2; omega)
          have q0 : w5.cell? ⟨w3.heap.size, 0, none⟩ = some (.int .i64 a) := (World.cell?_of_block (a := ⟨w3.heap.size, 0, none⟩) e5).trans (by simp [go_sem])
          have q1 : w5.cell? ⟨w3.heap.size, 1, none⟩ = some (.bool true) := (World.cell?_of_block (a := ⟨w3.heap.size, 1, none⟩) e5).trans (by simp [go_sem])
          have I6 := Lib.hid (I5.out.set a true)
          have O6 := Lib.hid (own_set hown5 (Nat.lt_succ_self _) (.int .i64 a) (.bool true))
          obtain ⟨_, x9, x0, x1, u0, u1⟩ := I5.out
          simp only at x0 x1
          clear hown5 hgrow5
          go_wp2
          go_roundw
          case rel =>
            refine ⟨k + 1, by omega, by go_num, ?_, ?_, ?_⟩
            · rw [SN.out, chcs_app, chcs_one, List.length_append]; exact O6.out
            · rw [SN.out]; intro c; simp at c
            · rw [PN.out]; exact I6.out
          case measure => simp [intOf]; omega
        · go_wp2_with fail
          refine CH.out.mono ?_
          rintro e w3 ⟨rfl, hb3⟩
          have s3 := hb3.size
          have B4 := Lib.hid (hb3.alloc s3 (.cells #[.int .i64 a, .bool false] 79))
          have I4 := Lib.hid (CI.out.keep B4.out)
          have O4 := Lib.hid (ownsRow_below' OW.out B4.out)
          obtain ⟨_, z9, z0, z1, y0, y1⟩ := I4.out
          simp only at z0 z1
          simp only [World.size_alloc] at z9
          go_wp2_with (at_builtin; refine wpList_append_own _ rfl _ _ 51 rfl (w2.heap.size + 1) 86 i0 _ 3 24 Tryz.underlying51 hi hz0 hz1 hz2 rfl (by decide) _ _ _ rfl (O4.out.alloc _) ⟨w3.heap.size + 1, 0, none⟩ 1 1 [.int .i64 d, .int .i64 a, .bool false] rfl rfl ?c1 ?c2 ?c3 ?c4 ?c5 ?_)
          case c1 => exact World.news_of_block (cs := #[.int .i64 d, .int .i64 a, .bool false]) (heap_new_at' (by simp))
          case c2 => simp [Value.oneCell']
          case c3 => unfold maxLen; omega
          case c4 => omega
          case c5 => simp; omega
          intro v5 w5 hown5 hgrow5 _
          have I5 := Lib.hid ((I4.out.keep ((Below.refl _ _).alloc (Nat.le_refl _) _)).grown hgrow5 (fun k' e' => by have := (OW.out.lt k' e').1; omega))
          have e5 := hgrow5.block w3.heap.size (by simp; omega) (fun c => by have := (OW.out.lt _ c.symm).2; omega)
          have q0 : w5.cell? ⟨w3.heap.size, 0, none⟩ = some (.int .i64 a) := (World.cell?_of_block (a := ⟨w3.heap.size, 0, none⟩) e5).trans (by simp [go_sem])
          have q1 : w5.cell? ⟨w3.heap.size, 1, none⟩ = some (.bool false) := (World.cell?_of_block (a := ⟨w3.heap.size, 1, none⟩) e5).trans (by simp [go_sem])
          have I6 := Lib.hid (I5.out.set a false)
          have O6 := Lib.hid (own_set hown5 (Nat.lt_succ_self _) (.int .i64 a) (.bool false))
          obtain ⟨_, x9, x0, x1, u0, u1⟩ := I5.out
          simp only at x0 x1
          clear hown5 hgrow5
          go_wp2
          go_roundw
          case rel =>
            refine ⟨k + 1, by omega, by go_num, ?_, ?_, ?_⟩
            · rw [SN.out, chcs_app, chcs_one, List.length_append]; exact O6.out
            · rw [SN.out]; intro c; simp at c
            · rw [PN.out]; exact I6.out
          case measure => simp [intOf]; omega
    · obtain rfl : k = L.length := by omega
      go_wp2
      go_ret2
      exact ⟨_, rfl, (ChgAt.of_own OW.out HN.out).mono (by omega), B2.out.trans (hB.mono hs2)⟩
end Go.Proofs.YtfphedcgmaakjabGreatDoor
