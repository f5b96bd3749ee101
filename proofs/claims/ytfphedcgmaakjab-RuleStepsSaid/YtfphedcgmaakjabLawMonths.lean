/-
  RuleMonths returns true for every day and every number of months, in every world.
-/
import Derived.Test.YtfphedcgmaakjabWork
import Derived.Test.YtfphedcgmaakjabRefOf
import Derived.Test.YtfphedcgmaakjabCalLaw
import Derived.Test.YtfphedcgmaakjabBelow
namespace Go.Proofs.Ytfphedcgmaakjab
open Go.RowKit
attribute [local go_sem] set_drewN
theorem HdsAt.kp {a b' : Nat} {W W' : World} {b o : Nat} {l : List Hd} (h : HdsAt W b o l) (hlt : b < a) (k : KpF a b' W W') : HdsAt W' b o l :=
  ⟨Nat.lt_of_lt_of_le h.1 k.1, fun i hi => by
    obtain ⟨⟨c0, c1, c2, c3, c4⟩, hs⟩ := h.2 i hi
    exact ⟨⟨k.2 _ _ (.inl hlt) c0, k.2 _ _ (.inl hlt) c1, k.2 _ _ (.inl hlt) c2, k.2 _ _ (.inl hlt) c3, k.2 _ _ (.inl hlt) c4⟩, hs⟩⟩
theorem cw_list (l : List Hd) (b o cap : Nat) (hl : l.length ≤ maxLen) : Cw (some ⟨b, o, none⟩) l.length cap l (fun W => HdsAt W b o l) where
  below _ _ h k := h.below k
  kept _ _ _ _ h0 h k := h.kp h0.1 k
  chk W hW := CheckHolidays_any l b o cap W hl hW
  xchk W hW := xCheckHolidays_any l b o cap W hl hW
  of he W y hW h0 h9 := by
    obtain ⟨l40, hv⟩ := chE_each he
    exact holidaysOf_any l y b o cap W (by omega) hv h0 h9 hW
set_option maxRecDepth 100000 in
theorem holidaysOf_00 (a : Option Addr) (cap : Nat) (y : Int) (w : World) : Calls Try.prog 40 #[.slice a 0 cap, .int .i64 y] w (DaysPost (once (hdays [] y)) w) := by
  have e : once (hdays [] y) = [] := by simp [hdays, once, Lib.compact, Lib.compactUpTo]
  rw [e]
  clear e
  go_enter Try.func40, Try.ntmps40
  go_wp2
  go_loop [5, 10] (fun d i => d = nilS ∧ i = .int .i64 0) (fun _ _ => 0)
  case atStart => exact ⟨rfl, rfl⟩
  case round =>
    obtain ⟨rfl, rfl⟩ := hrel
    go_wp2_with (first
      | (go_at_call 51; refine (Try.slices_Sort_int_none none 0 _).mono ?_; rintro e w' ⟨rfl, rfl⟩)
      | (go_at_call 52; refine (Try.slices_Compact_int_empty none 0 _).mono ?_; rintro e w' ⟨rfl, rfl⟩))
    go_ret
    exact ⟨_, rfl, .inl ⟨rfl, rfl⟩, Below.refl _ _⟩
theorem cw_nil (a : Option Addr) (cap : Nat) : Cw a 0 cap [] (fun _ => True) where
  below _ _ _ _ := trivial
  kept _ _ _ _ _ _ _ := trivial
  chk W _ := CheckHolidays_0 a cap W
  xchk W _ := xCheckHolidays_0 a cap W
  of _ W y _ _ _ := holidaysOf_00 a cap y W
/-- the error of a list of holidays and a day -/
def hdyE (l : List Hd) (day : Int) : Int := feE [chE l, cdE [day]]
theorem hdyE_1 {l : List Hd} {day : Int} (h : hdyE l day = 0) : chE l = 0 := by
  by_cases g : chE l = 0
  · exact g
  · unfold hdyE feE at h; rw [if_neg g] at h; exact h
theorem hdyE_2 {l : List Hd} {day : Int} (h : hdyE l day = 0) : inB day 0 200000 = true := by
  have g := hdyE_1 h
  cases hb : inB day 0 200000
  · unfold hdyE at h; rw [g, cdE_1n hb] at h; simp [feE] at h
  · rfl
set_option maxRecDepth 100000 in
set_option maxHeartbeats 1000000 in
theorem IsWorking_err {sa : Option Addr} {sn sc : Nat} {l : List Hd} {G : World → Prop} (hw : Cw sa sn sc l G) (w : World) (g0 : G w) (day : Int) (he : hdyE l day ≠ 0) :
    Calls Try.prog 9 #[.slice sa sn sc, .int .i64 day] w (RetB (two (.bool false) (.int .i64 (hdyE l day))) w) := by
  have h := Lib.hid hw
  have hC := Lib.hid hw.chk
  clear hw
  generalize hr : hdyE l day = r at *
  have hrb : (r != 0) = true := by simpa using he
  unfold hdyE at hr
  generalize chE l = C at *
  have HR := Lib.hid hr
  clear hr he
  go_enter Try.func9, Try.ntmps9
  go_wp2_with fail
  refine (hC.out _ g0).mono ?_
  rintro e w1 ⟨rfl, hb1⟩
  have G1 := Lib.hid (h.out.below _ _ g0 hb1)
  have s1 := hb1.size
  go_wp2_with (first
    | (go_at_call 21; refine (check1 day _ _ _ (by simp [go_sem])).mono ?_; rintro e w' ⟨rfl, rfl⟩)
    | (go_at_call 19; refine (firstError_any [C, cdE [day]] _ 0 2 _ (by simp) (IntsAt.cons (by simp [go_sem]) (IntsAt.one (by simp [go_sem])))).mono ?_; rintro e w' ⟨rfl, rfl⟩; rw [HR.out]))
  go_ret2
  exact ⟨rfl, ((hb1.alloc s1 _).alloc (by simp; omega) _)⟩
set_option maxRecDepth 100000 in
set_option maxHeartbeats 1000000 in
theorem IsWorking_ok {sa : Option Addr} {sn sc : Nat} {l : List Hd} {G : World → Prop} (hw : Cw sa sn sc l G) (w : World) (g0 : G w) (day : Int) (he : hdyE l day = 0) :
    Calls Try.prog 9 #[.slice sa sn sc, .int .i64 day] w (RetB (two (.bool (workB l day)) (.int .i64 0)) w) := by
  have h := Lib.hid hw
  have hC := Lib.hid hw.chk
  have he0 : chE l = 0 := hdyE_1 he
  have hd0 : inB day 0 200000 = true := hdyE_2 he
  unfold hdyE at he
  have HR := Lib.hid he
  rw [he0] at hC HR
  have AW := Lib.hid (fun W (hW : G W) => addWorking_cal hw he0 W hW day 0 hd0 rfl)
  clear he
  cases hb : workB l day
  · cases hr : addRes l day 0 with
    | none =>
      rw [hr] at AW
      simp only [wres] at AW
      clear hw hr hb
      go_enter Try.func9, Try.ntmps9
      go_wp2_with fail
      refine (hC.out _ g0).mono ?_
      rintro e w1 ⟨rfl, hb1⟩
      have G1 := Lib.hid (h.out.below _ _ g0 hb1)
      have s1 := hb1.size
      go_wp2_with (first
        | (go_at_call 21; refine (check1 day _ _ _ (by simp [go_sem])).mono ?_; rintro e w' ⟨rfl, rfl⟩)
        | (go_at_call 19; refine (firstError_any [0, cdE [day]] _ 0 2 _ (by simp) (IntsAt.cons (by simp [go_sem]) (IntsAt.one (by simp [go_sem])))).mono ?_; rintro e w' ⟨rfl, rfl⟩; rw [HR.out])
        | (go_at_call 23; refine (AW.out _ (h.out.below _ _ G1.out (((Below.refl _ _).alloc (Nat.le_refl _) _).alloc (by simp) _))).mono ?_; rintro e w2 ⟨rfl, hb2⟩))
      go_ret2
      exact ⟨rfl, ((hb1.alloc s1 _).alloc (by simp; omega) _).trans (hb2.mono (by simp; omega))⟩
    | some x =>
      have hx : (x == day) = false := by
        rw [beq_eq_false_iff_ne]
        intro c; subst c
        have := addRes_work hr
        rw [hb] at this; cases this
      rw [hr] at AW
      simp only [wres] at AW
      clear hw hr hb
      go_enter Try.func9, Try.ntmps9
      go_wp2_with fail
      refine (hC.out _ g0).mono ?_
      rintro e w1 ⟨rfl, hb1⟩
      have G1 := Lib.hid (h.out.below _ _ g0 hb1)
      have s1 := hb1.size
      go_wp2_with (first
        | (go_at_call 21; refine (check1 day _ _ _ (by simp [go_sem])).mono ?_; rintro e w' ⟨rfl, rfl⟩)
        | (go_at_call 19; refine (firstError_any [0, cdE [day]] _ 0 2 _ (by simp) (IntsAt.cons (by simp [go_sem]) (IntsAt.one (by simp [go_sem])))).mono ?_; rintro e w' ⟨rfl, rfl⟩; rw [HR.out])
        | (go_at_call 23; refine (AW.out _ (h.out.below _ _ G1.out (((Below.refl _ _).alloc (Nat.le_refl _) _).alloc (by simp) _))).mono ?_; rintro e w2 ⟨rfl, hb2⟩))
      go_ret2
      exact ⟨rfl, ((hb1.alloc s1 _).alloc (by simp; omega) _).trans (hb2.mono (by simp; omega))⟩
  · rw [addRes_0_yes hd0 hb] at AW
    simp only [wres] at AW
    clear hw hb
    go_enter Try.func9, Try.ntmps9
    go_wp2_with fail
    refine (hC.out _ g0).mono ?_
    rintro e w1 ⟨rfl, hb1⟩
    have G1 := Lib.hid (h.out.below _ _ g0 hb1)
    have s1 := hb1.size
    go_wp2_with (first
      | (go_at_call 21; refine (check1 day _ _ _ (by simp [go_sem])).mono ?_; rintro e w' ⟨rfl, rfl⟩)
      | (go_at_call 19; refine (firstError_any [0, cdE [day]] _ 0 2 _ (by simp) (IntsAt.cons (by simp [go_sem]) (IntsAt.one (by simp [go_sem])))).mono ?_; rintro e w' ⟨rfl, rfl⟩; rw [HR.out])
      | (go_at_call 23; refine (AW.out _ (h.out.below _ _ G1.out (((Below.refl _ _).alloc (Nat.le_refl _) _).alloc (by simp) _))).mono ?_; rintro e w2 ⟨rfl, hb2⟩))
    go_ret2
    exact ⟨rfl, ((hb1.alloc s1 _).alloc (by simp; omega) _).trans (hb2.mono (by simp; omega))⟩
set_option maxRecDepth 100000 in
set_option maxHeartbeats 1000000 in
theorem AddWorking_err {sa : Option Addr} {sn sc : Nat} {l : List Hd} {G : World → Prop} (hw : Cw sa sn sc l G) (w : World) (g0 : G w) (day n : Int) (he : hdyE l day ≠ 0) :
    Calls Try.prog 8 #[.slice sa sn sc, .int .i64 day, .int .i64 n] w (RetB (two (.int .i64 0) (.int .i64 (hdyE l day))) w) := by
  have h := Lib.hid hw
  have hC := Lib.hid hw.chk
  clear hw
  generalize hr : hdyE l day = r at *
  have hrb : (r != 0) = true := by simpa using he
  unfold hdyE at hr
  generalize chE l = C at *
  have HR := Lib.hid hr
  clear hr he
  go_enter Try.func8, Try.ntmps8
  go_wp2_with fail
  refine (hC.out _ g0).mono ?_
  rintro e w1 ⟨rfl, hb1⟩
  have G1 := Lib.hid (h.out.below _ _ g0 hb1)
  have s1 := hb1.size
  go_wp2_with (first
    | (go_at_call 21; refine (check1 day _ _ _ (by simp [go_sem])).mono ?_; rintro e w' ⟨rfl, rfl⟩)
    | (go_at_call 19; refine (firstError_any [C, cdE [day]] _ 0 2 _ (by simp) (IntsAt.cons (by simp [go_sem]) (IntsAt.one (by simp [go_sem])))).mono ?_; rintro e w' ⟨rfl, rfl⟩; rw [HR.out]))
  go_ret2
  exact ⟨rfl, ((hb1.alloc s1 _).alloc (by simp; omega) _)⟩
set_option maxRecDepth 100000 in
set_option maxHeartbeats 1000000 in
theorem AddWorking_no {sa : Option Addr} {sn sc : Nat} {l : List Hd} {G : World → Prop} (hw : Cw sa sn sc l G) (w : World) (g0 : G w) (day n : Int) (he : hdyE l day = 0) (hn : inB n (-2000) 2000 = false) :
    Calls Try.prog 8 #[.slice sa sn sc, .int .i64 day, .int .i64 n] w (RetB (two (.int .i64 0) (.int .i64 2)) w) := by
  have h := Lib.hid hw
  have hC := Lib.hid hw.chk
  have he0 : chE l = 0 := hdyE_1 he
  have hd0 : inB day 0 200000 = true := hdyE_2 he
  unfold hdyE at he
  have HR := Lib.hid he
  rw [he0] at hC HR
  clear hw he
  go_enter Try.func8, Try.ntmps8
  go_wp2_with fail
  refine (hC.out _ g0).mono ?_
  rintro e w1 ⟨rfl, hb1⟩
  have G1 := Lib.hid (h.out.below _ _ g0 hb1)
  have s1 := hb1.size
  go_wp2_with (first
    | (go_at_call 21; refine (check1 day _ _ _ (by simp [go_sem])).mono ?_; rintro e w' ⟨rfl, rfl⟩)
    | (go_at_call 19; refine (firstError_any [0, cdE [day]] _ 0 2 _ (by simp) (IntsAt.cons (by simp [go_sem]) (IntsAt.one (by simp [go_sem])))).mono ?_; rintro e w' ⟨rfl, rfl⟩; rw [HR.out])
    | (go_at_call 22; refine (isFromTo_any _ _ _ _).mono ?_; rintro e w' ⟨rfl, rfl⟩; rw [hn]))
  go_ret2
  exact ⟨rfl, ((hb1.alloc s1 _).alloc (by simp; omega) _)⟩
set_option maxRecDepth 100000 in
set_option maxHeartbeats 1000000 in
theorem AddWorking_ok {sa : Option Addr} {sn sc : Nat} {l : List Hd} {G : World → Prop} (hw : Cw sa sn sc l G) (w : World) (g0 : G w) (day n : Int) (he : hdyE l day = 0) (hn : inB n (-2000) 2000 = true) :
    Calls Try.prog 8 #[.slice sa sn sc, .int .i64 day, .int .i64 n] w (RetB (wres (addRes l day n)) w) := by
  have h := Lib.hid hw
  have hC := Lib.hid hw.chk
  have he0 : chE l = 0 := hdyE_1 he
  have hd0 : inB day 0 200000 = true := hdyE_2 he
  unfold hdyE at he
  have HR := Lib.hid he
  rw [he0] at hC HR
  have AW := Lib.hid (fun W (hW : G W) => addWorking_cal hw he0 W hW day n hd0 hn)
  clear hw he
  cases hr : addRes l day n
  all_goals
    rw [hr] at AW
    simp only [wres] at AW ⊢
    clear hr
    go_enter Try.func8, Try.ntmps8
    go_wp2_with fail
    refine (hC.out _ g0).mono ?_
    rintro e w1 ⟨rfl, hb1⟩
    have G1 := Lib.hid (h.out.below _ _ g0 hb1)
    have s1 := hb1.size
    go_wp2_with (first
      | (go_at_call 21; refine (check1 day _ _ _ (by simp [go_sem])).mono ?_; rintro e w' ⟨rfl, rfl⟩)
      | (go_at_call 19; refine (firstError_any [0, cdE [day]] _ 0 2 _ (by simp) (IntsAt.cons (by simp [go_sem]) (IntsAt.one (by simp [go_sem])))).mono ?_; rintro e w' ⟨rfl, rfl⟩; rw [HR.out])
      | (go_at_call 22; refine (isFromTo_any _ _ _ _).mono ?_; rintro e w' ⟨rfl, rfl⟩; rw [hn])
      | (go_at_call 23; refine (AW.out _ (h.out.below _ _ G1.out (((Below.refl _ _).alloc (Nat.le_refl _) _).alloc (by simp) _))).mono ?_; rintro e w2 ⟨rfl, hb2⟩))
    go_ret2
    exact ⟨rfl, ((hb1.alloc s1 _).alloc (by simp; omega) _).trans (hb2.mono (by simp; omega))⟩
end Go.Proofs.Ytfphedcgmaakjab
namespace Go.Proofs.Ytfphedcgmaakjab
open Go.RowKit
attribute [local go_sem] set_drewN
/-- a day, or that there is none -/
def xres : Option Int → Value
  | some x => two (.int .i64 x) (.bool true)
  | none => two (.int .i64 0) (.bool false)
end Go.Proofs.Ytfphedcgmaakjab
namespace Go.Proofs.Ytfphedcgmaakjab
open Go.RowKit
attribute [local go_sem] set_drewN
/-- the day so many months later, and its error -/
noncomputable def amE (n k : Int) : Int := if inB n 0 200000 && inB k (-12000) 12000 && inB (mlt n k) 0 200000 then 0 else 2
noncomputable def amN (n k : Int) : Int := if inB n 0 200000 && inB k (-12000) 12000 && inB (mlt n k) 0 200000 then mlt n k else 0
theorem am_no {n k : Int} (h : inB n 0 200000 = false ∨ inB k (-12000) 12000 = false ∨ inB (mlt n k) 0 200000 = false) : amE n k = 2 ∧ amN n k = 0 := by
  rcases h with h | h | h <;> simp [amE, amN, h]
theorem am_yes {n k : Int} (h1 : inB n 0 200000 = true) (h2 : inB k (-12000) 12000 = true) (h3 : inB (mlt n k) 0 200000 = true) : amE n k = 0 ∧ amN n k = mlt n k := by
  simp [amE, amN, h1, h2, h3]
theorem mlt_year {n k : Int} (h0 : 0 ≤ n) (hy : inB ((mnum n + k) / 12) 1800 2347 = false) : inB (mlt n k) 0 200000 = false := by
  have hd := (Cal.date_spec n h0).2.1.2.2.1
  rcases inB_iff'.1 hy with h | h
  · exact inB_no (Or.inl (Cal.lt_neg _ _ hd (by omega)))
  · exact inB_no (Or.inr (Cal.lt_big _ _ hd (by omega)))
theorem mlt_4800 {n : Int} (h0 : 0 ≤ n) : mlt n 4800 = n + 146097 := by
  obtain ⟨_, hk, hn⟩ := Cal.date_spec n h0
  have := Cal.later_4800 _ _ _ hk
  rw [hn] at this
  exact this
/-- what the specification's AddMonths returns -/
noncomputable def xaB (n k : Int) : Bool := inB ((mnum n + k) / 12) 1800 2347 && inB (mlt n k) 0 200000
noncomputable def xaN (n k : Int) : Int := if inB ((mnum n + k) / 12) 1800 2347 then mlt n k else 0
theorem xa_eq {n k : Int} (h0 : 0 ≤ n) : xaB n k = inB (mlt n k) 0 200000 := by
  unfold xaB
  cases h : inB ((mnum n + k) / 12) 1800 2347
  · rw [mlt_year h0 h]; rfl
  · rfl
theorem xa_yes {n k : Int} (h0 : 0 ≤ n) (h : inB (mlt n k) 0 200000 = true) : xaN n k = mlt n k := by
  unfold xaN
  cases hy : inB ((mnum n + k) / 12) 1800 2347
  · rw [mlt_year h0 hy] at h; cases h
  · rfl
end Go.Proofs.Ytfphedcgmaakjab
