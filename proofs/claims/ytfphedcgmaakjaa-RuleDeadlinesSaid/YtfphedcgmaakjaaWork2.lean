/-
  What IsWorking and AddWorking of package rule return, in the worlds in which a list of holidays lies.
-/
import Derived.Test.YtfphedcgmaakjaaWork
import Derived.Test.YtfphedcgmaakjaaRefOf
import Derived.Test.YtfphedcgmaakjaaCalLaw
namespace Go.Proofs.Ytfphedcgmaakjaa
open Go.RowKit
attribute [local go_sem] set_drewN
theorem HdsAt.kp {a b' : Nat} {W W' : World} {b o : Nat} {l : List Hd} (h : HdsAt W b o l) (hlt : b < a) (k : KpF a b' W W') : HdsAt W' b o l :=
  ⟨Nat.lt_of_lt_of_le h.1 k.1, fun i hi => by
    obtain ⟨⟨c0, c1, c2, c3, c4⟩, hs⟩ := h.2 i hi
    exact ⟨⟨k.2 _ _ (.inl hlt) c0, k.2 _ _ (.inl hlt) c1, k.2 _ _ (.inl hlt) c2, k.2 _ _ (.inl hlt) c3, k.2 _ _ (.inl hlt) c4⟩, hs⟩⟩
theorem cw_list (l : List Hd) (b o cap : Nat) (hl : l.length ≤ maxLen) : Cw (some ⟨b, o, none⟩) l.length cap l (fun W => HdsAt W b o l) where
  below _ _ h k := h.below k
  kept _ _ _ _ h0 h k := h.kp h0.1 k
  chk W hW := CheckHolidays_any l b o cap W hl hW
  xchk W hW := xCheckHolidays_any l b o cap W hl hW
  of he W y hW h0 h9 := by
    obtain ⟨l40, hv⟩ := chE_each he
    exact holidaysOf_any l y b o cap W (by omega) hv h0 h9 hW
  any he W n hW h0 h9 := by
    obtain ⟨l40, hv⟩ := chE_each he
    exact xanyOf_any l n b o cap W (by omega) hv h0 h9 hW
theorem xanyOf_00 (a : Option Addr) (cap : Nat) (n : Int) (w : World) : Calls Try.prog 83 #[.slice a 0 cap, .int .i64 n] w (RetB (.bool (anyB [] n)) w) := by
  have e : anyB [] n = false := rfl
  rw [e]
  go_enter Try.func83, Try.ntmps83
  go_wp2
  go_loop [5] (fun i => i = .int .i64 0) (fun _ => 0)
  case atStart => exact rfl
  case round =>
    obtain rfl := hrel
    go_wp2
    go_ret
    exact ⟨rfl, Below.refl _ _⟩
set_option maxRecDepth 100000 in
theorem holidaysOf_00 (a : Option Addr) (cap : Nat) (y : Int) (w : World) : Calls Try.prog 81 #[.slice a 0 cap, .int .i64 y] w (DaysPost (once (hdays [] y)) w) := by
  have e : once (hdays [] y) = [] := by simp [hdays, once, Lib.compact, Lib.compactUpTo]
  rw [e]
  clear e
  go_enter Try.func81, Try.ntmps81
  go_wp2
  go_loop [5, 10] (fun d i => d = nilS ∧ i = .int .i64 0) (fun _ _ => 0)
  case atStart => exact ⟨rfl, rfl⟩
  case round =>
    obtain ⟨rfl, rfl⟩ := hrel
    go_wp2_with (first
      | (go_at_call 102; refine (Try.slices_Sort_int_none none 0 _).mono ?_; rintro e w' ⟨rfl, rfl⟩)
      | (go_at_call 103; refine (Try.slices_Compact_int_empty none 0 _).mono ?_; rintro e w' ⟨rfl, rfl⟩))
    go_ret
    exact ⟨_, rfl, .inl ⟨rfl, rfl⟩, Below.refl _ _⟩
theorem cw_nil (a : Option Addr) (cap : Nat) : Cw a 0 cap [] (fun _ => True) where
  below _ _ _ _ := trivial
  kept _ _ _ _ _ _ _ := trivial
  chk W _ := CheckHolidays_0 a cap W
  xchk W _ := xCheckHolidays_0 a cap W
  of _ W y _ _ _ := holidaysOf_00 a cap y W
  any _ W n _ _ _ := xanyOf_00 a cap n W
/-- the error of a list of holidays and a day -/
def hdyE (l : List Hd) (day : Int) : Int := feE [chE l, cdE [day]]
theorem hdyE_1 {l : List Hd} {day : Int} (h : hdyE l day = 0) : chE l = 0 := by
  by_cases g : chE l = 0
  · exact g
  · unfold hdyE feE at h; rw [if_neg g] at h; exact h
theorem hdyE_2 {l : List Hd} {day : Int} (h : hdyE l day = 0) : inB day 0 200000 = true := by
  have g := hdyE_1 h
  cases hb : inB day 0 200000
  · unfold hdyE at h; rw [g, cdE_1n hb] at h; simp [feE] at h
  · rfl
set_option maxRecDepth 100000 in
set_option maxHeartbeats 1000000 in
theorem IsWorking_err {sa : Option Addr} {sn sc : Nat} {l : List Hd} {G : World → Prop} (hw : Cw sa sn sc l G) (w : World) (g0 : G w) (day : Int) (he : hdyE l day ≠ 0) :
    Calls Try.prog 40 #[.slice sa sn sc, .int .i64 day] w (RetB (two (.bool false) (.int .i64 (hdyE l day))) w) := by
  have h := Lib.hid hw
  have hC := Lib.hid hw.chk
  clear hw
  generalize hr : hdyE l day = r at *
  have hrb : (r != 0) = true := by simpa using he
  unfold hdyE at hr
  generalize chE l = C at *
  have HR := Lib.hid hr
  clear hr he
  go_enter Try.func40, Try.ntmps40
  go_wp2_with fail
  refine (hC.out _ g0).mono ?_
  rintro e w1 ⟨rfl, hb1⟩
  have G1 := Lib.hid (h.out.below _ _ g0 hb1)
  have s1 := hb1.size
  go_wp2_with (first
    | (go_at_call 69; refine (check1 day _ _ _ (by simp [go_sem])).mono ?_; rintro e w' ⟨rfl, rfl⟩)
    | (go_at_call 84; refine (firstError_any [C, cdE [day]] _ 0 2 _ (by simp) (IntsAt.cons (by simp [go_sem]) (IntsAt.one (by simp [go_sem])))).mono ?_; rintro e w' ⟨rfl, rfl⟩; rw [HR.out]))
  go_ret2
  exact ⟨rfl, ((hb1.alloc s1 _).alloc (by simp; omega) _)⟩
set_option maxRecDepth 100000 in
set_option maxHeartbeats 1000000 in
theorem IsWorking_ok {sa : Option Addr} {sn sc : Nat} {l : List Hd} {G : World → Prop} (hw : Cw sa sn sc l G) (w : World) (g0 : G w) (day : Int) (he : hdyE l day = 0) :
    Calls Try.prog 40 #[.slice sa sn sc, .int .i64 day] w (RetB (two (.bool (workB l day)) (.int .i64 0)) w) := by
  have h := Lib.hid hw
  have hC := Lib.hid hw.chk
  have he0 : chE l = 0 := hdyE_1 he
  have hd0 : inB day 0 200000 = true := hdyE_2 he
  unfold hdyE at he
  have HR := Lib.hid he
  rw [he0] at hC HR
  have AW := Lib.hid (fun W (hW : G W) => addWorking_cal hw he0 W hW day 0 hd0 rfl)
  clear he
  cases hb : workB l day
  · cases hr : addRes l day 0 with
    | none =>
      rw [hr] at AW
      simp only [wres] at AW
      clear hw hr hb
      go_enter Try.func40, Try.ntmps40
      go_wp2_with fail
      refine (hC.out _ g0).mono ?_
      rintro e w1 ⟨rfl, hb1⟩
      have G1 := Lib.hid (h.out.below _ _ g0 hb1)
      have s1 := hb1.size
      go_wp2_with (first
        | (go_at_call 69; refine (check1 day _ _ _ (by simp [go_sem])).mono ?_; rintro e w' ⟨rfl, rfl⟩)
        | (go_at_call 84; refine (firstError_any [0, cdE [day]] _ 0 2 _ (by simp) (IntsAt.cons (by simp [go_sem]) (IntsAt.one (by simp [go_sem])))).mono ?_; rintro e w' ⟨rfl, rfl⟩; rw [HR.out])
        | (go_at_call 85; refine (AW.out _ (h.out.below _ _ G1.out (((Below.refl _ _).alloc (Nat.le_refl _) _).alloc (by simp) _))).mono ?_; rintro e w2 ⟨rfl, hb2⟩))
      go_ret2
      exact ⟨rfl, ((hb1.alloc s1 _).alloc (by simp; omega) _).trans (hb2.mono (by simp; omega))⟩
    | some x =>
      have hx : (x == day) = false := by
        rw [beq_eq_false_iff_ne]
        intro c; subst c
        have := addRes_work hr
        rw [hb] at this; cases this
      rw [hr] at AW
      simp only [wres] at AW
      clear hw hr hb
      go_enter Try.func40, Try.ntmps40
      go_wp2_with fail
      refine (hC.out _ g0).mono ?_
      rintro e w1 ⟨rfl, hb1⟩
      have G1 := Lib.hid (h.out.below _ _ g0 hb1)
      have s1 := hb1.size
      go_wp2_with (first
        | (go_at_call 69; refine (check1 day _ _ _ (by simp [go_sem])).mono ?_; rintro e w' ⟨rfl, rfl⟩)
        | (go_at_call 84; refine (firstError_any [0, cdE [day]] _ 0 2 _ (by simp) (IntsAt.cons (by simp [go_sem]) (IntsAt.one (by simp [go_sem])))).mono ?_; rintro e w' ⟨rfl, rfl⟩; rw [HR.out])
        | (go_at_call 85; refine (AW.out _ (h.out.below _ _ G1.out (((Below.refl _ _).alloc (Nat.le_refl _) _).alloc (by simp) _))).mono ?_; rintro e w2 ⟨rfl, hb2⟩))
      go_ret2
      exact ⟨rfl, ((hb1.alloc s1 _).alloc (by simp; omega) _).trans (hb2.mono (by simp; omega))⟩
  · rw [addRes_0_yes hd0 hb] at AW
    simp only [wres] at AW
    clear hw hb
    go_enter Try.func40, Try.ntmps40
    go_wp2_with fail
    refine (hC.out _ g0).mono ?_
    rintro e w1 ⟨rfl, hb1⟩
    have G1 := Lib.hid (h.out.below _ _ g0 hb1)
    have s1 := hb1.size
    go_wp2_with (first
      | (go_at_call 69; refine (check1 day _ _ _ (by simp [go_sem])).mono ?_; rintro e w' ⟨rfl, rfl⟩)
      | (go_at_call 84; refine (firstError_any [0, cdE [day]] _ 0 2 _ (by simp) (IntsAt.cons (by simp [go_sem]) (IntsAt.one (by simp [go_sem])))).mono ?_; rintro e w' ⟨rfl, rfl⟩; rw [HR.out])
      | (go_at_call 85; refine (AW.out _ (h.out.below _ _ G1.out (((Below.refl _ _).alloc (Nat.le_refl _) _).alloc (by simp) _))).mono ?_; rintro e w2 ⟨rfl, hb2⟩))
    go_ret2
    exact ⟨rfl, ((hb1.alloc s1 _).alloc (by simp; omega) _).trans (hb2.mono (by simp; omega))⟩
set_option maxRecDepth 100000 in
set_option maxHeartbeats 1000000 in
theorem AddWorking_err {sa : Option Addr} {sn sc : Nat} {l : List Hd} {G : World → Prop} (hw : Cw sa sn sc l G) (w : World) (g0 : G w) (day n : Int) (he : hdyE l day ≠ 0) :
    Calls Try.prog 41 #[.slice sa sn sc, .int .i64 day, .int .i64 n] w (RetB (two (.int .i64 0) (.int .i64 (hdyE l day))) w) := by
  have h := Lib.hid hw
  have hC := Lib.hid hw.chk
  clear hw
  generalize hr : hdyE l day = r at *
  have hrb : (r != 0) = true := by simpa using he
  unfold hdyE at hr
  generalize chE l = C at *
  have HR := Lib.hid hr
  clear hr he
  go_enter Try.func41, Try.ntmps41
  go_wp2_with fail
  refine (hC.out _ g0).mono ?_
  rintro e w1 ⟨rfl, hb1⟩
  have G1 := Lib.hid (h.out.below _ _ g0 hb1)
  have s1 := hb1.size
  go_wp2_with (first
    | (go_at_call 69; refine (check1 day _ _ _ (by simp [go_sem])).mono ?_; rintro e w' ⟨rfl, rfl⟩)
    | (go_at_call 84; refine (firstError_any [C, cdE [day]] _ 0 2 _ (by simp) (IntsAt.cons (by simp [go_sem]) (IntsAt.one (by simp [go_sem])))).mono ?_; rintro e w' ⟨rfl, rfl⟩; rw [HR.out]))
  go_ret2
  exact ⟨rfl, ((hb1.alloc s1 _).alloc (by simp; omega) _)⟩
set_option maxRecDepth 100000 in
set_option maxHeartbeats 1000000 in
theorem AddWorking_no {sa : Option Addr} {sn sc : Nat} {l : List Hd} {G : World → Prop} (hw : Cw sa sn sc l G) (w : World) (g0 : G w) (day n : Int) (he : hdyE l day = 0) (hn : inB n (-2000) 2000 = false) :
    Calls Try.prog 41 #[.slice sa sn sc, .int .i64 day, .int .i64 n] w (RetB (two (.int .i64 0) (.int .i64 2)) w) := by
  have h := Lib.hid hw
  have hC := Lib.hid hw.chk
  have he0 : chE l = 0 := hdyE_1 he
  have hd0 : inB day 0 200000 = true := hdyE_2 he
  unfold hdyE at he
  have HR := Lib.hid he
  rw [he0] at hC HR
  clear hw he
  go_enter Try.func41, Try.ntmps41
  go_wp2_with fail
  refine (hC.out _ g0).mono ?_
  rintro e w1 ⟨rfl, hb1⟩
  have G1 := Lib.hid (h.out.below _ _ g0 hb1)
  have s1 := hb1.size
  go_wp2_with (first
    | (go_at_call 69; refine (check1 day _ _ _ (by simp [go_sem])).mono ?_; rintro e w' ⟨rfl, rfl⟩)
    | (go_at_call 84; refine (firstError_any [0, cdE [day]] _ 0 2 _ (by simp) (IntsAt.cons (by simp [go_sem]) (IntsAt.one (by simp [go_sem])))).mono ?_; rintro e w' ⟨rfl, rfl⟩; rw [HR.out])
    | (go_at_call 64; refine (isFromTo_any _ _ _ _).mono ?_; rintro e w' ⟨rfl, rfl⟩; rw [hn]))
  go_ret2
  exact ⟨rfl, ((hb1.alloc s1 _).alloc (by simp; omega) _)⟩
set_option maxRecDepth 100000 in
set_option maxHeartbeats 1000000 in
theorem AddWorking_ok {sa : Option Addr} {sn sc : Nat} {l : List Hd} {G : World → Prop} (hw : Cw sa sn sc l G) (w : World) (g0 : G w) (day n : Int) (he : hdyE l day = 0) (hn : inB n (-2000) 2000 = true) :
    Calls Try.prog 41 #[.slice sa sn sc, .int .i64 day, .int .i64 n] w (RetB (wres (addRes l day n)) w) := by
  have h := Lib.hid hw
  have hC := Lib.hid hw.chk
  have he0 : chE l = 0 := hdyE_1 he
  have hd0 : inB day 0 200000 = true := hdyE_2 he
  unfold hdyE at he
  have HR := Lib.hid he
  rw [he0] at hC HR
  have AW := Lib.hid (fun W (hW : G W) => addWorking_cal hw he0 W hW day n hd0 hn)
  clear hw he
  cases hr : addRes l day n
  all_goals
    rw [hr] at AW
    simp only [wres] at AW ⊢
    clear hr
    go_enter Try.func41, Try.ntmps41
    go_wp2_with fail
    refine (hC.out _ g0).mono ?_
    rintro e w1 ⟨rfl, hb1⟩
    have G1 := Lib.hid (h.out.below _ _ g0 hb1)
    have s1 := hb1.size
    go_wp2_with (first
      | (go_at_call 69; refine (check1 day _ _ _ (by simp [go_sem])).mono ?_; rintro e w' ⟨rfl, rfl⟩)
      | (go_at_call 84; refine (firstError_any [0, cdE [day]] _ 0 2 _ (by simp) (IntsAt.cons (by simp [go_sem]) (IntsAt.one (by simp [go_sem])))).mono ?_; rintro e w' ⟨rfl, rfl⟩; rw [HR.out])
      | (go_at_call 64; refine (isFromTo_any _ _ _ _).mono ?_; rintro e w' ⟨rfl, rfl⟩; rw [hn])
      | (go_at_call 85; refine (AW.out _ (h.out.below _ _ G1.out (((Below.refl _ _).alloc (Nat.le_refl _) _).alloc (by simp) _))).mono ?_; rintro e w2 ⟨rfl, hb2⟩))
    go_ret2
    exact ⟨rfl, ((hb1.alloc s1 _).alloc (by simp; omega) _).trans (hb2.mono (by simp; omega))⟩
end Go.Proofs.Ytfphedcgmaakjaa
