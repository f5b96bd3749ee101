/-
  What Value of package rule returns: contracts, each for all worlds in which the list lies in one block.
-/
import Derived.Test.YtpfekgmimfkjcaaGreatDoorSource
namespace Go.Proofs.YtpfekgmimfkjcaaGreatDoor
open Go.RowKit Go.WideMaps Go.Maps
attribute [local go_sem] set_drewN
set_option maxRecDepth 100000 in
set_option maxHeartbeats 1000000 in
theorem Value_err (l : List Pv) (nm : ByteArray) (a0 a1 : Int) (b o cap : Nat) (w : World) (hl : l.length ≤ 1000000) (hc : PvsAt w b o l) (he : srcE l a0 a1 ≠ 0) :
    Calls Tryz.prog 21 #[.slice (some ⟨b, o, none⟩) l.length cap, .string nm, .agg #[.int .i64 a0, .int .i64 a1]] w (RetB (two (.int .i64 0) (.int .i64 (srcE l a0 a1))) w) := by
  have hs := Source_err l nm a0 a1 b o cap (w.alloc (.cells #[.int .i64 a0, .int .i64 a1] 53)) hl (hc.below ((Below.refl _ _).alloc (Nat.le_refl _) _)) he
  generalize hr : srcE l a0 a1 = r at *
  have hrb : (r != 0) = true := by simpa using he
  have HS := Lib.hid hs
  clear hc hr he hs
  go_enter Tryz.func21, Tryz.ntmps21
  go_wp2_with (go_at_call 45; refine (HS.out).mono ?_; rintro e w1 ⟨rfl, hb1⟩)
  go_ret2
  exact ⟨rfl, ((Below.refl _ _).alloc (Nat.le_refl _) _).trans (hb1.mono (by simp))⟩
set_option maxRecDepth 100000 in
set_option maxHeartbeats 1000000 in
theorem Value_none (l : List Pv) (nm : ByteArray) (a0 a1 : Int) (b o cap : Nat) (w : World) (hl : l.length ≤ 1000000) (hsz : nm.size ≤ maxLen) (hc : PvsAt w b o l) (he : srcE l a0 a1 = 0) (hd : dec l a0 a1 nm l.length = none) :
    Calls Tryz.prog 21 #[.slice (some ⟨b, o, none⟩) l.length cap, .string nm, .agg #[.int .i64 a0, .int .i64 a1]] w (RetB (two (.int .i64 0) (.int .i64 6)) w) := by
  have hs := Source_none l nm a0 a1 b o cap (w.alloc (.cells #[.int .i64 a0, .int .i64 a1] 53)) hl hsz (hc.below ((Below.refl _ _).alloc (Nat.le_refl _) _)) he hd
  have HS := Lib.hid hs
  clear hc he hs hd
  go_enter Tryz.func21, Tryz.ntmps21
  go_wp2_with (go_at_call 45; refine (HS.out).mono ?_; rintro e w1 ⟨rfl, hb1⟩)
  go_ret2
  exact ⟨rfl, ((Below.refl _ _).alloc (Nat.le_refl _) _).trans (hb1.mono (by simp))⟩
set_option maxRecDepth 100000 in
set_option maxHeartbeats 1000000 in
theorem Value_some (l : List Pv) (nm : ByteArray) (a0 a1 : Int) (b o cap : Nat) (w : World) (hl : l.length ≤ 1000000) (hsz : nm.size ≤ maxLen) (hc : PvsAt w b o l) (he : srcE l a0 a1 = 0) (i : Nat) (p : Pv) (hd : dec l a0 a1 nm l.length = some i) (hp : l[i]? = some p) :
    Calls Tryz.prog 21 #[.slice (some ⟨b, o, none⟩) l.length cap, .string nm, .agg #[.int .i64 a0, .int .i64 a1]] w (RetB (two (.int .i64 p.value) (.int .i64 (eI p.repeal 12))) w) := by
  have hs := Source_some l nm a0 a1 b o cap (w.alloc (.cells #[.int .i64 a0, .int .i64 a1] 53)) hl hsz (hc.below ((Below.refl _ _).alloc (Nat.le_refl _) _)) he i hd
  obtain ⟨hik, hil⟩ := dec_lt l a0 a1 nm l.length i hd
  obtain ⟨⟨_, q1, _, _, q4⟩, _⟩ := hc.2 i hil
  have hbl := hc.1
  have hp' : l[i] = p := by rw [List.getElem?_eq_getElem hil] at hp; exact Option.some.inj hp
  rw [hp'] at q1 q4
  have HS := Lib.hid hs
  clear hc he hs hd hp hp'
  obtain ⟨pn, pv, pf, pe, pr⟩ := p
  simp only at q1 q4
  go_enter Tryz.func21, Tryz.ntmps21
  go_wp2_with (go_at_call 45; refine (HS.out).mono ?_; rintro e w1 ⟨rfl, hb1⟩; have k1 : w1.cell? ⟨b, o + i * 5 + 1, none⟩ = some (.int .i64 pv) := ((((Below.refl _ w).alloc (Nat.le_refl _) _).trans (hb1.mono (by simp))).cell (p := ⟨b, o + i * 5 + 1, none⟩) hbl).trans q1; have k4 : w1.cell? ⟨b, o + i * 5 + 4, none⟩ = some (.bool pr) := ((((Below.refl _ w).alloc (Nat.le_refl _) _).trans (hb1.mono (by simp))).cell (p := ⟨b, o + i * 5 + 4, none⟩) hbl).trans q4)
  go_quiet ((go_at_call 46; exact quiet_left (errorIf_any _ _ _)))
  go_wp2
  go_ret2
  exact ⟨rfl, below_n (((Below.refl _ _).alloc (Nat.le_refl _) _).trans (hb1.mono (by simp))) _⟩
/-- the by-laws of the statements' example -/
def feeL : List Pv := [⟨⟨#[102, 101, 101]⟩, 100, 10, 5, false⟩, ⟨⟨#[102, 101, 101]⟩, 120, 20, 15, false⟩, ⟨⟨#[102, 101, 101]⟩, 110, 20, 25, false⟩, ⟨⟨#[102, 101, 101]⟩, 0, 30, 28, true⟩]
theorem fee_src : srcE feeL 25 20 = 0 := by decide
theorem fee_dec : dec feeL 25 20 ⟨#[102, 101, 101]⟩ 4 = some 1 := by decide
theorem Fee_any (w : World) : Calls Tryz.prog 22 #[] w fun e w' => e = .returned (.slice (some ⟨w.heap.size, 0, none⟩) 4 4) ∧ PvsAt w' w.heap.size 0 feeL ∧ Below w.heap.size w w' := by
  go_enter Tryz.func22, Tryz.ntmps22
  go_wp2
  go_ret
  refine ⟨rfl, ⟨by simp, ?_⟩, (Below.refl _ _).alloc (Nat.le_refl _) _⟩
  intro i hi
  have h : i = 0 ∨ i = 1 ∨ i = 2 ∨ i = 3 := by simp [feeL] at hi; omega
  rcases h with rfl | rfl | rfl | rfl
  all_goals exact ⟨⟨by simp [go_sem, feeL], by simp [go_sem, feeL], by simp [go_sem, feeL], by simp [go_sem, feeL], by simp [go_sem, feeL]⟩, by simp [feeL, maxLen]; decide⟩
theorem ValueFee (w : World) (b : Nat) (hc : PvsAt w b 0 feeL) :
    Calls Tryz.prog 21 #[.slice (some ⟨b, 0, none⟩) 4 4, .string ⟨#[102, 101, 101]⟩, .agg #[.int .i64 25, .int .i64 20]] w (RetB (two (.int .i64 120) (.int .i64 0)) w) :=
  Value_some feeL ⟨#[102, 101, 101]⟩ 25 20 b 0 4 w (by decide) (by decide) hc fee_src 1 _ fee_dec rfl
end Go.Proofs.YtpfekgmimfkjcaaGreatDoor
