/-
  RuleChanges returns true for every list of provisions, name and pair of days, in every world in which the list lies.
-/
import Derived.Test.YtfphedcgmaakjaaLawChg
import Derived.Test.YtfphedcgmaakjaaRefChg
namespace Go.Proofs.Ytfphedcgmaakjaa
open Go.RowKit
attribute [local go_sem] set_drewN
set_option maxRecDepth 100000 in
theorem xChanges_0 (a : Option Addr) (cap : Nat) (nm : ByteArray) (known : Int) (w : World) :
    Calls Try.prog 61 #[.slice a 0 cap, .string nm, .int .i64 known] w (fun e w' => ∃ v, e = .returned (two v (.bool false)) ∧ Below w.heap.size w w') := by
  go_enter Try.func61, Try.ntmps61
  go_wp2
  go_loop [8, 9] (fun v i => v = .slice none 0 0 ∧ i = .int .i64 0) (fun _ _ => 0)
  case atStart => exact ⟨rfl, rfl⟩
  case round =>
    obtain ⟨rfl, rfl⟩ := hrel
    go_wp2
    go_loopw [11, 13] (fun v i wi => v = .slice none 0 0 ∧ i = .int .i64 0 ∧ Below w.heap.size w wi) (fun _ _ _ => 0)
    case atStart => exact ⟨rfl, rfl, (Below.refl _ _).alloc (Nat.le_refl _) _⟩
    case round =>
      obtain ⟨rfl, rfl, hBi⟩ := hrel
      go_wp2
      go_ret2
      exact ⟨_, rfl, hBi⟩
theorem feE_C {C : Int} {known : Int} (h : C ≠ 0) : feE [C, cdE [known]] = C := by unfold feE; rw [if_neg h]
theorem feE_D {known : Int} (h : inB known 0 200000 = false) : feE [0, cdE [known]] = 2 := by rw [cdE_1n h]; rfl
theorem RuleChanges_list (l : List Pv) (b o cap : Nat) (nm : ByteArray) (a0 a1 : Int) (w : World) (hl : l.length ≤ maxLen) (hm : nm.size ≤ maxLen) (hc : PvsAt w b o l) :
    Calls Try.prog 13 #[.slice (some ⟨b, o, none⟩) l.length cap, .string nm, .agg #[.int .i64 a0, .int .i64 a1]] w (RetB (.bool true) w) := by
  have hG : ∀ W W', PvsAt W b o l → Below W.heap.size W W' → PvsAt W' b o l := fun _ _ h k => h.below k
  cases hB : lawB l
  · exact RuleChanges_1 (fun W => PvsAt W b o l) hG _ nm a0 a1 w hc hm (Lib.hid fun W hW => by have := Laws_any l b o cap W hl hW; rwa [hB] at this)
  · have hl2 : l.length ≤ 210 := lawB_le hB
    have cL : Hid (∀ W, PvsAt W b o l → Calls Try.prog 50 #[.slice (some ⟨b, o, none⟩) l.length cap] W (Ret (.bool true) W)) := Lib.hid fun W hW => by have := Laws_any l b o cap W hl hW; rwa [hB] at this
    by_cases hn : 30 < nm.size
    · exact RuleChanges_2 (fun W => PvsAt W b o l) hG _ nm a0 a1 w hc hm hn cL
    · have cC := fun W (hW : PvsAt W b o l) => CheckProvisions_any l b o cap W (by omega) hW
      have cX := fun W (hW : PvsAt W b o l) => xCheckProvisions_any l b o cap W (by omega) hW
      by_cases hC : cpE l = 0
      · rw [hC] at cC cX
        cases hd : inB a1 0 200000
        · exact RuleChanges_3b (fun W => PvsAt W b o l) hG _ nm a0 a1 w hc hm (by omega) hd cL (Lib.hid fun W hW => Changes_err _ nm a1 (fun W => PvsAt W b o l) hG W hW 0 2 (by decide) (feE_D hd) (Lib.hid cC)) (Lib.hid cX)
        · have cB := fun W (hW : PvsAt W b o l) => beginnings_days l nm a1 b o cap W (by omega) hW
          by_cases hL : once (frs l nm a1) = []
          · exact RuleChanges_4 (fun W => PvsAt W b o l) hG _ nm a0 a1 w hc hm (by omega) hd cL (Lib.hid fun W hW => Changes_none _ nm a1 (fun W => PvsAt W b o l) hG W hW _ hL hd (Lib.hid cC) (Lib.hid cB)) (Lib.hid cX)
              (Lib.hid fun W hW => (xChanges_days l nm a1 b o cap W (by omega) hm hW).mono (by
                rintro e w' ⟨v, rfl, _, hb⟩
                rw [hL]; exact ⟨v, rfl, hb⟩))
          · have hlen : (once (frs l nm a1)).length ≤ 1000 := by
              have := onc_len (frs l nm a1); have := frs_le l nm a1 l.length; rw [List.take_length] at this; omega
            have I1 := Lib.hid (fun W (hW : PvsAt W b o l) => Changes_ok _ nm a1 (fun W => PvsAt W b o l) hG W hW _ hL hlen hd (hv l nm a1) (Lib.hid cC) (Lib.hid cB) (Lib.hid fun W d hW => heldBy_hv l nm d a1 b o cap W (by omega) hm hW))
            have R1 := Lib.hid (fun W (hW : PvsAt W b o l) => xChanges_days l nm a1 b o cap W (by omega) hm hW)
            have hpos : decide (0 < (once (frs l nm a1)).length) = true := by
              cases h : once (frs l nm a1) with
              | nil => exact absurd h hL
              | cons x xs => simp
            rw [hpos] at R1
            have hC9 : (chk (hv l nm a1) (once (frs l nm a1)) (once (frs l nm a1)).length).length ≤ 1000 := Nat.le_trans (chk_len _ _ _) hlen
            cases hd0 : inB a0 0 200000
            · exact RuleChanges_5a (fun W => PvsAt W b o l) hG _ nm a0 a1 w hc hm (by omega) hd hd0 _ hC9 cL I1 (Lib.hid cX) R1
            · have he : srcE l a0 a1 = 0 := by unfold srcE; rw [hC, cdE_2 hd0 hd]; rfl
              obtain ⟨f, hf, V⟩ := Value_hv l nm a0 a1 b o cap (by omega) hm he
              exact RuleChanges_5b (fun W => PvsAt W b o l) hG _ nm a0 a1 w hc hm (by omega) hd hd0 _ hC9 (hv l nm a1 a0) (Lib.hid fun j h1 h2 => last_at h1 h2) f hf cL I1 (Lib.hid cX) R1 (Lib.hid V)
      · exact RuleChanges_3a (fun W => PvsAt W b o l) hG _ nm a0 a1 w hc hm (by omega) _ hC cL (Lib.hid fun W hW => Changes_err _ nm a1 (fun W => PvsAt W b o l) hG W hW _ _ hC (feE_C hC) (Lib.hid cC)) (Lib.hid cX)
theorem RuleChanges_nil (a : Option Addr) (cap : Nat) (nm : ByteArray) (a0 a1 : Int) (w : World) (hm : nm.size ≤ maxLen) :
    Calls Try.prog 13 #[.slice a 0 cap, .string nm, .agg #[.int .i64 a0, .int .i64 a1]] w (RetB (.bool true) w) := by
  have hG : ∀ W W' : World, True → Below W.heap.size W W' → True := fun _ _ _ _ => trivial
  have cL : Hid (∀ W, True → Calls Try.prog 50 #[.slice a 0 cap] W (Ret (.bool true) W)) := Lib.hid fun W _ => Laws_0 a cap W
  by_cases hn : 30 < nm.size
  · exact RuleChanges_2 (fun _ => True) hG _ nm a0 a1 w trivial hm hn cL
  · have cC : Hid (∀ W, True → Calls Try.prog 53 #[.slice a 0 cap] W (RetB (.int .i64 0) W)) := Lib.hid fun W _ => CheckProvisions_0 a cap W
    have cX : Hid (∀ W, True → Calls Try.prog 54 #[.slice a 0 cap] W (RetB (.int .i64 0) W)) := Lib.hid fun W _ => xCheckProvisions_0 a cap W
    cases hd : inB a1 0 200000
    · exact RuleChanges_3b (fun _ => True) hG _ nm a0 a1 w trivial hm (by omega) hd cL (Lib.hid fun W _ => Changes_err _ nm a1 (fun _ => True) hG W trivial 0 2 (by decide) (feE_D hd) cC) cX
    · exact RuleChanges_4 (fun _ => True) hG _ nm a0 a1 w trivial hm (by omega) hd cL (Lib.hid fun W _ => Changes_none _ nm a1 (fun _ => True) hG W trivial [] rfl hd cC (Lib.hid fun W _ => beginnings_0 a cap nm a1 W)) cX (Lib.hid fun W _ => xChanges_0 a cap nm a1 W)
end Go.Proofs.Ytfphedcgmaakjaa
