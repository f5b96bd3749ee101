/-
  What strings.Cut at a bracket and cutSign of package person return: contracts, each for all worlds.
-/
import Derived.Test.YtfneafofohfdnaaRdS
import Derived.OwnWalk
namespace Go.Proofs.Ytfneafofohfdnaa
open Go.RowKit
attribute [local go_sem] set_drewN
theorem ib_no : ∀ {s : List UInt8}, (93 : UInt8) ∉ s → Lib.indexByte s 93 = -1
  | [], _ => rfl
  | c :: s, h => by
    simp only [List.mem_cons, not_or] at h
    have hc : (c == 93) = false := by rw [beq_eq_false_iff_ne]; exact fun e => h.1 e.symm
    rw [Lib.indexByte, hc, ib_no h.2]; rfl
theorem ib_at (b : List UInt8) : ∀ {a : List UInt8}, (93 : UInt8) ∉ a → Lib.indexByte (a ++ 93 :: b) 93 = (a.length : Int)
  | [], _ => rfl
  | c :: a, h => by
    simp only [List.mem_cons, not_or] at h
    have hc : (c == 93) = false := by rw [beq_eq_false_iff_ne]; exact fun e => h.1 e.symm
    rw [List.cons_append, Lib.indexByte, hc, ib_at b h.2]
    have : (((a.length : Int) == -1) = false) := by rw [beq_eq_false_iff_ne]; omega
    simp [this]
theorem ext_of (s : List UInt8) (i j : Nat) (x : List UInt8) (h : (s.take j).drop i = x) : (⟨s.toArray⟩ : ByteArray).extract i j = ⟨x.toArray⟩ := by
  apply ByteArray.ext
  apply Array.ext'
  rw [Lib.extract_data, ← h, List.drop_take]
set_option maxRecDepth 100000 in
theorem slCut_yes (a b : List UInt8) (w : World) (h : (93 : UInt8) ∉ a) (hl : a.length + b.length ≤ 1000000000000) :
    Calls Try.prog 84 #[.string ⟨(a ++ 93 :: b).toArray⟩, .string ⟨#[93]⟩] w (RetB (three (.string ⟨a.toArray⟩) (.string ⟨b.toArray⟩) (.bool true)) w) := by
  have hi := Lib.hid (fun w => Try.stringslite_Index_one ⟨(a ++ 93 :: b).toArray⟩ 93 w)
  have e1 : Lib.indexByte (⟨(a ++ 93 :: b).toArray⟩ : ByteArray).data.toList 93 = (a.length : Int) := ib_at b h
  rw [e1] at hi
  have x1 := ext_of (a ++ 93 :: b) 0 a.length a (by simp)
  have x2 := ext_of (a ++ 93 :: b) (a.length + 1) (a.length + (b.length + 1)) b (by rw [List.take_of_length_le (by simp), show a ++ 93 :: b = (a ++ [93]) ++ b by simp, List.drop_left' (by simp)])
  have hn : (a ++ 93 :: b).length = a.length + (b.length + 1) := by simp
  obtain ⟨S, hS⟩ : ∃ S, a ++ 93 :: b = S := ⟨_, rfl⟩
  rw [hS] at hi x1 x2 hn ⊢
  clear e1 hS h
  go_enter Try.func84, Try.ntmps84
  go_wp2_with (go_at_call 100; refine (hi.out _).mono ?_; rintro e w' ⟨rfl, rfl⟩)
  go_quiet (fail)
  go_wp2
  go_ret3
  exact ⟨rfl, below_n (Below.refl _ _) _⟩
theorem slCut_no (s : List UInt8) (w : World) (h : (93 : UInt8) ∉ s) :
    Calls Try.prog 84 #[.string ⟨s.toArray⟩, .string ⟨#[93]⟩] w (RetB (three (.string ⟨s.toArray⟩) (.string ⟨#[]⟩) (.bool false)) w) := by
  have hi := Lib.hid (fun w => Try.stringslite_Index_one ⟨s.toArray⟩ 93 w)
  have e1 : Lib.indexByte (⟨s.toArray⟩ : ByteArray).data.toList 93 = -1 := ib_no h
  rw [e1] at hi
  clear e1 h
  go_enter Try.func84, Try.ntmps84
  go_wp2_with (go_at_call 100; refine (hi.out _).mono ?_; rintro e w' ⟨rfl, rfl⟩)
  go_ret3
  exact ⟨rfl, Below.refl _ _⟩
/-- what Cut returns at a bracket: the rest is what is behind it -/
def CutP (s : List UInt8) (w : World) (e : Ending) (w' : World) : Prop := (∃ x b, e = .returned (three (.string x) (.string ⟨(aft s).toArray⟩) (.bool b))) ∧ Below w.heap.size w w'
theorem cut93 (s : List UInt8) (w : World) (hl : s.length ≤ 1000000000000) : Calls Try.prog 72 #[.string ⟨s.toArray⟩, .string ⟨#[93]⟩] w (CutP s w) := by
  by_cases h : (93 : UInt8) ∈ s
  · obtain ⟨a, b, rfl, hn⟩ := first93 h
    have hc := Lib.hid (fun w => slCut_yes a b w hn (by simp at hl; omega))
    have ha := Lib.hid (aft_at b hn)
    obtain ⟨S, hS⟩ : ∃ S, a ++ 93 :: b = S := ⟨_, rfl⟩
    rw [hS] at hc ha ⊢
    clear hS hn h
    go_enter Try.func72, Try.ntmps72
    go_wp2_with (go_at_call 84; refine (hc.out _).mono ?_; rintro e w' ⟨rfl, hb⟩)
    go_ret3
    exact ⟨⟨_, _, by rw [ha.out]; rfl⟩, hb⟩
  · have hc := Lib.hid (fun w => slCut_no s w h)
    have ha := Lib.hid (aft_no h)
    clear h
    go_enter Try.func72, Try.ntmps72
    go_wp2_with (go_at_call 84; refine (hc.out _).mono ?_; rintro e w' ⟨rfl, hb⟩)
    go_ret3
    exact ⟨⟨_, _, by rw [ha.out]; rfl⟩, hb⟩
set_option maxRecDepth 100000 in
theorem cutSign_br (S T F : List UInt8) (w : World) (hp : 0 < (⟨S.toArray⟩ : ByteArray).size) (hl : S.length ≤ 1000000000000) (hb : (((⟨S.toArray⟩ : ByteArray)[0]'hp).toNat : Int) = 91) (HT : Hid (aft S = T)) (hle : T.length ≤ S.length) (x1 : (⟨S.toArray⟩ : ByteArray).extract 0 (S.length - T.length) = ⟨F.toArray⟩) :
    Calls Try.prog 57 #[.string ⟨S.toArray⟩] w (RetB (two (.string ⟨F.toArray⟩) (.string ⟨T.toArray⟩)) w) := by
  have hcut := Lib.hid (fun w => cut93 S w hl)
  have hp2 : 0 < S.length := by have : S.toArray.size = S.length := by simp
                                have h2 : 0 < S.toArray.size := hp
                                omega
  go_enter Try.func57, Try.ntmps57
  go_wp2_with (go_at_call 72; refine (hcut.out _).mono ?_; rintro e w' ⟨⟨x, b, rfl⟩, hb9⟩; rw [HT.out])
  go_ret2
  exact ⟨rfl, hb9⟩
set_option maxRecDepth 100000 in
theorem cutSign_one (S F T : List UInt8) (w : World) (hp : 0 < (⟨S.toArray⟩ : ByteArray).size) (hb : ¬ (((⟨S.toArray⟩ : ByteArray)[0]'hp).toNat : Int) = 91) (x1 : (⟨S.toArray⟩ : ByteArray).extract 0 1 = ⟨F.toArray⟩) (x2 : (⟨S.toArray⟩ : ByteArray).extract 1 S.length = ⟨T.toArray⟩) :
    Calls Try.prog 57 #[.string ⟨S.toArray⟩] w (RetB (two (.string ⟨F.toArray⟩) (.string ⟨T.toArray⟩)) w) := by
  have hp2 : 0 < S.length := by have : S.toArray.size = S.length := by simp
                                have h2 : 0 < S.toArray.size := hp
                                omega
  go_enter Try.func57, Try.ntmps57
  go_wp2
  go_quiet (fail)
  go_wp2
  go_ret2
  exact ⟨rfl, below_n (Below.refl _ _) _⟩
theorem cutSign_any (s : List UInt8) (w : World) (hs : s ≠ []) (hl : s.length ≤ 1000000000000) :
    Calls Try.prog 57 #[.string ⟨s.toArray⟩] w (RetB (two (.string ⟨(cutS s).1.toArray⟩) (.string ⟨(cutS s).2.toArray⟩)) w) := by
  match s, hs with
  | c :: r, _ =>
    have hp : 0 < (⟨(c :: r).toArray⟩ : ByteArray).size := by simp [ByteArray.size]
    have hget : (⟨(c :: r).toArray⟩ : ByteArray)[0]'hp = c := by simp [ByteArray.getElem_eq_getElem_data]
    by_cases hc : c = 91
    · have e : cutS (c :: r) = ((c :: r).take ((c :: r).length - (aft (c :: r)).length), aft (c :: r)) := by rw [hc, cutS_br, aft_br]
      rw [e]
      refine cutSign_br _ _ _ w hp hl (by rw [hget, hc]; rfl) (Lib.hid rfl) (aft_len _) ?_
      exact ext_of _ _ _ _ (by rw [List.drop_zero])
    · rw [cutS_one r hc]
      refine cutSign_one _ _ _ w hp (by rw [hget]; intro e; exact hc (Lib.byte_eq_of_toNat (by exact_mod_cast e))) (ext_of _ _ _ _ rfl) (ext_of _ _ _ _ ?_)
      rw [List.take_length]; rfl
end Go.Proofs.Ytfneafofohfdnaa
