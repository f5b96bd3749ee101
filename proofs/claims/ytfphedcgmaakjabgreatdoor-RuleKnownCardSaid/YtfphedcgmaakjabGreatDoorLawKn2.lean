/-
  RuleKnown returns true for every list of provisions, further provision and pair of days, in every world in which the list lies and the table of powers of ten is laid.
-/
import Derived.Test.YtfphedcgmaakjabGreatDoorLawKnw
import Derived.Test.YtfphedcgmaakjabGreatDoorCons0
import Derived.Test.YtfphedcgmaakjabGreatDoorRefNext2
namespace Go.Proofs.YtfphedcgmaakjabGreatDoor
open Go.RowKit
theorem lawB_names {l : List Pv} (h : lawB l = true) : ∀ p ∈ l, p.name.size ≤ 30 := by
  intro p hp
  unfold lawB at h
  rw [Bool.and_eq_true] at h
  simpa using List.all_eq_true.1 h.2 p hp
theorem srcE_cd {l : List Pv} {a0 a1 : Int} (h : srcE l a0 a1 = 0) : cdE [a0, a1] = 0 := by
  have := srcE_cp h
  rw [srcE_2 this] at h; exact h
theorem cdE_snd {a0 a1 : Int} (h : cdE [a0, a1] = 0) : inB a1 0 200000 = true := by
  by_cases c : inB a1 0 200000 = true
  · exact c
  · rw [cdE_2n (Or.inr (by simpa using c))] at h; cases h
theorem nxE_cp {l : List Pv} {p : Pv} (h : nxE l p = 0) : cpE (l ++ [p]) = 0 := by
  by_cases c : cpE l = 0
  · by_cases d : cpE (l ++ [p]) = 0
    · exact d
    · rw [nxE_2 c d] at h; exact h
  · rw [nxE_1 c] at h; exact absurd h c
theorem more_src {l : List Pv} {p : Pv} {a0 a1 : Int} (h : srcE l a0 a1 = 0) (hn : nxE l p = 0) : srcE (l ++ [p]) a0 a1 = 0 := by
  rw [srcE_2 (nxE_cp hn)]; exact srcE_cd h
theorem vF_app {l : List Pv} {p : Pv} {a1 : Int} (h : a1 < p.entered) (nm : ByteArray) (d : Int) : vF (l ++ [p]) nm a1 d = vF l nm a1 d := by
  have e : dec (l ++ [p]) d a1 nm (l ++ [p]).length = dec l d a1 nm l.length := by
    rw [List.length_append, List.length_singleton, dec_skip (p := p) (by simp) (by simp) (Or.inr h), dec_app nm _ (Nat.le_refl _)]
  unfold vF
  rw [e]
  split
  · rfl
  · rename_i i hi
    rw [List.getElem?_append_left (dec_lt _ _ _ _ _ _ hi).2]
theorem chgE_app {l : List Pv} {p : Pv} {a1 : Int} (h : a1 < p.entered) (nm : ByteArray) : chgE (l ++ [p]) nm a1 = chgE l nm a1 := by unfold chgE; rw [frs_app h]
theorem chgC_app {l : List Pv} {p : Pv} {a1 : Int} (h : a1 < p.entered) (nm : ByteArray) : chgC (l ++ [p]) nm a1 = chgC l nm a1 := by
  unfold chgC; rw [frs_app h, show hv (l ++ [p]) nm a1 = hv l nm a1 from funext fun d => hv_app h nm d]
section
variable {l : List Pv} {p : Pv} {a0 a1 : Int} (hl : l.length ≤ 990) (hm : p.name.size ≤ maxLen) (he : srcE l a0 a1 = 0) (hk : a1 < p.entered) (hx : nxE l p = 0)
include hl hm he hk hx
theorem more_V : ∀ W g c, PvsAt W g 0 (l ++ [p]) → Calls Tryz.prog 21 #[.slice (some ⟨g, 0, none⟩) (l.length + 1) c, .string p.name, .agg #[.int .i64 a0, .int .i64 a1]] W (RetB (two (.int .i64 (hv l p.name a1 a0).1) (.int .i64 (vF l p.name a1 a0))) W) := by
  intro W g c hW
  have h := Value_vf (l ++ [p]) p.name a0 a1 g 0 c (by simp; omega) hm (more_src he hx) W hW
  rw [hv_app hk, vF_app hk] at h
  simpa using h
theorem more_H : ∀ W g c, PvsAt W g 0 (l ++ [p]) → Calls Tryz.prog 22 #[.slice (some ⟨g, 0, none⟩) (l.length + 1) c, .string p.name, .int .i64 a1] W (fun e w' => ∃ v, e = .returned (two v (.int .i64 (chgE l p.name a1))) ∧ ChgAt w' W.heap.size v (chgC l p.name a1) ∧ Below W.heap.size W w') := by
  intro W g c hW
  have h := Changes_all (l ++ [p]) p.name a0 a1 g 0 c (by simp; omega) hm (more_src he hx) (cdE_snd (srcE_cd he)) W hW
  rw [chgE_app hk, chgC_app hk] at h
  simpa using h
omit hm in
theorem more_T (hn : ∀ q ∈ l, q.name.size ≤ 30) (hp : p.name.size ≤ 30) : ∀ W g c, Tab W → PvsAt W g 0 (l ++ [p]) → Calls Tryz.prog 23 #[.slice (some ⟨g, 0, none⟩) (l.length + 1) c, .agg #[.int .i64 a0, .int .i64 a1]] W (RetB (two (.string (conT l a0 a1)) (.int .i64 0)) W) := by
  intro W g c hT hW
  have h := Consolidated_ok (l ++ [p]) a0 a1 g 0 c W (by simp; omega) hW hT (by
    intro q hq
    rcases List.mem_append.1 hq with hq | hq
    · exact hn q hq
    · rw [List.mem_singleton.1 hq]; exact hp) (more_src he hx)
  rw [conT_congr (l' := l) (fun nm => hv_app hk nm a0)] at h
  simpa using h
end
theorem RuleKnown_list (l : List Pv) (b o cap : Nat) (p : Pv) (a0 a1 : Int) (w : World) (hl : l.length ≤ maxLen) (hm : p.name.size ≤ maxLen) (hc : PvsAt w b o l) (ht : Tab w) :
    Calls Tryz.prog 5 #[.slice (some ⟨b, o, none⟩) l.length cap, p.val, .agg #[.int .i64 a0, .int .i64 a1]] w (RetB (.bool true) w) := by
  have hG : ∀ W W', (PvsAt W b o l ∧ Tab W) → Below W.heap.size W W' → (PvsAt W' b o l ∧ Tab W') := fun _ _ h k => ⟨h.1.below k, h.2.below k⟩
  cases hB : lawB l
  · exact RuleKnown_1 (fun W => PvsAt W b o l ∧ Tab W) hG _ p a0 a1 hm w ⟨hc, ht⟩ (Lib.hid fun W hW => by have := Laws_any l b o cap W hl hW.1; rwa [hB] at this)
  · have hl2 : l.length ≤ 210 := lawB_le hB
    have hnm := lawB_names hB
    have cL : Hid (∀ W, (PvsAt W b o l ∧ Tab W) → Calls Tryz.prog 12 #[.slice (some ⟨b, o, none⟩) l.length cap] W (Ret (.bool true) W)) := Lib.hid fun W hW => by have := Laws_any l b o cap W hl hW.1; rwa [hB] at this
    by_cases hn : 30 < p.name.size
    · exact RuleKnown_2 (fun W => PvsAt W b o l ∧ Tab W) hG _ p a0 a1 hm w ⟨hc, ht⟩ hn cL
    · have cA := fun W (hW : PvsAt W b o l ∧ Tab W) => atErr_any l a0 a1 b o cap W (by omega) hW.1
      by_cases he : srcE l a0 a1 = 0
      · rw [he] at cA
        by_cases hk : p.entered ≤ a1
        · exact RuleKnown_4 (fun W => PvsAt W b o l ∧ Tab W) hG _ p a0 a1 hm w ⟨hc, ht⟩ (by omega) hk cL (Lib.hid cA)
        · by_cases hx : nxE l p = 0
          · exact RuleKnown_6 (fun W => PvsAt W b o l ∧ Tab W) hG _ p a0 a1 hm w ⟨hc, ht⟩ (by omega) (by omega) cL (Lib.hid cA) l (Lib.hid fun W hW => Next_ok l p b o cap W (by omega) hW.1 hm hx)
              _ _ (Lib.hid fun W hW => Value_vf l p.name a0 a1 b o cap (by omega) hm he W hW.1) (Lib.hid (more_V (by omega) hm he (by omega) hx))
              _ _ (chgC_len (by omega)) (Lib.hid fun W hW => Changes_all l p.name a0 a1 b o cap (by omega) hm he (cdE_snd (srcE_cd he)) W hW.1) (Lib.hid (more_H (by omega) hm he (by omega) hx))
              _ (Lib.hid fun W hW => Consolidated_ok l a0 a1 b o cap W (by omega) hW.1 hW.2 hnm he) (Lib.hid fun W g c hW hV => more_T (by omega) he (by omega) hx hnm (by omega) W g c hW.2 hV)
          · exact RuleKnown_5 (fun W => PvsAt W b o l ∧ Tab W) hG _ p a0 a1 hm w ⟨hc, ht⟩ (by omega) (by omega) cL (Lib.hid cA) _ (by simpa using hx) (Lib.hid fun W hW => Next_err l p b o cap W (by omega) hW.1 hm hx)
      · exact RuleKnown_3 (fun W => PvsAt W b o l ∧ Tab W) hG _ p a0 a1 hm w ⟨hc, ht⟩ (by omega) _ (by simpa using he) cL (Lib.hid cA)
theorem RuleKnown_nil (a : Option Addr) (cap : Nat) (p : Pv) (a0 a1 : Int) (w : World) (hm : p.name.size ≤ maxLen) (ht : Tab w) :
    Calls Tryz.prog 5 #[.slice a 0 cap, p.val, .agg #[.int .i64 a0, .int .i64 a1]] w (RetB (.bool true) w) := by
  have hG : ∀ W W', Tab W → Below W.heap.size W W' → Tab W' := fun _ _ h k => h.below k
  have cL : Hid (∀ W, Tab W → Calls Tryz.prog 12 #[.slice a 0 cap] W (Ret (.bool true) W)) := Lib.hid fun W _ => Laws_0 a cap W
  by_cases hn : 30 < p.name.size
  · exact RuleKnown_2 Tab hG _ p a0 a1 hm w ht hn cL
  · have cA := fun W (_ : Tab W) => atErr_any_0 a0 a1 a cap W
    by_cases he : srcE [] a0 a1 = 0
    · rw [he] at cA
      by_cases hk : p.entered ≤ a1
      · exact RuleKnown_4 Tab hG _ p a0 a1 hm w ht (by omega) hk cL (Lib.hid cA)
      · by_cases hx : nxE [] p = 0
        · have hd := cdE_snd (srcE_cd he)
          have e1 : chgE [] p.name a1 = 6 := by simp [chgE, frs, once, Lib.compact, Lib.compactUpTo]
          have e2 : chgC [] p.name a1 = [] := by simp [chgC, frs, once, Lib.compact, Lib.compactUpTo, chk]
          exact RuleKnown_6 Tab hG _ p a0 a1 hm w ht (by omega) (by omega) cL (Lib.hid cA) [] (Lib.hid fun W _ => (Next_0 p a cap W hm).2 hx)
            _ _ (Lib.hid fun W _ => Value_none_0 p.name a0 a1 a cap W hm he rfl) (Lib.hid (more_V (l := []) (by simp) hm he (by omega) hx))
            _ _ (chgC_len (l := []) (by simp)) (Lib.hid fun W hW => (Changes_none _ p.name a1 Tab hG W hW [] rfl hd (Lib.hid fun W _ => CheckProvisions_0 a cap W) (Lib.hid fun W _ => beginnings_0 a cap p.name a1 W)).mono (by
              rintro e w' ⟨rfl, hb⟩
              refine ⟨.slice none 0 0, by rw [e1], ?_, hb⟩
              rw [e2]
              exact .inl ⟨rfl, rfl⟩)) (Lib.hid (more_H (l := []) (by simp) hm he (by omega) hx))
            _ (Lib.hid fun W _ => Consolidated_ok_0 a0 a1 a cap W he) (Lib.hid fun W g c hW hV => more_T (l := []) (by simp) he (by omega) hx (by simp) (by omega) W g c hW hV)
        · exact RuleKnown_5 Tab hG _ p a0 a1 hm w ht (by omega) (by omega) cL (Lib.hid cA) _ (by simpa using hx) (Lib.hid fun W _ => (Next_0 p a cap W hm).1 hx)
    · exact RuleKnown_3 Tab hG _ p a0 a1 hm w ht (by omega) _ (by simpa using he) cL (Lib.hid cA)
end Go.Proofs.YtfphedcgmaakjabGreatDoor
