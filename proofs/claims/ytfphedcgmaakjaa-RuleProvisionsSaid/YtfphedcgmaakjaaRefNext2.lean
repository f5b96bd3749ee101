/-
  What both functions Next return, for a list in one block and for an empty one.
-/
import Derived.Test.YtfphedcgmaakjaaRefNext
namespace Go.Proofs.Ytfphedcgmaakjaa
open Go.RowKit
theorem xNext_err (l : List Pv) (p : Pv) (b o cap : Nat) (w : World) (hl : l.length ≤ 1000) (hc : PvsAt w b o l) (hn : p.name.size ≤ maxLen) (he : nxE l p ≠ 0) :
    Calls Try.prog 52 #[.slice (some ⟨b, o, none⟩) l.length cap, p.val] w (RetB (two (.slice none 0 0) (.int .i64 (nxE l p))) w) := by
  have hn' : ∀ q ∈ l ++ [p], q.name.size ≤ maxLen := fun q hq => by
    rcases List.mem_append.1 hq with h | h
    · exact hc.names q h
    · rw [List.mem_singleton] at h; subst h; exact hn
  have cS : Hid (∀ W, PvsAt W b o l → ∀ ad, some (⟨b, o, none⟩ : Addr) = some ad → ∀ j u, (pcs l)[j]? = some u → W.cell? (ad.add j) = some u) := Lib.hid fun W hW ad hs j u hj => by
    obtain rfl := Option.some.inj hs
    rw [addo]; exact hW.cells j u hj
  have cN : Hid (some (⟨b, o, none⟩ : Addr) = none → l.length = 0) := Lib.hid fun c => by cases c
  by_cases h1 : cpE l = 0
  · have cC : Hid (∀ W, PvsAt W b o l → Calls Try.prog 54 #[.slice (some ⟨b, o, none⟩) l.length cap] W (RetB (.int .i64 0) W)) := Lib.hid fun W hW => by have := xCheckProvisions_any l b o cap W (by omega) hW; rwa [h1] at this
    have cM := fun W g c (hW : PvsAt W g 0 (l ++ [p])) => xCheckProvisions_any (l ++ [p]) g 0 c W (by simp; omega) hW
    simp only [List.length_append, List.length_singleton] at cM
    by_cases h2 : cpE (l ++ [p]) = 0
    · cases h3 : (p.repeal && !hasB l p.name p.from' p.entered)
      · exact absurd (nxE_4 h1 h2 h3) he
      · rw [nxE_3 h1 h2 h3]
        rw [h2] at cM
        obtain ⟨nm, v, fr, en, rp⟩ := p
        simp only [Bool.and_eq_true, Bool.not_eq_true'] at h3
        obtain ⟨h3, h4⟩ := h3
        subst h3
        have cH : ∃ x : Int, ∀ W, PvsAt W b o l → Calls Try.prog 90 #[.slice (some ⟨b, o, none⟩) l.length cap, .string nm, .agg #[.int .i64 fr, .int .i64 en]] W (RetB (two (.int .i64 x) (.bool false)) W) := by
          unfold hasB at h4
          cases hd : dec l fr en nm l.length with
          | none => exact ⟨0, fun W hW => xHas_none l nm fr en b o cap W (by omega) hW hd⟩
          | some i =>
            obtain ⟨_, hil⟩ := dec_lt l fr en nm l.length i hd
            rw [hd] at h4
            simp only [List.getElem?_eq_getElem hil, Bool.not_eq_false'] at h4
            refine ⟨if l[i].repeal then 0 else l[i].value, fun W hW => ?_⟩
            have := xHas_some l nm fr en b o cap W (by omega) hW i l[i] hil rfl hd
            rw [h4] at this ⊢; exact this
        obtain ⟨x, cH⟩ := cH
        exact xNext_3 l (fun W => PvsAt W b o l) (fun _ _ h k => h.below k) (fun _ h => h) _ cap nm v fr en hl w hc (fun W hW => hc.below hW) hn' cC cS cN (Lib.hid cM) x (Lib.hid cH)
    · rw [nxE_2 h1 h2]
      obtain ⟨nm, v, fr, en, rp⟩ := p
      exact xNext_2 l (fun W => PvsAt W b o l) (fun _ _ h k => h.below k) (fun _ h => h) _ cap nm v fr en rp hl w hc (fun W hW => hc.below hW) hn' cC cS cN _ (by simpa using h2) (Lib.hid cM)
  · rw [nxE_1 h1]
    exact xNext_1 (fun W => PvsAt W b o l) (fun _ _ h k => h.below k) _ p _ (by simpa using h1) w hc (Lib.hid fun W hW => xCheckProvisions_any l b o cap W (by omega) hW)
theorem xNext_ok (l : List Pv) (p : Pv) (b o cap : Nat) (w : World) (hl : l.length ≤ 1000) (hc : PvsAt w b o l) (hn : p.name.size ≤ maxLen) (he : nxE l p = 0) :
    Calls Try.prog 52 #[.slice (some ⟨b, o, none⟩) l.length cap, p.val] w (NextOk l p w) := by
  have hn' : ∀ q ∈ l ++ [p], q.name.size ≤ maxLen := fun q hq => by
    rcases List.mem_append.1 hq with h | h
    · exact hc.names q h
    · rw [List.mem_singleton] at h; subst h; exact hn
  have h1 : cpE l = 0 := by
    by_cases h1 : cpE l = 0
    · exact h1
    · rw [nxE_1 h1] at he; exact absurd he h1
  have h2 : cpE (l ++ [p]) = 0 := by
    by_cases h2 : cpE (l ++ [p]) = 0
    · exact h2
    · rw [nxE_2 h1 h2] at he; exact absurd he h2
  have h3 : (p.repeal && !hasB l p.name p.from' p.entered) = false := by
    cases h3 : (p.repeal && !hasB l p.name p.from' p.entered)
    · rfl
    · rw [nxE_3 h1 h2 h3] at he; cases he
  have cS : Hid (∀ W, PvsAt W b o l → ∀ ad, some (⟨b, o, none⟩ : Addr) = some ad → ∀ j u, (pcs l)[j]? = some u → W.cell? (ad.add j) = some u) := Lib.hid fun W hW ad hs j u hj => by
    obtain rfl := Option.some.inj hs
    rw [addo]; exact hW.cells j u hj
  have cN : Hid (some (⟨b, o, none⟩ : Addr) = none → l.length = 0) := Lib.hid fun c => by cases c
  have cC : Hid (∀ W, PvsAt W b o l → Calls Try.prog 54 #[.slice (some ⟨b, o, none⟩) l.length cap] W (RetB (.int .i64 0) W)) := Lib.hid fun W hW => by have := xCheckProvisions_any l b o cap W (by omega) hW; rwa [h1] at this
  have cM := fun W g c (hW : PvsAt W g 0 (l ++ [p])) => xCheckProvisions_any (l ++ [p]) g 0 c W (by simp; omega) hW
  simp only [List.length_append, List.length_singleton] at cM
  rw [h2] at cM
  obtain ⟨nm, v, fr, en, rp⟩ := p
  cases rp
  · have cH : ∃ (x : Int) (bb : Bool), ∀ W, PvsAt W b o l → Calls Try.prog 90 #[.slice (some ⟨b, o, none⟩) l.length cap, .string nm, .agg #[.int .i64 fr, .int .i64 en]] W (RetB (two (.int .i64 x) (.bool bb)) W) := by
      cases hd : dec l fr en nm l.length with
      | none => exact ⟨0, false, fun W hW => xHas_none l nm fr en b o cap W (by omega) hW hd⟩
      | some i =>
        obtain ⟨_, hil⟩ := dec_lt l fr en nm l.length i hd
        exact ⟨_, _, fun W hW => xHas_some l nm fr en b o cap W (by omega) hW i l[i] hil rfl hd⟩
    obtain ⟨x, bb, cH⟩ := cH
    exact xNext_5 l (fun W => PvsAt W b o l) (fun _ _ h k => h.below k) (fun _ h => h) _ cap nm v fr en hl w hc (fun W hW => hc.below hW) hn' cC cS cN (Lib.hid cM) x bb (Lib.hid cH)
  · simp only [Bool.true_and, Bool.not_eq_false'] at h3
    have cH : ∃ x : Int, ∀ W, PvsAt W b o l → Calls Try.prog 90 #[.slice (some ⟨b, o, none⟩) l.length cap, .string nm, .agg #[.int .i64 fr, .int .i64 en]] W (RetB (two (.int .i64 x) (.bool true)) W) := by
      unfold hasB at h3
      cases hd : dec l fr en nm l.length with
      | none => rw [hd] at h3; cases h3
      | some i =>
        obtain ⟨_, hil⟩ := dec_lt l fr en nm l.length i hd
        rw [hd] at h3
        simp only [List.getElem?_eq_getElem hil, Bool.not_eq_true'] at h3
        refine ⟨if l[i].repeal then 0 else l[i].value, fun W hW => ?_⟩
        have := xHas_some l nm fr en b o cap W (by omega) hW i l[i] hil rfl hd
        rw [h3] at this ⊢; exact this
    obtain ⟨x, cH⟩ := cH
    exact xNext_4 l (fun W => PvsAt W b o l) (fun _ _ h k => h.below k) (fun _ h => h) _ cap nm v fr en hl w hc (fun W hW => hc.below hW) hn' cC cS cN (Lib.hid cM) x (Lib.hid cH)
theorem cpE0 : cpE [] = 0 := rfl
theorem hasB0 (nm : ByteArray) (a0 a1 : Int) : hasB [] nm a0 a1 = false := rfl
theorem Next_0 (p : Pv) (a : Option Addr) (cap : Nat) (w : World) (hn : p.name.size ≤ maxLen) :
    (nxE [] p ≠ 0 → Calls Try.prog 51 #[.slice a 0 cap, p.val] w (RetB (two (.slice none 0 0) (.int .i64 (nxE [] p))) w)) ∧
    (nxE [] p = 0 → Calls Try.prog 51 #[.slice a 0 cap, p.val] w (NextOk [] p w)) := by
  have hn' : ∀ q ∈ ([] : List Pv) ++ [p], q.name.size ≤ maxLen := fun q hq => by
    rw [List.nil_append, List.mem_singleton] at hq; subst hq; exact hn
  have cC : Hid (∀ W : World, True → Calls Try.prog 53 #[.slice a 0 cap] W (RetB (.int .i64 0) W)) := Lib.hid fun W _ => CheckProvisions_0 a cap W
  have cK : Hid (∀ (W : World) B, True → B ≤ W.heap.size → Calls Try.prog 88 #[.slice a 0 cap] W (CloneP [] B W)) := Lib.hid fun W B _ hB => clone_0 a cap B W hB
  have cM := fun (W : World) g c (hW : PvsAt W g 0 ([] ++ [p])) => CheckProvisions_any ([] ++ [p]) g 0 c W (by simp) hW
  simp only [List.length_append, List.length_singleton, List.length_nil] at cM
  constructor
  · intro he
    by_cases h2 : cpE ([] ++ [p]) = 0
    · cases h3 : (p.repeal && !hasB [] p.name p.from' p.entered)
      · exact absurd (nxE_4 cpE0 h2 h3) he
      · rw [nxE_3 cpE0 h2 h3]
        rw [h2] at cM
        obtain ⟨nm, v, fr, en, rp⟩ := p
        simp only [Bool.and_eq_true, Bool.not_eq_true'] at h3
        obtain ⟨h3, h4⟩ := h3
        subst h3
        exact Next_3 [] (fun _ => True) (fun _ _ _ _ => trivial) (fun _ _ => trivial) a cap nm v fr en (by simp) w trivial (fun _ _ => trivial) hn' cC cK (Lib.hid cM) 0 (Lib.hid fun W _ => heldBy_none_0 nm fr en a cap W hn)
    · rw [nxE_2 cpE0 h2]
      exact Next_2 [] (fun _ => True) (fun _ _ _ _ => trivial) (fun _ _ => trivial) a cap p _ (by simpa using h2) (by simp) w trivial hn' cC cK (Lib.hid cM)
  · intro he
    have h2 : cpE ([] ++ [p]) = 0 := by
      by_cases h2 : cpE ([] ++ [p]) = 0
      · exact h2
      · rw [nxE_2 cpE0 h2] at he; exact absurd he h2
    have h3 : (p.repeal && !hasB [] p.name p.from' p.entered) = false := by
      cases h3 : (p.repeal && !hasB [] p.name p.from' p.entered)
      · rfl
      · rw [nxE_3 cpE0 h2 h3] at he; cases he
    rw [h2] at cM
    obtain ⟨nm, v, fr, en, rp⟩ := p
    cases rp
    · exact Next_5 [] (fun _ => True) (fun _ _ _ _ => trivial) (fun _ _ => trivial) a cap nm v fr en (by simp) w trivial (fun _ _ => trivial) hn' cC cK (Lib.hid cM)
    · simp [hasB0] at h3
theorem xNext_0 (p : Pv) (a : Option Addr) (cap : Nat) (w : World) (hn : p.name.size ≤ maxLen) :
    (nxE [] p ≠ 0 → Calls Try.prog 52 #[.slice a 0 cap, p.val] w (RetB (two (.slice none 0 0) (.int .i64 (nxE [] p))) w)) ∧
    (nxE [] p = 0 → Calls Try.prog 52 #[.slice a 0 cap, p.val] w (NextOk [] p w)) := by
  have hn' : ∀ q ∈ ([] : List Pv) ++ [p], q.name.size ≤ maxLen := fun q hq => by
    rw [List.nil_append, List.mem_singleton] at hq; subst hq; exact hn
  have cC : Hid (∀ W : World, True → Calls Try.prog 54 #[.slice a 0 cap] W (RetB (.int .i64 0) W)) := Lib.hid fun W _ => xCheckProvisions_0 a cap W
  have cS : Hid (∀ W : World, True → ∀ ad, a = some ad → ∀ (j : Nat) u, (pcs [])[j]? = some u → W.cell? (ad.add j) = some u) := Lib.hid fun W _ ad _ j u hj => by simp [pcs] at hj
  have cN : Hid (a = none → ([] : List Pv).length = 0) := Lib.hid fun _ => rfl
  have cM := fun (W : World) g c (hW : PvsAt W g 0 ([] ++ [p])) => xCheckProvisions_any ([] ++ [p]) g 0 c W (by simp) hW
  simp only [List.length_append, List.length_singleton, List.length_nil] at cM
  constructor
  · intro he
    by_cases h2 : cpE ([] ++ [p]) = 0
    · cases h3 : (p.repeal && !hasB [] p.name p.from' p.entered)
      · exact absurd (nxE_4 cpE0 h2 h3) he
      · rw [nxE_3 cpE0 h2 h3]
        rw [h2] at cM
        obtain ⟨nm, v, fr, en, rp⟩ := p
        simp only [Bool.and_eq_true, Bool.not_eq_true'] at h3
        obtain ⟨h3, h4⟩ := h3
        subst h3
        exact xNext_3 [] (fun _ => True) (fun _ _ _ _ => trivial) (fun _ _ => trivial) a cap nm v fr en (by simp) w trivial (fun _ _ => trivial) hn' cC cS cN (Lib.hid cM) 0 (Lib.hid fun W _ => xHas_none_0 nm fr en a cap W)
    · rw [nxE_2 cpE0 h2]
      obtain ⟨nm, v, fr, en, rp⟩ := p
      exact xNext_2 [] (fun _ => True) (fun _ _ _ _ => trivial) (fun _ _ => trivial) a cap nm v fr en rp (by simp) w trivial (fun _ _ => trivial) hn' cC cS cN _ (by simpa using h2) (Lib.hid cM)
  · intro he
    have h2 : cpE ([] ++ [p]) = 0 := by
      by_cases h2 : cpE ([] ++ [p]) = 0
      · exact h2
      · rw [nxE_2 cpE0 h2] at he; exact absurd he h2
    have h3 : (p.repeal && !hasB [] p.name p.from' p.entered) = false := by
      cases h3 : (p.repeal && !hasB [] p.name p.from' p.entered)
      · rfl
      · rw [nxE_3 cpE0 h2 h3] at he; cases he
    rw [h2] at cM
    obtain ⟨nm, v, fr, en, rp⟩ := p
    cases rp
    · exact xNext_5 [] (fun _ => True) (fun _ _ _ _ => trivial) (fun _ _ => trivial) a cap nm v fr en (by simp) w trivial (fun _ _ => trivial) hn' cC cS cN (Lib.hid cM) 0 false (Lib.hid fun W _ => xHas_none_0 nm fr en a cap W)
    · simp [hasB0] at h3
end Go.Proofs.Ytfphedcgmaakjaa
