/-
  The examples of chapter 4 (awake): they hold.
-/
import Derived.Test.YtfneafofohfdnaaDis
import Derived.Test.YtfneafofohfdnaaCls
import Derived.Test.YtfneafofohfdnaaLst
namespace Go.Proofs.Ytfneafofohfdnaa
open Go.RowKit
theorem SignsP_bad (s : List UInt8) (w : World) (hl : s.length ≤ 1000000000000) (h : nmE s ≠ 0) : Calls Try.prog 10 #[.string ⟨s.toArray⟩] w (RetB (two (.slice none 0 0) (.int .i64 (nmE s))) w) := by
  have hr := Lib.hid (readName_any s w hl)
  have hb : ((nmE s : Int) != 0) = true := by simpa using h
  go_enter Try.func10, Try.ntmps10
  go_wp2_with (go_at_call 34; refine hr.out.mono ?_; rintro e w1 ⟨a, n, c, rfl, hn, hM, hb1⟩)
  go_ret2
  exact ⟨rfl, hb1⟩
theorem LLI.of_rows {W : World} {base b0 : Nat} {e e' : TypeId} {v : Value} {ks : List Int} {vf : Int → Value} {g : Int → List Int} (h : W.ownsRow base e 1 v ks.length (ks.map vf)) (hf : ∀ f ∈ ks, W.ownsInts b0 e' .i64 (vf f) (g f)) : LLI W v (ks.map g) := by
  rcases h.2 with ⟨rfl, h0⟩ | ⟨b, cap, cur, rfl, hg, hgb, _⟩
  · have : ks = [] := List.length_eq_zero_iff.1 h0
    subst this
    exact ⟨none, 0, rfl, fun h => absurd rfl h⟩
  · refine ⟨_, cap, by rw [List.length_map], fun _ => ⟨b, rfl, (Array.getElem?_eq_some_iff.1 hgb).1, fun i hi => ?_⟩⟩
    have hi' : i < ks.length := by simpa using hi
    refine ⟨vf ks[i], ?_, ?_⟩
    · have := h.cells (g := b) rfl i (vf ks[i]) (by simp [hi'])
      rw [show ((⟨b, 0, none⟩ : Addr).add i) = ⟨b, i, none⟩ by cases i <;> simp [Addr.add]] at this
      exact this
    · rw [List.getElem_map]
      have := hf ks[i] (List.getElem_mem hi')
      exact LI.of_own this.1
theorem LLI.below {W W' : World} {v : Value} {L : List (List Int)} (h : LLI W v L) (hb : Below W.heap.size W W') : LLI W' v L := by
  obtain ⟨a, c, e, h⟩ := h
  refine ⟨a, c, e, fun hn => ?_⟩
  obtain ⟨b, e2, hl, hc⟩ := h hn
  refine ⟨b, e2, Nat.lt_of_lt_of_le hl hb.size, fun i hi => ?_⟩
  obtain ⟨u, h1, h2⟩ := hc i hi
  exact ⟨u, (hb.cell (p := ⟨b, i, none⟩) hl).trans h1, h2.below hb⟩
theorem LLI_lit (W : World) (t t' : TypeId) : LLI (((W.alloc (.cells #[.int .i64 0, .int .i64 1, .int .i64 2] t)).alloc (.cells #[.int .i64 3] t)).alloc (.cells #[.slice (some ⟨W.heap.size, 0, none⟩) 3 3, .slice (some ⟨W.heap.size + 1, 0, none⟩) 1 1] t')) (.slice (some ⟨W.heap.size + 1 + 1, 0, none⟩) 2 2) [[0, 1, 2], [3]] := by
  refine ⟨_, 2, rfl, fun _ => ⟨W.heap.size + 1 + 1, rfl, by simp, fun i hi => ?_⟩⟩
  have hi' : i = 0 ∨ i = 1 := by simp at hi; omega
  rcases hi' with rfl | rfl
  · refine ⟨.slice (some ⟨W.heap.size, 0, none⟩) 3 3, by simp [go_sem], _, 3, rfl, fun _ => ⟨W.heap.size, rfl, by simp; omega, fun j hj => ?_⟩⟩
    have hj' : j = 0 ∨ j = 1 ∨ j = 2 := by simp at hj; omega
    rcases hj' with rfl | rfl | rfl <;> simp [go_sem]
  · refine ⟨.slice (some ⟨W.heap.size + 1, 0, none⟩) 1 1, by simp [go_sem], _, 1, rfl, fun _ => ⟨W.heap.size + 1, rfl, by simp, fun j hj => ?_⟩⟩
    obtain rfl : j = 0 := by simp at hj; omega
    simp [go_sem]
theorem LLI.after3 {w3 w4 : World} {v : Value} {L : List (List Int)} {o1 o2 o3 : Obj} (h : LLI w3 v L) (hb : Below w3.heap.size w3 w4) : LLI (((w4.alloc o1).alloc o2).alloc o3) v L :=
  (h.below hb).below ((((Below.refl _ w4).alloc (Nat.le_refl _) o1).alloc (by simp) o2).alloc (by simp; omega) o3)
theorem AwB {w w1 w2 w3 w4 w5 : World} {o o1 o2 o3 : Obj} (h1 : Below w.heap.size w w1) (h2 : Below w1.heap.size w1 w2) (h3 : Below (w2.alloc o).heap.size (w2.alloc o) w3) (h4 : Below w3.heap.size w3 w4) (h5 : Below (((w4.alloc o1).alloc o2).alloc o3).heap.size (((w4.alloc o1).alloc o2).alloc o3) w5) : Below w.heap.size w w5 := by
  have a2 := h1.trans (h2.mono h1.size)
  have a2' := a2.alloc a2.size o
  have a3 := a2'.trans (h3.mono a2'.size)
  have a4 := a3.trans (h4.mono a3.size)
  have c1 := a4.alloc a4.size o1
  have c2 := c1.alloc c1.size o2
  have c3 := c2.alloc c2.size o3
  exact c3.trans (h5.mono c3.size)
/-- the four texts of the examples -/
abbrev tA : List UInt8 := [77, 91, 97, 101, 93, 105, 101, 114]
abbrev tB : List UInt8 := [77, 101, 91, 105, 121, 93, 101, 114]
abbrev tC : List UInt8 := [77, 97, 121, 114]
abbrev tD : List UInt8 := [77, 97, 105, 101, 114]
theorem ex1 : cmT tA tB = ([77, 101, 105, 101, 114], 0) := by decide +kernel
theorem ex2 : nmE tC = 0 ∧ nmE tD = 0 := by decide +kernel
theorem ex3' : ((rdN tC).bind fun x => (rdN tD).bind fun y => some (diM (cM x y) x.length y.length)) = some 2 := by decide +kernel
theorem ex3 : ∃ x y, rdN tC = some x ∧ rdN tD = some y ∧ diM (cM x y) x.length y.length = 2 := by
  have h := ex3'
  cases hx : rdN tC with
  | none => rw [hx] at h; cases h
  | some x =>
    cases hy : rdN tD with
    | none => rw [hx, hy] at h; cases h
    | some y =>
      rw [hx, hy] at h
      exact ⟨x, y, rfl, rfl, Option.some.inj h⟩
theorem ex4 : nmE [91, 101, 97, 93] = 7 := by decide +kernel
theorem ex5 : ∀ d ∈ exD, gdD (4 : Nat) d := by
  intro d hd
  simp only [exD, List.mem_cons, List.not_mem_nil, or_false] at hd
  rcases hd with rfl | rfl | rfl <;> simp [gdD]
theorem ex6 : okD (4 : Nat) exD := fun d hd _ => ⟨(ex5 d hd).2.1, (ex5 d hd).2.2.1⟩
theorem ex7 : (ksM (fM exD (stM exD) 4) 4).map (fun f => grM (fM exD (stM exD) 4) f 4) = [[0, 1, 2], [3]] := exD_cl
theorem DcAt_ex (W : World) (t : TypeId) : DcAt (W.alloc (.cells #[.int .i64 0, .int .i64 0, .int .i64 1, .int .i64 0, .int .i64 1, .int .i64 2, .int .i64 1, .int .i64 0, .int .i64 2] t)).heap.size (W.alloc (.cells #[.int .i64 0, .int .i64 0, .int .i64 1, .int .i64 0, .int .i64 1, .int .i64 2, .int .i64 1, .int .i64 0, .int .i64 2] t)) W.heap.size exD := by
  refine ⟨by simp, fun j hj => ?_⟩
  have h1 := heap_alloc_new W (.cells #[.int .i64 0, .int .i64 0, .int .i64 1, .int .i64 0, .int .i64 1, .int .i64 2, .int .i64 1, .int .i64 0, .int .i64 2] t)
  have hj' : j = 0 ∨ j = 1 ∨ j = 2 := by have : exD.length = 3 := rfl; omega
  rcases hj' with rfl | rfl | rfl
  all_goals
    unfold World.cell?
    simp only [h1]
    exact ⟨rfl, rfl, rfl⟩
set_option maxRecDepth 100000 in
set_option maxHeartbeats 8000000 in
theorem awake_any (w : World) : Calls Try.prog 8 #[] w (RetB (.bool true) w) := by
  obtain ⟨x, y, hx, hy, hd⟩ := ex3
  have H1 := Lib.hid (fun W => Common_any tA tB W (by decide) (by decide))
  have H2 := Lib.hid (fun W => Distance_good tC tD x y W (by decide) (by decide) ex2.1 ex2.2 hx hy)
  have H3 := Lib.hid (fun W b hc => classes_any W 4 exD b 3 (by decide) (by decide) ex6 ex5 hc)
  have H4 := Lib.hid (fun W => SignsP_bad [91, 101, 97, 93] W (by decide) (by rw [ex4]; decide))
  rw [ex1] at H1
  rw [hd] at H2
  rw [ex4] at H4
  clear hx hy hd
  go_enter Try.func8, Try.ntmps8
  go_wp2_with (first
    | (go_at_call 19; refine (H1.out _).mono ?_; rintro e w1 ⟨rfl, hb1⟩)
    | (go_at_call 20; refine (H2.out _).mono ?_; rintro e w2 ⟨rfl, hb2⟩)
    | (go_at_call 32; refine (H3.out _ _ (DcAt_ex _ _)).mono ?_; rintro e w3 ⟨v, vf, rfl, hrow, hints, hb3⟩)
    | (go_at_call 10; refine (H4.out _).mono ?_; rintro e w4 ⟨rfl, hb4⟩; have HL4 := Lib.hid (fun (o1 o2 o3 : Obj) => LLI.after3 (o1 := o1) (o2 := o2) (o3 := o3) (LLI.of_rows hrow hints) hb4); clear hrow hints)
    | (go_at_call 33; refine (lists_eq (by have h := HL4.out; rw [ex7] at h; exact h _ _ _) (LLI_lit w4 _ _) (by decide) (by decide)).mono ?_; rintro e w5 ⟨rfl, hb5⟩))
  go_ret
  have b1 := hb2.size
  exact ⟨rfl, AwB hb1 hb2 hb3 hb4 hb5⟩
end Go.Proofs.Ytfneafofohfdnaa
