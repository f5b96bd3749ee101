/-
  What the small functions on numbers and errors of package person and of the base return: contracts, each for all worlds.
-/
import Derived.WalkKit
import Derived.ProofKit
import Derived.Lib.Hide
import Derived.WalkLawsBesides
import Derived.BigQuiet
import Derived.Handy
import Derived.LoopTactic
import Derived.Outline
import Derived.Laws.IdiomStrings
import Derived.Test.YtfneafofohfdnaaProg
namespace Go.Proofs.Ytfneafofohfdnaa
open Go.RowKit
abbrev Ret (v : Value) (w : World) : Ending → World → Prop := fun e w' => e = .returned v ∧ w = w'
abbrev RetB (v : Value) (w : World) : Ending → World → Prop := fun e w' => e = .returned v ∧ Below w.heap.size w w'
theorem below_n {B : Nat} {a w : World} (h : Below B a w) (n : Nat) : Below B a (w.drewN n) := ⟨h.os, h.tape, h.output, h.size, h.block⟩
theorem bcell {W w1 : World} (hb : Below W.heap.size W w1) : (∀ b o, b < W.heap.size → w1.cell? ⟨b, o, none⟩ = W.cell? ⟨b, o, none⟩) ∧ (∀ b o, b < W.heap.size → w1.frozen? ⟨b, o, none⟩ = W.frozen? ⟨b, o, none⟩) :=
  ⟨fun b o h => hb.cell (p := ⟨b, o, none⟩) h, fun b o h => hb.frozen (p := ⟨b, o, none⟩) h⟩
theorem same_n {P : Program} {f : FuncId} {args : Array Value} {w : World} {v : Value} (h : Calls P f args w (Ret v w)) : Calls P f args w fun e w' => e = .returned v ∧ w' = w := h.mono fun _ _ ⟨a, b⟩ => ⟨a, b.symm⟩
/-- n is from a to b -/
def inB (n a b : Int) : Bool := decide (a ≤ n) && decide (n ≤ b)
theorem inB_yes {n a b : Int} (h1 : a ≤ n) (h2 : n ≤ b) : inB n a b = true := by simp [inB, h1, h2]
theorem inB_no {n a b : Int} (h : n < a ∨ b < n) : inB n a b = false := by simp [inB]; omega
theorem inB_iff {n a b : Int} : inB n a b = true ↔ a ≤ n ∧ n ≤ b := by simp [inB]
theorem inB_iff' {n a b : Int} : inB n a b = false ↔ n < a ∨ b < n := by simp [inB]; omega

theorem isFromTo_any (n a b : Int) (w : World) : Calls Try.prog 65 #[.int .i64 n, .int .i64 a, .int .i64 b] w (Ret (.bool (inB n a b)) w) := by
  by_cases h1 : a ≤ n
  · by_cases h2 : n ≤ b
    · rw [inB_yes h1 h2]
      go_enter Try.func65, Try.ntmps65
      go_wp2
      go_ret
      exact ⟨rfl, rfl⟩
    · rw [inB_no (Or.inr (by omega))]
      go_enter Try.func65, Try.ntmps65
      go_wp2
      go_ret
      exact ⟨rfl, rfl⟩
  · rw [inB_no (Or.inl (by omega))]
    have h1' : decide (a ≤ n) = false := by simpa using h1
    go_enter Try.func65, Try.ntmps65
    go_wp2
    go_ret
    exact ⟨rfl, rfl⟩
theorem bWithin_any (n a b : Int) (w : World) : Calls Try.prog 76 #[.int .i64 n, .int .i64 a, .int .i64 b] w (Ret (.bool (inB n a b)) w) := by
  by_cases h1 : a ≤ n
  · by_cases h2 : n ≤ b
    · rw [inB_yes h1 h2]
      go_enter Try.func76, Try.ntmps76
      go_wp2
      go_ret
      exact ⟨rfl, rfl⟩
    · rw [inB_no (Or.inr (by omega))]
      go_enter Try.func76, Try.ntmps76
      go_wp2
      go_ret
      exact ⟨rfl, rfl⟩
  · rw [inB_no (Or.inl (by omega))]
    have h1' : decide (a ≤ n) = false := by simpa using h1
    go_enter Try.func76, Try.ntmps76
    go_wp2
    go_ret
    exact ⟨rfl, rfl⟩
abbrev two (a : Value) (b : Value) : Value := .tuple #[a, b]
abbrev three (a b c : Value) : Value := .tuple #[a, b, c]
theorem ret_i {a b : Int} (h : a = b) : Ending.returned (.int .i64 a) = .returned (.int .i64 b) := by rw [h]
theorem set_drewN (w : World) (n : Nat) (a : Addr) (v : Value) : (w.drewN n).setCell a v = (w.setCell a v).drewN n := by
  unfold World.setCell World.drewN
  dsimp only
theorem bapp (a b : Array UInt8) : ((⟨a⟩ : ByteArray) ++ (⟨b⟩ : ByteArray)) = ⟨a ++ b⟩ := by
  apply ByteArray.ext
  simp
theorem below_keep {W W' : World} {p : Addr} {v : Value} (hb : Below W.heap.size W W') (h : W.cell? p = some v) : W'.cell? p = some v := (hb.cell (World.block_lt_of_cell? W _ h)).trans h
/-- a list of whole numbers lies in block b, from cell o on -/
def IntsAt (w : World) (b o : Nat) (xs : List Int) : Prop := ∀ i (h : i < xs.length), w.cell? ⟨b, o + i, none⟩ = some (.int .i64 xs[i])
theorem IntsAt.one {w : World} {b o : Nat} {x : Int} (h : w.cell? ⟨b, o, none⟩ = some (.int .i64 x)) : IntsAt w b o [x] := by
  intro i hi
  have : i = 0 := by simpa using hi
  subst this
  exact h
theorem IntsAt.cons {w : World} {b o : Nat} {x : Int} {xs : List Int} (h : w.cell? ⟨b, o, none⟩ = some (.int .i64 x)) (t : IntsAt w b (o + 1) xs) : IntsAt w b o (x :: xs) := by
  intro i hi
  cases i with
  | zero => exact h
  | succ i => have := t i (by simpa using hi); simpa [Nat.add_assoc, Nat.add_comm 1 i] using this
theorem mem_take_succ {xs : List Int} {k : Nat} (hk : k < xs.length) {p : Int → Prop} (h : ∀ x ∈ xs.take k, p x) (hx : p xs[k]) : ∀ x ∈ xs.take (k + 1), p x := by
  intro x m
  rw [List.take_succ_eq_append_getElem hk] at m
  rcases List.mem_append.1 m with m | m
  · exact h x m
  · rw [List.mem_singleton.1 m]; exact hx
/-- the first number of a list that is not 0, or 0 -/
def feE : List Int → Int
  | [] => 0
  | x :: xs => if x = 0 then feE xs else x
theorem feE_ok : ∀ {xs : List Int}, (∀ x ∈ xs, x = 0) → feE xs = 0
  | [], _ => rfl
  | x :: xs, h => by unfold feE; rw [if_pos (h x (by simp))]; exact feE_ok fun y m => h y (by simp [m])
theorem feE_no : ∀ {xs : List Int} {k : Nat} (hk : k < xs.length), (∀ x ∈ xs.take k, x = 0) → xs[k] ≠ 0 → feE xs = xs[k]
  | x :: xs, 0, _, _, h => by unfold feE; rw [if_neg (by simpa using h)]; rfl
  | x :: xs, k + 1, hk, h0, h => by
    unfold feE; rw [if_pos (h0 x (by simp))]
    simpa using feE_no (xs := xs) (k := k) (by simpa using hk) (fun y m => h0 y (by simp [m])) (by simpa using h)
set_option maxHeartbeats 400000 in
theorem firstError_any (xs : List Int) (b o cap : Nat) (w : World) (hl : xs.length ≤ 1000) (hc : IntsAt w b o xs) :
    Calls Try.prog 37 #[.slice (some ⟨b, o, none⟩) xs.length cap] w (Ret (.int .i64 (feE xs)) w) := by
  have HC := Lib.hid hc
  clear hc
  go_enter Try.func37, Try.ntmps37
  go_wp2
  go_loop [7] (fun i => ∃ k : Nat, k ≤ xs.length ∧ i = .int .i64 k ∧ ∀ x ∈ xs.take k, x = 0) (fun i => xs.length - (intOf i).toNat)
  case atStart => exact ⟨0, Nat.zero_le _, rfl, by simp⟩
  case round =>
    obtain ⟨k, hk, rfl, hall⟩ := hrel
    have HA := Lib.hid hall
    clear hall
    by_cases hlt : k < xs.length
    · have hcell := HC.out k hlt
      by_cases hx : xs[k] = 0
      · have HX := Lib.hid hx
        rw [hx] at hcell
        clear hx
        go_wp2
        go_round
        case rel => exact ⟨k + 1, by omega, by go_num, mem_take_succ hlt HA.out HX.out⟩
        case measure => simp [intOf]; omega
      · have HX := Lib.hid hx
        have hb : (xs[k] != 0) = true := by simpa using hx
        clear hx
        go_wp2
        go_ret
        exact ⟨ret_i (feE_no hlt HA.out HX.out).symm, rfl⟩
    · go_wp2
      go_ret
      exact ⟨ret_i (feE_ok (by have := HA.out; rwa [List.take_of_length_le (by omega)] at this)).symm, rfl⟩
/-- an error if something is wrong -/
def eI (c : Bool) (x : Int) : Int := if c then x else 0
theorem eI_t (x : Int) : eI true x = x := rfl
theorem eI_f (x : Int) : eI false x = 0 := rfl
theorem errorIf_any (c : Bool) (x : Int) (w : World) : Calls Try.prog 38 #[.bool c, .int .i64 x] w (Ret (.int .i64 (eI c x)) w) := by
  cases c
  all_goals
    first | rw [eI_t] | rw [eI_f]
    go_enter Try.func38, Try.ntmps38
    go_wp2
    go_ret
    exact ⟨rfl, rfl⟩
end Go.Proofs.Ytfneafofohfdnaa
