/-
  Words for contracts; errors, names and lists of numbers: their mathematics; what Within of the base returns.
-/
import Derived.WalkKit
import Derived.ProofKit
import Derived.Lib.Hide
import Derived.WalkLawsBesides
import Derived.BigQuiet
import Derived.Handy
import Derived.LoopTactic
import Derived.Outline
import Derived.Laws.IdiomStrings
import Derived.Test.YtcimceepkjpggaaProg
namespace Go.Proofs.Ytcimceepkjpggaa
open Go.RowKit
abbrev Ret (v : Value) (w : World) : Ending → World → Prop := fun e w' => e = .returned v ∧ w = w'
abbrev RetB (v : Value) (w : World) : Ending → World → Prop := fun e w' => e = .returned v ∧ Below w.heap.size w w'
theorem below_n {B : Nat} {a w : World} (h : Below B a w) (n : Nat) : Below B a (w.drewN n) := ⟨h.os, h.tape, h.output, h.size, h.block⟩
theorem bcell {W w1 : World} (hb : Below W.heap.size W w1) : (∀ b o, b < W.heap.size → w1.cell? ⟨b, o, none⟩ = W.cell? ⟨b, o, none⟩) ∧ (∀ b o, b < W.heap.size → w1.frozen? ⟨b, o, none⟩ = W.frozen? ⟨b, o, none⟩) :=
  ⟨fun b o h => hb.cell (p := ⟨b, o, none⟩) h, fun b o h => hb.frozen (p := ⟨b, o, none⟩) h⟩
theorem same_n {P : Program} {f : FuncId} {args : Array Value} {w : World} {v : Value} (h : Calls P f args w (Ret v w)) : Calls P f args w fun e w' => e = .returned v ∧ w' = w := h.mono fun _ _ ⟨a, b⟩ => ⟨a, b.symm⟩
/-- n is from a to b -/
def inB (n a b : Int) : Bool := decide (a ≤ n) && decide (n ≤ b)
theorem inB_yes {n a b : Int} (h1 : a ≤ n) (h2 : n ≤ b) : inB n a b = true := by simp [inB, h1, h2]
theorem inB_no {n a b : Int} (h : n < a ∨ b < n) : inB n a b = false := by simp [inB]; omega
theorem inB_iff {n a b : Int} : inB n a b = true ↔ a ≤ n ∧ n ≤ b := by simp [inB]
theorem inB_iff' {n a b : Int} : inB n a b = false ↔ n < a ∨ b < n := by simp [inB]; omega

theorem bWithin_any (n a b : Int) (w : World) : Calls Try.prog 56 #[.int .i64 n, .int .i64 a, .int .i64 b] w (Ret (.bool (inB n a b)) w) := by
  by_cases h1 : a ≤ n
  · by_cases h2 : n ≤ b
    · rw [inB_yes h1 h2]
      go_enter Try.func56, Try.ntmps56
      go_wp2
      go_ret
      exact ⟨rfl, rfl⟩
    · rw [inB_no (Or.inr (by omega))]
      go_enter Try.func56, Try.ntmps56
      go_wp2
      go_ret
      exact ⟨rfl, rfl⟩
  · rw [inB_no (Or.inl (by omega))]
    have h1' : decide (a ≤ n) = false := by simpa using h1
    go_enter Try.func56, Try.ntmps56
    go_wp2
    go_ret
    exact ⟨rfl, rfl⟩
abbrev two (a : Value) (b : Value) : Value := .tuple #[a, b]
abbrev three (a b c : Value) : Value := .tuple #[a, b, c]
theorem ret_i {a b : Int} (h : a = b) : Ending.returned (.int .i64 a) = .returned (.int .i64 b) := by rw [h]
theorem set_drewN (w : World) (n : Nat) (a : Addr) (v : Value) : (w.drewN n).setCell a v = (w.setCell a v).drewN n := by
  unfold World.setCell World.drewN
  dsimp only
theorem bapp (a b : Array UInt8) : ((⟨a⟩ : ByteArray) ++ (⟨b⟩ : ByteArray)) = ⟨a ++ b⟩ := by
  apply ByteArray.ext
  simp
theorem below_keep {W W' : World} {p : Addr} {v : Value} (hb : Below W.heap.size W W') (h : W.cell? p = some v) : W'.cell? p = some v := (hb.cell (World.block_lt_of_cell? W _ h)).trans h
/-- a list of whole numbers lies in block b, from cell o on -/
def IntsAt (w : World) (b o : Nat) (xs : List Int) : Prop := ∀ i (h : i < xs.length), w.cell? ⟨b, o + i, none⟩ = some (.int .i64 xs[i])
theorem IntsAt.one {w : World} {b o : Nat} {x : Int} (h : w.cell? ⟨b, o, none⟩ = some (.int .i64 x)) : IntsAt w b o [x] := by
  intro i hi
  have : i = 0 := by simpa using hi
  subst this
  exact h
theorem IntsAt.cons {w : World} {b o : Nat} {x : Int} {xs : List Int} (h : w.cell? ⟨b, o, none⟩ = some (.int .i64 x)) (t : IntsAt w b (o + 1) xs) : IntsAt w b o (x :: xs) := by
  intro i hi
  cases i with
  | zero => exact h
  | succ i => have := t i (by simpa using hi); simpa [Nat.add_assoc, Nat.add_comm 1 i] using this
theorem mem_take_succ {xs : List Int} {k : Nat} (hk : k < xs.length) {p : Int → Prop} (h : ∀ x ∈ xs.take k, p x) (hx : p xs[k]) : ∀ x ∈ xs.take (k + 1), p x := by
  intro x m
  rw [List.take_succ_eq_append_getElem hk] at m
  rcases List.mem_append.1 m with m | m
  · exact h x m
  · rw [List.mem_singleton.1 m]; exact hx
/-- the first number of a list that is not 0, or 0 -/
def feE : List Int → Int
  | [] => 0
  | x :: xs => if x = 0 then feE xs else x
theorem feE_ok : ∀ {xs : List Int}, (∀ x ∈ xs, x = 0) → feE xs = 0
  | [], _ => rfl
  | x :: xs, h => by unfold feE; rw [if_pos (h x (by simp))]; exact feE_ok fun y m => h y (by simp [m])
theorem feE_no : ∀ {xs : List Int} {k : Nat} (hk : k < xs.length), (∀ x ∈ xs.take k, x = 0) → xs[k] ≠ 0 → feE xs = xs[k]
  | x :: xs, 0, _, _, h => by unfold feE; rw [if_neg (by simpa using h)]; rfl
  | x :: xs, k + 1, hk, h0, h => by
    unfold feE; rw [if_pos (h0 x (by simp))]
    simpa using feE_no (xs := xs) (k := k) (by simpa using hk) (fun y m => h0 y (by simp [m])) (by simpa using h)
/-- an error if something is wrong -/
def eI (c : Bool) (x : Int) : Int := if c then x else 0
theorem eI_t (x : Int) : eI true x = x := rfl
theorem eI_f (x : Int) : eI false x = 0 := rfl
/-- the error of some days: 2 (ErrRange) if one is none -/
def cdE (xs : List Int) : Int := if xs.all fun x => inB x 0 200000 then 0 else 2
theorem cdE_ok {xs : List Int} (h : ∀ x ∈ xs, inB x 0 200000 = true) : cdE xs = 0 := by
  unfold cdE; rw [if_pos (by simpa using h)]
theorem cdE_no {xs : List Int} {i : Nat} (hi : i < xs.length) (h : inB xs[i] 0 200000 = false) : cdE xs = 2 := by
  unfold cdE
  rw [if_neg]
  intro c
  simp only [List.all_eq_true] at c
  have := c _ (List.getElem_mem hi)
  rw [h] at this; cases this
def letB (n : Int) : Bool := (decide (97 ≤ n) && decide (n ≤ 122)) || (decide (65 ≤ n) && decide (n ≤ 90))
def digB (n : Int) : Bool := decide (48 ≤ n) && decide (n ≤ 57)
def tailB (n : Int) : Bool := letB n || digB n || n == 45
/-- a name -/
def nameB (s : ByteArray) : Bool := decide (1 ≤ s.size) && decide (s.size ≤ 12) && letB (s.data.toList.headD 0).toNat && s.data.toList.all fun c => tailB c.toNat
theorem nameB_1 {s : ByteArray} (h : s.size < 1 ∨ 12 < s.size) : nameB s = false := by simp [nameB]; omega
theorem head_of (s : ByteArray) (h : 0 < s.size) : s.data.toList.headD 0 = s[0] := by
  have : s.data.toList ≠ [] := by intro c; have := congrArg List.length c; simp at this; simp [← ByteArray.size_data, this] at h
  cases hl : s.data.toList with
  | nil => exact absurd hl this
  | cons a t => have e : s.data.toList[0]? = some a := by rw [hl]; rfl
                have : s.data.toList[0]? = some s[0] := by simp [ByteArray.getElem_eq_getElem_data]
                rw [this] at e; simpa using e.symm
theorem nameB_2 {s : ByteArray} (h0 : 0 < s.size) (h : letB (s[0].toNat : Int) = false) : nameB s = false := by unfold nameB; rw [head_of s h0, h]; simp
theorem nameB_3 {s : ByteArray} {k : Nat} (hk : k < s.size) (h : tailB (s[k].toNat : Int) = false) : nameB s = false := by
  have : (s.data.toList.all fun c => tailB c.toNat) = false := by
    rw [List.all_eq_false]
    exact ⟨s[k], by rw [ByteArray.getElem_eq_getElem_data]; simp, by rw [h]; simp⟩
  unfold nameB; rw [this]; simp
theorem nameB_4 {s : ByteArray} (h1 : 1 ≤ s.size) (h2 : s.size ≤ 12) (h : letB (s[0].toNat : Int) = true) (h4 : ∀ k (hk : k < s.size), tailB (s[k].toNat : Int) = true) : nameB s = true := by
  have : (s.data.toList.all fun c => tailB c.toNat) = true := by
    rw [List.all_eq_true]
    intro c hc
    obtain ⟨k, hk, rfl⟩ := List.mem_iff_getElem.1 hc
    have := h4 k (by simpa using hk)
    rwa [ByteArray.getElem_eq_getElem_data] at this
  unfold nameB; rw [this, head_of s h1, h]; simp [h1, h2]
end Go.Proofs.Ytcimceepkjpggaa
