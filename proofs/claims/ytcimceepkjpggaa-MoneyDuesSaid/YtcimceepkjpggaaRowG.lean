/-
  Lists of structs as they lie, whatever the struct; rates, remissions, charges: their errors.
-/
import Derived.Test.YtcimceepkjpggaaMnG
namespace Go.Proofs.Ytcimceepkjpggaa
open Go.RowKit
section
variable {α : Type}
/-- a list lies from a cell on; a value has k cells -/
def RowAt (enc : α → List Value) (k : Nat) (W : World) (b o : Nat) (L : List α) : Prop := b < W.heap.size ∧ ∀ (i : Nat) (h : i < L.length) (r : Nat) (v : Value), (enc L[i])[r]? = some v → W.cell? ⟨b, o + i * k + r, none⟩ = some v
theorem RowAt.below {enc : α → List Value} {k : Nat} {W W' : World} {b o : Nat} {L : List α} (h : RowAt enc k W b o L) (hb : Below W.heap.size W W') : RowAt enc k W' b o L :=
  ⟨Nat.lt_of_lt_of_le h.1 hb.size, fun i hi r v hv => (hb.cell h.1).trans (h.2 i hi r v hv)⟩
theorem RowAt.gb {enc : α → List Value} {k : Nat} {W W' : World} {b o : Nat} {L : List α} {B : Nat} (h : RowAt enc k W b o L) (hg : W.grownBy W' (some B)) (hn : b ≠ B) : RowAt enc k W' b o L :=
  ⟨Nat.lt_of_lt_of_le h.1 hg.size, fun i hi r v hv => hg.cell (h.2 i hi r v hv) (fun e => hn (Option.some.inj e))⟩
/-- a slice of a list lies -/
def LG (enc : α → List Value) (k : Nat) (W : World) (v : Value) (L : List α) : Prop := ∃ a c, v = .slice a L.length c ∧ L.length ≤ c ∧ (L ≠ [] → ∃ b o, a = some ⟨b, o, none⟩ ∧ RowAt enc k W b o L)
theorem LG.below {enc : α → List Value} {k : Nat} {W W' : World} {v : Value} {L : List α} (h : LG enc k W v L) (hb : Below W.heap.size W W') : LG enc k W' v L := by
  obtain ⟨a, c, e, hc, h⟩ := h
  exact ⟨a, c, e, hc, fun hn => let ⟨b, o, e2, hd⟩ := h hn; ⟨b, o, e2, hd.below hb⟩⟩
theorem LG.nil (enc : α → List Value) (k : Nat) (W : World) : LG enc k W (.slice none 0 0) [] := ⟨none, 0, rfl, Nat.le_refl _, fun h => absurd rfl h⟩
/-- the cells of a list -/
def flatG (enc : α → List Value) : List α → List Value
  | [] => []
  | x :: l => enc x ++ flatG enc l
theorem flatG_len {enc : α → List Value} {k : Nat} (hk : ∀ x, (enc x).length = k) : ∀ l : List α, (flatG enc l).length = l.length * k
  | [] => by simp [flatG]
  | x :: l => by rw [flatG, List.length_append, hk, flatG_len hk l, List.length_cons, Nat.succ_mul]; omega
theorem flatG_app (enc : α → List Value) : ∀ a b : List α, flatG enc (a ++ b) = flatG enc a ++ flatG enc b
  | [], _ => rfl
  | x :: a, b => by rw [List.cons_append, flatG, flatG, flatG_app enc a b, List.append_assoc]
theorem flatG_one (enc : α → List Value) (x : α) : flatG enc [x] = enc x := by simp [flatG]
theorem flatG_get {enc : α → List Value} {k : Nat} (hk : ∀ x, (enc x).length = k) : ∀ (l : List α) (i : Nat) (h : i < l.length) (r : Nat), r < k → (flatG enc l)[i * k + r]? = (enc l[i])[r]?
  | x :: l, 0, _, r, hr => by
    rw [flatG, List.getElem?_append_left (by rw [hk]; omega)]; simp
  | x :: l, i + 1, h, r, hr => by
    rw [flatG, List.getElem?_append_right (by rw [hk, Nat.succ_mul]; omega), hk]
    have := flatG_get hk l i (by simpa using h) r hr
    rw [show (i + 1) * k + r - k = i * k + r by rw [Nat.succ_mul]; omega, this]; simp
theorem flatG_cell {enc : α → List Value} (h1 : ∀ x, ∀ u ∈ enc x, u.oneCell' = true) : ∀ {l : List α}, ∀ u ∈ flatG enc l, u.oneCell' = true
  | [], u, hu => by cases hu
  | x :: l, u, hu => by
    rw [flatG, List.mem_append] at hu
    rcases hu with hu | hu
    · exact h1 x u hu
    · exact flatG_cell h1 u hu
theorem addG (b o j : Nat) : Addr.add ⟨b, o, none⟩ j = ⟨b, o + j, none⟩ := by
  unfold Addr.add
  split
  · rename_i e; subst e; rfl
  · rfl
theorem RowAt.of_flat {enc : α → List Value} {k : Nat} (hk : ∀ x, (enc x).length = k) {W : World} {b o : Nat} {L : List α} (hb : b < W.heap.size) (hc : ∀ j u, (flatG enc L)[j]? = some u → W.cell? ⟨b, o + j, none⟩ = some u) : RowAt enc k W b o L := by
  refine ⟨hb, fun i hi r v hv => ?_⟩
  have hr : r < k := by rw [← hk L[i]]; exact (List.getElem?_eq_some_iff.1 hv).1
  have := hc (i * k + r) v (by rw [flatG_get hk L i hi r hr]; exact hv)
  rwa [← Nat.add_assoc] at this
theorem RowAt.flat {enc : α → List Value} {k : Nat} (hk : ∀ x, (enc x).length = k) (h0 : 0 < k) {W : World} {b o : Nat} {L : List α} (h : RowAt enc k W b o L) : ∀ j u, (flatG enc L)[j]? = some u → W.cell? ⟨b, o + j, none⟩ = some u := by
  intro j u hj
  have hl : j < (flatG enc L).length := (List.getElem?_eq_some_iff.1 hj).1
  rw [flatG_len hk] at hl
  have hi : j / k < L.length := (Nat.div_lt_iff_lt_mul h0).2 hl
  have hr : j % k < k := Nat.mod_lt _ h0
  have e : j / k * k + j % k = j := by rw [Nat.mul_comm]; exact Nat.div_add_mod j k
  have g := flatG_get hk L (j / k) hi (j % k) hr
  rw [e, hj] at g
  have := h.2 (j / k) hi (j % k) u g.symm
  rwa [Nat.add_assoc, e] at this
theorem LG.of_own {enc : α → List Value} {k : Nat} (hk : ∀ x, (enc x).length = k) {W : World} {base : Nat} {e : TypeId} {v : Value} {L : List α} (h : W.ownsRow base e k v L.length (flatG enc L)) : LG enc k W v L := by
  rcases h.2 with ⟨rfl, h0⟩ | ⟨g, cap, cur, rfl, _, _, hn, _⟩
  · have : L = [] := List.length_eq_zero_iff.1 h0
    subst this
    exact LG.nil _ _ W
  · refine ⟨_, cap, rfl, hn, fun _ => ⟨g, 0, rfl, RowAt.of_flat hk (h.lt g rfl).2 (fun j u hj => ?_)⟩⟩
    have := h.cells (g := g) rfl j u hj
    rwa [addG] at this
/-- the first error of a list -/
theorem eachG_ok {err : α → Int} {l : List α} {k : Nat} (h : k < l.length) (ha : ∀ x ∈ (l.map err).take k, x = 0) (hx : err l[k] = 0) : ∀ x ∈ (l.map err).take (k + 1), x = 0 :=
  mem_take_succ (xs := l.map err) (by simpa using h) ha (by simpa using hx)
theorem eachG_bad {err : α → Int} {l : List α} {k : Nat} (h : k < l.length) (ha : ∀ x ∈ (l.map err).take k, x = 0) (hx : err l[k] ≠ 0) : feE (l.map err) = err l[k] := by
  have := feE_no (xs := l.map err) (k := k) (by simpa using h) ha (by simpa using hx)
  simpa using this
theorem eachG_all {err : α → Int} {l : List α} (ha : ∀ x ∈ (l.map err).take l.length, x = 0) : feE (l.map err) = 0 :=
  feE_ok (by rwa [List.take_of_length_le (by simp)] at ha)
end
/-- a remission -/
structure Rm where
  nm : ByteArray
  fr : Int
  to : Int
  pm : Int
abbrev Rm.val (r : Rm) : Value := .agg #[.string r.nm, .int .i64 r.fr, .int .i64 r.to, .int .i64 r.pm]
def rmC (r : Rm) : List Value := [.string r.nm, .int .i64 r.fr, .int .i64 r.to, .int .i64 r.pm]
theorem rmC_len (r : Rm) : (rmC r).length = 4 := rfl
def remE (r : Rm) : Int := feE [eI (!nameB r.nm) 4, eI (!(inB r.fr 0 200000 && inB r.to 0 200000 && inB r.pm 1 1000)) 2, eI (decide (r.to ≤ r.fr)) 9]
def remsE (l : List Rm) : Int := if 100 < l.length then 8 else feE (l.map remE)
/-- a rate -/
structure Ra where
  nm : ByteArray
  fr : Int
  ct : Int
abbrev Ra.val (r : Ra) : Value := .agg #[.string r.nm, .int .i64 r.fr, .int .i64 r.ct]
def raC (r : Ra) : List Value := [.string r.nm, .int .i64 r.fr, .int .i64 r.ct]
theorem raC_len (r : Ra) : (raC r).length = 3 := rfl
/-- a charge -/
structure Cg where
  nm : ByteArray
  dy : Int
  un : Int
abbrev Cg.val (r : Cg) : Value := .agg #[.string r.nm, .int .i64 r.dy, .int .i64 r.un]
def cgC (r : Cg) : List Value := [.string r.nm, .int .i64 r.dy, .int .i64 r.un]
theorem cgC_len (r : Cg) : (cgC r).length = 3 := rfl
end Go.Proofs.Ytcimceepkjpggaa
