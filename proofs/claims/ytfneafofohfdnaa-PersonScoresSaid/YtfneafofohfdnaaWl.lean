/-
  What lies while ways of package person goes through the decisions: helpers.
-/
import Derived.Test.YtfneafofohfdnaaIns
import Derived.Maps.AppendAt
import Derived.RangeFuncBox
namespace Go.Proofs.Ytfneafofohfdnaa
open Go.RowKit Go.Shelf Go.WideMaps Go.Maps
attribute [local go_sem] set_drewN Oper.semAt_some
theorem infoI : (Try.prog.info? 3).map (fun i => (i.zero, i.size, i.bytes)) = some (some (.int .i64 0), 1, 8) := by kernel_rfl
def encA (p : Int × Int) : Value := .int .i64 p.1
/-- the number in a variable's box -/
def boxNat (v : Value) (W : World) : Nat := match v with
  | .pointer (some p) => (match W.cell? p with | some x => (intOf x).toNat | none => 0)
  | _ => 0
/-- what lies when the entries A have been reached -/
def WL (w0 : World) (bk Bw Br Bi : Nat) (i nE : Nat) (Ds : List Nat) (No : Value → Prop) (A : List (Int × Int)) (W : World) : Prop :=
  (∃ v, Boxed W Br 68 v ∧ W.ownsRow w0.heap.size 3 1 v A.length (A.map encA) ∧ No v) ∧ Boxed W w0.heap.size 89 (.pointer (some ⟨bk, 0, none⟩)) ∧ Boxed W Bw 92 (.map (some (w0.heap.size + 1))) ∧
    Boxed W Bi 3 (.int .i64 i) ∧ okA nE A ∧ (∃ D, W.ownsMap Try.prog 3 (plainElem Try.prog 3) (w0.heap.size + 1) A.length D ∧ AD D A) ∧ OpenD w0.heap.size Ds W ∧ Below w0.heap.size w0 W
theorem WL.own {β : Type} {w0 : World} {bk Bw Br Bi i nE X : Nat} {Ds : List Nat} {No : Value → Prop} (f : β → List (Int × Int)) (hX : w0.heap.size + 1 < X) (hD : ∀ D ∈ Ds, D < X) :
    OwnFrom X (fun (s : β) W => WL w0 bk Bw Br Bi i nE Ds No (f s) W) := by
  have h1 := Own.from (holdsRow_own (β := β) w0.heap.size Br 68 3 1 (fun s => (f s).length) (fun s => (f s).map encA) (fun _ v => No v)) X
  have h2 := Own.from (boxed_own (β := β) w0.heap.size 89 (fun _ => .pointer (some ⟨bk, 0, none⟩))) X
  have h3 := Own.from (boxed_own (β := β) Bw 92 (fun _ => .map (some (w0.heap.size + 1)))) X
  have h4 := Own.from (boxed_own (β := β) Bi 3 (fun _ => .int .i64 i)) X
  have h6 : OwnFrom X (fun (s : β) W => ∃ D, W.ownsMap Try.prog 3 (plainElem Try.prog 3) (w0.heap.size + 1) (f s).length D ∧ AD D (f s)) := fun s A B row ⟨D, h, k⟩ hg hr => ⟨D, h.kept hg (fun e => by have := (hr _ e.symm).1; omega), k⟩
  have h7 := OpenD.own (β := β) (B := w0.heap.size) hD
  have h8 := ownFrom_below (β := β) (n₀ := w0.heap.size) (B := X) (w₀ := w0) (Nat.le_refl _) (by omega)
  exact OwnFrom.and h1 (OwnFrom.and h2 (OwnFrom.and h3 (OwnFrom.and h4 (OwnFrom.and (ownFrom_pure X (fun s => okA nE (f s))) (OwnFrom.and h6 (OwnFrom.and h7 h8))))))
theorem grown_of_below {W W' : World} (hb : Below W.heap.size W W') : W.grownBy W' none := ⟨hb.os, hb.tape, hb.output, hb.size, fun j hj _ => hb.block j hj⟩
theorem boxed_up {W W' : World} {B : Nat} {t : TypeId} {v : Value} (h : Boxed W B t v) (hb : Below W.heap.size W W') : Boxed W' B t v := h.kept (grown_of_below hb) (by simp)
theorem own_up {w w' : World} {base : Nat} {e : TypeId} {size n : Nat} {v : Value} {xs : List Value} (h : w.ownsRow base e size v n xs) (hb : Below w.heap.size w w') : w'.ownsRow base e size v n xs :=
  h.kept (grown_of_below hb) (by cases v.ownBlock <;> simp)
theorem keeps_below {B : Nat} {W W' : World} (hb : Below W.heap.size W W') : KeepsFrom B W W' := KeepsFrom.of_grownBy (grown_of_below hb) (fun j e => by cases e)
theorem WL.up {w0 : World} {bk Bw Br Bi i nE : Nat} {Ds : List Nat} {No : Value → Prop} {A : List (Int × Int)} {W W' : World} (h : WL w0 bk Bw Br Bi i nE Ds No A W) (hb : Below W.heap.size W W') (hs : w0.heap.size ≤ W.heap.size) : WL w0 bk Bw Br Bi i nE Ds No A W' := by
  obtain ⟨⟨v, h1, h2, h3⟩, h4, h5, h6, h7, ⟨D, h8, h9⟩, h10, h11⟩ := h
  exact ⟨⟨v, boxed_up h1 hb, own_up h2 hb, h3⟩, boxed_up h4 hb, boxed_up h5 hb, boxed_up h6 hb, h7, ⟨D, h8.kept (grown_of_below hb) (by simp), h9⟩, h10.up hb, h11.trans (hb.mono hs)⟩
theorem WL.imp {w0 : World} {bk Bw Br Bi i nE : Nat} {Ds : List Nat} {No No' : Value → Prop} {A : List (Int × Int)} {W : World} (h : WL w0 bk Bw Br Bi i nE Ds No A W)
    (hN : ∀ v, (∀ g, v.ownBlock = some g → g < W.heap.size) → No v → No' v) : WL w0 bk Bw Br Bi i nE Ds No' A W := by
  obtain ⟨⟨v, h1, h2, h3⟩, r⟩ := h
  exact ⟨⟨v, h1, h2, hN v (fun g e => (h2.lt g e).2) h3⟩, r⟩
theorem row_shape {W : World} {base k : Nat} {e : TypeId} {v : Value} {xs : List Value} (h : W.ownsRow base e 1 v k xs) (hk : 0 < k) : ∃ g cap, v = .slice (some ⟨g, 0, none⟩) k cap ∧ base ≤ g ∧ g < W.heap.size ∧ ∀ j x, xs[j]? = some x → W.cell? ⟨g, j, none⟩ = some x := by
  obtain ⟨k', rfl⟩ : ∃ k', k = k' + 1 := ⟨k - 1, by omega⟩
  obtain ⟨g, cap, rfl⟩ := ownsRow_succ h
  refine ⟨g, cap, rfl, (h.lt g rfl).1, (h.lt g rfl).2, fun j x hj => ?_⟩
  have := h.cells (g := g) rfl j x hj
  have e : Addr.add ⟨g, 0, none⟩ j = ⟨g, j, none⟩ := by
    unfold Addr.add
    split
    · rename_i e; subst e; rfl
    · simp
  rwa [e] at this
theorem row_map {W : World} {base k size b : Nat} {e : TypeId} {v : Value} {xs : List Value} (h : W.ownsRow base e size v k xs) (hm : ∃ o, W.heap[b]? = some o ∧ o.isCells = false ∧ (∀ x, o ≠ .deferred x)) : v.ownBlock ≠ some b := by
  obtain ⟨o, hm1, hm2, _⟩ := hm
  rcases h.2 with ⟨rfl, _⟩ | ⟨g, cap, cur, rfl, _, hgb, _⟩
  · intro e; cases e
  · intro e
    have e : g = b := by simpa [Value.ownBlock] using e
    subst e
    rw [hgb] at hm1
    cases hm1
    cases hm2
theorem stepW_pre (ds : List Dc) (x : Int) (A : List (Int × Int)) (j : Int) : ∃ L, stepW ds x A j = A ++ L := by
  unfold stepW
  split
  · exact ⟨[], by simp⟩
  · split
    · exact ⟨[], by simp⟩
    · split
      · exact ⟨[], by simp⟩
      · exact ⟨_, rfl⟩
/-- what has been reached when some numbers have come -/
def fW {kd : Int} (ds : List Dc) (st : List Bool) (x : Int) (A : List (Int × Int)) (pre : List (SdI ds st kd)) : List (Int × Int) := pre.foldl (fun B y => stepW ds x B (y.1 : Int)) A
theorem fW_snoc {kd : Int} {ds : List Dc} {st : List Bool} {x : Int} {A : List (Int × Int)} (pre : List (SdI ds st kd)) (y : SdI ds st kd) : fW ds st x A (pre ++ [y]) = stepW ds x (fW ds st x A pre) (y.1 : Int) := by simp [fW, List.foldl_append]
theorem fW_pre {kd : Int} (ds : List Dc) (st : List Bool) (x : Int) : ∀ (pre : List (SdI ds st kd)) (A : List (Int × Int)), ∃ L, fW ds st x A pre = A ++ L
  | [], A => ⟨[], by simp [fW]⟩
  | y :: pre, A => by
    obtain ⟨L, h⟩ := stepW_pre ds x A (y.1 : Int)
    obtain ⟨L', h'⟩ := fW_pre ds st x pre (A ++ L)
    exact ⟨L ++ L', by show fW ds st x (stepW ds x A (y.1 : Int)) pre = _; rw [h, h']; simp⟩
theorem fW_row {ds : List Dc} {st : List Bool} {x : Int} {A : List (Int × Int)} : fW ds st x A (sdA ds st 0 ds.length) = rowW ds st A x := by
  unfold fW rowW
  rw [← sdA_sdK ds st 0 ds.length (Nat.le_refl _), List.foldl_map]
theorem wI_pos (ds : List Dc) (st : List Bool) (frm : Int) : ∀ i, ∃ L, wI ds st frm i = (frm, -1) :: L
  | 0 => ⟨[], rfl⟩
  | i + 1 => by
    obtain ⟨L, h⟩ := wI_pos ds st frm i
    unfold wI
    split
    · rename_i p hp
      have : ∀ (ns : List Int) (A : List (Int × Int)), ∃ L, ns.foldl (stepW ds p.1) A = A ++ L := by
        intro ns
        induction ns with
        | nil => intro A; exact ⟨[], by simp⟩
        | cons n ns ih =>
          intro A
          obtain ⟨L1, h1⟩ := stepW_pre ds p.1 A n
          obtain ⟨L2, h2⟩ := ih (A ++ L1)
          exact ⟨L1 ++ L2, by rw [List.foldl_cons, h1, h2]; simp⟩
      obtain ⟨L', h'⟩ := this (sdK ds st 0 ds.length) (wI ds st frm i)
      exact ⟨L ++ L', by unfold rowW; rw [h', h]; simp⟩
    · exact ⟨L, h⟩
theorem wys_stop {ds : List Dc} {st : List Bool} {frm : Int} {i : Nat} (h : (wI ds st frm i).length ≤ i) (h60 : i ≤ 60) : wI ds st frm i = wysM ds st frm := by
  have := wI_stop h (60 - i)
  rw [show i + (60 - i) = 60 by omega] at this
  exact this.symm
/-- a store of a new entry, and the entry behind what has been reached -/
theorem WL.push {w0 : World} {bk Bw Br Bi B1 B2 i nE : Nat} {Ds : List Nat} {A : List (Int × Int)} {W W4 w1 : World} {t j : Int} {v v' : Value} {D : DataW Unit}
    (h1 : Boxed W Br 68 v) (h2 : W.ownsRow w0.heap.size 3 1 v A.length (A.map encA)) (h3 : v.ownBlock ≠ some Bi ∧ v.ownBlock ≠ some B2)
    (h4 : Boxed W w0.heap.size 89 (.pointer (some ⟨bk, 0, none⟩))) (h5 : Boxed W Bw 92 (.map (some (w0.heap.size + 1)))) (h6 : Boxed W Bi 3 (.int .i64 i)) (h7 : okA nE A) (h9 : AD D A) (h10 : OpenD w0.heap.size Ds W) (h11 : Below w0.heap.size w0 W)
    (q1 : Boxed W B1 89 (.pointer (some ⟨bk, 0, none⟩))) (q2 : Boxed W B2 3 (.int .i64 0)) (hm : ∃ o, W.heap[w0.heap.size + 1]? = some o ∧ o.isCells = false ∧ (∀ x, o ≠ .deferred x)) (hBr : w0.heap.size ≤ Br)
    (hn : hasA A t = false) (ht : 0 ≤ t ∧ t < (nE : Int))
    (m1 : W4.ownsMap Try.prog 3 (plainElem Try.prog 3) (w0.heap.size + 1) (A.length + 1) (D.put (.int .i64 t) (.lit (.int .i64 j)))) (m2 : W.grownBy W4 (some (w0.heap.size + 1)))
    (a1 : w1.ownsRow w0.heap.size 3 1 v' (A.length + 1) (A.map encA ++ [.int .i64 t])) (a2 : (W4.alloc (.cells #[.int .i64 t] 3)).grownBy w1 v.ownBlock) (a3 : v'.ownBlock = v.ownBlock ∨ v'.ownBlock = some (W4.heap.size + 1)) :
    WL w0 bk Bw Br Bi i nE Ds (fun v => v.ownBlock ≠ some Bi ∧ v.ownBlock ≠ some B2) (A ++ [(t, j)]) (w1.setCell ⟨Br, 0, none⟩ v') ∧ KpS w0.heap.size B1 B2 W (w1.setCell ⟨Br, 0, none⟩ v') ∧ KeepsFrom (w0.heap.size + 2) W (w1.setCell ⟨Br, 0, none⟩ v') := by
  obtain ⟨om, hm1, hm2, hm3⟩ := hm
  have hsz := h11.size
  have hs4 := m2.size
  have ne : ∀ {B : Nat} {ty : TypeId} {u : Value}, Boxed W B ty u → some B ≠ some (w0.heap.size + 1) := fun hb e => by
    cases e
    rw [show W.heap[_]? = _ from hb] at hm1
    cases hm1
    cases hm2
  have hrow4 : W4.ownsRow w0.heap.size 3 1 v A.length (A.map encA) := h2.kept m2 (by
    rcases h2.2 with ⟨rfl, _⟩ | ⟨g, cap, cur, rfl, _, hgb, _⟩
    · exact .inl rfl
    · refine .inr fun e => ?_
      have e : g = w0.heap.size + 1 := by simpa [Value.ownBlock] using e
      subst e
      rw [hgb] at hm1
      cases hm1
      cases hm2)
  have k1 := h1.kept m2 (ne h1)
  obtain ⟨b1, b2, b3, b4, b5⟩ := k1.appended (tmp := .cells #[.int .i64 t] 3) (by decide) hrow4 (by omega) hBr a1 a2
  have hv4 : ∀ g, v.ownBlock = some g → g < W.heap.size := fun g e => (h2.lt g e).2
  -- a box that is neither the row nor that of the slice
  have box : ∀ {B : Nat} {ty : TypeId} {u : Value}, Boxed W B ty u → v.ownBlock ≠ some B → B ≠ Br → Boxed (w1.setCell ⟨Br, 0, none⟩ v') B ty u := fun hb hv hne =>
    ((((hb.kept m2 (ne hb)).alloc _).kept a2 (fun e => hv e.symm)).other hne v')
  have nrow : ∀ {B : Nat} {ty : TypeId} {u : Value}, Boxed W B ty u → ty ≠ 3 → v.ownBlock ≠ some B := fun hb hty e => hb.not_row hty h2 e.symm
  have nbr : ∀ {B : Nat} {ty : TypeId} {u : Value}, Boxed W B ty u → ty ≠ 68 → B ≠ Br := fun hb hty e => by
    subst e
    have := (show W.heap[_]? = _ from hb).symm.trans h1
    simp at this
    exact hty this.2
  have e4 := box h4 (nrow h4 (by decide)) (nbr h4 (by decide))
  have e5 := box h5 (nrow h5 (by decide)) (nbr h5 (by decide))
  have e6 := box h6 h3.1 (nbr h6 (by decide))
  have f1 := box q1 (nrow q1 (by decide)) (nbr q1 (by decide))
  have f2 := box q2 h3.2 (nbr q2 (by decide))
  have hmap4 : (W4.alloc (.cells #[.int .i64 t] 3)).ownsMap Try.prog 3 (plainElem Try.prog 3) (w0.heap.size + 1) (A.length + 1) (D.put (.int .i64 t) (.lit (.int .i64 j))) := m1.alloc _
  have hvm : some (w0.heap.size + 1) ≠ v.ownBlock := fun e => by
    rcases h2.2 with ⟨rfl, _⟩ | ⟨g, cap, cur, rfl, _, hgb, _⟩
    · cases e
    · have e : w0.heap.size + 1 = g := by simpa [Value.ownBlock] using e
      subst e
      rw [hgb] at hm1
      cases hm1
      cases hm2
  have hbrm : w0.heap.size + 1 ≠ Br := fun e => ne h1 (by rw [e])
  have hB4 : Below w0.heap.size W W4 := (Below.refl _ _).grown m2 hsz (fun k e => by cases e; omega)
  refine ⟨⟨⟨v', b2, by simpa [encA] using b3, ?_⟩, e4, e5, e6, okA_snoc h7 hn ht.1 ht.2, ⟨_, ((hmap4.kept a2 hvm).kept (grownBy_setCell' w1 Br v') (by simpa using hbrm)).mono (by simp), AD_put h9 hn⟩, ?_, h11.trans (hB4.trans b5)⟩, ⟨hB4.trans b5, f1.trans (show W.heap[B1]? = _ from q1).symm, f2.trans (show W.heap[B2]? = _ from q2).symm⟩, ?_⟩
  · rcases a3 with e | e
    · rw [e]; exact h3
    · rw [e]
      have := h6.lt
      have := q2.lt
      exact ⟨fun c => by injection c; omega, fun c => by injection c; omega⟩
  · have g4 : OpenD w0.heap.size Ds W4 := h10.grown m2 (fun j e D m c => by
      cases e
      subst c
      have := (h10.2 _ m).2
      rw [this] at hm1
      cases hm1
      exact hm3 _ rfl)
    exact g4.kept b4
  · refine (KeepsFrom.of_grownBy m2 (fun j e => by cases e; omega)).trans (b4.from _)
end Go.Proofs.Ytfneafofohfdnaa
