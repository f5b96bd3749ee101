/-
  Tariffs by classes (package money): a map of rows of one's own; what holds of it.
-/
import Derived.Test.YtcimceepkjpggaaStK
import Derived.Maps.AppendAt
namespace Go.Proofs.Ytcimceepkjpggaa
open Go.RowKit Go.WideMaps Go.Maps
theorem lawS : Keyed Try.prog 9 := string_keyed Try.underlying9
abbrev keyN (nm : ByteArray) : Lit := .string nm.data.toList
theorem keyN_ok {nm : ByteArray} (hs : nm.size ≤ maxLen) : keyOf Try.prog 9 (.string nm) = some (keyN nm) := keyOf_string_mk Try.underlying9 hs
theorem keyN_inj {a b : ByteArray} (h : keyN a = keyN b) : a = b := by
  have h1 : a.data.toList = b.data.toList := by injection h
  exact ByteArray.ext (Array.toList_inj.1 h1)
theorem isKN (nm : ByteArray) : WideAt.IsKeyLit (keyN nm) := trivial
def heldR (v : Value) : Option (DataW Value × List MemPlace) := some (.held v, [])
theorem infoRa : (Try.prog.info? 34).map (fun i => (i.zero, i.size, i.bytes)) = some (some (.agg #[.string ⟨#[]⟩, .int .i64 0, .int .i64 0]), 3, 32) := by kernel_rfl
theorem zeroRs (w : World) : (zeroValue 22).run Try.prog w = .ok (.slice none 0 0) w := by kernel_rfl
/-- the rates of a class -/
def flt (L : List Ra) (nm : ByteArray) : List Ra := L.filter fun r => decide (r.nm = nm)
theorem flt_same (L : List Ra) (r : Ra) : flt (L ++ [r]) r.nm = flt L r.nm ++ [r] := by simp [flt]
theorem flt_other (L : List Ra) (r : Ra) {nm : ByteArray} (h : r.nm ≠ nm) : flt (L ++ [r]) nm = flt L nm := by simp [flt, h]
theorem flt_len (L : List Ra) (nm : ByteArray) : (flt L nm).length ≤ L.length := List.length_filter_le _ _
structure TF (base BM : Nat) (L : List Ra) (F : ByteArray → Value) (n : Nat) (D : DataW Value) (W : World) : Prop where
  own : W.ownsMap Try.prog 9 heldR BM n D
  isM : IsMap D
  at' : ∀ nm, D.atKey (keyN nm) (.held (.slice none 0 0)) = .held (F nm)
  row : ∀ nm, W.ownsRow base 34 3 (F nm) (flt L nm).length (flatG raC (flt L nm))
  apart : ∀ a b k, a ≠ b → (F a).ownBlock = some k → (F b).ownBlock ≠ some k
  lt : BM < base
  le : base ≤ W.heap.size
theorem TF.below {base BM n : Nat} {L : List Ra} {F : ByteArray → Value} {D : DataW Value} {W W' : World} (h : TF base BM L F n D W) (hb : Below W.heap.size W W') : TF base BM L F n D W' :=
  ⟨ownsMap_below h.own hb, h.isM, h.at', fun nm => ownsRow_below (h.row nm) hb, h.apart, h.lt, Nat.le_trans h.le hb.size⟩
theorem TF.look {base BM n : Nat} {L : List Ra} {F : ByteArray → Value} {D : DataW Value} {W : World} (h : TF base BM L F n D W) {nm : ByteArray} (hs : nm.size ≤ maxLen) :
    (Instr.lookup 97 (.map (some BM)) (.string nm) false).run Try.prog W = .ok (F nm) W := by
  obtain ⟨v, ps, hrun, hv⟩ := h.own.lookup lawS Try.underlying97 (zeroRs W) (zd := .held (.slice none 0 0)) (zp := []) rfl (keyN_ok hs)
  rw [h.at' nm] at hv
  unfold heldR at hv
  simp only [Option.some.injEq, Prod.mk.injEq] at hv
  have : v = F nm := by
    have := hv.1
    injection this
  rw [hrun, this]
theorem TF.new (w : World) : TF (w.heap.size + 1) w.heap.size [] (fun _ => .slice none 0 0) 0 (.map []) (w.alloc (.map #[] 0)) :=
  ⟨World.ownsMap_made w _ _ _, ⟨[], rfl⟩, fun _ => rfl, fun _ => World.ownsRow_nil _ _ _ _, fun a b k _ h => by simp [Value.ownBlock] at h, Nat.lt_succ_self _, by simp⟩
theorem TF.ne {base BM n : Nat} {L : List Ra} {F : ByteArray → Value} {D : DataW Value} {W : World} (h : TF base BM L F n D W) (nm : ByteArray) : some BM ≠ (F nm).ownBlock := by
  intro e
  have := ((h.row nm).lt BM e.symm).1
  have := h.lt
  omega
theorem ownsRow_keep {w w' : World} {base : Nat} {e : TypeId} {size n : Nat} {v : Value} {xs : List Value} {row : Option Nat} (h : w.ownsRow base e size v n xs) (hg : w.grownBy w' row) (hne : ∀ k, v.ownBlock = some k → row ≠ some k) : w'.ownsRow base e size v n xs := by
  refine h.kept hg ?_
  cases hv : v.ownBlock with
  | none => exact .inl rfl
  | some k => exact .inr (fun e => hne k hv e.symm)
/-- one rate more -/
theorem TF.push {base BM n : Nat} {L : List Ra} {F : ByteArray → Value} {D : DataW Value} {W W1 : World} {r : Ra} {v' : Value} (h : TF base BM L F n D W) (hs : r.nm.size ≤ maxLen) (hn : n < 1000)
    (h1 : W1.ownsRow base 34 3 v' ((flt L r.nm).length + 1) (flatG raC (flt L r.nm) ++ raC r)) (hg : W.grownBy W1 (F r.nm).ownBlock) (hl : v'.ownBlock = (F r.nm).ownBlock ∨ v'.ownBlock = some W.heap.size) :
    ∃ W2, (Instr.mapUpdate 97 (.map (some BM)) (.string r.nm) v').run Try.prog W1 = .ok () W2 ∧ TF base BM (L ++ [r]) (fun nm => if nm = r.nm then v' else F nm) (n + 1) (D.put (keyN r.nm) (.held v')) W2 ∧ W1.grownBy W2 (some BM) := by
  have o1 := h.own.kept hg (h.ne r.nm)
  obtain ⟨W2, r1, r2, r3⟩ := o1.update lawS Try.underlying97 (by unfold maxLen; omega) (keyN_ok hs) (val := v') rfl
  have hv' : ∀ k, v'.ownBlock = some k → base ≤ k := fun k e => (h1.lt k e).1
  refine ⟨W2, r1, ⟨r2, h.isM.put _ _, fun nm => ?_, fun nm => ?_, fun a b k hab => ?_, h.lt, Nat.le_trans h.le (Nat.le_trans hg.size r3.size)⟩, r3⟩
  · by_cases e : nm = r.nm
    · rw [if_pos e, e]
      exact atKey_put_same h.isM (isKN _) _ _
    · rw [if_neg e, atKey_put_other (fun c => e (keyN_inj c))]
      exact h.at' nm
  · by_cases e : nm = r.nm
    · simp only [if_pos e]
      rw [e, flt_same, List.length_append, flatG_app, flatG_one]
      exact ownsRow_keep h1 r3 (fun k hk c => by
        have := hv' k hk
        have := h.lt
        cases c; omega)
    · simp only [if_neg e]
      rw [flt_other L r (fun c => e c.symm)]
      refine ownsRow_keep (ownsRow_keep (h.row nm) hg (fun k hk c => h.apart nm r.nm k e hk c)) r3 (fun k hk c => ?_)
      have := ((h.row nm).lt k hk).1
      have := h.lt
      cases c; omega
  · by_cases ea : a = r.nm
    · have eb : ¬ b = r.nm := fun c => hab (ea.trans c.symm)
      simp only [if_pos ea, if_neg eb]
      intro hk hb
      rcases hl with hl | hl
      · exact h.apart r.nm b k (fun c => eb c.symm) (hl ▸ hk) hb
      · rw [hl] at hk
        cases hk
        exact absurd ((h.row b).lt _ hb).2 (Nat.lt_irrefl _)
    · simp only [if_neg ea]
      by_cases eb : b = r.nm
      · simp only [if_pos eb]
        intro hk hb
        rcases hl with hl | hl
        · exact h.apart a r.nm k ea hk (hl ▸ hb)
        · rw [hl] at hb
          cases hb
          exact absurd ((h.row a).lt _ hk).2 (Nat.lt_irrefl _)
      · simp only [if_neg eb]
        exact h.apart a b k hab
/-- the tariff lies -/
def TA (L : List Ra) (BM : Nat) (W : World) : Prop := ∀ nm : ByteArray, nm.size ≤ maxLen → ∃ v, LG raC 3 W v (flt L nm) ∧ ∀ W', Below W.heap.size W W' → (Instr.lookup 97 (.map (some BM)) (.string nm) false).run Try.prog W' = .ok v W'
theorem TA.below {L : List Ra} {BM : Nat} {W W' : World} (h : TA L BM W) (hb : Below W.heap.size W W') : TA L BM W' := fun nm hs =>
  let ⟨v, h1, h2⟩ := h nm hs
  ⟨v, h1.below hb, fun W2 hb2 => h2 W2 (hb.trans (hb2.mono hb.size))⟩
theorem TF.ta {base BM n : Nat} {L : List Ra} {F : ByteArray → Value} {D : DataW Value} {W : World} (h : TF base BM L F n D W) : TA L BM W := fun nm hs =>
  ⟨F nm, LG.of_own raC_len (h.row nm), fun _ hb => (h.below hb).look hs⟩
end Go.Proofs.Ytcimceepkjpggaa
