/-
  What the letters of a sign are as a text, and how a sign is written: contracts, each for all worlds.
-/
import Derived.Test.YtfneafofohfdnaaLet
import Derived.Maps.AppendAt
import Derived.RangeFuncBox
namespace Go.Proofs.Ytfneafofohfdnaa
open Go.RowKit Go.Shelf
attribute [local go_sem] set_drewN Oper.semAt_some
theorem infoU8 : (Try.prog.info? 5).map (fun i => (i.zero, i.size, i.bytes)) = some (some (.int .u8 0), 1, 1) := by kernel_rfl
def u8V (x : UInt8) : Value := .int .u8 (x.toNat : Int)
theorem addB (b j : Nat) : Addr.add ⟨b, 0, none⟩ j = ⟨b, j, none⟩ := by
  unfold Addr.add
  split
  · rename_i e; subst e; rfl
  · simp
set_option maxRecDepth 100000 in
set_option maxHeartbeats 4000000 in
theorem spelt_L (m : Nat) (L : List UInt8) (hm : Hid (m < 2 ^ 53)) (hL : Hid (lets m = L)) (hne : Hid (L ≠ [])) (hl53 : L.length ≤ 53) (w : World) : Calls Try.prog 35 #[.int .u64 m] w (RetB (.string ⟨L.toArray⟩) w) := by
  obtain ⟨i0, hi, hz0, hz1, hz2⟩ := info_parts infoU8
  refine (callsIn_wide (n := 5)).1 ?_
  refine callsIn_of_wp_marks Try.func35 rfl trivial ?_ rfl
  simp only [Try.ntmps35, List.size_toArray, List.length_cons, List.length_nil, Nat.reduceAdd, Nat.reduceSub, Array.replicate_succ, Array.replicate_zero, List.push_toArray, List.append_toArray, List.nil_append, List.cons_append]
  gi_wp2
  refine wpIn_rangeFirst (F := Fence.wide) (n := 5) (gf := 59) (rv := .int .u64 m) rfl (by omega) rfl trivial (enters_of Try.func59 (by kernel_rfl) rfl)
    (encs := fun x : UInt8 => #[.int .u8 (x.toNat : Int)]) (S := fun xs => xs = L) (N := 53) (fun _ => rfl)
    (fun l J W _ _ hY h0 => (let_in 4 (by omega) l m hm.out J W hY h0).mono (fun _ _ ⟨hv, xs, hx, hj⟩ => ⟨hv, xs, hx.trans hL.out, hj⟩))
    (fun (pre : List UInt8) W => (∃ v, Boxed W w.heap.size 104 v ∧ W.ownsRow w.heap.size 5 1 v pre.length (pre.map u8V) ∧ True) ∧ Below w.heap.size w W)
    (OwnFrom.and (Own.from (holdsRow_own w.heap.size w.heap.size 104 5 1 (fun (pre : List UInt8) => pre.length) (fun (pre : List UInt8) => pre.map u8V) (fun _ _ => True)) _) (ownFrom_below (Nat.le_refl _) (by simp)))
    ⟨⟨.slice none 0 0, Boxed.new w _ _, World.ownsRow_nil _ _ _ _, trivial⟩, (Below.refl _ _).alloc (Nat.le_refl _) _⟩
    (fun x => { tmps := #[.int .u64 m, undef, .string ⟨#[]⟩, .pointer (some ⟨w.heap.size, 0, none⟩), .int .u8 (x.toNat : Int), .int .u64 m, .func (.func 59) #[.int .u64 m] #[], .int .u8 (x.toNat : Int), undef, undef, undef, undef, undef, undef], defers := [] }) ?assign ?body ?done
  case assign =>
    intro l x W K hK
    gi_wp2
    exact hK
  case body =>
    rintro l pre x W ⟨⟨v, hv, hrow, _⟩, hB⟩ hlen
    have hc := hv.cell
    have hf := hv.frozen
    have hsz := hB.size
    gi_wp2_with (gi_at_builtin; refine wpListIn_append_own _ rfl _ _ 104 rfl w.heap.size 5 i0 (.int .u8 0) 1 1 Try.underlying104 hi hz0 hz1 hz2 rfl (by decide) _ _ _ rfl (hrow.alloc _) ⟨W.heap.size, 0, none⟩ 1 1 [u8V x] rfl rfl (cell_one_new _ _ _) (by simp [Value.oneCell', u8V]) (by unfold maxLen; omega) (by omega) (by simp; omega) ?_; intro v' w1 hown' hgrow _; obtain ⟨g', cap', rfl⟩ := ownsRow_succ hown'; obtain ⟨hv1, hv2, hr2, hk2, hb2⟩ := hv.appended (by decide) hrow hsz (Nat.le_refl _) hown' hgrow; have hc1 := hv1.cell; have hf1 := hv1.frozen)
    exact ⟨hk2, ⟨_, hv2, by simpa using hr2, trivial⟩, hB.trans (hb2.mono (Nat.le_refl _))⟩
  case done =>
    rintro D xs W hD rfl ⟨⟨v, hv, hrow, _⟩, hB⟩ hK
    have hc := hv.cell
    have hf := hv.frozen
    obtain ⟨c, t, hl⟩ := List.exists_cons_of_ne_nil hne.out
    have hlen : xs.length = t.length + 1 := by rw [hl]; rfl
    have hrow2 := hrow
    rw [hlen] at hrow2
    obtain ⟨g, cap, rfl⟩ := ownsRow_succ hrow2
    rw [← hlen] at hc
    clear hl hrow2 hL
    have hconv : (convert 104 9 (.slice (some ⟨g, 0, none⟩) xs.length cap)).run Try.prog W = .ok (.string ⟨xs.toArray⟩) W := by
      refine run_convert_bytes_back _ _ _ 5 ⟨g, 0, none⟩ cap xs Try.underlying104 Try.underlying5 Try.underlying9 ?_
      intro j hj
      have := hrow.cells (g := g) rfl j (u8V xs[j]) (by rw [List.getElem?_map, List.getElem?_eq_getElem hj]; rfl)
      exact this
    clear hlen
    gi_wp2
    refine ⟨by simp, .inl ⟨_, _, rfl, run_takeDeferred hK, ?_⟩⟩
    exact ⟨_, results_tmp rfl _ _ _, rfl, hB.trans (belowK_b (w := w) (Nat.le_refl _) W D _ _ (by simp at hD; omega) hK rfl rfl)⟩
theorem spelt_any (m : Nat) (hm : m < 2 ^ 53) (h0 : m ≠ 0) (w : World) : Calls Try.prog 35 #[.int .u64 m] w (RetB (.string ⟨(lets m).toArray⟩) w) :=
  spelt_L m _ (Lib.hid hm) (Lib.hid rfl) (Lib.hid (lets_ne hm h0)) (lets_len m) w
end Go.Proofs.Ytfneafofohfdnaa
