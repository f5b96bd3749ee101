/-
  The loop of beginnings of package rule: the days from which on known entries of a name hold, in their order in the list.
-/
import Derived.Test.YtfphedcgmaakjabGreatDoorValue
import Derived.Test.YtfphedcgmaakjabGreatDoorRefSrc2
import Derived.Laws.AppendOwn
import Derived.Sort.OwnSortedInts
import Derived.Test.YtfphedcgmaakjabGreatDoorShelf
namespace Go.Proofs.YtfphedcgmaakjabGreatDoor
open Go.RowKit Go.Sort Go.Lib
attribute [local go_sem] set_drewN
theorem infoInt : (Tryz.prog.info? 3).map (fun i => (i.zero, i.size, i.bytes)) = some (some (.int .i64 0), 1, 8) := by kernel_rfl
/-- the first days of the known entries of a name, in the list's order -/
def frs (l : List Pv) (nm : ByteArray) (known : Int) : List Int := (l.filter fun p => decide (p.name = nm) && decide (p.entered ≤ known)).map (·.from')
theorem frs_snoc {l : List Pv} {nm : ByteArray} {known : Int} {k : Nat} {p : Pv} (hk : k < l.length) (hp : l[k] = p) :
    frs (l.take (k + 1)) nm known = frs (l.take k) nm known ++ (if p.name = nm ∧ p.entered ≤ known then [p.from'] else []) := by
  rw [List.take_succ_eq_append_getElem hk, hp]
  unfold frs
  rw [List.filter_append, List.map_append]
  congr 1
  by_cases h : p.name = nm ∧ p.entered ≤ known
  · simp [h.1, h.2]
  · rw [if_neg h]
    have : (decide (p.name = nm) && decide (p.entered ≤ known)) = false := by
      rw [Bool.and_eq_false_iff]
      by_cases h1 : p.name = nm
      · right; simpa using fun c => h ⟨h1, c⟩
      · left; simpa using h1
    simp [this]
theorem frs_le (l : List Pv) (nm : ByteArray) (known : Int) (k : Nat) : (frs (l.take k) nm known).length ≤ k := by
  unfold frs
  rw [List.length_map]
  exact Nat.le_trans (List.length_filter_le _ _) (List.length_take_le _ _)
theorem compact_le : ∀ l : List Int, (Lib.compact l).length ≤ l.length := fun l => by
  unfold Lib.compact Lib.compactUpTo
  rw [List.length_map]
  exact Nat.le_trans (List.length_filter_le _ _) (by simp)
/-- the days on which a name may change, each once, in their order -/
def bgs (l : List Pv) (nm : ByteArray) (known : Int) : List Int := Lib.compact ((frs l nm known).mergeSort fun x y => decide (x ≤ y))
/-- nil where nothing has been collected -/
def NilIf (F : List Int) (v : Value) : Prop := F = [] → v = .slice none 0 0
def NEf (l : List Pv) (nm : ByteArray) (known : Int) : Prop := frs l nm known ≠ []
/-- what beginnings returns -/
def BegPost (l : List Pv) (nm : ByteArray) (known : Int) (w : World) (e : Ending) (w' : World) : Prop :=
  (frs l nm known = [] ∧ e = .returned (.slice none 0 0) ∧ Below w.heap.size w w') ∨
  (frs l nm known ≠ [] ∧ ∃ g cap, e = .returned (.slice (some ⟨g, 0, none⟩) (bgs l nm known).length cap) ∧ w.heap.size ≤ g ∧ g < w'.heap.size ∧ IntsAt w' g 0 (bgs l nm known) ∧ Below w.heap.size w w')
set_option maxRecDepth 100000 in
set_option maxHeartbeats 2000000 in
theorem beginnings_any (l : List Pv) (nm : ByteArray) (known : Int) (b o cap : Nat) (w : World) (hl : l.length ≤ 1000000) (hc : PvsAt w b o l) :
    Calls Tryz.prog 47 #[.slice (some ⟨b, o, none⟩) l.length cap, .string nm, .int .i64 known] w (BegPost l nm known w) := by
  have HC := Lib.hid hc
  clear hc
  obtain ⟨i0, hi, hz0, hz1, hz2⟩ := info_parts infoInt
  go_enter Tryz.func47, Tryz.ntmps47
  go_wp2
  go_loopw [7, 12] (fun v i wr => ∃ k : Nat, k ≤ l.length ∧ i = .int .i64 k ∧ wr.ownsRow w.heap.size 3 1 v (frs (l.take k) nm known).length ((frs (l.take k) nm known).map (Value.int .i64)) ∧ NilIf (frs (l.take k) nm known) v ∧ Below w.heap.size w wr) (fun _ i _ => l.length - (intOf i).toNat)
  case atStart => exact ⟨0, Nat.zero_le _, rfl, by simpa [frs] using World.ownsRow_nil _ _ _ _, fun _ => rfl, Below.refl _ _⟩
  case round =>
    obtain ⟨k, hk, rfl, hown, hnil, hB⟩ := hrel
    have HN := Lib.hid hnil
    clear hnil
    by_cases hlt : k < l.length
    · obtain ⟨⟨c0, c1, c2, c3, c4⟩, hsz⟩ := (HC.out.below hB).2 k hlt
      obtain ⟨p, hp⟩ : ∃ p, l[k] = p := ⟨_, rfl⟩
      rw [hp] at c0 c1 c2 c3 c4 hsz
      have sn := frs_snoc (nm := nm) (known := known) hlt hp
      clear hp
      have fl := frs_le l nm known k
      generalize hF : frs (l.take k) nm known = F at *
      clear hF
      by_cases hn : p.name = nm
      · by_cases he : p.entered ≤ known
        · rw [if_pos ⟨hn, he⟩] at sn
          have SN := Lib.hid sn
          clear sn
          subst hn
          obtain ⟨pn, pv, pf, pe, pr⟩ := p
          simp only at c0 c1 c2 c3 c4 hsz he
          go_wp2_with (at_builtin; refine wpList_append_own _ rfl _ _ 83 rfl w.heap.size 3 i0 (.int .i64 0) 1 8 Tryz.underlying83 hi hz0 hz1 hz2 rfl (by decide) _ _ _ rfl ((hown.alloc _).alloc _) ⟨wr.heap.size + 1, 0, none⟩ 1 1 [.int .i64 pf] rfl rfl ?c1 ?c2 ?c3 ?c4 ?c5 ?_)
          case c2 => simp [Value.oneCell']
          case c3 => unfold maxLen; omega
          case c4 => omega
          case c5 => have := hB.size; simp; omega
          · intro v' w1 hown' hgrow _
            have R2 : Below w.heap.size w w1 := ((hB.alloc hB.size _).alloc (by have := hB.size; simp; omega) _).grown hgrow (by have := hB.size; simp; omega) (fun k' e' => (hown.lt k' e').1)
            have R1 : Hid (w1.ownsRow w.heap.size 3 1 v' (frs (l.take (k + 1)) pn known).length ((frs (l.take (k + 1)) pn known).map (Value.int .i64))) := Lib.hid (by rw [SN.out]; simpa using hown')
            clear hown' hgrow hown
            go_wp2
            go_roundw
            case rel => exact ⟨k + 1, by omega, by go_num, R1.out, fun c => by rw [SN.out] at c; simp at c, R2⟩
            case measure => simp [intOf]; omega
        · rw [if_neg (fun c => he c.2), List.append_nil] at sn
          have SN := Lib.hid sn
          clear sn
          subst hn
          have he' : decide (p.entered ≤ known) = false := by simpa using he
          obtain ⟨pn, pv, pf, pe, pr⟩ := p
          simp only at c0 c1 c2 c3 c4 hsz he he'
          go_wp2
          go_roundw
          case rel => exact ⟨k + 1, by omega, by go_num, by rw [SN.out]; exact hown.alloc _, by rw [SN.out]; exact HN.out, hB.alloc hB.size _⟩
          case measure => simp [intOf]; omega
      · rw [if_neg (fun c => hn c.1), List.append_nil] at sn
        have SN := Lib.hid sn
        clear sn
        have hn1 := str_ne hn
        obtain ⟨pn, pv, pf, pe, pr⟩ := p
        simp only at c0 c1 c2 c3 c4 hsz hn hn1
        go_wp2
        go_roundw
        case rel => exact ⟨k + 1, by omega, by go_num, by rw [SN.out]; exact hown.alloc _, by rw [SN.out]; exact HN.out, hB.alloc hB.size _⟩
        case measure => simp [intOf]; omega
    · obtain rfl : k = l.length := by omega
      rw [List.take_length] at hown
      rw [List.take_length] at HN
      by_cases hF : frs l nm known = []
      · have hnil := HN.out hF
        have HF := Lib.hid hF
        clear hF hown
        subst hnil
        go_wp2_with (first
          | (go_at_call 69; refine (Tryz.slices_Sort_int_none none 0 _).mono ?_; rintro e w' ⟨rfl, rfl⟩)
          | (go_at_call 70; refine (Tryz.slices_Compact_int_empty none 0 _).mono ?_; rintro e w' ⟨rfl, rfl⟩))
        go_ret
        exact .inl ⟨HF.out, rfl, by assumption⟩
      · rcases hown.2 with ⟨_, h0⟩ | ⟨g, cap', cur, rfl, hbase, hb, h1, h2, h3, h4⟩
        · exact absurd (List.length_eq_zero_iff.1 h0) hF
        have hbg : bgs l nm known = Lib.compact ((frs l nm known).mergeSort fun x y => decide (x ≤ y)) := rfl
        have hle := frs_le l nm known l.length
        rw [List.take_length] at hle
        have HNE : NEf l nm known := hF
        clear hF HN
        generalize frs l nm known = F at *
        have hH := holds_of_blockI hb (by simpa using h4)
        have hgl := (Array.getElem?_eq_some_iff.1 hb).1
        have hlen : (F.mergeSort fun x y => decide (x ≤ y)).length = F.length := List.length_mergeSort _
        have S1 := Lib.hid (Tryz.slices_Sort_int g 0 cap' F wr hH hgl (by omega))
        have OW := fun n os => ownsRow_sortedI (w := wr) (n := n) (os := os) hlen hbase hb h1 h2 h3
        have GW := fun n os => grownBy_sortedI (w := wr) (g := g) (n := n) (os := os) (F.mergeSort fun x y => decide (x ≤ y)).toArray
        generalize hT : F.mergeSort (fun x y => decide (x ≤ y)) = T at *
        clear hT
        have OWh := Lib.hid OW
        have GWh := Lib.hid GW
        have HL := Lib.hid hlen
        have HBG := Lib.hid hbg
        clear OW GW hown hH h4 hlen hbg hb
        go_wp2_with fail
        refine (S1.out).mono ?_
        rintro e w1 ⟨rfl, n1, os1, hw1⟩
        have O1 := OWh.out n1 os1
        have B1 := hB.grown (GWh.out n1 os1) hB.size (fun j hj => by cases hj; exact hbase)
        rw [← hw1] at O1 B1
        have HW1 := Lib.hid hw1
        clear hw1 OWh GWh
        rcases O1.2 with ⟨hc, _⟩ | ⟨g2, cap2, cur2, hv2, _, hb2, k1, k2, k3, k4⟩
        · cases hc
        cases hv2
        have hH2 := holds_of_blockI (ss := T) hb2 (by rw [HL.out]; simpa using k4)
        have hgl2 := (Array.getElem?_eq_some_iff.1 hb2).1
        have S2 := Tryz.slices_Compact_int g 0 cap' T w1 hH2 (by rw [HL.out]; unfold maxLen at h2; omega) (by rw [HL.out]; exact h1)
        rw [HL.out] at S2
        have cle : (Lib.compact T).length ≤ T.length := compact_le T
        have hlen2 : (Lib.compact T ++ List.replicate (T.length - (Lib.compact T).length) 0).length = F.length := by rw [List.length_append, List.length_replicate, ← HL.out]; omega
        have O2 := fun n => ownsRow_sortedI (w := w1) (n := n) (os := #[]) hlen2 hbase hb2 k1 k2 k3
        have G2 := fun n => grownBy_sortedI (w := w1) (g := g) (n := n) (os := #[]) (Lib.compact T ++ List.replicate (T.length - (Lib.compact T).length) 0).toArray
        have S2h := Lib.hid S2
        have O2h := Lib.hid O2
        have G2h := Lib.hid G2
        clear S2 O2 G2 hH2 hlen2 k4 k3 O1 hb2
        go_wp2_with fail
        refine (S2h.out).mono ?_
        rintro e w2 ⟨rfl, q, hw2⟩
        rw [← HL.out] at hw2
        have O2 := O2h.out q
        have B2 := B1.grown (G2h.out q) B1.size (fun j hj => by cases hj; exact hbase)
        rw [grow_empty, ← HL.out, ← hw2] at O2
        rw [grow_empty, ← hw2] at B2
        have HW2 := Lib.hid hw2
        clear hw2
        go_wp2
        go_ret
        refine .inr ⟨HNE, g, cap', by rw [HBG.out]; rfl, hbase, (O2.lt g rfl).2, ?_, B2⟩
        intro j hj
        rw [HBG.out] at hj
        have := O2.cells (g := g) rfl j (.int .i64 (Lib.compact T)[j]) (by rw [List.getElem?_map, List.getElem?_append_left hj, List.getElem?_eq_getElem hj]; rfl)
        have e0 : Addr.add ⟨g, 0, none⟩ j = ⟨g, 0 + j, none⟩ := by
          unfold Addr.add
          split
          · rename_i e; subst e; rfl
          · rfl
        rw [e0] at this
        simp only [HBG.out]
        exact this
end Go.Proofs.YtfphedcgmaakjabGreatDoor
