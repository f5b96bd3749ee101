/-
  RuleTexts returns true: the walks over contracts of what is called.
-/
import Derived.Test.YtpfekgmimfkjcaaGreatDoorWdM
import Derived.Test.YtpfekgmimfkjcaaGreatDoorLawSources
import Derived.Lib.IndexMore
import Derived.Test.YtpfekgmimfkjcaaGreatDoorParP
import Derived.Test.YtpfekgmimfkjcaaGreatDoorPcs
import Derived.Test.YtpfekgmimfkjcaaGreatDoorEmpty
import Derived.OwnWalk
import Derived.Test.YtpfekgmimfkjcaaGreatDoorWords
import Derived.Test.YtpfekgmimfkjcaaGreatDoorRefSrc
import Derived.Test.YtpfekgmimfkjcaaGreatDoorFmtR
import Derived.Deep.QuietTactic
import Derived.BigQuiet
import Derived.Test.YtpfekgmimfkjcaaGreatDoorAwake
namespace Go.Proofs.YtpfekgmimfkjcaaGreatDoor
/-- what the lines of a text say, from line n on, behind the entries l: 0, or the number of the first wrong line -/
def prs : List (List UInt8) → Nat → List Pv → Nat × List Pv
  | [], _, l => (0, l)
  | [x], n, l => if x = [] then (0, l) else (n, l)
  | x :: y :: r, n, l => if wdB ⟨x.toArray⟩ = true then prs (y :: r) (n + 1) (l ++ [rpP ⟨x.toArray⟩]) else (n, l)
theorem prs_end (n : Nat) (l : List Pv) : prs [[]] n l = (0, l) := rfl
theorem prs_last {x : List UInt8} (h : x ≠ []) (n : Nat) (l : List Pv) : prs [x] n l = (n, l) := by unfold prs; rw [if_neg h]
theorem prs_ok {x : List UInt8} {T : List (List UInt8)} (hT : T ≠ []) (h : wdB ⟨x.toArray⟩ = true) (n : Nat) (l : List Pv) : prs (x :: T) n l = prs T (n + 1) (l ++ [rpP ⟨x.toArray⟩]) := by
  cases T with
  | nil => exact absurd rfl hT
  | cons y r => rw [prs, if_pos h]
theorem prs_no {x : List UInt8} {T : List (List UInt8)} (hT : T ≠ []) (h : wdB ⟨x.toArray⟩ = false) (n : Nat) (l : List Pv) : prs (x :: T) n l = (n, l) := by
  cases T with
  | nil => exact absurd rfl hT
  | cons y r => rw [prs, if_neg (by rw [h]; decide)]
def parK (s : ByteArray) : Nat × List Pv := prs (spl 10 s.data.toList) 1 []
/-- what Parse tells of a text: the entries, the number of a line, the error -/
def parL (s : ByteArray) : List Pv := if 60000 < s.size then [] else if (parK s).1 ≠ 0 then [] else if cpE (parK s).2 = 0 then (parK s).2 else []
def parN (s : ByteArray) : Int := if 60000 < s.size then 0 else ((parK s).1 : Int)
def parE (s : ByteArray) : Int := if 60000 < s.size then 8 else if (parK s).1 ≠ 0 then 7 else cpE (parK s).2
theorem par_long {s : ByteArray} (h : 60000 < s.size) : parL s = [] ∧ parN s = 0 ∧ parE s = 8 := ⟨by unfold parL; rw [if_pos h], by unfold parN; rw [if_pos h], by unfold parE; rw [if_pos h]⟩
theorem par_wrong {s : ByteArray} {n : Nat} {l : List Pv} (h : ¬ 60000 < s.size) (hk : parK s = (n, l)) (hn : n ≠ 0) : parL s = [] ∧ parN s = n ∧ parE s = 7 :=
  ⟨by unfold parL; rw [if_neg h, hk, if_pos hn], by unfold parN; rw [if_neg h, hk], by unfold parE; rw [if_neg h, hk, if_pos hn]⟩
theorem par_right {s : ByteArray} {l : List Pv} (h : ¬ 60000 < s.size) (hk : parK s = (0, l)) : parN s = 0 ∧ parE s = cpE l ∧ (cpE l = 0 → parL s = l) ∧ (cpE l ≠ 0 → parL s = []) :=
  ⟨by unfold parN; rw [if_neg h, hk]; rfl, by unfold parE; rw [if_neg h, hk, if_neg (by simp)], fun hc => by unfold parL; rw [if_neg h, hk, if_neg (by simp), if_pos hc], fun hc => by unfold parL; rw [if_neg h, hk, if_neg (by simp), if_neg hc]⟩
/-- strings.Cut at a line feed -/
theorem cut_no {s : List UInt8} (h : (10 : UInt8) ∉ s) : Lib.cut s [10] = (s, [], false) := by
  unfold Lib.cut; rw [index_no h]; simp
theorem cut_at {a : List UInt8} (b : List UInt8) (h : (10 : UInt8) ∉ a) : Lib.cut (a ++ 10 :: b) [10] = (a, b, true) := by
  unfold Lib.cut; rw [index_at b h]; simp
/-- the text of a list -/
def prT : List Pv → List UInt8
  | [] => []
  | p :: l => fmtL p ++ 10 :: prT l
theorem prT_snoc : ∀ (l : List Pv) (p : Pv), prT (l ++ [p]) = prT l ++ (fmtL p ++ [10])
  | [], p => by simp [prT]
  | q :: l, p => by rw [List.cons_append, prT, prT, prT_snoc l p]; simp
theorem fmt_lf {p : Pv} (h : pvE p = 0) : (10 : UInt8) ∉ fmtL p := by
  obtain ⟨hn, _⟩ := pv_all h
  obtain ⟨_, _, h10⟩ := name_mem hn
  unfold fmtL
  simp only [List.mem_append, List.mem_cons, not_or]
  exact ⟨h10, by decide, valL_no p (by decide) (by decide) (by decide), by decide, itoa_no _ (by decide) (by decide), by decide, itoa_no _ (by decide) (by decide)⟩
theorem wd_fmt {p : Pv} (h : pvE p = 0) : wdB ⟨(fmtL p).toArray⟩ = true ∧ rpP ⟨(fmtL p).toArray⟩ = p := by
  obtain ⟨hn, ⟨v0, v1⟩, ⟨f0, f1⟩, e0, e1⟩ := pv_all h
  obtain ⟨h12, _, _⟩ := name_mem hn
  have hl := fmt_len p (by omega) (by omega) (by omega)
  exact wd_yes (by show ¬ 200 < (fmtL p).toArray.size; simp; omega) (by simpa using rdP_fmt h)
theorem prs_prT : ∀ (l : List Pv) (n : Nat) (a : List Pv), (∀ p ∈ l, pvE p = 0) → prs (spl 10 (prT l)) n a = (0, a ++ l)
  | [], n, a, _ => by simp [prT, spl, prs]
  | p :: l, n, a, h => by
    have hp := h p (by simp)
    obtain ⟨h1, h2⟩ := wd_fmt hp
    rw [prT, spl_app _ (fmt_lf hp), prs_ok (spl_ne _ _) h1, h2, prs_prT l (n + 1) (a ++ [p]) (fun q hq => h q (by simp [hq]))]
    simp
theorem prT_len : ∀ (l : List Pv), (∀ p ∈ l, pvE p = 0) → (prT l).length ≤ l.length * 100
  | [], _ => by simp [prT]
  | p :: l, h => by
    obtain ⟨hn, ⟨v0, v1⟩, ⟨f0, f1⟩, e0, e1⟩ := pv_all (h p (by simp))
    obtain ⟨h12, _, _⟩ := name_mem hn
    have hl := fmt_len p (by omega) (by omega) (by omega)
    have := prT_len l (fun q hq => h q (by simp [hq]))
    rw [prT]; simp; omega
theorem feE_zero : ∀ {xs : List Int}, feE xs = 0 → ∀ x ∈ xs, x = 0
  | [], _, x, hx => by cases hx
  | y :: ys, h, x, hx => by
    by_cases hy : y = 0
    · rw [feE, if_pos hy] at h
      rcases List.mem_cons.1 hx with e | e
      · exact e.trans hy
      · exact feE_zero h x e
    · rw [feE, if_neg hy] at h; exact absurd h hy
theorem cpE_all {l : List Pv} (h : cpE l = 0) : l.length ≤ 200 ∧ ∀ p ∈ l, pvE p = 0 := by
  unfold cpE at h
  split at h
  · cases h
  · rename_i hl
    refine ⟨by omega, fun p hp => ?_⟩
    obtain ⟨k, hk, rfl⟩ := List.mem_iff_getElem.1 hp
    by_cases hz : pvE l[k] = 0
    · exact hz
    · exfalso
      have hb := bE_bad hk rfl hz
      have := feE_zero h (bE l k) (List.mem_map.2 ⟨k, List.mem_range.2 hk, rfl⟩)
      rw [hb] at this; exact hz this
theorem par_prT {l : List Pv} (h : cpE l = 0) : parL ⟨(prT l).toArray⟩ = l ∧ parN ⟨(prT l).toArray⟩ = 0 ∧ parE ⟨(prT l).toArray⟩ = 0 := by
  obtain ⟨hl, ha⟩ := cpE_all h
  have hlen := prT_len l ha
  have hs : ¬ 60000 < (⟨(prT l).toArray⟩ : ByteArray).size := by show ¬ 60000 < (prT l).toArray.size; simp; omega
  have hk : parK ⟨(prT l).toArray⟩ = (0, l) := by
    unfold parK
    simpa using prs_prT l 1 [] ha
  obtain ⟨h1, h2, h3, _⟩ := par_right hs hk
  exact ⟨h3 h, h1, h2.trans h⟩
end Go.Proofs.YtpfekgmimfkjcaaGreatDoor
namespace Go.Proofs.YtpfekgmimfkjcaaGreatDoor
open Go.RowKit
attribute [local go_sem] set_drewN
theorem infoPv : (Tryz.prog.info? 23).map (fun i => (i.zero, i.size, i.bytes)) = some (some (.agg #[.string ⟨#[]⟩, .int .i64 0, .int .i64 0, .int .i64 0, .bool false]), 5, 48) := by kernel_rfl
theorem heap_new_at {w : World} {o : Obj} {n : Nat} (h : n = w.heap.size) : (w.alloc o).heap[n]? = some o := by subst h; exact heap_alloc_new _ _
/-- entries in a row of one's own -/
def PRow (w0 W : World) (l : List Pv) (v : Value) : Prop := W.ownsRow w0.heap.size 23 5 v l.length (pcs l) ∧ Below w0.heap.size w0 W
/-- a list of provisions: empty, or it lies -/
def PvV (W : World) (v : Value) (l : List Pv) : Prop := (l = [] ∧ ∃ a c, v = .slice a 0 c) ∨ (∃ b o cap, v = .slice (some ⟨b, o, none⟩) l.length cap ∧ PvsAt W b o l)
theorem PvV.below {W W' : World} {v : Value} {l : List Pv} (h : PvV W v l) (hb : Below W.heap.size W W') : PvV W' v l := by
  rcases h with h | ⟨b, o, cap, e, h⟩
  · exact .inl h
  · exact .inr ⟨b, o, cap, e, h.below hb⟩
theorem PRow.lies {w0 W : World} {l : List Pv} {v : Value} (h : PRow w0 W l v) (hn : ∀ p ∈ l, p.name.size ≤ maxLen) : PvV W v l := by
  obtain ⟨ho, hb⟩ := h
  rcases ho.2 with ⟨e, h0⟩ | ⟨g, cap, cur, rfl, hbase, hr⟩
  · exact .inl ⟨List.length_eq_zero_iff.1 h0, _, _, e⟩
  · exact .inr ⟨g, 0, cap, rfl, PvsAt.of_own ho hn⟩
theorem PRow.snoc {w0 w1 w2 : World} {l : List Pv} {p : Pv} {v v' : Value} (h : w2.ownsRow w0.heap.size 23 5 v' (l.length + 1) (pcs l ++ pvC p)) (hb : Below w0.heap.size w0 w1) (hg : w1.grownBy w2 v.ownBlock) (ho : w1.ownsRow w0.heap.size 23 5 v l.length (pcs l)) :
    PRow w0 w2 (l ++ [p]) v' :=
  ⟨by simpa [pcs_app, pcs_one] using h, hb.grown hg hb.size (fun k' e' => (ho.lt k' e').1)⟩
theorem PRow.below {w0 W W' : World} {l : List Pv} {v : Value} (h : PRow w0 W l v) (hb : Below W.heap.size W W') : PRow w0 W' l v :=
  ⟨h.1.kept (row := none) ⟨hb.os, hb.tape, hb.output, hb.size, fun j hj _ => hb.block j hj⟩ (by cases v.ownBlock <;> simp), h.2.trans (hb.mono h.2.size)⟩
/-- what Parse returns -/
def ParPost (l : List Pv) (n c : Int) (w : World) (e : Ending) (w' : World) : Prop :=
  ∃ v, e = .returned (.tuple #[v, .int .i64 n, .int .i64 c]) ∧ PvV w' v l ∧ Below w.heap.size w w'
def strSize : Value → Nat
  | .string s => s.size
  | _ => 0
theorem check_of_row {W : World} {l : List Pv} {v : Value} (h : PvV W v l) (hl : l.length ≤ 1000000) : Calls Tryz.prog 33 #[v] W (RetB (.int .i64 (cpE l)) W) := by
  rcases h with ⟨rfl, a, c, rfl⟩ | ⟨b, o, cap, rfl, h⟩
  · exact CheckProvisions_0 a c W
  · exact CheckProvisions_any l b o cap W hl h
theorem cut_any10 (x : List UInt8) (w : World) (hs : x.length ≤ 1000000) (hm : MaxL w) : Calls Tryz.prog 34 #[.string ⟨x.toArray⟩, .string ⟨#[10]⟩] w (RetB (.tuple #[.string ⟨(Lib.cut x [10]).1.toArray⟩, .string ⟨(Lib.cut x [10]).2.1.toArray⟩, .bool (Lib.cut x [10]).2.2]) w) := by
  obtain ⟨m, hm⟩ := hm
  refine (Tryz.strings_Cut ⟨x.toArray⟩ ⟨#[10]⟩ m w (by show x.toArray.size < _; simp; omega) hm).mono ?_
  rintro e w' ⟨rfl, n, rfl⟩
  exact ⟨by simp, below_n (Below.refl _ _) n⟩
set_option maxRecDepth 100000 in
set_option maxHeartbeats 8000000 in
theorem Parse_any (s : ByteArray) (w : World) (hs : s.size ≤ 200000) (hm : MaxL w) :
    Calls Tryz.prog 13 #[.string s] w (ParPost (parL s) (parN s) (parE s) w) := by
  by_cases hbig : 60000 < s.size
  · obtain ⟨z1, z2, z3⟩ := par_long hbig
    rw [z1, z2, z3]
    clear z1 z2 z3 hm
    go_enter Tryz.func13, Tryz.ntmps13
    go_wp2
    go_ret3
    exact ⟨_, rfl, .inl ⟨rfl, _, _, rfl⟩, Below.refl _ _⟩
  have dbig : decide (60000 < s.size) = false := by simpa using hbig
  obtain ⟨i0, hi, hz0, hz1, hz2⟩ := info_parts infoPv
  obtain ⟨x, rfl⟩ : ∃ x : List UInt8, s = ⟨x.toArray⟩ := ⟨s.data.toList, by simp⟩
  have hxl : x.length ≤ 60000 := by
    have e : (⟨x.toArray⟩ : ByteArray).size = x.length := by show x.toArray.size = _; simp
    omega
  have HM := Lib.hid hm
  have HW := Lib.hid (fun n l (h : parK ⟨x.toArray⟩ = (n, l)) => @par_wrong ⟨x.toArray⟩ n l hbig h)
  have HR := Lib.hid (fun l (h : parK ⟨x.toArray⟩ = (0, l)) => @par_right ⟨x.toArray⟩ l hbig h)
  have HK : Hid (parK ⟨x.toArray⟩ = prs (spl 10 x) 1 []) := Lib.hid (by unfold parK; simp)
  clear hm
  generalize parL ⟨x.toArray⟩ = PL at *
  generalize parN ⟨x.toArray⟩ = PN at *
  generalize parE ⟨x.toArray⟩ = PE at *
  generalize parK ⟨x.toArray⟩ = PK at *
  go_enter Tryz.func13, Tryz.ntmps13
  go_wp2
  go_loopw [5, 6, 7] (fun lv nv rv wr => ∃ (l : List Pv) (n : Nat) (r : List UInt8), nv = .int .i64 n ∧ rv = .string ⟨r.toArray⟩ ∧ 1 ≤ n ∧ prs (spl 10 x) 1 [] = prs (spl 10 r) n l ∧ (∀ p ∈ l, p.name.size ≤ maxLen) ∧ l.length + r.length ≤ x.length ∧ n + r.length ≤ x.length + 1 ∧ PRow w wr l lv) (fun _ _ rv _ => strSize rv)
  case atStart =>
    exact ⟨[], 1, x, rfl, rfl, Nat.le_refl _, rfl, fun p hp => (by cases hp), by simp, by omega, World.ownsRow_nil _ _ _ _, Below.refl _ _⟩
  case round =>
    obtain ⟨l, n, r, rfl, rfl, hn1, hpr, hnm, hlen, hnl, hrow⟩ := hrel
    have hB := Lib.hid hrow.2
    have hsz := hrow.2.size
    have HRow := Lib.hid hrow
    have HP := Lib.hid hpr
    have HN := Lib.hid hnm
    clear hrow hpr hnm
    by_cases hr0 : r = []
    · subst hr0
      have hk := HP.out
      rw [show spl 10 [] = [[]] from rfl, prs_end] at hk
      obtain ⟨e1, e2, e3, e4⟩ := HR.out l (HK.out.trans hk)
      subst e1 e2
      have HV := Lib.hid (HRow.out.lies HN.out)
      have HC := Lib.hid (check_of_row HV.out (by omega))
      clear hk
      by_cases hc : cpE l = 0
      · obtain rfl := (e3 hc).symm
        rw [hc] at HC
        clear e3 e4
        go_wp2_with (go_at_call 33; refine (HC.out).mono ?_; rintro e w5 ⟨rfl, hb5⟩)
        go_ret3
        exact ⟨_, by rw [hc]; rfl, HV.out.below hb5, hB.out.trans (hb5.mono hsz)⟩
      · obtain rfl := e4 hc
        have hnb : (cpE l != 0) = true := by simpa using hc
        clear e3 e4
        generalize cpE l = C at *
        go_wp2_with (go_at_call 33; refine (HC.out).mono ?_; rintro e w5 ⟨rfl, hb5⟩)
        go_ret3
        exact ⟨_, rfl, .inl ⟨rfl, _, _, rfl⟩, hB.out.trans (hb5.mono hsz)⟩
    · have hne : (⟨r.toArray⟩ : ByteArray) ≠ ⟨#[]⟩ := fun e => hr0 (by have := congrArg (fun z : ByteArray => z.data.toList) e; simpa using this)
      have hneq : ((⟨r.toArray⟩ : ByteArray).toList == (⟨#[]⟩ : ByteArray).toList) = false := str_ne hne
      have hie : r.isEmpty = false := by simpa using hr0
      have HCut := Lib.hid (cut_any10 r wr (by omega) (HM.out.below hB.out))
      by_cases h10 : (10 : UInt8) ∈ r
      · obtain ⟨a, b, rfl, ha⟩ := spl_first r h10
        rw [cut_at b ha] at HCut
        simp only [List.length_append, List.length_cons] at hlen hnl
        have hsp := HP.out
        rw [spl_app b ha] at hsp
        have HRd := Lib.hid (fun W hW => readProvision_any ⟨a.toArray⟩ W (by show a.toArray.size ≤ _; simp; omega) hW)
        have hnm2 := rpP_name ⟨a.toArray⟩ (by show a.toArray.size ≤ _; simp; omega)
        by_cases hw : rpE ⟨a.toArray⟩ = 0
        · rw [prs_ok (spl_ne _ _) (by unfold wdB; rw [hw]; rfl)] at hsp
          rw [hw] at HRd
          obtain ⟨⟨nm, v, fr, en, rp⟩, hpv⟩ : ∃ p, rpP ⟨a.toArray⟩ = p := ⟨_, rfl⟩
          rw [hpv] at hsp HRd hnm2
          have HS := Lib.hid hsp
          simp only at hnm2
          have hie2 : (a ++ 10 :: b).isEmpty = false := hie
          clear hsp HP hw hpv ha h10 hr0 hneq hne
          go_wp2_with (first
            | (go_at_call 34; refine (HCut.out).mono ?_; rintro e w2 ⟨rfl, hb2⟩; have q2 := hb2.size; have R2 := Lib.hid (HRow.out.below hb2))
            | (go_at_call 23; refine (HRd.out _ (HM.out.below R2.out.2)).mono ?_; rintro e w3 ⟨rfl, hb3⟩; have q3 := hb3.size; have R3 := Lib.hid (R2.out.below hb3))
            | (at_builtin; refine wpList_append_own _ rfl _ _ 33 rfl w.heap.size 23 i0 _ 5 48 Tryz.underlying33 hi hz0 hz1 hz2 rfl (by decide) _ _ _ rfl ((R3.out.1.alloc _).alloc _) ⟨w3.heap.size + 1, 0, none⟩ 1 1 (pvC ⟨nm, v, fr, en, rp⟩) ?c0 rfl ?c1 ?c2 ?c3 ?c4 ?c5 ?_))
          case c0 => first | rfl | simp
          case c1 => exact World.news_of_block (cs := #[.string nm, .int .i64 v, .int .i64 fr, .int .i64 en, .bool rp]) (heap_new_at (by simp))
          case c2 => simp [pvC, Value.oneCell']
          case c3 => unfold maxLen; omega
          case c4 => omega
          case c5 => simp; omega
          intro v3 w4 hown4 hgrow4 _
          have D4 := Lib.hid (PRow.snoc (p := ⟨nm, v, fr, en, rp⟩) hown4 ((R3.out.2.alloc (by omega) _).alloc (by simp; omega) _) hgrow4 ((R3.out.1.alloc _).alloc _))
          go_wp2
          go_roundw
          case rel => exact ⟨l ++ [⟨nm, v, fr, en, rp⟩], n + 1, b, by go_num, rfl, by omega, HS.out, fun p hp => by
            rcases List.mem_append.1 hp with h | h
            · exact HN.out p h
            · rw [List.mem_singleton.1 h]; exact hnm2, by simp; omega, by omega, D4.out⟩
          case measure =>
            show b.toArray.size < (a ++ 10 :: b).toArray.size
            simp; omega
        · rw [prs_no (spl_ne _ _) (by unfold wdB; exact decide_eq_false hw)] at hsp
          obtain ⟨e1, e2, e3⟩ := HW.out n l (HK.out.trans hsp) (by omega)
          subst e1 e2 e3
          have hnb : (rpE ⟨a.toArray⟩ != 0) = true := by simpa using hw
          obtain ⟨⟨nm, v, fr, en, rp⟩, hpv⟩ : ∃ p, rpP ⟨a.toArray⟩ = p := ⟨_, rfl⟩
          rw [hpv] at HRd
          generalize rpE ⟨a.toArray⟩ = re at *
          clear hsp HP hpv ha h10 hr0 hw
          go_wp2_with (first
            | (go_at_call 34; refine (HCut.out).mono ?_; rintro e w2 ⟨rfl, hb2⟩; have q2 := hb2.size; have B2 := Lib.hid (hB.out.trans (hb2.mono hsz)))
            | (go_at_call 23; refine (HRd.out _ (HM.out.below B2.out)).mono ?_; rintro e w3 ⟨rfl, hb3⟩; have q3 := hb3.size; have B3 := Lib.hid (B2.out.trans (hb3.mono (by omega)))))
          go_ret3
          exact ⟨_, rfl, .inl ⟨rfl, _, _, rfl⟩, B3.out.alloc (by omega) _⟩
      · rw [cut_no h10] at HCut
        have hsp := HP.out
        rw [spl_none h10, prs_last hr0] at hsp
        obtain ⟨e1, e2, e3⟩ := HW.out n l (HK.out.trans hsp) (by omega)
        subst e1 e2 e3
        have HRd := Lib.hid (fun W hW => readProvision_any ⟨r.toArray⟩ W (by show r.toArray.size ≤ _; simp; omega) hW)
        obtain ⟨⟨nm, v, fr, en, rp⟩, hpv⟩ : ∃ p, rpP ⟨r.toArray⟩ = p := ⟨_, rfl⟩
        rw [hpv] at HRd
        generalize rpE ⟨r.toArray⟩ = re at *
        clear hsp HP hpv h10 hr0
        go_wp2_with (first
          | (go_at_call 34; refine (HCut.out).mono ?_; rintro e w2 ⟨rfl, hb2⟩; have q2 := hb2.size; have B2 := Lib.hid (hB.out.trans (hb2.mono hsz)))
          | (go_at_call 23; refine (HRd.out _ (HM.out.below B2.out)).mono ?_; rintro e w3 ⟨rfl, hb3⟩; have q3 := hb3.size; have B3 := Lib.hid (B2.out.trans (hb3.mono (by omega)))))
        go_ret3
        exact ⟨_, rfl, .inl ⟨rfl, _, _, rfl⟩, B3.out.alloc (by omega) _⟩
end Go.Proofs.YtpfekgmimfkjcaaGreatDoor
namespace Go.Proofs.YtpfekgmimfkjcaaGreatDoor
open Go.RowKit
attribute [local go_sem] set_drewN
theorem xcheck_of_row {W : World} {l : List Pv} {v : Value} (h : PvV W v l) (hl : l.length ≤ 1000000) : Calls Tryz.prog 16 #[v] W (RetB (.int .i64 (cpE l)) W) := by
  rcases h with ⟨rfl, a, c, rfl⟩ | ⟨b, o, cap, rfl, h⟩
  · exact xCheckProvisions_0 a c W
  · exact xCheckProvisions_any l b o cap W hl h
set_option maxRecDepth 100000 in
set_option maxHeartbeats 8000000 in
theorem xParse_any (s : ByteArray) (w : World) (hs : s.size ≤ 200000) :
    Calls Tryz.prog 14 #[.string s] w (ParPost (parL s) (parN s) (parE s) w) := by
  by_cases hbig : 60000 < s.size
  · obtain ⟨z1, z2, z3⟩ := par_long hbig
    rw [z1, z2, z3]
    clear z1 z2 z3
    go_enter Tryz.func14, Tryz.ntmps14
    go_wp2
    go_ret3
    exact ⟨_, rfl, .inl ⟨rfl, _, _, rfl⟩, Below.refl _ _⟩
  have dbig : decide (60000 < s.size) = false := by simpa using hbig
  obtain ⟨i0, hi, hz0, hz1, hz2⟩ := info_parts infoPv
  have HW := Lib.hid (fun n l (h : parK s = (n, l)) => @par_wrong s n l hbig h)
  have HR := Lib.hid (fun l (h : parK s = (0, l)) => @par_right s l hbig h)
  have HK : Hid (parK s = prs (spl 10 s.data.toList) 1 []) := Lib.hid rfl
  have HC := Lib.hid (cut_10 s w (by omega))
  have hmem := fun x hx => (spl_mem (c := 10) s.data.toList x hx).1
  have hTn := spl_ne 10 s.data.toList
  have hTl := spl_len 10 s.data.toList
  rw [dlen] at hTl
  generalize parL s = PL at *
  generalize parN s = PN at *
  generalize parE s = PE at *
  generalize parK s = PK at *
  have hmem2 : Hid (∀ x ∈ spl 10 s.data.toList, x.length ≤ 1000000) := Lib.hid (fun x hx => by have := hmem x hx; rw [dlen] at this; omega)
  clear hmem
  generalize spl 10 s.data.toList = T at *
  have hT0 : 0 < T.length := List.length_pos_iff.2 hTn
  go_enter Tryz.func14, Tryz.ntmps14
  go_wp2_with fail
  refine (HC.out).mono ?_
  rintro e w1 ⟨g, cap, rfl, hg, hX, hb1⟩
  have T1 := Lib.hid hX
  have B1 := Lib.hid hb1
  have s1 := hb1.size
  clear hX hb1 HC
  go_wp2
  go_loopw [5, 7] (fun lv iv wr => ∃ (l : List Pv) (i : Nat), iv = .int .i64 i ∧ i < T.length ∧ prs T 1 [] = prs (T.drop i) (i + 1) l ∧ (∀ p ∈ l, p.name.size ≤ maxLen) ∧ l.length ≤ i ∧ PRow w1 wr l lv) (fun _ iv _ => T.length - (intOf iv).toNat)
  case atStart =>
    exact ⟨[], 0, rfl, hT0, by rw [List.drop_zero], fun p hp => (by cases hp), Nat.le_refl _, World.ownsRow_nil _ _ _ _, Below.refl _ _⟩
  case round =>
    obtain ⟨l, i, rfl, hiT, hpr, hnm, hlen, hrow⟩ := hrel
    have hB := Lib.hid hrow.2
    have hsz := hrow.2.size
    have HRow := Lib.hid hrow
    have TR := Lib.hid (T1.out.below hrow.2)
    have HN := Lib.hid hnm
    rw [List.drop_eq_getElem_cons hiT] at hpr
    obtain ⟨x, hx⟩ : ∃ x, T[i] = x := ⟨_, rfl⟩
    have hxl := hmem2.out T[i] (List.getElem_mem hiT)
    rw [hx] at hpr hxl
    have hxa : (⟨x.toArray⟩ : ByteArray).size ≤ 1000000 := by show x.toArray.size ≤ _; simp; omega
    have lg := TR.out.1
    have cx := TR.out.2 i x (by rw [List.getElem?_eq_getElem hiT, hx])
    have hiT' : (i : Int) < (T.length : Int) := by omega
    clear hrow hnm hx
    by_cases hlast : i = T.length - 1
    · have hd : T.drop (i + 1) = [] := List.drop_eq_nil_of_le (by omega)
      rw [hd] at hpr
      have heq : ((i : Int) == (T.length : Int) - 1) = true := by simp; omega
      have heq2 : (i : Int) = (T.length : Int) - 1 := by omega
      have cx' : wr.cell? ⟨g, T.length - 1, none⟩ = some (.string ⟨x.toArray⟩) := by rw [show T.length - 1 = i from by omega]; exact cx
      by_cases hx0 : x = []
      · subst hx0
        rw [prs_end] at hpr
        obtain ⟨e1, e2, e3, e4⟩ := HR.out l (HK.out.trans hpr)
        subst e1 e2
        have HV := Lib.hid (HRow.out.lies HN.out)
        have HC := Lib.hid (xcheck_of_row HV.out (by omega))
        clear hpr
        by_cases hc : cpE l = 0
        · obtain rfl := (e3 hc).symm
          rw [hc] at HC
          clear e3 e4
          go_wp2_with (go_at_call 16; refine (HC.out).mono ?_; rintro e w5 ⟨rfl, hb5⟩)
          go_ret3
          exact ⟨_, by rw [hc]; rfl, HV.out.below hb5, B1.out.trans ((hB.out.trans (hb5.mono hsz)).mono s1)⟩
        · obtain rfl := e4 hc
          have hnb : (cpE l != 0) = true := by simpa using hc
          clear e3 e4
          generalize cpE l = C at *
          go_wp2_with (go_at_call 16; refine (HC.out).mono ?_; rintro e w5 ⟨rfl, hb5⟩)
          go_ret3
          exact ⟨_, rfl, .inl ⟨rfl, _, _, rfl⟩, B1.out.trans ((hB.out.trans (hb5.mono hsz)).mono s1)⟩
      · rw [prs_last hx0] at hpr
        have hie : x.isEmpty = false := by simpa using hx0
        obtain ⟨e1, e2, e3⟩ := HW.out (i + 1) l (HK.out.trans hpr) (by omega)
        subst e1 e2 e3
        have HRd := Lib.hid (fun W => words_any ⟨x.toArray⟩ W hxa)
        obtain ⟨⟨nm, v, fr, en, rp⟩, hpv⟩ : ∃ p, rpP ⟨x.toArray⟩ = p := ⟨_, rfl⟩
        rw [hpv] at HRd
        generalize wdB ⟨x.toArray⟩ = re at *
        clear hpr hpv hx0
        go_wp2_with (go_at_call 26; refine (HRd.out _).mono ?_; rintro e w3 ⟨rfl, hb3⟩; have q3 := hb3.size; have B3 := Lib.hid (hB.out.trans (hb3.mono hsz)))
        all_goals
          go_ret3
          exact ⟨.slice none 0 0, by first | rfl | (simp; omega) | simp, .inl ⟨rfl, _, _, rfl⟩, B1.out.trans ((B3.out.alloc (by omega) _).mono s1)⟩
    · have hne : ((i : Int) == (T.length : Int) - 1) = false := by simp; omega
      have hne2 : ¬ (i : Int) = (T.length : Int) - 1 := by omega
      have hTd : T.drop (i + 1) ≠ [] := by rw [Ne, List.drop_eq_nil_iff]; omega
      have HRd := Lib.hid (fun W => words_any ⟨x.toArray⟩ W hxa)
      have hnm2 := rpP_name ⟨x.toArray⟩ hxa
      by_cases hw : wdB ⟨x.toArray⟩ = true
      · rw [prs_ok hTd hw] at hpr
        rw [hw] at HRd
        obtain ⟨⟨nm, v, fr, en, rp⟩, hpv⟩ : ∃ p, rpP ⟨x.toArray⟩ = p := ⟨_, rfl⟩
        rw [hpv] at hpr HRd hnm2
        have HS := Lib.hid hpr
        simp only at hnm2
        clear hpr hw hpv
        go_wp2_with (first
          | (go_at_call 26; refine (HRd.out _).mono ?_; rintro e w3 ⟨rfl, hb3⟩; have q3 := hb3.size; have R3 := Lib.hid (HRow.out.below hb3))
          | (at_builtin; refine wpList_append_own _ rfl _ _ 33 rfl w1.heap.size 23 i0 _ 5 48 Tryz.underlying33 hi hz0 hz1 hz2 rfl (by decide) _ _ _ rfl ((R3.out.1.alloc _).alloc _) ⟨w3.heap.size + 1, 0, none⟩ 1 1 (pvC ⟨nm, v, fr, en, rp⟩) ?c0 rfl ?c1 ?c2 ?c3 ?c4 ?c5 ?_))
        case c0 => first | rfl | simp
        case c1 => exact World.news_of_block (cs := #[.string nm, .int .i64 v, .int .i64 fr, .int .i64 en, .bool rp]) (heap_new_at (by simp))
        case c2 => simp [pvC, Value.oneCell']
        case c3 => unfold maxLen; omega
        case c4 => omega
        case c5 => simp; omega
        intro v3 w4 hown4 hgrow4 _
        have D4 := Lib.hid (PRow.snoc (p := ⟨nm, v, fr, en, rp⟩) hown4 ((R3.out.2.alloc (by omega) _).alloc (by simp; omega) _) hgrow4 ((R3.out.1.alloc _).alloc _))
        go_wp2
        go_roundw
        case rel => exact ⟨l ++ [⟨nm, v, fr, en, rp⟩], i + 1, by go_num, by omega, HS.out, fun p hp => by
          rcases List.mem_append.1 hp with h | h
          · exact HN.out p h
          · rw [List.mem_singleton.1 h]; exact hnm2, by simp; omega, D4.out⟩
        case measure => simp [intOf]; omega
      · have hw : wdB ⟨x.toArray⟩ = false := by simpa using hw
        rw [prs_no hTd hw] at hpr
        obtain ⟨e1, e2, e3⟩ := HW.out (i + 1) l (HK.out.trans hpr) (by omega)
        subst e1 e2 e3
        obtain ⟨⟨nm, v, fr, en, rp⟩, hpv⟩ : ∃ p, rpP ⟨x.toArray⟩ = p := ⟨_, rfl⟩
        rw [hpv, hw] at HRd
        clear hpr hpv hw
        go_wp2_with (go_at_call 26; refine (HRd.out _).mono ?_; rintro e w3 ⟨rfl, hb3⟩; have q3 := hb3.size; have B3 := Lib.hid (hB.out.trans (hb3.mono hsz)))
        go_ret3
        exact ⟨.slice none 0 0, by first | rfl | (simp; omega) | simp, .inl ⟨rfl, _, _, rfl⟩, B1.out.trans ((B3.out.alloc (by omega) _).mono s1)⟩
end Go.Proofs.YtpfekgmimfkjcaaGreatDoor
namespace Go.Proofs.YtpfekgmimfkjcaaGreatDoor
open Go.RowKit
attribute [local go_sem] set_drewN
theorem pvI_of {p : Pv} (h : pvE p = 0) : PvI p := by
  obtain ⟨_, ⟨v0, v1⟩, ⟨f0, f1⟩, e0, e1⟩ := pv_all h
  exact ⟨⟨by omega, by omega⟩, ⟨by omega, by omega⟩, by omega, by omega⟩
theorem prT_take {l : List Pv} {k : Nat} (h : k < l.length) : prT (l.take (k + 1)) = prT (l.take k) ++ (fmtL l[k] ++ [10]) := by
  rw [List.take_succ_eq_append_getElem h, prT_snoc]
theorem fmt_len100 {p : Pv} (h : pvE p = 0) : (fmtL p).length ≤ 100 := by
  obtain ⟨hn, ⟨v0, v1⟩, ⟨f0, f1⟩, e0, e1⟩ := pv_all h
  obtain ⟨h12, _, _⟩ := name_mem hn
  have := fmt_len p (by omega) (by omega) (by omega)
  omega
theorem bapp2 (a b : Array UInt8) : ((⟨a⟩ : ByteArray) ++ (⟨b⟩ : ByteArray)) = ⟨a ++ b⟩ := by
  apply ByteArray.ext
  simp
set_option maxRecDepth 100000 in
set_option maxHeartbeats 4000000 in
theorem Print_err {W : World} {l : List Pv} {v : Value} (h : PvV W v l) (hl : l.length ≤ 1000) (he : cpE l ≠ 0) : Calls Tryz.prog 12 #[v] W (RetB (two (.string ⟨#[]⟩) (.int .i64 (cpE l))) W) := by
  have HC := Lib.hid (check_of_row h (by omega))
  have hnb : (cpE l != 0) = true := by simpa using he
  generalize cpE l = C at *
  clear h
  go_enter Tryz.func12, Tryz.ntmps12
  go_wp2_with (go_at_call 33; refine (HC.out).mono ?_; rintro e w1 ⟨rfl, hb1⟩)
  go_ret2
  exact ⟨rfl, hb1⟩
set_option maxRecDepth 100000 in
set_option maxHeartbeats 4000000 in
theorem Print_0 {W : World} (a : Option Addr) (cap : Nat) : Calls Tryz.prog 12 #[.slice a 0 cap] W (RetB (two (.string ⟨(prT []).toArray⟩) (.int .i64 0)) W) := by
  have HC : Hid (Calls Tryz.prog 33 #[.slice a 0 cap] W (RetB (.int .i64 0) W)) := Lib.hid (CheckProvisions_0 a cap W)
  go_enter Tryz.func12, Tryz.ntmps12
  go_wp2_with (go_at_call 33; refine (HC.out).mono ?_; rintro e w1 ⟨rfl, hb1⟩)
  go_loopw [5, 15] (fun t i wr => t = .string ⟨#[]⟩ ∧ i = .int .i64 0 ∧ Below W.heap.size W wr) (fun _ _ _ => 0)
  case atStart => exact ⟨rfl, rfl, hb1⟩
  case round =>
    obtain ⟨rfl, rfl, hB⟩ := hrel
    go_wp2
    go_ret2
    exact ⟨rfl, hB⟩
set_option maxRecDepth 100000 in
set_option maxHeartbeats 4000000 in
theorem Print_ok {W : World} (l : List Pv) (b o cap : Nat) (hc : PvsAt W b o l) (he : cpE l = 0) (ht : Tab W) : Calls Tryz.prog 12 #[.slice (some ⟨b, o, none⟩) l.length cap] W (RetB (two (.string ⟨(prT l).toArray⟩) (.int .i64 0)) W) := by
  obtain ⟨hl, hall⟩ := cpE_all he
  have HC := Lib.hid (check_of_row (.inr ⟨b, o, cap, rfl, hc⟩) (by omega) : Calls Tryz.prog 33 #[.slice (some ⟨b, o, none⟩) l.length cap] W (RetB (.int .i64 (cpE l)) W))
  rw [he] at HC
  have HL := Lib.hid hc
  have HT := Lib.hid ht
  have HA := Lib.hid hall
  clear hc ht hall he
  go_enter Tryz.func12, Tryz.ntmps12
  go_wp2_with (go_at_call 33; refine (HC.out).mono ?_; rintro e w1 ⟨rfl, hb1⟩)
  go_loopw [5, 15] (fun t i wr => ∃ k : Nat, k ≤ l.length ∧ t = .string ⟨(prT (l.take k)).toArray⟩ ∧ i = .int .i64 k ∧ Below W.heap.size W wr) (fun _ i _ => l.length - (intOf i).toNat)
  case atStart => exact ⟨0, Nat.zero_le _, rfl, rfl, hb1⟩
  case round =>
    obtain ⟨k, hk, rfl, rfl, hB⟩ := hrel
    have hsz := hB.size
    by_cases hlt : k < l.length
    · have hst := prT_take hlt
      have hp := HA.out l[k] (List.getElem_mem hlt)
      have hlen := prT_len (l.take k) (fun q hq => HA.out q (List.mem_of_mem_take hq))
      rw [List.length_take] at hlen
      have hf := fmt_len100 hp
      have HF := Lib.hid (fun V hV => FormatProvision_any l[k] V (by have := (name_mem (pv_all hp).1).1; omega) (pvI_of hp) hV)
      obtain ⟨bl, hat⟩ := HL.out.below hB
      obtain ⟨⟨c0, c1, c2, c3, c4⟩, _⟩ := hat k hlt
      clear hat hp
      generalize prT (l.take k) = X at *
      generalize fmtL l[k] = Y at *
      generalize l[k] = p at *
      obtain ⟨nm, v, fr, en, rp⟩ := p
      simp only at c0 c1 c2 c3 c4
      have n1 : ¬ 9223372036854775807 < Y.length + 1 := by omega
      have n2 : ¬ 9223372036854775807 < X.length + (Y.length + 1) := by omega
      have HST := Lib.hid hst
      clear hst
      go_wp2_with (go_at_call 8; refine (HF.out _ (HT.out.below (by exact hB.alloc (by omega) _))).mono ?_; rintro e w3 ⟨rfl, hb3⟩)
      go_roundw
      case rel => exact ⟨k + 1, by omega, by rw [HST.out]; simp [bapp2], by go_num, (hB.alloc (by omega) _).trans (hb3.mono (by simp; omega))⟩
      case measure => simp [intOf]; omega
    · obtain rfl : k = l.length := by omega
      have htk : l.take l.length = l := List.take_of_length_le (Nat.le_refl _)
      rw [htk]
      go_wp2
      go_ret2
      exact ⟨rfl, hB⟩
set_option maxRecDepth 100000 in
set_option maxHeartbeats 4000000 in
theorem xPrint_0 {W : World} (a : Option Addr) (cap : Nat) : Calls Tryz.prog 17 #[.slice a 0 cap] W (RetB (.string ⟨(prT []).toArray⟩) W) := by
  go_enter Tryz.func17, Tryz.ntmps17
  go_wp2
  go_loopw [3, 4] (fun t i wr => t = .string ⟨#[]⟩ ∧ i = .int .i64 0 ∧ Below W.heap.size W wr) (fun _ _ _ => 0)
  case atStart => exact ⟨rfl, rfl, Below.refl _ _⟩
  case round =>
    obtain ⟨rfl, rfl, hB⟩ := hrel
    go_wp2
    go_ret
    exact ⟨rfl, hB⟩
set_option maxRecDepth 100000 in
set_option maxHeartbeats 4000000 in
theorem xPrint_ok {W : World} (l : List Pv) (b o cap : Nat) (hc : PvsAt W b o l) (he : cpE l = 0) : Calls Tryz.prog 17 #[.slice (some ⟨b, o, none⟩) l.length cap] W (RetB (.string ⟨(prT l).toArray⟩) W) := by
  obtain ⟨hl, hall⟩ := cpE_all he
  have HL := Lib.hid hc
  have HA := Lib.hid hall
  clear hc hall he
  go_enter Tryz.func17, Tryz.ntmps17
  go_wp2
  go_loopw [3, 4] (fun t i wr => ∃ k : Nat, k ≤ l.length ∧ t = .string ⟨(prT (l.take k)).toArray⟩ ∧ i = .int .i64 k ∧ Below W.heap.size W wr) (fun _ i _ => l.length - (intOf i).toNat)
  case atStart => exact ⟨0, Nat.zero_le _, rfl, rfl, Below.refl _ _⟩
  case round =>
    obtain ⟨k, hk, rfl, rfl, hB⟩ := hrel
    have hsz := hB.size
    by_cases hlt : k < l.length
    · have hst := prT_take hlt
      have hp := HA.out l[k] (List.getElem_mem hlt)
      have hlen := prT_len (l.take k) (fun q hq => HA.out q (List.mem_of_mem_take hq))
      rw [List.length_take] at hlen
      have hf := fmt_len100 hp
      have HF := Lib.hid (fun V => xFormat_any l[k] V (by have := (name_mem (pv_all hp).1).1; omega) (pvI_of hp))
      obtain ⟨bl, hat⟩ := HL.out.below hB
      obtain ⟨⟨c0, c1, c2, c3, c4⟩, _⟩ := hat k hlt
      clear hat hp
      generalize prT (l.take k) = X at *
      generalize fmtL l[k] = Y at *
      generalize l[k] = p at *
      obtain ⟨nm, v, fr, en, rp⟩ := p
      simp only at c0 c1 c2 c3 c4
      have n1 : ¬ 9223372036854775807 < X.length + Y.length := by omega
      have n2 : ¬ 9223372036854775807 < X.length + Y.length + 1 := by omega
      have HST := Lib.hid hst
      clear hst
      go_wp2_with (go_at_call 9; refine (HF.out _).mono ?_; rintro e w3 ⟨rfl, hb3⟩)
      go_roundw
      case rel => exact ⟨k + 1, by omega, by rw [HST.out]; simp [bapp2], by go_num, hB.trans (hb3.mono (by omega))⟩
      case measure => simp [intOf]; omega
    · obtain rfl : k = l.length := by omega
      have htk : l.take l.length = l := List.take_of_length_le (Nat.le_refl _)
      rw [htk]
      go_wp2
      go_ret
      exact ⟨rfl, hB⟩
theorem Print_any {W : World} {l : List Pv} {v : Value} (h : PvV W v l) (he : cpE l = 0) (ht : Tab W) : Calls Tryz.prog 12 #[v] W (RetB (two (.string ⟨(prT l).toArray⟩) (.int .i64 0)) W) := by
  rcases h with ⟨rfl, a, c, rfl⟩ | ⟨b, o, cap, rfl, h⟩
  · exact Print_0 a c
  · exact Print_ok l b o cap h he ht
theorem xPrint_any {W : World} {l : List Pv} {v : Value} (h : PvV W v l) (he : cpE l = 0) : Calls Tryz.prog 17 #[v] W (RetB (.string ⟨(prT l).toArray⟩) W) := by
  rcases h with ⟨rfl, a, c, rfl⟩ | ⟨b, o, cap, rfl, h⟩
  · exact xPrint_0 a c
  · exact xPrint_ok l b o cap h he
theorem same_0 {W : World} (a a' : Option Addr) (c c' : Nat) : Calls Tryz.prog 15 #[.slice a 0 c, .slice a' 0 c'] W (RetB (.bool true) W) := by
  go_enter Tryz.func15, Tryz.ntmps15
  go_wp2
  go_loopw [5] (fun i wr => i = .int .i64 0 ∧ Below W.heap.size W wr) (fun _ _ => 0)
  case atStart => exact ⟨rfl, Below.refl _ _⟩
  case round =>
    obtain ⟨rfl, hB⟩ := hrel
    go_wp2
    go_ret
    exact ⟨rfl, hB⟩
set_option maxRecDepth 100000 in
set_option maxHeartbeats 4000000 in
theorem same_ok {W : World} (l : List Pv) (b o cap b' o' cap' : Nat) (hl : l.length ≤ 1000000) (h1 : PvsAt W b o l) (h2 : PvsAt W b' o' l) : Calls Tryz.prog 15 #[.slice (some ⟨b, o, none⟩) l.length cap, .slice (some ⟨b', o', none⟩) l.length cap'] W (RetB (.bool true) W) := by
  have H1 := Lib.hid h1
  have H2 := Lib.hid h2
  clear h1 h2
  go_enter Tryz.func15, Tryz.ntmps15
  go_wp2
  go_loopw [5] (fun i wr => ∃ k : Nat, k ≤ l.length ∧ i = .int .i64 k ∧ Below W.heap.size W wr) (fun i _ => l.length - (intOf i).toNat)
  case atStart => exact ⟨0, Nat.zero_le _, rfl, Below.refl _ _⟩
  case round =>
    obtain ⟨k, hk, rfl, hB⟩ := hrel
    have hsz := hB.size
    by_cases hlt : k < l.length
    · obtain ⟨bl, hat⟩ := H1.out.below hB
      obtain ⟨⟨c0, c1, c2, c3, c4⟩, _⟩ := hat k hlt
      obtain ⟨bl', hat'⟩ := H2.out.below hB
      obtain ⟨⟨d0, d1, d2, d3, d4⟩, _⟩ := hat' k hlt
      clear hat hat'
      generalize l[k] = p at *
      obtain ⟨nm, v, fr, en, rp⟩ := p
      simp only at c0 c1 c2 c3 c4 d0 d1 d2 d3 d4
      go_wp2
      go_quiet (fail)
      go_wp2
      go_roundw
      case rel => exact ⟨k + 1, by omega, by go_num, below_n hB _⟩
      case measure => simp [intOf]; omega
    · obtain rfl : k = l.length := by omega
      go_wp2
      go_ret
      exact ⟨rfl, hB⟩
theorem same_any {W : World} {l : List Pv} {v v' : Value} (hl : l.length ≤ 1000000) (h : PvV W v l) (h' : PvV W v' l) : Calls Tryz.prog 15 #[v, v'] W (RetB (.bool true) W) := by
  rcases h with ⟨rfl, a, c, rfl⟩ | ⟨b, o, cap, rfl, h⟩
  · rcases h' with ⟨_, a', c', rfl⟩ | ⟨b', o', cap', rfl, _⟩
    · exact same_0 a a' c c'
    · exact same_0 a _ c _
  · rcases h' with ⟨rfl, a', c', rfl⟩ | ⟨b', o', cap', rfl, h'⟩
    · exact same_0 _ a' _ c'
    · exact same_ok l b o cap b' o' cap' hl h h'
end Go.Proofs.YtpfekgmimfkjcaaGreatDoor
namespace Go.Proofs.YtpfekgmimfkjcaaGreatDoor
open Go.RowKit
attribute [local go_sem] set_drewN
theorem laws_of {W : World} {l : List Pv} {v : Value} (h : PvV W v l) (hl : l.length ≤ maxLen) : Calls Tryz.prog 11 #[v] W (Ret (.bool (lawB l)) W) := by
  rcases h with ⟨rfl, a, c, rfl⟩ | ⟨b, o, cap, rfl, h⟩
  · exact Laws_0 a c W
  · exact Laws_any l b o cap W hl h
set_option maxRecDepth 100000 in
set_option maxHeartbeats 8000000 in
theorem RuleTexts_any (l : List Pv) (v : Value) (s : ByteArray) (w : World) (hl : l.length ≤ maxLen) (hv : PvV w v l) (ht : Tab w) (hm : MaxL w) :
    Calls Tryz.prog 4 #[v, .string s] w (RetB (.bool true) w) := by
  have HV := Lib.hid hv
  have HT := Lib.hid ht
  have HM := Lib.hid hm
  clear hv ht hm
  have HL := Lib.hid (fun W (h : PvV W v l) => laws_of h hl)
  cases hB : lawB l with
  | false =>
    rw [hB] at HL
    clear hB hl
    go_enter Tryz.func4, Tryz.ntmps4
    go_wp2_with fail
    refine (awake_any _).mono ?_
    rintro e w1 ⟨rfl, hb1⟩
    have V1 := Lib.hid (HV.out.below hb1)
    go_wp2_with (go_at_call 11; refine (HL.out _ V1.out).mono ?_; rintro e w' ⟨rfl, rfl⟩)
    go_ret
    exact ⟨rfl, hb1⟩
  | true =>
    rw [hB] at HL
    have hl2 := lawB_le hB
    clear hB hl
    by_cases hmid : 600 < s.size ∧ s.size ≤ 60000
    · have m1 : (600 : Int) < (s.size : Int) := by omega
      have m2 : (s.size : Int) ≤ 60000 := by omega
      go_enter Tryz.func4, Tryz.ntmps4
      go_wp2_with fail
      refine (awake_any _).mono ?_
      rintro e w1 ⟨rfl, hb1⟩
      have V1 := Lib.hid (HV.out.below hb1)
      go_wp2_with (go_at_call 11; refine (HL.out _ V1.out).mono ?_; rintro e w' ⟨rfl, rfl⟩)
      go_ret
      exact ⟨rfl, hb1⟩
    by_cases hbig : 120000 < s.size
    · have m1 : (600 : Int) < (s.size : Int) := by omega
      have m2 : ¬ (s.size : Int) ≤ 60000 := by omega
      have m3 : (120000 : Int) < (s.size : Int) := by omega
      go_enter Tryz.func4, Tryz.ntmps4
      go_wp2_with fail
      refine (awake_any _).mono ?_
      rintro e w1 ⟨rfl, hb1⟩
      have V1 := Lib.hid (HV.out.below hb1)
      go_wp2_with (go_at_call 11; refine (HL.out _ V1.out).mono ?_; rintro e w' ⟨rfl, rfl⟩)
      go_ret
      exact ⟨rfl, hb1⟩
    have m3 : ¬ (120000 : Int) < (s.size : Int) := by omega
    have HP := Lib.hid (fun W hW => Parse_any s W (by omega) hW)
    have HX := Lib.hid (fun W => xParse_any s W (by omega))
    have hpl : Hid ((parL s).length ≤ 1000000) := Lib.hid (by
      unfold parL
      split
      · simp
      · split
        · simp
        · split
          · rename_i h
            have := (cpE_all h).1
            omega
          · simp)
    have HC := Lib.hid (fun W (h : PvV W v l) => xcheck_of_row h (by omega))
    generalize parL s = x at *
    generalize parN s = xn at *
    generalize parE s = xe at *
    by_cases hc : cpE l = 0
    · have HPr := Lib.hid (fun W (h : PvV W v l) hT => Print_any h hc hT)
      have HXp := Lib.hid (fun W (h : PvV W v l) => xPrint_any h hc)
      obtain ⟨b1, b2, b3⟩ := par_prT hc
      have HBk := Lib.hid (fun W hW => Parse_any ⟨(prT l).toArray⟩ W (by
        obtain ⟨hl3, hall⟩ := cpE_all hc
        have := prT_len l hall
        show (prT l).toArray.size ≤ 200000
        simp; omega) hW)
      rw [b1, b2, b3] at HBk
      rw [hc] at HC
      clear b1 b2 b3 hc
      generalize prT l = T at *
      by_cases m1 : (600 : Int) < (s.size : Int)
      · have m2 : ¬ (s.size : Int) ≤ 60000 := by omega
        go_enter Tryz.func4, Tryz.ntmps4
        go_wp2_with fail
        refine (awake_any _).mono ?_
        rintro e w1 ⟨rfl, hb1⟩
        have V1 := Lib.hid (HV.out.below hb1)
        have B1 := Lib.hid hb1
        have s1 := hb1.size
        clear hb1
        go_wp2_with (go_at_call 11; refine (HL.out _ V1.out).mono ?_; rintro e w' ⟨rfl, rfl⟩)
        refine (HPr.out _ V1.out (HT.out.below B1.out)).mono ?_
        rintro e w2 ⟨rfl, hb2⟩
        have V2 := Lib.hid (V1.out.below hb2)
        have B2 := Lib.hid (B1.out.trans (hb2.mono s1))
        have s2 := hb2.size
        clear hb2
        go_wp2_with fail
        refine (HP.out _ (HM.out.below B2.out)).mono ?_
        rintro e w3 ⟨v3, rfl, hx3, hb3⟩
        have V3 := Lib.hid (V2.out.below hb3)
        have X3 := Lib.hid hx3
        have B3 := Lib.hid (B2.out.trans (hb3.mono (by omega)))
        have s3 := hb3.size
        clear hb3 hx3
        go_wp2_with fail
        refine (HX.out _).mono ?_
        rintro e w4 ⟨v4, rfl, hy4, hb4⟩
        have V4 := Lib.hid (V3.out.below hb4)
        have X4 := Lib.hid (X3.out.below hb4)
        have Y4 := Lib.hid hy4
        have B4 := Lib.hid (B3.out.trans (hb4.mono (by omega)))
        have s4 := hb4.size
        clear hb4 hy4
        go_wp2_with fail
        refine (same_any hpl.out X4.out Y4.out).mono ?_
        rintro e w5 ⟨rfl, hb5⟩
        have V5 := Lib.hid (V4.out.below hb5)
        have B5 := Lib.hid (B4.out.trans (hb5.mono (by omega)))
        have s5 := hb5.size
        clear hb5
        go_wp2_with fail
        refine (HC.out _ V5.out).mono ?_
        rintro e w6 ⟨rfl, hb6⟩
        have V6 := Lib.hid (V5.out.below hb6)
        have B6 := Lib.hid (B5.out.trans (hb6.mono (by omega)))
        have s6 := hb6.size
        clear hb6
        go_wp2_with fail
        refine (HBk.out _ (HM.out.below B6.out)).mono ?_
        rintro e w7 ⟨v7, rfl, hz7, hb7⟩
        have V7 := Lib.hid (V6.out.below hb7)
        have Z7 := Lib.hid hz7
        have B7 := Lib.hid (B6.out.trans (hb7.mono (by omega)))
        have s7 := hb7.size
        clear hb7 hz7
        go_wp2_with fail
        refine (HXp.out _ V7.out).mono ?_
        rintro e w8 ⟨rfl, hb8⟩
        have V8 := Lib.hid (V7.out.below hb8)
        have Z8 := Lib.hid (Z7.out.below hb8)
        have B8 := Lib.hid (B7.out.trans (hb8.mono (by omega)))
        have s8 := hb8.size
        clear hb8
        go_wp2_with fail
        refine (same_any (by omega) Z8.out V8.out).mono ?_
        rintro e w9 ⟨rfl, hb9⟩
        have B9 := Lib.hid (B8.out.trans (hb9.mono (by omega)))
        go_wp2
        go_ret
        exact ⟨rfl, B9.out⟩
      · have m1' : ¬ (600 : Int) < (s.size : Int) := m1
        go_enter Tryz.func4, Tryz.ntmps4
        go_wp2_with fail
        refine (awake_any _).mono ?_
        rintro e w1 ⟨rfl, hb1⟩
        have V1 := Lib.hid (HV.out.below hb1)
        have B1 := Lib.hid hb1
        have s1 := hb1.size
        clear hb1
        go_wp2_with (go_at_call 11; refine (HL.out _ V1.out).mono ?_; rintro e w' ⟨rfl, rfl⟩)
        refine (HPr.out _ V1.out (HT.out.below B1.out)).mono ?_
        rintro e w2 ⟨rfl, hb2⟩
        have V2 := Lib.hid (V1.out.below hb2)
        have B2 := Lib.hid (B1.out.trans (hb2.mono s1))
        have s2 := hb2.size
        clear hb2
        go_wp2_with fail
        refine (HP.out _ (HM.out.below B2.out)).mono ?_
        rintro e w3 ⟨v3, rfl, hx3, hb3⟩
        have V3 := Lib.hid (V2.out.below hb3)
        have X3 := Lib.hid hx3
        have B3 := Lib.hid (B2.out.trans (hb3.mono (by omega)))
        have s3 := hb3.size
        clear hb3 hx3
        go_wp2_with fail
        refine (HX.out _).mono ?_
        rintro e w4 ⟨v4, rfl, hy4, hb4⟩
        have V4 := Lib.hid (V3.out.below hb4)
        have X4 := Lib.hid (X3.out.below hb4)
        have Y4 := Lib.hid hy4
        have B4 := Lib.hid (B3.out.trans (hb4.mono (by omega)))
        have s4 := hb4.size
        clear hb4 hy4
        go_wp2_with fail
        refine (same_any hpl.out X4.out Y4.out).mono ?_
        rintro e w5 ⟨rfl, hb5⟩
        have V5 := Lib.hid (V4.out.below hb5)
        have B5 := Lib.hid (B4.out.trans (hb5.mono (by omega)))
        have s5 := hb5.size
        clear hb5
        go_wp2_with fail
        refine (HC.out _ V5.out).mono ?_
        rintro e w6 ⟨rfl, hb6⟩
        have V6 := Lib.hid (V5.out.below hb6)
        have B6 := Lib.hid (B5.out.trans (hb6.mono (by omega)))
        have s6 := hb6.size
        clear hb6
        go_wp2_with fail
        refine (HBk.out _ (HM.out.below B6.out)).mono ?_
        rintro e w7 ⟨v7, rfl, hz7, hb7⟩
        have V7 := Lib.hid (V6.out.below hb7)
        have Z7 := Lib.hid hz7
        have B7 := Lib.hid (B6.out.trans (hb7.mono (by omega)))
        have s7 := hb7.size
        clear hb7 hz7
        go_wp2_with fail
        refine (HXp.out _ V7.out).mono ?_
        rintro e w8 ⟨rfl, hb8⟩
        have V8 := Lib.hid (V7.out.below hb8)
        have Z8 := Lib.hid (Z7.out.below hb8)
        have B8 := Lib.hid (B7.out.trans (hb8.mono (by omega)))
        have s8 := hb8.size
        clear hb8
        go_wp2_with fail
        refine (same_any (by omega) Z8.out V8.out).mono ?_
        rintro e w9 ⟨rfl, hb9⟩
        have B9 := Lib.hid (B8.out.trans (hb9.mono (by omega)))
        go_wp2
        go_ret
        exact ⟨rfl, B9.out⟩
    · have hnb : (cpE l != 0) = true := by simpa using hc
      have HPr := Lib.hid (fun W (h : PvV W v l) => Print_err h (by omega) hc)
      clear hc
      generalize cpE l = C at *
      by_cases m1 : (600 : Int) < (s.size : Int)
      · have m2 : ¬ (s.size : Int) ≤ 60000 := by omega
        go_enter Tryz.func4, Tryz.ntmps4
        go_wp2_with fail
        refine (awake_any _).mono ?_
        rintro e w1 ⟨rfl, hb1⟩
        have V1 := Lib.hid (HV.out.below hb1)
        have B1 := Lib.hid hb1
        have s1 := hb1.size
        clear hb1
        go_wp2_with (go_at_call 11; refine (HL.out _ V1.out).mono ?_; rintro e w' ⟨rfl, rfl⟩)
        refine (HPr.out _ V1.out).mono ?_
        rintro e w2 ⟨rfl, hb2⟩
        have V2 := Lib.hid (V1.out.below hb2)
        have B2 := Lib.hid (B1.out.trans (hb2.mono s1))
        have s2 := hb2.size
        clear hb2
        go_wp2_with fail
        refine (HP.out _ (HM.out.below B2.out)).mono ?_
        rintro e w3 ⟨v3, rfl, hx3, hb3⟩
        have V3 := Lib.hid (V2.out.below hb3)
        have X3 := Lib.hid hx3
        have B3 := Lib.hid (B2.out.trans (hb3.mono (by omega)))
        have s3 := hb3.size
        clear hb3 hx3
        go_wp2_with fail
        refine (HX.out _).mono ?_
        rintro e w4 ⟨v4, rfl, hy4, hb4⟩
        have V4 := Lib.hid (V3.out.below hb4)
        have X4 := Lib.hid (X3.out.below hb4)
        have Y4 := Lib.hid hy4
        have B4 := Lib.hid (B3.out.trans (hb4.mono (by omega)))
        have s4 := hb4.size
        clear hb4 hy4
        go_wp2_with fail
        refine (same_any hpl.out X4.out Y4.out).mono ?_
        rintro e w5 ⟨rfl, hb5⟩
        have V5 := Lib.hid (V4.out.below hb5)
        have B5 := Lib.hid (B4.out.trans (hb5.mono (by omega)))
        have s5 := hb5.size
        clear hb5
        go_wp2_with fail
        refine (HC.out _ V5.out).mono ?_
        rintro e w6 ⟨rfl, hb6⟩
        have V6 := Lib.hid (V5.out.below hb6)
        have B6 := Lib.hid (B5.out.trans (hb6.mono (by omega)))
        have s6 := hb6.size
        clear hb6
        go_wp2
        go_ret
        exact ⟨rfl, B6.out⟩
      · have m1' : ¬ (600 : Int) < (s.size : Int) := m1
        go_enter Tryz.func4, Tryz.ntmps4
        go_wp2_with fail
        refine (awake_any _).mono ?_
        rintro e w1 ⟨rfl, hb1⟩
        have V1 := Lib.hid (HV.out.below hb1)
        have B1 := Lib.hid hb1
        have s1 := hb1.size
        clear hb1
        go_wp2_with (go_at_call 11; refine (HL.out _ V1.out).mono ?_; rintro e w' ⟨rfl, rfl⟩)
        refine (HPr.out _ V1.out).mono ?_
        rintro e w2 ⟨rfl, hb2⟩
        have V2 := Lib.hid (V1.out.below hb2)
        have B2 := Lib.hid (B1.out.trans (hb2.mono s1))
        have s2 := hb2.size
        clear hb2
        go_wp2_with fail
        refine (HP.out _ (HM.out.below B2.out)).mono ?_
        rintro e w3 ⟨v3, rfl, hx3, hb3⟩
        have V3 := Lib.hid (V2.out.below hb3)
        have X3 := Lib.hid hx3
        have B3 := Lib.hid (B2.out.trans (hb3.mono (by omega)))
        have s3 := hb3.size
        clear hb3 hx3
        go_wp2_with fail
        refine (HX.out _).mono ?_
        rintro e w4 ⟨v4, rfl, hy4, hb4⟩
        have V4 := Lib.hid (V3.out.below hb4)
        have X4 := Lib.hid (X3.out.below hb4)
        have Y4 := Lib.hid hy4
        have B4 := Lib.hid (B3.out.trans (hb4.mono (by omega)))
        have s4 := hb4.size
        clear hb4 hy4
        go_wp2_with fail
        refine (same_any hpl.out X4.out Y4.out).mono ?_
        rintro e w5 ⟨rfl, hb5⟩
        have V5 := Lib.hid (V4.out.below hb5)
        have B5 := Lib.hid (B4.out.trans (hb5.mono (by omega)))
        have s5 := hb5.size
        clear hb5
        go_wp2_with fail
        refine (HC.out _ V5.out).mono ?_
        rintro e w6 ⟨rfl, hb6⟩
        have V6 := Lib.hid (V5.out.below hb6)
        have B6 := Lib.hid (B5.out.trans (hb6.mono (by omega)))
        have s6 := hb6.size
        clear hb6
        go_wp2
        go_ret
        exact ⟨rfl, B6.out⟩
end Go.Proofs.YtpfekgmimfkjcaaGreatDoor
