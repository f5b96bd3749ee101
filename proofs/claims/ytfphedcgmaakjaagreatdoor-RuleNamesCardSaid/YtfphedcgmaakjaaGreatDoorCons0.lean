/-
  What Consolidated of package rule returns for an empty list: a contract for all worlds.
-/
import Derived.Test.YtfphedcgmaakjaaGreatDoorNms0
import Derived.Lib.ItoaNum
namespace Go.Proofs.YtfphedcgmaakjaaGreatDoor
open Go.RowKit Go.Sort
/-- the library's table of powers of ten lies as its initialiser lays it -/
def Tab (w : World) : Prop := Lib.TabIs Tryz.prog w "internal/strconv.uint64pow10" .u64 Lib.pow10Tab
theorem Tab.below {w w' : World} (h : Tab w) (hb : Below w.heap.size w w') : Tab w' := by
  unfold Tab Lib.TabIs World.var? at h ⊢
  generalize Tryz.prog.globalNamed "internal/strconv.uint64pow10" = og at h ⊢
  cases og with
  | none => simp at h
  | some g =>
  simp only [Option.bind_some] at h ⊢
  have hlt : g < w.heap.size := by
    cases hc : w.heap[g]? with
    | none => rw [hc] at h; simp at h
    | some x => exact (Array.getElem?_eq_some_iff.1 hc).1
  rw [hb.block g hlt]
  exact h
theorem itoa_len (n : Int) (h0 : -10000000000 ≤ n) (h1 : n ≤ 10000000000) : (Lib.itoa n).length ≤ 100 := by
  have d : ∀ (k : Nat) (u : Nat), u < 10 ^ (k + 1) → (Lib.decDigits u).length ≤ k + 1 := by
    intro k
    induction k with
    | zero => intro u hu; unfold Lib.decDigits; rw [dif_pos (by omega)]; simp
    | succ k ih =>
      intro u hu
      unfold Lib.decDigits
      split
      · simp
      · have := ih (u / 10) (by rw [Nat.pow_succ] at hu; omega)
        simp; omega
  unfold Lib.itoa
  split
  · have := d 20 n.natAbs (by have : n.natAbs ≤ 10000000000 := by omega
                              exact Nat.lt_of_le_of_lt this (by decide))
    simp; omega
  · have := d 20 n.toNat (by have : n.toNat ≤ 10000000000 := by omega
                             exact Nat.lt_of_le_of_lt this (by decide))
    omega
theorem below_grow' {w : World} (k : Nat) (os : Array Obj) : Below w.heap.size w (grow (w.drewN k) os) :=
  ⟨rfl, rfl, rfl, by simp, fun j hj => heap_grow_old _ _ (by simpa using hj)⟩
theorem itoa_any (n : Int) (w : World) (h0 : -9223372036854775808 ≤ n) (h1 : n ≤ 9223372036854775807) (ht : Tab w) :
    Calls Tryz.prog 23 #[.int .i64 n] w (RetB (.string ⟨(Lib.itoa n).toArray⟩) w) := by
  refine (Tryz.strconv_Itoa n h0 h1 w ht).mono ?_
  rintro e w' ⟨rfl, k, os, rfl⟩
  exact ⟨rfl, below_grow' k os⟩
theorem line2 (x y : ByteArray) (g cap : Nat) (w : World) (hcap : 2 ≤ cap) (hx : x.size ≤ 1000) (hy : y.size ≤ 1000) (hg : g < w.heap.size) (h0 : w.cell? ⟨g, 0, none⟩ = some (.string x)) (h1 : w.cell? ⟨g, 1, none⟩ = some (.string y)) :
    Calls Tryz.prog 22 #[.slice (some ⟨g, 0, none⟩) 2 cap] w (RetB (.string ⟨(x.data.toList ++ [32] ++ y.data.toList).toArray⟩) w) := by
  have cJ := Tryz.strings_Join g 0 cap [x, y] ⟨#[32]⟩ w (by
    intro j z hj
    match j, hj with
    | 0, hj => cases hj; simpa using h0
    | 1, hj => cases hj; simpa using h1) hg (by simp) (by simpa using hcap) (by
    have e1 : x.data.size ≤ 1000 := hx
    have e2 : y.data.size ≤ 1000 := hy
    simp [Lib.join, List.intercalate, List.intersperse]; omega)
  have e : Lib.join ([x, y].map (·.data.toList)) ([32] : List UInt8) = x.data.toList ++ [32] ++ y.data.toList := by simp [Lib.join, List.intercalate, List.intersperse]
  have HJ := Lib.hid cJ
  clear cJ
  go_enter Tryz.func22, Tryz.ntmps22
  go_wp2_with (go_at_call 42; refine (HJ.out).mono ?_; rintro e w' ⟨rfl, hb⟩)
  go_ret
  exact ⟨by rw [← e]; rfl, hb⟩
end Go.Proofs.YtfphedcgmaakjaaGreatDoor
namespace Go.Proofs.YtfphedcgmaakjaaGreatDoor
open Go.RowKit Go.WideMaps Go.Maps Go.Sort
attribute [local go_sem] set_drewN
/-- the line of a name -/
def lineT (H : ByteArray → Int × Bool) (x : List UInt8) : List UInt8 := x ++ [32] ++ Lib.itoa (H (nmOf x)).1 ++ [10]
/-- the lines of names -/
def consT (H : ByteArray → Int × Bool) (T : List (List UInt8)) : List UInt8 := (T.map (lineT H)).flatten
theorem consT_snoc (H : ByteArray → Int × Bool) (T : List (List UInt8)) (x : List UInt8) : consT H (T ++ [x]) = consT H T ++ lineT H x := by simp [consT]
theorem consT_take (H : ByteArray → Int × Bool) {T : List (List UInt8)} {k : Nat} (h : k < T.length) : consT H (T.take (k + 1)) = consT H (T.take k) ++ lineT H T[k] := by
  rw [List.take_succ_eq_append_getElem h, consT_snoc]
theorem consT_len {H : ByteArray → Int × Bool} : ∀ {T : List (List UInt8)}, (∀ x ∈ T, (lineT H x).length ≤ 400) → (consT H T).length ≤ 400 * T.length
  | [], _ => by simp [consT]
  | x :: T, h => by
    have h1 := h x (by simp)
    have h2 := consT_len (T := T) (fun y hy => h y (by simp [hy]))
    simp only [consT, List.map_cons, List.flatten_cons, List.length_append, List.length_cons] at *
    omega
/-- the consolidated text -/
def conT (l : List Pv) (a0 a1 : Int) : ByteArray := ⟨(consT (fun nm => hv l nm a1 a0) (nmsOf l a0 a1)).toArray⟩
theorem conT_congr {l l' : List Pv} {a0 a1 : Int} (h : ∀ nm, hv l nm a1 a0 = hv l' nm a1 a0) : conT l a0 a1 = conT l' a0 a1 := by
  unfold conT
  rw [nmsOf_congr h, show (fun nm => hv l nm a1 a0) = fun nm => hv l' nm a1 a0 from funext h]
theorem inB_le {n a b : Int} (h : inB n a b = true) : a ≤ n ∧ n ≤ b := by simpa [inB] using h
/-- the values of right entries -/
theorem pv_range {p : Pv} (h : pvE p = 0) : -1000000000 ≤ p.value ∧ p.value ≤ 1000000000 := by
  by_cases c : inB p.value (-1000000000) 1000000000 = true
  · exact inB_le c
  · exfalso
    have c' : inB p.value (-1000000000) 1000000000 = false := by simpa using c
    unfold pvE at h
    rw [c'] at h
    by_cases d : nameB p.name = true
    · rw [d] at h; simp [feE, eI] at h
    · have d' : nameB p.name = false := by simpa using d
      rw [d'] at h; simp [feE, eI] at h
theorem bapp (a b : Array UInt8) : ((⟨a⟩ : ByteArray) ++ (⟨b⟩ : ByteArray)) = ⟨a ++ b⟩ := by
  apply ByteArray.ext
  simp
theorem size_nmOf (x : List UInt8) : (nmOf x).size = x.length := by show x.toArray.size = x.length; simp
theorem lineT_le {l : List Pv} {a0 a1 : Int} (hn : ∀ p ∈ l, p.name.size ≤ 30) (he : srcE l a0 a1 = 0) {x : List UInt8} (h : hasV l a0 a1 x = true) : (lineT (fun nm => hv l nm a1 a0) x).length ≤ 400 := by
  obtain ⟨i, hil, hdi, _, hvi⟩ := hv_dec h
  obtain ⟨_, hnm⟩ := dec_name l a0 a1 _ _ i hdi
  have h30 := hn l[i] (List.getElem_mem hil)
  rw [hnm, size_nmOf] at h30
  obtain ⟨hr0, hr1⟩ := pv_range (cpE_pv (srcE_cp he) hil)
  have hit := itoa_len l[i].value (by omega) (by omega)
  unfold lineT
  simp only
  rw [hvi]
  simp only [List.length_append, List.length_singleton]
  omega
set_option maxRecDepth 100000 in
set_option maxHeartbeats 4000000 in
theorem Consolidated_ok (l : List Pv) (a0 a1 : Int) (b o cap : Nat) (w : World) (hl : l.length ≤ 1000) (hc : PvsAt w b o l) (ht : Tab w) (hn : ∀ p ∈ l, p.name.size ≤ 30) (he : srcE l a0 a1 = 0) :
    Calls Tryz.prog 7 #[.slice (some ⟨b, o, none⟩) l.length cap, .agg #[.int .i64 a0, .int .i64 a1]] w (RetB (two (.string (conT l a0 a1)) (.int .i64 0)) w) := by
  have HE := Lib.hid he
  have HC := Lib.hid hc
  have HT := Lib.hid ht
  clear hc he ht
  go_enter Tryz.func7, Tryz.ntmps7
  go_wp2_with fail
  refine (Names_ok l a0 a1 b o cap _ (by omega) (by exact HC.out.below ((Below.refl _ _).alloc (Nat.le_refl _) _)) HE.out).mono ?_
  rintro e w1 (⟨hT, rfl, hb1⟩ | ⟨hT, g, gc, rfl, hg, hS, hb1⟩)
  · have A1 := Lib.hid ((At2.new w a0 a1).below hb1)
    have B1 := Lib.hid (((Below.refl _ w).alloc (Nat.le_refl _) _).trans (hb1.mono (by simp)))
    have HTT := Lib.hid hT
    obtain ⟨al1, a10, a11⟩ := A1.out
    have q1 := hb1.size
    simp only [World.size_alloc] at q1
    clear hb1 hT
    go_wp2_with (go_at_call 20; refine (deciding_any l a0 a1 b o cap _ (by omega) (by exact HC.out.below B1.out)).mono ?_; rintro e w2 ⟨rfl, ⟨D, hown, hD⟩, hb2⟩)
    have B2 := B1.out.trans (hb2.mono (by omega))
    go_loopw [8, 26] (fun t i wr => t = .string ⟨#[]⟩ ∧ i = .int .i64 0 ∧ Below w.heap.size w wr) (fun _ _ _ => 0)
    case atStart => exact ⟨rfl, rfl, B2⟩
    case round =>
      obtain ⟨rfl, rfl, hB⟩ := hrel
      go_wp2
      go_ret2
      exact ⟨by unfold conT; rw [HTT.out]; rfl, hB⟩
  · have A1 := Lib.hid ((At2.new w a0 a1).below hb1)
    have B1 := Lib.hid (((Below.refl _ w).alloc (Nat.le_refl _) _).trans (hb1.mono (by simp)))
    have HTT := Lib.hid hT
    have S1 := Lib.hid hS
    obtain ⟨al1, a10, a11⟩ := A1.out
    have q1 := hb1.size
    simp only [World.size_alloc] at q1 hg
    have hgl := hS.1
    clear hb1 hT hS
    go_wp2_with (go_at_call 20; refine (deciding_any l a0 a1 b o cap _ (by omega) (by exact HC.out.below B1.out)).mono ?_; rintro e w2 ⟨rfl, ⟨D, hown, hD⟩, hb2⟩)
    have B2 := Lib.hid (B1.out.trans (hb2.mono (by omega)))
    have S2 := Lib.hid (S1.out.below hb2)
    have T2 := Lib.hid (HT.out.below B2.out)
    have C2 := Lib.hid (HC.out.below B2.out)
    have HD := Lib.hid hD
    have q2 := hb2.size
    have hbm := hown.lt
    have hTl := nmsOf_len l a0 a1
    have hTm := Lib.hid (fun x => (nmsOf_mem l a0 a1 x).1)
    have hcon := Lib.hid (show conT l a0 a1 = ⟨(consT (fun nm => hv l nm a1 a0) (nmsOf l a0 a1)).toArray⟩ from rfl)
    clear hb2 hD
    generalize nmsOf l a0 a1 = T at *
    generalize conT l a0 a1 = tx at *
    go_loopw [8, 26] (fun t i wr => ∃ k : Nat, k ≤ T.length ∧ t = .string ⟨(consT (fun nm => hv l nm a1 a0) (T.take k)).toArray⟩ ∧ i = .int .i64 k ∧ Below w2.heap.size w2 wr) (fun _ i _ => T.length - (intOf i).toNat)
    case atStart => exact ⟨0, Nat.zero_le _, rfl, rfl, Below.refl _ _⟩
    case round =>
      obtain ⟨k, hk, rfl, rfl, hB⟩ := hrel
      by_cases hlt : k < T.length
      · obtain ⟨x, hx⟩ : ∃ x, T[k] = x := ⟨_, rfl⟩
        have c0 : wr.cell? ⟨g, k, none⟩ = some (.string (nmOf x)) := by
          rw [← hx]; exact (S2.out.below hB).2 k _ (List.getElem?_eq_getElem hlt)
        have hmem := hTm.out x (by rw [← hx]; exact List.getElem_mem hlt)
        obtain ⟨i, hil, hdi, hri, hvi⟩ := hv_dec hmem
        obtain ⟨⟨_, q1', _, _, _⟩, hsz⟩ := (C2.out.below hB).2 i hil
        obtain ⟨_, hnm⟩ := dec_name l a0 a1 _ _ i hdi
        have hn30 := hn l[i] (List.getElem_mem hil)
        rw [hnm] at hn30 hsz
        obtain ⟨hr0, hr1⟩ := pv_range (cpE_pv (srcE_cp HE.out) hil)
        have hkey : keyOf Tryz.prog 9 (.string (nmOf x)) = some (keyL (nmOf x)) := keyOf_string_mk Tryz.underlying9 hsz
        have hat0 := Lib.hid ((HD.out.2 (nmOf x)).2 i hdi (.lit (.int .i64 0)))
        have hst := consT_take (fun nm => hv l nm a1 a0) hlt
        rw [hx] at hst
        unfold lineT at hst
        simp only at hst
        rw [hvi] at hst
        simp only at hst
        have HST := Lib.hid hst
        obtain ⟨vv, hvv⟩ : ∃ vv, l[i].value = vv := ⟨_, rfl⟩
        rw [hvv] at q1' hr0 hr1 HST
        have hit := itoa_len vv (by omega) (by omega)
        have hown' : wr.ownsMap Tryz.prog 9 (plainElem Tryz.prog 3) (w1.heap.size + 1) l.length D := by
          obtain ⟨es, ck, hb', r⟩ := hown
          exact ⟨es, ck, (hB.block _ hbm).trans hb', r⟩
        clear hst hvi hdi hri hnm hmem hx
        have HOW := Lib.hid hown
        have t3 := Lib.hid (T2.out.below hB)
        have hs3 : (⟨(Lib.itoa vv).toArray⟩ : ByteArray).size ≤ 1000 := by show (Lib.itoa vv).toArray.size ≤ 1000; simp; omega
        have hs4 := hB.size
        have hx30 := hn30
        rw [size_nmOf] at hx30
        have hct : (consT (fun nm => hv l nm a1 a0) (T.take k)).length ≤ 400 * (T.take k).length := consT_len (fun y hy => lineT_le hn HE.out (hTm.out y (List.mem_of_mem_take hy)))
        have htk : (T.take k).length ≤ 1000 := by rw [List.length_take]; omega
        generalize hct' : consT (fun nm => hv l nm a1 a0) (T.take k) = ct at *
        have n1 : ¬ 9223372036854775807 < x.length + ((Lib.itoa vv).length + 1) + 1 := by omega
        have n2 : ¬ 9223372036854775807 < ct.length + (x.length + ((Lib.itoa vv).length + 1) + 1) := by omega
        clear hct htk hct' hown
        go_wp2_with (first
          | (at_lookup; refine wpList_lookup_own_int _ rfl _ _ 51 rfl 9 3 .i64 lawS Tryz.underlying51 Tryz.underlying3 (zeroInt _) (w1.heap.size + 1) l.length D rfl hown' _ _ rfl hkey ?_; intro c hat hwc; obtain rfl : c = (i : Int) := by (rw [hat0.out] at hat; injection hat with h1; injection h1 with _ h2; exact h2.symm))
          | (go_at_call 23; refine (itoa_any vv _ (by omega) (by omega) t3.out).mono ?_; rintro e w3 ⟨rfl, hb3⟩)
          | (go_at_call 22; refine (line2 (nmOf x) ⟨(Lib.itoa vv).toArray⟩ _ 2 _ (by omega) (by omega) hs3 (by simp) (by simp [go_sem]) (by simp [go_sem])).mono ?_; rintro e w4 ⟨rfl, hb4⟩))
        go_roundw
        case rel =>
          refine ⟨k + 1, by omega, ?_, by go_num, (hB.trans (hb3.mono hs4)).trans ?_⟩
          · rw [HST.out, bapp, bapp]; simp
          · have := hb3.size
            exact ((Below.refl _ _).alloc (by omega) _).trans (hb4.mono (by simp; omega))
        case measure => simp [intOf]; omega
      · obtain rfl : k = T.length := by omega
        have HCN := hcon
        clear hcon
        go_wp2
        go_ret2
        exact ⟨by rw [HCN.out, List.take_length]; rfl, B2.out.trans (hB.mono (by have := B2.out.size; omega))⟩
end Go.Proofs.YtfphedcgmaakjaaGreatDoor
namespace Go.Proofs.YtfphedcgmaakjaaGreatDoor
open Go.RowKit Go.WideMaps Go.Maps Go.Sort
attribute [local go_sem] set_drewN
set_option maxRecDepth 100000 in
set_option maxHeartbeats 4000000 in
theorem Consolidated_ok_0 (a0 a1 : Int) (a : Option Addr) (cap : Nat) (w : World) (he : srcE [] a0 a1 = 0) :
    Calls Tryz.prog 7 #[.slice a 0 cap, .agg #[.int .i64 a0, .int .i64 a1]] w (RetB (two (.string (conT [] a0 a1)) (.int .i64 0)) w) := by
  have hT : nmsOf [] a0 a1 = [] := by simp [nmsOf, nmSet, dd]
  have HE := Lib.hid he
  clear he
  go_enter Tryz.func7, Tryz.ntmps7
  go_wp2_with fail
  refine (Names_ok_0 a0 a1 a cap _ HE.out).mono ?_
  rintro e w1 (⟨_, rfl, hb1⟩ | ⟨hT', _⟩)
  · have A1 := Lib.hid ((At2.new w a0 a1).below hb1)
    have B1 := Lib.hid (((Below.refl _ w).alloc (Nat.le_refl _) _).trans (hb1.mono (by simp)))
    have HTT := Lib.hid hT
    obtain ⟨al1, a10, a11⟩ := A1.out
    have q1 := hb1.size
    simp only [World.size_alloc] at q1
    clear hb1 hT
    go_wp2_with (go_at_call 20; refine (deciding_0 a a0 a1 cap _).mono ?_; rintro e w2 ⟨rfl, ⟨D, hown, hD⟩, hb2⟩)
    have B2 := B1.out.trans (hb2.mono (by omega))
    go_loopw [8, 26] (fun t i wr => t = .string ⟨#[]⟩ ∧ i = .int .i64 0 ∧ Below w.heap.size w wr) (fun _ _ _ => 0)
    case atStart => exact ⟨rfl, rfl, B2⟩
    case round =>
      obtain ⟨rfl, rfl, hB⟩ := hrel
      go_wp2
      go_ret2
      exact ⟨by unfold conT; rw [HTT.out]; rfl, hB⟩
  · exact absurd hT hT'
end Go.Proofs.YtfphedcgmaakjaaGreatDoor
