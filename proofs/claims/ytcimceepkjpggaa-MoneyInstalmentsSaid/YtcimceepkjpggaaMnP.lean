/-
  TopInstalmentsAdd returns true, whatever is paid.
-/
import Derived.Test.YtcimceepkjpggaaMnO
import Derived.Deep.RegionHeld
namespace Go.Proofs.Ytcimceepkjpggaa
open Go.RowKit
attribute [local go_sem] set_drewN
section
variable {P : Program} {w : World}
theorem step_app_at {ops : Array Oper} {o : Oper} {a : Act} {K : Act → World → Prop} {Q : Exit → Act → World → Prop} {E : Prop} (hgd : o.guard = none) (s x : Operand) (t : TypeId)
    (ho : o.op = .call { callee := .builtin .append, args := #[s, x], argTypes := #[t, t] })
    {e : TypeId} {i : TypeInfo} {z : Value} {size bytes : Nat} (base : Nat) {n m c : Nat} {v : Value} {ad : Addr} {xs news : List Value} (ht : P.underlying t = some (.slice e)) (hi : P.info? e = some i) (hz : i.zero = some z)
    (hsize : i.size = size) (hby : i.bytes = bytes) (hzs : z.cells.size = size) (hsz : 0 < size) (hs : a.eval s = v) (hx : a.eval x = .slice (some ad) m c) (hown : w.ownsRow base e size v n xs) (hl : news.length = m * size)
    (hA : ∀ j u, news[j]? = some u → w.cell? (ad.add j) = some u) (h1 : ∀ u ∈ news, u.oneCell' = true)
    (h63 : n + m ≤ maxLen) (hbytes : (n + m) * bytes ≤ 140737488355328) (hbase : base ≤ w.heap.size)
    (h : ∀ v' w', w'.ownsRow base e size v' (n + m) (xs ++ news) → w.grownBy w' v.ownBlock → K (a.put o.dst v') w') :
    if Region.wanted o (yielded ops a.tmps) = true then Oper.wp P o a w K Q else E := by
  rw [if_pos (by simp [Region.wanted, hgd])]
  obtain ⟨v', w', hr, h2, h3, _⟩ := run_append_own (P := P) w base t o.type e i z size bytes ht hi hz hsize hby hzs hsz v n xs hown ad m c news hl hA h1 h63 hbytes hbase
  unfold Oper.wp execOp
  simp only [ho, resolve, invoke, builtin, Sem.run_bind, Sem.run_pure, Result.andThen_ok, List.map_toArray, List.map_cons, List.map_nil, hs, hx, hr]
  exact h v' w' h2 h3
end
abbrev pyV (c n d0 d1 t : Int) : Value := .agg #[.int .i64 c, .int .i64 n, .int .i64 d0, .int .i64 d1, .int .i64 t]
/-- the input's box -/
def PyAt (B : Nat) (c n d0 d1 t : Int) (W : World) : Prop := W.cell? ⟨B, 0, none⟩ = some (.int .i64 c) ∧ W.cell? ⟨B, 1, none⟩ = some (.int .i64 n) ∧ W.cell? ⟨B, 2, none⟩ = some (.int .i64 d0) ∧ W.cell? ⟨B, 3, none⟩ = some (.int .i64 d1) ∧ W.cell? ⟨B, 4, none⟩ = some (.int .i64 t)
theorem PyAt.keep {B : Nat} {c n d0 d1 t : Int} {W W' : World} (h : PyAt B c n d0 d1 t W) (hb : Below W.heap.size W W') : PyAt B c n d0 d1 t W' := by
  have l := World.block_lt_of_cell? _ _ h.1
  obtain ⟨h0, h1, h2, h3, h4⟩ := h
  exact ⟨(hb.cell (p := ⟨B, 0, none⟩) l).trans h0, (hb.cell (p := ⟨B, 1, none⟩) l).trans h1, (hb.cell (p := ⟨B, 2, none⟩) l).trans h2, (hb.cell (p := ⟨B, 3, none⟩) l).trans h3, (hb.cell (p := ⟨B, 4, none⟩) l).trans h4⟩
theorem PyAt.new (w : World) (c n d0 d1 t : Int) : KQ (PyAt w.heap.size c n d0 d1 t) w (w.alloc (.cells #[.int .i64 c, .int .i64 n, .int .i64 d0, .int .i64 d1, .int .i64 t] 89)) := by
  refine ⟨fun A B h hb => h.keep hb, ?_, (Below.refl _ _).alloc (Nat.le_refl _) _⟩
  unfold PyAt
  simp [go_sem]
set_option maxRecDepth 100000 in
theorem law_bad (c n d0 d1 t : Int) (w : World) (h : planB c n d0 d1 = false) : Calls Try.prog 10 #[pyV c n d0 d1 t] w (RetB (.bool true) w) := by
  have KI := Lib.hid (PyAt.new w c n d0 d1 t)
  go_enter Try.func10, Try.ntmps10
  go_wp2_with fail
  refine (paid_any _).mono ?_
  rintro e w1 ⟨rfl, hb1⟩
  have K1 := Lib.hid (KI.out.bl hb1)
  clear hb1 KI
  obtain ⟨j0, j1, j2, j3, j4⟩ := K1.out.q
  go_wp2_with fail
  refine (Plan_bad c n d0 d1 _ h).mono ?_
  rintro e w2 ⟨rfl, hb2⟩
  have K2 := Lib.hid (K1.out.bl hb2)
  clear hb2 K1
  go_wp2
  go_ret
  exact ⟨rfl, K2.out.b⟩
set_option maxRecDepth 100000 in
theorem law_noday (c n d0 d1 t : Int) (w : World) (h : planB c n d0 d1 = true) (ht : inB t 0 200000 = false) : Calls Try.prog 10 #[pyV c n d0 d1 t] w (RetB (.bool true) w) := by
  have KI := Lib.hid (PyAt.new w c n d0 d1 t)
  go_enter Try.func10, Try.ntmps10
  go_wp2_with fail
  refine (paid_any _).mono ?_
  rintro e w1 ⟨rfl, hb1⟩
  have K1 := Lib.hid (KI.out.bl hb1)
  clear hb1 KI
  obtain ⟨j0, j1, j2, j3, j4⟩ := K1.out.q
  go_wp2_with fail
  refine (Plan_good c n d0 d1 _ h).mono ?_
  rintro e w2 ⟨m, D, v, -, -, -, -, -, rfl, hD⟩
  have K2 := Lib.hid (K1.out.bl hD.out.2)
  clear hD K1 j0 j1 j2 j3 j4
  obtain ⟨-, -, -, -, j4⟩ := K2.out.q
  go_wp2_with (go_at_call 41; refine (xIsDay_any _ _).mono ?_; rintro e w' ⟨rfl, rfl⟩; rw [ht])
  go_ret
  exact ⟨rfl, K2.out.b⟩
theorem cdE_day {t : Int} (h : inB t 0 200000 = true) : cdE [t] = 0 := by unfold cdE; simp [h]
theorem leftM_all {t : Int} {D : List Du} (h : ∀ d ∈ D, d.day ≤ t) : leftM t D D = 0 := by unfold leftM; rw [begD_all h]; omega
theorem openM_same (t : Int) (D : List Du) : openM t D D = 0 := by unfold openM; omega
theorem alloc_at {B : Nat} {A W : World} (_h : Below B A W) (o : Obj) (n : Nat) (e : W.heap.size = n) : (W.alloc o).heap[n]? = some o := by rw [← e]; exact heap_alloc_new W o
theorem made_at {B : Nat} {A W : World} (_h : Below B A W) (n : Nat) (e : W.heap.size = n) (hb : B ≤ W.heap.size) : (W.alloc (.cells #[] 69)).ownsRow B 69 2 (.slice (some ⟨n, 0, none⟩) 0 0) 0 [] := by
  rw [← e]
  exact World.ownsRow_made W #[] 0 hb (Nat.zero_le _) (by simp)
theorem addo (b o j : Nat) : Addr.add ⟨b, o, none⟩ j = ⟨b, o + j, none⟩ := by
  unfold Addr.add
  split
  · rename_i e; subst e; rfl
  · rfl
theorem late_ld {W : World} {base k : Nat} {v : Value} {D : List Du} {ld lc : Int} (h : W.ownsRow base 69 2 v (0 + k + 1) ([] ++ dcs (D.take k) ++ [.int .i64 (ld + 1), .int .i64 lc])) (hk : k ≤ D.length) : LD W v (D.take k ++ [⟨ld + 1, lc⟩]) := by
  have e : (D.take k ++ [⟨ld + 1, lc⟩] : List Du).length = 0 + k + 1 := by rw [List.length_append, List.length_take, Nat.min_eq_left hk]; simp
  refine LD.of_own (base := base) (e := 69) ?_
  rw [e, dcs_app, dcs_one]
  exact h
theorem LI.at {W : World} {v : Value} {L : List Int} (h : LI W v L) (hn : L ≠ []) : ∃ b c, v = .slice (some ⟨b, 0, none⟩) L.length c ∧ b < W.heap.size ∧ ∀ (i : Nat) (h : i < L.length), W.cell? ⟨b, i, none⟩ = some (.int .i64 L[i]) := by
  obtain ⟨a, c, rfl, hp⟩ := h
  obtain ⟨b, rfl, hl, hc⟩ := hp hn
  exact ⟨b, c, rfl, hl, hc⟩
theorem LD.at {W : World} {v : Value} {L : List Du} (h : LD W v L) (hn : L ≠ []) : ∃ b o c, v = .slice (some ⟨b, o, none⟩) L.length c ∧ L.length ≤ c ∧ DusAt W b o L := by
  obtain ⟨a, c, rfl, hc, hp⟩ := h
  obtain ⟨b, o, rfl, hd⟩ := hp hn
  exact ⟨b, o, c, rfl, hc, hd⟩
/-- what lies behind the plan: the input, the dues, the last of them -/
def NQ (B : Nat) (c n d0 d1 t : Int) (v : Value) (D : List Du) (B5 : Nat) (ld lc : Int) (W : World) : Prop := PyAt B c n d0 d1 t W ∧ LD W v D ∧ BoxI B5 ld W ∧ W.cell? ⟨B5, 1, none⟩ = some (.int .i64 lc)
theorem NQ.new {B : Nat} {c n d0 d1 t : Int} {v : Value} {D : List Du} {ld lc : Int} {w w2 : World} (hk : KQ (PyAt B c n d0 d1 t) w w2) (hl : LD w2 v D) : KQ (NQ B c n d0 d1 t v D w2.heap.size ld lc) w (w2.alloc (.cells #[.int .i64 ld, .int .i64 lc] 69)) := by
  have hb := (Below.refl w2.heap.size w2).alloc (Nat.le_refl _) (.cells #[.int .i64 ld, .int .i64 lc] 69)
  refine ⟨fun A B' h hb => ⟨h.1.keep hb, h.2.1.below hb, h.2.2.1.keep hb, (hb.cell (p := ⟨w2.heap.size, 1, none⟩) (World.block_lt_of_cell? _ _ h.2.2.2)).trans h.2.2.2⟩, ⟨hk.q.keep hb, hl.below hb, by simp [BoxI, go_sem], by simp [go_sem]⟩, hk.b.trans (hb.mono hk.b.size)⟩
set_option maxRecDepth 100000 in
set_option maxHeartbeats 8000000 in
theorem law_main (c n d0 d1 t : Int) (w : World) (h : planB c n d0 d1 = true) (ht : inB t 0 200000 = true) : Calls Try.prog 10 #[pyV c n d0 d1 t] w (RetB (.bool true) w) := by
  have KI := Lib.hid (PyAt.new w c n d0 d1 t)
  have HT := Lib.hid ht
  go_enter Try.func10, Try.ntmps10
  go_wp2_with fail
  refine (paid_any _).mono ?_
  rintro e w1 ⟨rfl, hb1⟩
  have K1 := Lib.hid (KI.out.bl hb1)
  clear hb1 KI
  obtain ⟨j0, j1, j2, j3, j4⟩ := K1.out.q
  go_wp2_with fail
  refine (Plan_good c n d0 d1 _ h).mono ?_
  rintro e w2 ⟨m, D, v, hm, m1, m9, -, hD, rfl, hR⟩
  subst hm
  have K2 := Lib.hid (K1.out.bl hR.out.2)
  have L2 := Lib.hid hR.out.LD
  clear hR K1 j0 j1 j2 j3 j4
  obtain ⟨k, rfl⟩ : ∃ k, m = k + 1 := ⟨m - 1, by omega⟩
  have DL := Lib.hid hD.len
  have hne := Lib.hid (show D ≠ [] from fun e => by have := DL.out; rw [e] at this; simp at this)
  obtain ⟨b, o, cap, hv, hcap, hd⟩ := L2.out.at hne.out
  subst hv
  have CP := Lib.hid hcap
  have hkD : k < D.length := by have := DL.out; omega
  obtain ⟨q0, q1⟩ := hd.2 k hkD
  obtain ⟨ld, hld⟩ : ∃ ld, D[k].day = ld := ⟨_, rfl⟩
  obtain ⟨lc, hlc⟩ : ∃ lc, D[k].cents = lc := ⟨_, rfl⟩
  rw [hld] at q0
  rw [hlc] at q1
  have HLD := Lib.hid hld
  have HLC := Lib.hid hlc
  obtain ⟨-, j1, -, -, j4⟩ := K2.out.q
  clear hd hld hlc hcap
  rw [DL.out]
  have N0 := Lib.hid (NQ.new (ld := ld) (lc := lc) K2.out L2.out)
  have z1 : ((k + 1 : Nat) : Int) - 1 = k := by omega
  have z2 : (k : Int) + 1 - 1 = k := by omega
  have d120 : decide (120 < (k : Int) + 1) = false := decide_eq_false (by omega)
  have n120 : ¬ 120 < (k : Int) + 1 := by omega
  have hsz : w.heap.size < w2.heap.size := World.block_lt_of_cell? _ _ j4
  have z3 : IntKind.i64.wrap (k : Int) = k := by rw [IntKind.wrap_i64]; omega
  go_wp2_with (go_at_call 41; refine (xIsDay_any _ _).mono ?_; rintro e w' ⟨rfl, rfl⟩; rw [ht])
  have N1 := Lib.hid (show KQ (NQ w.heap.size c ((k + 1 : Nat) : Int) d0 d1 t (.slice (some ⟨b, o, none⟩) (k + 1) cap) D w2.heap.size ld lc) w (w2.alloc (.cells #[.int .i64 ld, .int .i64 lc] 69)) by have := N0.out; rw [DL.out] at this; exact this)
  have HPI := Lib.hid hD
  have hle : D.length ≤ 1000 := by have := DL.out; omega
  have OP := Lib.hid (fun W (hl : LD W (.slice (some ⟨b, o, none⟩) (k + 1) cap) D) tt (h : inB tt 0 200000 = true) => Open_ok _ _ D D tt W hl hl (by rw [HPI.out.ok, cdE_day h]; rfl) hle hle HPI.out.rt HPI.out.rt)
  simp only [openM_same] at OP
  have hdk := hD.days k hkD
  rw [HLD.out] at hdk
  have HIN := Lib.hid (inB_yes (n := ld) (a := 0) (b := 200000) hdk.1 hdk.2.1)
  have HLL := Lib.hid (show ∀ x ∈ D, x.day ≤ ld by
    intro x mx
    obtain ⟨i, hi, rfl⟩ := List.mem_iff_getElem.1 mx
    have := mono_at hD.mono (k - i) i (by have := DL.out; omega)
    have e : i + (k - i) = k := by have := DL.out; omega
    simp only [e] at this
    exact Int.le_trans this (Int.le_of_eq HLD.out))
  have hlk := hdk.2.1
  have hlk0 := hdk.1
  clear N0 L2 K2 j1 j4 q0 q1 hdk hD hsz
  refine (OP.out _ N1.out.q.2.1 t HT.out).mono ?_
  rintro e w4 ⟨rfl, hb4⟩
  have N2 := Lib.hid (N1.out.bl hb4)
  clear hb4 N1
  generalize leftM t D D = lf
  obtain ⟨-, -, x5, x6⟩ := N2.out.q
  unfold BoxI at x5
  go_wp2_with fail
  refine (OP.out _ N2.out.q.2.1 ld HIN.out).mono ?_
  rw [leftM_all HLL.out]
  rintro e w5 ⟨rfl, hb5⟩
  have N3 := Lib.hid (N2.out.bl hb5)
  clear hb5 N2 x5 x6
  go_wp2_with fail
  refine (Cover_ok _ _ D D _ N3.out.q.2.1 N3.out.q.2.1 (by rw [HPI.out.ok]; rfl) hle hle HPI.out.rt HPI.out.rt).mono ?_
  rintro e w6 ⟨v6, rfl, hI⟩
  have N4 := Lib.hid (N3.out.bl hI.out.2)
  have CL := Lib.hid (coverM_len D D D.length)
  obtain ⟨b6, c6, e6, hb6, hc6⟩ := hI.out.LI.at (fun e => by have := CL.out; rw [e] at this; simp at this; have := DL.out; omega)
  rw [CL.out, DL.out] at e6
  subst e6
  have HC6 := Lib.hid hc6
  clear hc6 hI N3
  obtain ⟨-, hl7, x5, x6⟩ := N4.out.q
  have HL7 := Lib.hid hl7
  clear hl7
  unfold BoxI at x5
  go_wp2
  go_loopw [14] (fun iv wr => ∃ i : Nat, i ≤ k + 1 ∧ iv = .int .i64 i ∧ Hid (Below w6.heap.size w6 wr)) (fun iv _ => k + 1 - (intOf iv).toNat)
  case atStart => exact ⟨0, Nat.zero_le _, rfl, Lib.hid (Below.refl _ _)⟩
  case round =>
    obtain ⟨i, hi, rfl, HB⟩ := hrel
    have N5 := Lib.hid (N4.out.bl HB.out)
    by_cases hlt : i < k + 1
    · have hiD : i < D.length := by have := DL.out; omega
      have g6 := (HB.out.cell (p := ⟨b6, i, none⟩) hb6).trans (HC6.out i (by rw [CL.out]; exact hiD))
      rw [coverM_get] at g6
      obtain ⟨bb, oo, cc, ee, -, hdd⟩ := (HL7.out.below HB.out).at hne.out
      injection ee with e1 e2 e3
      injection e1 with e4
      injection e4 with e5 e6'
      subst e5 e6'
      obtain ⟨g0, g1⟩ := hdd.2 i hiD
      obtain ⟨y1, y2, y3⟩ := cover_at HPI.out.rt (fun k hk => (HPI.out.days k hk).1) HPI.out.mono i hiD
      have y4 := (HPI.out.rt _ (List.getElem_mem hiD)).1
      clear hdd e2 e3
      generalize dayM D (sumD (D.take (i + 1))) = X at *
      obtain ⟨dy, hdy⟩ : ∃ dy, D[i].day = dy := ⟨_, rfl⟩
      obtain ⟨dc, hdc⟩ : ∃ dc, D[i].cents = dc := ⟨_, rfl⟩
      rw [hdy] at g0 y2 y3
      rw [hdc] at g1 y3 y4
      clear hdy hdc
      have n0 : ¬ X < 0 := by omega
      have n1 : ¬ dy < X := by omega
      have d0' : decide (X < 0) = false := decide_eq_false n0
      have d1' : decide (dy < X) = false := decide_eq_false n1
      by_cases hpos : 0 < dc
      · have hX := y3 hpos
        subst hX
        have hne2 : (X != X) = false := by simp
        have d2' : decide (0 < dc) = true := decide_eq_true hpos
        clear y3
        go_wp2_with fail
        go_quiet (fail)
        go_wp2
        go_roundw
        case rel => exact ⟨i + 1, by omega, by go_num, Lib.hid (below_n HB.out _)⟩
        case measure => simp [intOf]; omega
      · have d2' : decide (0 < dc) = false := decide_eq_false hpos
        clear y3
        go_wp2_with fail
        go_quiet (fail)
        go_wp2
        go_roundw
        case rel => exact ⟨i + 1, by omega, by go_num, Lib.hid (below_n HB.out _)⟩
        case measure => simp [intOf]; omega
    · have BB := Lib.hid N5.out.b
      obtain ⟨-, hl7, x5, x6⟩ := N5.out.q
      unfold BoxI at x5
      by_cases hmax : ld = 200000
      · subst hmax
        clear hl7
        go_wp2
        go_ret
        exact ⟨rfl, BB.out⟩
      · have hmb : (ld == 200000) = false := by simpa using hmax
        have hl9 : ld < 200000 := by omega
        have HLT := Lib.hid (late_is (L := D) (k := k) DL.out (by have := DL.out; omega) HPI.out.rt (fun i hi => ⟨(HPI.out.days i hi).1, (HPI.out.days i hi).2.1⟩) HPI.out.mono (by rw [HLD.out]; exact hl9))
        rw [HLD.out, HLC.out] at HLT
        have H7 := Lib.hid hl7
        have bl5 : w2.heap.size < wr.heap.size := World.block_lt_of_cell? _ _ x5
        have KC := Lib.hid (show k ≤ D.length from Nat.le_of_lt hkD)
        have lcap : k ≤ cap := by have := CP.out; omega
        have lcapz : (k : Int) ≤ cap := by omega
        have zw : IntKind.i64.wrap (ld + 1) = ld + 1 := by rw [IntKind.wrap_i64]; omega
        have X5 := Lib.hid x5
        have X6 := Lib.hid x6
        obtain ⟨i0, hi0, hz0, hz1, hz2⟩ := info_parts infoDu
        have KN := Lib.hid (show ∀ W, Below wr.heap.size wr W → ∀ j u, (dcs (D.take k))[j]? = some u → W.cell? ((⟨b, o, none⟩ : Addr).add j) = some u from fun W hb j u hj => by
          obtain ⟨bb, oo, cc, ee, -, hdd⟩ := (H7.out.below hb).at hne.out
          injection ee with e1 e2 e3
          injection e1 with e4
          injection e4 with e5 e6'
          subst e5 e6'
          have := (hdd.take k).cells j u hj
          rw [addo]; exact this)
        have KL := Lib.hid (show (dcs (D.take k)).length = k * 2 by rw [dcs_len, List.length_take, Nat.min_eq_left KC.out])
        clear hl7 hmax
        go_wp2_with fail
        clear x5 x6
        refine wp_region_held_drew (S := (Below wr.heap.size wr)) (by kernel_rfl) ?_ (fun hHeld => ?_)
        · exact below_dr (Below.refl _ _)
        refine wpAnyH_take (i := 1) (oi := { dst := some 148, op := Go.Op.move (Go.Operand.tmp 3), type := 60, pos := "top09.go:138", after := #[], guard := none }) (v := ?_) rfl (by kernel_rfl) (by kernel_rfl) (by kernel_rfl) (fun _ _ _ h => h) (Or.inl ⟨by rfl, ?_⟩) (by assumption) ?_
        rotate_left
        · intro W hSw
          go_simp
          try with_reducible rfl
        try simp only [Act.put, List.setIfInBounds_toArray, List.set_cons_zero, List.set_cons_succ]
        refine wpAnyH_take (i := 2) (oi := { dst := some 149, op := Go.Op.move (Go.Operand.tmp 3), type := 60, pos := "top09.go:138", after := #[], guard := none }) (v := ?_) rfl (by kernel_rfl) (by kernel_rfl) (by kernel_rfl) (fun _ _ _ h => h) (Or.inl ⟨by rfl, ?_⟩) (by assumption) ?_
        rotate_left
        · intro W hSw
          go_simp
          try with_reducible rfl
        try simp only [Act.put, List.setIfInBounds_toArray, List.set_cons_zero, List.set_cons_succ]
        refine wpAnyH_take (i := 3) (oi := { dst := some 150, op := Go.Op.call { callee := Go.Callee.builtin Go.Builtin.len, args := #[Go.Operand.tmp 149], argTypes := #[60] }, type := 3, pos := "top09.go:138", after := #[{ on := 2, ground := Go.Ground.data }], guard := none }) (v := ?_) rfl (by kernel_rfl) (by kernel_rfl) (by kernel_rfl) (fun _ _ _ h => h) (Or.inl ⟨by rfl, ?_⟩) (by assumption) ?_
        rotate_left
        · intro W hSw
          go_simp
          try with_reducible rfl
        try simp only [Act.put, List.setIfInBounds_toArray, List.set_cons_zero, List.set_cons_succ]
        refine wpAnyH_take (i := 4) (oi := { dst := some 151, op := Go.Op.binOp Go.BinOp.sub 3 (Go.Operand.tmp 150) (Go.Operand.const (Go.Value.int Go.IntKind.i64 1)) 3, type := 3, pos := "top09.go:138", after := #[{ on := 3, ground := Go.Ground.data }], guard := none }) (v := ?_) rfl (by kernel_rfl) (by kernel_rfl) (by kernel_rfl) (fun _ _ _ h => h) (Or.inl ⟨by rfl, ?_⟩) (by assumption) ?_
        rotate_left
        · intro W hSw
          go_simp
          try with_reducible rfl
        try simp only [Act.put, List.setIfInBounds_toArray, List.set_cons_zero, List.set_cons_succ]
        refine wpAnyH_take (i := 5) (oi := { dst := some 152, op := Go.Op.slice 60 (Go.Operand.tmp 148) none (some (Go.Operand.tmp 151)) none, type := 60, pos := "top09.go:138", after := #[{ on := 1, ground := Go.Ground.data }, { on := 4, ground := Go.Ground.data }], guard := none }) (v := ?_) rfl (by kernel_rfl) (by kernel_rfl) (by kernel_rfl) (fun _ _ _ h => h) (Or.inl ⟨by rfl, ?_⟩) (by assumption) ?_
        rotate_left
        · intro W hSw
          go_simp
          try with_reducible rfl
        try simp only [Act.put, List.setIfInBounds_toArray, List.set_cons_zero, List.set_cons_succ]
        refine wpAnyH_take (i := 7) (oi := { dst := some 154, op := Go.Op.fieldAddr 69 (Go.Operand.tmp 5) 0, type := 0, pos := "top09.go:138", after := #[], guard := none }) (v := ?_) rfl (by kernel_rfl) (by kernel_rfl) (by kernel_rfl) (fun _ _ _ h => h) (Or.inl ⟨by rfl, ?_⟩) (by assumption) ?_
        rotate_left
        · intro W hSw
          go_simp
          try with_reducible rfl
        try simp only [Act.put, List.setIfInBounds_toArray, List.set_cons_zero, List.set_cons_succ]
        refine wpAnyH_take (i := 8) (oi := { dst := some 155, op := Go.Op.load 3 (Go.Operand.tmp 154), type := 3, pos := "top09.go:138", after := #[{ on := 7, ground := Go.Ground.data }], guard := none }) (v := ?_) rfl (by kernel_rfl) (by kernel_rfl) (by kernel_rfl) (fun _ _ _ h => h) (Or.inl ⟨by rfl, ?_⟩) (by assumption) ?_
        rotate_left
        · intro W hSw
          have x5 := (hSw.cell (p := ⟨w2.heap.size, 0, none⟩) bl5).trans X5.out
          have x6 := (hSw.cell (p := ⟨w2.heap.size, 1, none⟩) bl5).trans X6.out
          go_simp
          try with_reducible rfl
        try simp only [Act.put, List.setIfInBounds_toArray, List.set_cons_zero, List.set_cons_succ]
        refine wpAnyH_take (i := 9) (oi := { dst := some 156, op := Go.Op.binOp Go.BinOp.add 3 (Go.Operand.tmp 155) (Go.Operand.const (Go.Value.int Go.IntKind.i64 1)) 3, type := 3, pos := "top09.go:138", after := #[{ on := 8, ground := Go.Ground.data }], guard := none }) (v := ?_) rfl (by kernel_rfl) (by kernel_rfl) (by kernel_rfl) (fun _ _ _ h => h) (Or.inl ⟨by rfl, ?_⟩) (by assumption) ?_
        rotate_left
        · intro W hSw
          go_simp
          try with_reducible rfl
        try simp only [Act.put, List.setIfInBounds_toArray, List.set_cons_zero, List.set_cons_succ]
        refine wpAnyH_take (i := 10) (oi := { dst := some 157, op := Go.Op.fieldAddr 69 (Go.Operand.tmp 5) 1, type := 0, pos := "top09.go:138", after := #[], guard := none }) (v := ?_) rfl (by kernel_rfl) (by kernel_rfl) (by kernel_rfl) (fun _ _ _ h => h) (Or.inl ⟨by rfl, ?_⟩) (by assumption) ?_
        rotate_left
        · intro W hSw
          go_simp
          try with_reducible rfl
        try simp only [Act.put, List.setIfInBounds_toArray, List.set_cons_zero, List.set_cons_succ]
        refine wpAnyH_take (i := 11) (oi := { dst := some 158, op := Go.Op.load 3 (Go.Operand.tmp 157), type := 3, pos := "top09.go:138", after := #[{ on := 10, ground := Go.Ground.data }], guard := none }) (v := ?_) rfl (by kernel_rfl) (by kernel_rfl) (by kernel_rfl) (fun _ _ _ h => h) (Or.inl ⟨by rfl, ?_⟩) (by assumption) ?_
        rotate_left
        · intro W hSw
          have x5 := (hSw.cell (p := ⟨w2.heap.size, 0, none⟩) bl5).trans X5.out
          have x6 := (hSw.cell (p := ⟨w2.heap.size, 1, none⟩) bl5).trans X6.out
          go_simp
          try with_reducible rfl
        try simp only [Act.put, List.setIfInBounds_toArray, List.set_cons_zero, List.set_cons_succ]
        refine wpAnyH_take (i := 12) (oi := { dst := some 159, op := Go.Op.build 69 #[(0, Go.Operand.tmp 156), (1, Go.Operand.tmp 158)], type := 69, pos := "top09.go:138", after := #[{ on := 9, ground := Go.Ground.data }, { on := 11, ground := Go.Ground.data }], guard := none }) (v := ?_) rfl (by kernel_rfl) (by kernel_rfl) (by kernel_rfl) (fun _ _ _ h => h) (Or.inl ⟨by rfl, ?_⟩) (by assumption) ?_
        rotate_left
        · intro W hSw
          go_simp
          try with_reducible rfl
        try simp only [Act.put, List.setIfInBounds_toArray, List.set_cons_zero, List.set_cons_succ]
        refine wpAnyH_ready (rs := [0, 13]) (by kernel_rfl) (by simp) ?_
        refine AllReadyH.cons (o := { dst := some 147, op := Go.Op.buildSlice 60 0 #[], type := 60, pos := "top09.go:138", after := #[], guard := none }) rfl (fun K hK => ?_) ?_
        · go_simp
          have OWN := Lib.hid (made_at hHeld (wr.heap.size) (by simp) hHeld.size)
          have KH := Lib.hid hHeld
          refine hK.out _ _ ?_ (fun hHeld' => ?_)
          · exact KH.out.alloc KH.out.size _
          clear hK K hHeld
          have hHeld := hHeld'
          clear hHeld'
          try simp only [Act.put, List.setIfInBounds_toArray, List.set_cons_zero, List.set_cons_succ]
          refine wpAnyH_ready (rs := [6, 13]) (by kernel_rfl) (by simp) ?_
          refine AllReadyH.cons (o := { dst := some 153, op := Go.Op.call { callee := Go.Callee.builtin Go.Builtin.append, args := #[Go.Operand.tmp 147, Go.Operand.tmp 152], argTypes := #[60, 60] }, type := 60, pos := "top09.go:138", after := #[{ on := 0, ground := Go.Ground.data }, { on := 5, ground := Go.Ground.data }], guard := none }) rfl (fun K hK => ?_) ?_
          · refine step_app_at rfl _ _ 60 rfl wr.heap.size Try.underlying60 hi0 hz0 hz1 hz2 rfl (by decide) (by rfl) (by rfl) (OWN.out) (KL.out) (KN.out _ hHeld) (dcs_one_cell) (by unfold maxLen; omega) (by omega) hHeld.size (fun v6 W6 own grow => ?_)
            have OWN6 := Lib.hid own
            have KH := Lib.hid (hHeld.grown grow hHeld.size (fun k' e' => (World.ownsRow.lt (OWN.out) k' e').1))
            clear own grow
            refine hK.out _ _ ?_ (fun hHeld' => ?_)
            · exact KH.out
            clear hK K hHeld
            have hHeld := hHeld'
            clear hHeld'
            try simp only [Act.put, List.setIfInBounds_toArray, List.set_cons_zero, List.set_cons_succ]
            refine wpAnyH_ready (rs := [13]) (by kernel_rfl) (by simp) ?_
            refine AllReadyH.cons (o := { dst := some 160, op := Go.Op.buildSlice 60 1 #[(0, Go.Operand.tmp 159)], type := 60, pos := "top09.go:138", after := #[{ on := 12, ground := Go.Ground.data }], guard := none }) rfl (fun K hK => ?_) AllReadyH.nil
            go_simp
            have C13 := Lib.hid (alloc_at hHeld (.cells #[.int .i64 (ld + 1), .int .i64 lc] 69) (W6.heap.size) (by simp))
            have KH := Lib.hid hHeld
            refine hK.out _ _ ?_ (fun hHeld' => ?_)
            · exact KH.out.alloc KH.out.size _
            clear hK K hHeld
            have hHeld := hHeld'
            clear hHeld'
            try simp only [Act.put, List.setIfInBounds_toArray, List.set_cons_zero, List.set_cons_succ]
            refine wpAnyH_ready (rs := [14]) (by kernel_rfl) (by simp) ?_
            refine AllReadyH.cons (o := { dst := some 161, op := Go.Op.call { callee := Go.Callee.builtin Go.Builtin.append, args := #[Go.Operand.tmp 153, Go.Operand.tmp 160], argTypes := #[60, 60] }, type := 60, pos := "top09.go:138", after := #[{ on := 6, ground := Go.Ground.data }, { on := 13, ground := Go.Ground.data }, { on := 6, ground := Go.Ground.chain }], guard := none }) rfl (fun K hK => ?_) AllReadyH.nil
            refine step_app_at rfl _ _ 60 rfl wr.heap.size Try.underlying60 hi0 hz0 hz1 hz2 rfl (by decide) (by rfl) (by rfl) (OWN6.out.alloc (.cells #[.int .i64 (ld + 1), .int .i64 lc] 69)) (rfl) (World.news_of_block (cs := #[.int .i64 (ld + 1), .int .i64 lc]) C13.out) (by simp [Value.oneCell']) (by unfold maxLen; omega) (by omega) hHeld.size (fun v14 W14 own grow => ?_)
            have OW := Lib.hid own
            have KH := Lib.hid (hHeld.grown grow hHeld.size (fun k' e' => (World.ownsRow.lt (OWN6.out.alloc (.cells #[.int .i64 (ld + 1), .int .i64 lc] 69)) k' e').1))
            clear own grow
            refine hK.out _ _ ?_ (fun hHeld' => ?_)
            · exact KH.out
            clear hK K hHeld
            have hHeld := hHeld'
            clear hHeld'
            try simp only [Act.put, List.setIfInBounds_toArray, List.set_cons_zero, List.set_cons_succ]
            refine wpAnyH_take (i := 15) (oi := { dst := some 15, op := Go.Op.assign (Go.Operand.tmp 161), type := 60, pos := "top09.go:138", after := #[{ on := 14, ground := Go.Ground.data }, { on := 14, ground := Go.Ground.chain }, { on := 0, ground := Go.Ground.phase }, { on := 1, ground := Go.Ground.phase }, { on := 2, ground := Go.Ground.phase }, { on := 3, ground := Go.Ground.phase }, { on := 4, ground := Go.Ground.phase }, { on := 5, ground := Go.Ground.phase }, { on := 6, ground := Go.Ground.phase }, { on := 7, ground := Go.Ground.phase }, { on := 8, ground := Go.Ground.phase }, { on := 9, ground := Go.Ground.phase }, { on := 10, ground := Go.Ground.phase }, { on := 11, ground := Go.Ground.phase }, { on := 12, ground := Go.Ground.phase }, { on := 13, ground := Go.Ground.phase }, { on := 14, ground := Go.Ground.phase }], guard := none }) (v := ?_) rfl (by kernel_rfl) (by kernel_rfl) (by kernel_rfl) (fun _ _ _ h => h) (Or.inl ⟨by rfl, ?_⟩) (by assumption) ?_
            rotate_left
            · intro W hSw
              go_simp
              try with_reducible rfl
            try simp only [Act.put, List.setIfInBounds_toArray, List.set_cons_zero, List.set_cons_succ]
            refine wpAnyH_done (by kernel_rfl) ?_ _
            have LX := Lib.hid (late_ld OW.out KC.out)
            have BW := Lib.hid hHeld
            clear hHeld
            have x5 := (BW.out.cell (p := ⟨w2.heap.size, 0, none⟩) bl5).trans X5.out
            have x6 := (BW.out.cell (p := ⟨w2.heap.size, 1, none⟩) bl5).trans X6.out
            go_wp2_with fail
            refine (Open_ok _ _ D _ ld _ (H7.out.below BW.out) LX.out (by rw [HPI.out.ok, HLT.out.2.1, cdE_day HIN.out]; rfl) hle (by rw [HLT.out.2.2.2]; omega) HPI.out.rt HLT.out.1).mono ?_
            rw [HLT.out.2.2.1]
            rintro e w8 ⟨rfl, hb8⟩
            have y6 := (hb8.cell (p := ⟨w2.heap.size, 1, none⟩) (Nat.lt_of_lt_of_le bl5 BW.out.size)).trans x6
            have B8 := Lib.hid (BB.out.trans ((BW.out.trans (hb8.mono BW.out.size)).mono BB.out.size))
            clear hb8 x5 x6
            generalize leftM ld D _ = lz
            have lcc : (lc == lc) = true := by simp
            go_wp2
            go_ret
            exact ⟨rfl, B8.out⟩
          refine AllReadyH.cons (o := { dst := some 160, op := Go.Op.buildSlice 60 1 #[(0, Go.Operand.tmp 159)], type := 60, pos := "top09.go:138", after := #[{ on := 12, ground := Go.Ground.data }], guard := none }) rfl (fun K hK => ?_) AllReadyH.nil
          go_simp
          have C13 := Lib.hid (alloc_at hHeld (.cells #[.int .i64 (ld + 1), .int .i64 lc] 69) (wr.heap.size + 1) (by simp))
          have KH := Lib.hid hHeld
          refine hK.out _ _ ?_ (fun hHeld' => ?_)
          · exact KH.out.alloc KH.out.size _
          clear hK K hHeld
          have hHeld := hHeld'
          clear hHeld'
          try simp only [Act.put, List.setIfInBounds_toArray, List.set_cons_zero, List.set_cons_succ]
          refine wpAnyH_ready (rs := [6]) (by kernel_rfl) (by simp) ?_
          refine AllReadyH.cons (o := { dst := some 153, op := Go.Op.call { callee := Go.Callee.builtin Go.Builtin.append, args := #[Go.Operand.tmp 147, Go.Operand.tmp 152], argTypes := #[60, 60] }, type := 60, pos := "top09.go:138", after := #[{ on := 0, ground := Go.Ground.data }, { on := 5, ground := Go.Ground.data }], guard := none }) rfl (fun K hK => ?_) AllReadyH.nil
          refine step_app_at rfl _ _ 60 rfl wr.heap.size Try.underlying60 hi0 hz0 hz1 hz2 rfl (by decide) (by rfl) (by rfl) (OWN.out.alloc (.cells #[.int .i64 (ld + 1), .int .i64 lc] 69)) (KL.out) (KN.out _ hHeld) (dcs_one_cell) (by unfold maxLen; omega) (by omega) hHeld.size (fun v6 W6 own grow => ?_)
          have OWN6 := Lib.hid own
          have KH := Lib.hid (hHeld.grown grow hHeld.size (fun k' e' => (World.ownsRow.lt (OWN.out.alloc (.cells #[.int .i64 (ld + 1), .int .i64 lc] 69)) k' e').1))
          have C13 := Lib.hid ((grow.block _ (Array.getElem?_eq_some_iff.1 C13.out).1 (by simp [Value.ownBlock])).trans C13.out)
          clear own grow
          refine hK.out _ _ ?_ (fun hHeld' => ?_)
          · exact KH.out
          clear hK K hHeld
          have hHeld := hHeld'
          clear hHeld'
          try simp only [Act.put, List.setIfInBounds_toArray, List.set_cons_zero, List.set_cons_succ]
          refine wpAnyH_ready (rs := [14]) (by kernel_rfl) (by simp) ?_
          refine AllReadyH.cons (o := { dst := some 161, op := Go.Op.call { callee := Go.Callee.builtin Go.Builtin.append, args := #[Go.Operand.tmp 153, Go.Operand.tmp 160], argTypes := #[60, 60] }, type := 60, pos := "top09.go:138", after := #[{ on := 6, ground := Go.Ground.data }, { on := 13, ground := Go.Ground.data }, { on := 6, ground := Go.Ground.chain }], guard := none }) rfl (fun K hK => ?_) AllReadyH.nil
          refine step_app_at rfl _ _ 60 rfl wr.heap.size Try.underlying60 hi0 hz0 hz1 hz2 rfl (by decide) (by rfl) (by rfl) (OWN6.out) (rfl) (World.news_of_block (cs := #[.int .i64 (ld + 1), .int .i64 lc]) C13.out) (by simp [Value.oneCell']) (by unfold maxLen; omega) (by omega) hHeld.size (fun v14 W14 own grow => ?_)
          have OW := Lib.hid own
          have KH := Lib.hid (hHeld.grown grow hHeld.size (fun k' e' => (World.ownsRow.lt (OWN6.out) k' e').1))
          clear own grow
          refine hK.out _ _ ?_ (fun hHeld' => ?_)
          · exact KH.out
          clear hK K hHeld
          have hHeld := hHeld'
          clear hHeld'
          try simp only [Act.put, List.setIfInBounds_toArray, List.set_cons_zero, List.set_cons_succ]
          refine wpAnyH_take (i := 15) (oi := { dst := some 15, op := Go.Op.assign (Go.Operand.tmp 161), type := 60, pos := "top09.go:138", after := #[{ on := 14, ground := Go.Ground.data }, { on := 14, ground := Go.Ground.chain }, { on := 0, ground := Go.Ground.phase }, { on := 1, ground := Go.Ground.phase }, { on := 2, ground := Go.Ground.phase }, { on := 3, ground := Go.Ground.phase }, { on := 4, ground := Go.Ground.phase }, { on := 5, ground := Go.Ground.phase }, { on := 6, ground := Go.Ground.phase }, { on := 7, ground := Go.Ground.phase }, { on := 8, ground := Go.Ground.phase }, { on := 9, ground := Go.Ground.phase }, { on := 10, ground := Go.Ground.phase }, { on := 11, ground := Go.Ground.phase }, { on := 12, ground := Go.Ground.phase }, { on := 13, ground := Go.Ground.phase }, { on := 14, ground := Go.Ground.phase }], guard := none }) (v := ?_) rfl (by kernel_rfl) (by kernel_rfl) (by kernel_rfl) (fun _ _ _ h => h) (Or.inl ⟨by rfl, ?_⟩) (by assumption) ?_
          rotate_left
          · intro W hSw
            go_simp
            try with_reducible rfl
          try simp only [Act.put, List.setIfInBounds_toArray, List.set_cons_zero, List.set_cons_succ]
          refine wpAnyH_done (by kernel_rfl) ?_ _
          have LX := Lib.hid (late_ld OW.out KC.out)
          have BW := Lib.hid hHeld
          clear hHeld
          have x5 := (BW.out.cell (p := ⟨w2.heap.size, 0, none⟩) bl5).trans X5.out
          have x6 := (BW.out.cell (p := ⟨w2.heap.size, 1, none⟩) bl5).trans X6.out
          go_wp2_with fail
          refine (Open_ok _ _ D _ ld _ (H7.out.below BW.out) LX.out (by rw [HPI.out.ok, HLT.out.2.1, cdE_day HIN.out]; rfl) hle (by rw [HLT.out.2.2.2]; omega) HPI.out.rt HLT.out.1).mono ?_
          rw [HLT.out.2.2.1]
          rintro e w8 ⟨rfl, hb8⟩
          have y6 := (hb8.cell (p := ⟨w2.heap.size, 1, none⟩) (Nat.lt_of_lt_of_le bl5 BW.out.size)).trans x6
          have B8 := Lib.hid (BB.out.trans ((BW.out.trans (hb8.mono BW.out.size)).mono BB.out.size))
          clear hb8 x5 x6
          generalize leftM ld D _ = lz
          have lcc : (lc == lc) = true := by simp
          go_wp2
          go_ret
          exact ⟨rfl, B8.out⟩
        refine AllReadyH.cons (o := { dst := some 160, op := Go.Op.buildSlice 60 1 #[(0, Go.Operand.tmp 159)], type := 60, pos := "top09.go:138", after := #[{ on := 12, ground := Go.Ground.data }], guard := none }) rfl (fun K hK => ?_) AllReadyH.nil
        go_simp
        have C13 := Lib.hid (alloc_at hHeld (.cells #[.int .i64 (ld + 1), .int .i64 lc] 69) (wr.heap.size) (by simp))
        have KH := Lib.hid hHeld
        refine hK.out _ _ ?_ (fun hHeld' => ?_)
        · exact KH.out.alloc KH.out.size _
        clear hK K hHeld
        have hHeld := hHeld'
        clear hHeld'
        try simp only [Act.put, List.setIfInBounds_toArray, List.set_cons_zero, List.set_cons_succ]
        refine wpAnyH_ready (rs := [0]) (by kernel_rfl) (by simp) ?_
        refine AllReadyH.cons (o := { dst := some 147, op := Go.Op.buildSlice 60 0 #[], type := 60, pos := "top09.go:138", after := #[], guard := none }) rfl (fun K hK => ?_) AllReadyH.nil
        go_simp
        have OWN := Lib.hid (made_at hHeld (wr.heap.size + 1) (by simp) hHeld.size)
        have KH := Lib.hid hHeld
        have C13 := Lib.hid ((heap_alloc_old _ (.cells #[] 69) (Array.getElem?_eq_some_iff.1 C13.out).1).trans C13.out)
        have LT13 := Lib.hid (Array.getElem?_eq_some_iff.1 C13.out).1
        refine hK.out _ _ ?_ (fun hHeld' => ?_)
        · exact KH.out.alloc KH.out.size _
        clear hK K hHeld
        have hHeld := hHeld'
        clear hHeld'
        try simp only [Act.put, List.setIfInBounds_toArray, List.set_cons_zero, List.set_cons_succ]
        refine wpAnyH_ready (rs := [6]) (by kernel_rfl) (by simp) ?_
        refine AllReadyH.cons (o := { dst := some 153, op := Go.Op.call { callee := Go.Callee.builtin Go.Builtin.append, args := #[Go.Operand.tmp 147, Go.Operand.tmp 152], argTypes := #[60, 60] }, type := 60, pos := "top09.go:138", after := #[{ on := 0, ground := Go.Ground.data }, { on := 5, ground := Go.Ground.data }], guard := none }) rfl (fun K hK => ?_) AllReadyH.nil
        refine step_app_at rfl _ _ 60 rfl wr.heap.size Try.underlying60 hi0 hz0 hz1 hz2 rfl (by decide) (by rfl) (by rfl) (OWN.out) (KL.out) (KN.out _ hHeld) (dcs_one_cell) (by unfold maxLen; omega) (by omega) hHeld.size (fun v6 W6 own grow => ?_)
        have OWN6 := Lib.hid own
        have KH := Lib.hid (hHeld.grown grow hHeld.size (fun k' e' => (World.ownsRow.lt (OWN.out) k' e').1))
        have C13 := Lib.hid ((grow.block _ (Array.getElem?_eq_some_iff.1 C13.out).1 (by simp [Value.ownBlock])).trans C13.out)
        clear own grow
        refine hK.out _ _ ?_ (fun hHeld' => ?_)
        · exact KH.out
        clear hK K hHeld
        have hHeld := hHeld'
        clear hHeld'
        try simp only [Act.put, List.setIfInBounds_toArray, List.set_cons_zero, List.set_cons_succ]
        refine wpAnyH_ready (rs := [14]) (by kernel_rfl) (by simp) ?_
        refine AllReadyH.cons (o := { dst := some 161, op := Go.Op.call { callee := Go.Callee.builtin Go.Builtin.append, args := #[Go.Operand.tmp 153, Go.Operand.tmp 160], argTypes := #[60, 60] }, type := 60, pos := "top09.go:138", after := #[{ on := 6, ground := Go.Ground.data }, { on := 13, ground := Go.Ground.data }, { on := 6, ground := Go.Ground.chain }], guard := none }) rfl (fun K hK => ?_) AllReadyH.nil
        refine step_app_at rfl _ _ 60 rfl wr.heap.size Try.underlying60 hi0 hz0 hz1 hz2 rfl (by decide) (by rfl) (by rfl) (OWN6.out) (rfl) (World.news_of_block (cs := #[.int .i64 (ld + 1), .int .i64 lc]) C13.out) (by simp [Value.oneCell']) (by unfold maxLen; omega) (by omega) hHeld.size (fun v14 W14 own grow => ?_)
        have OW := Lib.hid own
        have KH := Lib.hid (hHeld.grown grow hHeld.size (fun k' e' => (World.ownsRow.lt (OWN6.out) k' e').1))
        clear own grow
        refine hK.out _ _ ?_ (fun hHeld' => ?_)
        · exact KH.out
        clear hK K hHeld
        have hHeld := hHeld'
        clear hHeld'
        try simp only [Act.put, List.setIfInBounds_toArray, List.set_cons_zero, List.set_cons_succ]
        refine wpAnyH_take (i := 15) (oi := { dst := some 15, op := Go.Op.assign (Go.Operand.tmp 161), type := 60, pos := "top09.go:138", after := #[{ on := 14, ground := Go.Ground.data }, { on := 14, ground := Go.Ground.chain }, { on := 0, ground := Go.Ground.phase }, { on := 1, ground := Go.Ground.phase }, { on := 2, ground := Go.Ground.phase }, { on := 3, ground := Go.Ground.phase }, { on := 4, ground := Go.Ground.phase }, { on := 5, ground := Go.Ground.phase }, { on := 6, ground := Go.Ground.phase }, { on := 7, ground := Go.Ground.phase }, { on := 8, ground := Go.Ground.phase }, { on := 9, ground := Go.Ground.phase }, { on := 10, ground := Go.Ground.phase }, { on := 11, ground := Go.Ground.phase }, { on := 12, ground := Go.Ground.phase }, { on := 13, ground := Go.Ground.phase }, { on := 14, ground := Go.Ground.phase }], guard := none }) (v := ?_) rfl (by kernel_rfl) (by kernel_rfl) (by kernel_rfl) (fun _ _ _ h => h) (Or.inl ⟨by rfl, ?_⟩) (by assumption) ?_
        rotate_left
        · intro W hSw
          go_simp
          try with_reducible rfl
        try simp only [Act.put, List.setIfInBounds_toArray, List.set_cons_zero, List.set_cons_succ]
        refine wpAnyH_done (by kernel_rfl) ?_ _
        have LX := Lib.hid (late_ld OW.out KC.out)
        have BW := Lib.hid hHeld
        clear hHeld
        have x5 := (BW.out.cell (p := ⟨w2.heap.size, 0, none⟩) bl5).trans X5.out
        have x6 := (BW.out.cell (p := ⟨w2.heap.size, 1, none⟩) bl5).trans X6.out
        go_wp2_with fail
        refine (Open_ok _ _ D _ ld _ (H7.out.below BW.out) LX.out (by rw [HPI.out.ok, HLT.out.2.1, cdE_day HIN.out]; rfl) hle (by rw [HLT.out.2.2.2]; omega) HPI.out.rt HLT.out.1).mono ?_
        rw [HLT.out.2.2.1]
        rintro e w8 ⟨rfl, hb8⟩
        have y6 := (hb8.cell (p := ⟨w2.heap.size, 1, none⟩) (Nat.lt_of_lt_of_le bl5 BW.out.size)).trans x6
        have B8 := Lib.hid (BB.out.trans ((BW.out.trans (hb8.mono BW.out.size)).mono BB.out.size))
        clear hb8 x5 x6
        generalize leftM ld D _ = lz
        have lcc : (lc == lc) = true := by simp
        go_wp2
        go_ret
        exact ⟨rfl, B8.out⟩
end Go.Proofs.Ytcimceepkjpggaa
