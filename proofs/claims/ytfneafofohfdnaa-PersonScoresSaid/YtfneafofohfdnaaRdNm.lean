/-
  What readName of package person returns: the signs and the error of a name's text; a contract for all worlds.
-/
import Derived.Test.YtfneafofohfdnaaCutS
import Derived.Laws.AppendOwn
import Derived.Deep.AppendLies
namespace Go.Proofs.Ytfneafofohfdnaa
open Go.RowKit
attribute [local go_sem] set_drewN
theorem infoSg : (Try.prog.info? 74).map (fun i => (i.zero, i.size, i.bytes)) = some (some (.int .u64 0), 1, 8) := by kernel_rfl
def sgV (m : Nat) : Value := .int .u64 (m : Int)
/-- signs lie in a row -/
def SgAt (W : World) (g : Nat) (M : List Nat) : Prop := g < W.heap.size ∧ ∀ j (h : j < M.length), W.cell? ⟨g, j, none⟩ = some (.int .u64 (M[j] : Int))
theorem SgAt.below {W W' : World} {g : Nat} {M : List Nat} (h : SgAt W g M) (hb : Below W.heap.size W W') : SgAt W' g M :=
  ⟨Nat.lt_of_lt_of_le h.1 hb.size, fun j hj => (hb.cell (p := ⟨g, j, none⟩) h.1).trans (h.2 j hj)⟩
/-- a row of signs of one's own -/
def SRow (w0 W : World) (D : List Nat) (v : Value) : Prop := W.ownsRow w0.heap.size 74 1 v D.length (D.map sgV) ∧ Below w0.heap.size w0 W
theorem SRow.closed {w0 W : World} {D : List Nat} {v : Value} (h : SRow w0 W D v) : ∃ a cap, v = .slice a D.length cap ∧ (D ≠ [] → ∃ g, a = some ⟨g, 0, none⟩ ∧ SgAt W g D) := by
  obtain ⟨ho, hb⟩ := h
  rcases ho.2 with ⟨e, h0⟩ | ⟨g, cap, cur, rfl, hbase, hr⟩
  · have : D = [] := List.length_eq_zero_iff.1 h0
    subst this
    exact ⟨none, 0, e, fun h => absurd rfl h⟩
  · refine ⟨_, cap, rfl, fun _ => ⟨g, rfl, (ho.lt g rfl).2, fun j hj => ?_⟩⟩
    have := ho.cells (g := g) rfl j (sgV D[j]) (by rw [List.getElem?_map, List.getElem?_eq_getElem hj]; rfl)
    rw [addB] at this
    exact this
theorem SRow.below {w0 W W' : World} {D : List Nat} {v : Value} (h : SRow w0 W D v) (hb : Below W.heap.size W W') : SRow w0 W' D v :=
  ⟨h.1.kept (row := none) ⟨hb.os, hb.tape, hb.output, hb.size, fun j hj _ => hb.block j hj⟩ (by cases v.ownBlock <;> simp), h.2.trans (hb.mono h.2.size)⟩
theorem SRow.snoc {w0 w1 w2 : World} {D : List Nat} {x : Nat} {v v' : Value} (h : w2.ownsRow w0.heap.size 74 1 v' (D.length + 1) (D.map sgV ++ [sgV x])) (hb : Below w0.heap.size w0 w1) (hg : w1.grownBy w2 v.ownBlock) (ho : w1.ownsRow w0.heap.size 74 1 v D.length (D.map sgV)) :
    SRow w0 w2 (D ++ [x]) v' :=
  ⟨by simpa using h, hb.grown hg hb.size (fun k' e' => (ho.lt k' e').1)⟩
/-- what readName returns -/
def RNPost (s : List UInt8) (w : World) (e : Ending) (w' : World) : Prop :=
  ∃ a n c, e = .returned (two (.slice a n c) (.int .i64 (nmE s))) ∧ n ≤ 25 ∧ (∀ M, nmE s = 0 → rdN s = some M → ∃ g, a = some ⟨g, 0, none⟩ ∧ n = M.length ∧ SgAt w' g M) ∧ Below w.heap.size w w'
def strSz : Value → Nat
  | .string s => s.size
  | _ => 0
theorem nmE_none {s : List UInt8} (h : rdN s = none) : nmE s = 7 := by unfold nmE; rw [h]
theorem nmE_some {s : List UInt8} {M : List Nat} (h : rdN s = some M) : nmE s = feE [eI (decide (s = [])) 7, eI (decide (24 < M.length)) 8] := by
  unfold nmE
  rw [h]
  simp only
  by_cases h1 : s = []
  · simp [h1, eI, feE]
  · by_cases h2 : 24 < M.length <;> simp [h1, h2, eI, feE]
set_option maxRecDepth 100000 in
set_option maxHeartbeats 4000000 in
theorem readName_any (s : List UInt8) (w : World) (hl : s.length ≤ 1000000000000) : Calls Try.prog 34 #[.string ⟨s.toArray⟩] w (RNPost s w) := by
  obtain ⟨i0, hi, hz0, hz1, hz2⟩ := info_parts infoSg
  go_enter Try.func34, Try.ntmps34
  go_wp2
  go_loopw [4, 5] (fun lv rv wr => ∃ (P D : List Nat) (r : List UInt8), rv = .string ⟨r.toArray⟩ ∧ Hid (rdN s = (rdN r).map (fun l => P ++ l)) ∧ D = P.take 25 ∧ r.length ≤ s.length ∧ Hid (SRow w wr D lv)) (fun _ rv _ => strSz rv)
  case atStart => exact ⟨[], [], s, rfl, Lib.hid (by simp), rfl, Nat.le_refl _, Lib.hid ⟨World.ownsRow_nil _ _ _ _, Below.refl _ _⟩⟩
  case round =>
    obtain ⟨P, D, r, rfl, HP, hD, hrl, HRow⟩ := hrel
    have hsz := HRow.out.2.size
    by_cases hr0 : r = []
    · subst hr0
      have hP := HP.out
      rw [rdN_nil] at hP
      have hP' : rdN s = some P := by rw [hP]; simp
      have HE := Lib.hid (nmE_some hP')
      obtain ⟨a, cap, rfl, hcl⟩ := HRow.out.closed
      have HC := Lib.hid hcl
      have hDl : D.length = min 25 P.length := by rw [hD, List.length_take]
      have HG := Lib.hid (show nmE s = 0 → D = P ∧ D ≠ [] by
        intro h0
        obtain ⟨M, hM, hr, _⟩ := gd_nmE h0
        rw [hP'] at hr
        obtain rfl := Option.some.inj hr
        have h1 := hM.2.1
        have h2 := hM.1
        refine ⟨by rw [hD, List.take_of_length_le (by omega)], ?_⟩
        rw [hD, List.take_of_length_le (by omega)]
        intro e; rw [e] at h2; simp at h2)
      have HP2 := Lib.hid hP'
      obtain ⟨E, hE⟩ : ∃ E, nmE s = E := ⟨_, rfl⟩
      rw [hE] at HE
      have HE2 := Lib.hid hE
      have hd8 : decide (24 < P.length) = decide ((24 : Int) < (D.length : Int)) := by rw [hDl]; congr 1; apply propext; omega
      have hD25 : D.length ≤ 25 := by omega
      rw [hd8] at HE
      clear hP hP' hcl hD hE hd8 HP hDl
      have hs : decide (s = []) = (s == []) := by cases s <;> simp
      rw [hs] at HE
      clear hs
      obtain ⟨q1, hq1⟩ : ∃ q, (s == []) = q := ⟨_, rfl⟩
      rw [hq1] at HE
      obtain ⟨q2, hq2⟩ : ∃ q, decide ((24 : Int) < (D.length : Int)) = q := ⟨_, rfl⟩
      rw [hq2] at HE
      go_wp2_with (first
        | (go_at_call 38; refine (errorIf_any _ _ _).mono ?_; rintro e w' ⟨rfl, rfl⟩)
        | (go_at_call 37; refine (firstError_any [eI q1 7, eI q2 8] _ 0 2 _ (by simp) (IntsAt.cons (by simp [go_sem]) (IntsAt.one (by simp [go_sem])))).mono ?_; rintro e w' ⟨rfl, rfl⟩))
      go_ret2
      refine ⟨a, D.length, cap, ?_, hD25, ?_, ((HRow.out.2).alloc hsz _)⟩
      · rw [← HE.out, HE2.out]; rfl
      · intro M h0 hM
        rw [HP2.out] at hM
        obtain rfl := Option.some.inj hM
        obtain ⟨e1, e2⟩ := HG.out h0
        obtain ⟨g, rfl, hg⟩ := HC.out e2
        refine ⟨g, rfl, by rw [e1], ?_⟩
        rw [← e1]
        exact hg.below ((Below.refl _ _).alloc (Nat.le_refl _) _)
    · have hie : r.isEmpty = false := by simpa using hr0
      have hb1 : (r != []) = true := by simpa using hr0
      have hcl := Lib.hid (fun w => cutSign_any r w hr0 (by omega))
      have hlt := cutS_lt hr0
      obtain ⟨X, hX⟩ : ∃ X, (cutS r).1 = X := ⟨_, rfl⟩
      obtain ⟨Y, hY⟩ : ∃ Y, (cutS r).2 = Y := ⟨_, rfl⟩
      have hXl : X.length ≤ r.length := by
        have h := congrArg List.length (cutS_app (s := r))
        rw [List.length_append] at h
        rw [← hX]; omega
      have hrs := Lib.hid (fun w => readSign_any X w (by omega))
      have hyes := Lib.hid (fun (k : (rdS X).2 = true) => by have h := rdN_yes hr0 (by rw [hX]; exact k); rw [hX, hY] at h; exact h)
      have hno := Lib.hid (fun (k : (rdS X).2 = false) => rdN_no hr0 (by rw [hX]; exact k))
      rw [hX, hY] at hcl
      rw [hY] at hlt
      clear hX hY
      obtain ⟨⟨m, ok⟩, hm⟩ : ∃ q, rdS X = q := ⟨_, rfl⟩
      rw [hm] at hrs hyes hno
      have HR0 := Lib.hid hr0
      clear hm hr0
      cases ok
      · have hn := hno.out rfl
        have hP := HP.out
        rw [hn] at hP
        have hnone : rdN s = none := hP
        have he7 := nmE_none hnone
        have H7 := Lib.hid (show RNPost s w = fun e w' => ∃ a n c, e = .returned (two (.slice a n c) (.int .i64 7)) ∧ n ≤ 25 ∧ (∀ M, nmE s = 0 → rdN s = some M → ∃ g, a = some ⟨g, 0, none⟩ ∧ n = M.length ∧ SgAt w' g M) ∧ Below w.heap.size w w' by unfold RNPost; rw [he7])
        have H8 := Lib.hid he7
        clear hn hP hnone he7 hyes hno
        go_wp2_with (first
          | (go_at_call 57; refine (hcl.out _).mono ?_; rintro e w1 ⟨rfl, hb1'⟩; have q1 := hb1'.size; have B1 := Lib.hid (HRow.out.2.trans (hb1'.mono hsz)))
          | (go_at_call 58; refine (hrs.out _).mono ?_; rintro e w2 ⟨rfl, hb2⟩; have q2 := hb2.size; have B2 := Lib.hid (B1.out.trans (hb2.mono (by omega)))))
        go_ret2
        rw [H7.out]
        exact ⟨_, _, _, rfl, by omega, fun M h0 => by rw [H8.out] at h0; simp at h0, B2.out⟩
      · have hP := HP.out
        rw [hyes.out rfl] at hP
        have HPn := Lib.hid (show rdN s = (rdN Y).map (fun l => (P ++ [m]) ++ l) by rw [hP, Option.map_map]; congr 1; funext l; simp)
        have hDl : D.length ≤ 25 := by rw [hD, List.length_take]; omega
        have HD := Lib.hid hD
        have HDl := Lib.hid (show D.length = min 25 P.length by rw [hD, List.length_take])
        clear hP hyes hno hD
        by_cases h24 : D.length ≤ 24
        · have HDn := Lib.hid (show D ++ [m] = (P ++ [m]).take 25 by
            have h1 := HDl.out
            have h2 : P.length ≤ 24 := by omega
            rw [HD.out, List.take_of_length_le (by omega), List.take_of_length_le (by simp; omega)])
          go_wp2_with (first
            | (go_at_call 57; refine (hcl.out _).mono ?_; rintro e w1 ⟨rfl, hb1'⟩; have q1 := hb1'.size; have R1 := Lib.hid (HRow.out.below hb1'))
            | (go_at_call 58; refine (hrs.out _).mono ?_; rintro e w2 ⟨rfl, hb2⟩; have q2 := hb2.size; have R2 := Lib.hid (R1.out.below hb2); obtain ⟨a2, c2, rfl, _⟩ := R2.out.closed)
            | (at_builtin; refine wpList_append_own _ rfl _ _ 70 rfl w.heap.size 74 i0 _ 1 8 Try.underlying70 hi hz0 hz1 hz2 rfl (by decide) _ _ _ rfl (R2.out.1.alloc _) ⟨w2.heap.size, 0, none⟩ 1 1 [sgV m] rfl rfl ?c1 ?c2 ?c3 ?c4 ?c5 ?_))
          case c1 => exact World.news_of_block (cs := #[sgV m]) (heap_alloc_new _ _)
          case c2 => simp [sgV, Value.oneCell']
          case c3 => unfold maxLen; omega
          case c4 => omega
          case c5 => simp; omega
          intro v3 w3 hown3 hgrow3 _
          have D3 := Lib.hid (SRow.snoc (x := m) hown3 (R2.out.2.alloc (by omega) _) hgrow3 (R2.out.1.alloc _))
          go_wp2
          go_roundw
          case rel => exact ⟨P ++ [m], D ++ [m], Y, rfl, HPn, HDn.out, by omega, D3⟩
          case measure =>
            show Y.toArray.size < r.toArray.size
            simp; omega
        · have h25 : decide ((D.length : Int) ≤ 24) = false := by rw [decide_eq_false_iff_not]; omega
          have HDn := Lib.hid (show D = (P ++ [m]).take 25 by
            have h1 := HDl.out
            have h2 : 25 ≤ P.length := by omega
            rw [HD.out, List.take_append_of_le_length h2])
          clear h24
          go_wp2_with (first
            | (go_at_call 57; refine (hcl.out _).mono ?_; rintro e w1 ⟨rfl, hb1'⟩; have q1 := hb1'.size; have R1 := Lib.hid (HRow.out.below hb1'))
            | (go_at_call 58; refine (hrs.out _).mono ?_; rintro e w2 ⟨rfl, hb2⟩; have q2 := hb2.size; have R2 := Lib.hid (R1.out.below hb2); obtain ⟨a2, c2, rfl, _⟩ := R2.out.closed))
          go_roundw
          case rel => exact ⟨P ++ [m], D, Y, rfl, HPn, HDn.out, by omega, R2⟩
          case measure =>
            show Y.toArray.size < r.toArray.size
            simp; omega
end Go.Proofs.Ytfneafofohfdnaa
