/-
  CheckDues of package money: a contract for all worlds and lists.
-/
import Derived.Test.YtcimceepkjpggaaMnD
import Derived.Laws.EntriesVeiled
namespace Go.Proofs.Ytcimceepkjpggaa
open Go.RowKit
attribute [local go_sem] set_drewN
/-- the closures of a check of ascending days lie: B1 holds the one over B0, which holds the day before -/
structure CS (B0 B1 : Nat) (p : Int) (W : World) : Prop where
  f : W.cell? ⟨B1, 0, none⟩ = some (ascF B0)
  c : W.cell? ⟨B0, 0, none⟩ = some (.int .i64 p)
  z : W.frozen? ⟨B0, 0, none⟩ = false
  l0 : B0 < W.heap.size
  l1 : B1 < W.heap.size
  n1 : B1 ≠ B0
theorem CS.below {B0 B1 : Nat} {p : Int} {W W' : World} (h : CS B0 B1 p W) (hb : Below W.heap.size W W') : CS B0 B1 p W' :=
  ⟨(hb.cell (p := ⟨B1, 0, none⟩) h.l1).trans h.f, (hb.cell (p := ⟨B0, 0, none⟩) h.l0).trans h.c, (hb.frozen (p := ⟨B0, 0, none⟩) h.l0).trans h.z, Nat.lt_of_lt_of_le h.l0 hb.size, Nat.lt_of_lt_of_le h.l1 hb.size, h.n1⟩
theorem CS.al {B0 B1 : Nat} {p : Int} {W : World} (h : CS B0 B1 p W) (o : Obj) : CS B0 B1 p (W.alloc o) := h.below ((Below.refl _ _).alloc (Nat.le_refl _) o)
theorem CS.gb {B0 B1 : Nat} {p q : Int} {W W' : World} (h : CS B0 B1 p W) (g : W.grownBy W' (some B0)) (hc : W'.cell? ⟨B0, 0, none⟩ = some (.int .i64 q)) (hz : W'.frozen? ⟨B0, 0, none⟩ = false) : CS B0 B1 q W' :=
  ⟨g.cell h.f (fun e => h.n1 (Option.some.inj e)), hc, hz, Nat.lt_of_lt_of_le h.l0 g.size, Nat.lt_of_lt_of_le h.l1 g.size, h.n1⟩
theorem dues1_any (d : Du) (p : Int) (B0 B1 : Nat) (w : World) (h : CS B0 B1 p w) :
    Calls Try.prog 74 #[d.val, .pointer (some ⟨B1, 0, none⟩)] w fun e w' => e = .returned (.int .i64 (duE p d)) ∧ w.grownBy w' (some B0) ∧ CS B0 B1 d.day w' := by
  have hp : ∀ r, DuPost B0 w d.day r = fun e w' => e = .returned (.int .i64 r) ∧ w.grownBy w' (some B0) ∧ w'.cell? ⟨B0, 0, none⟩ = some (.int .i64 d.day) ∧ w'.frozen? ⟨B0, 0, none⟩ = false := fun _ => rfl
  cases hd : inB d.day 0 200000
  · refine (dues1_n d p B0 B1 w (duE p d) hd h.f h.c h.z h.l0 h.l1 h.n1 (by unfold duE; rw [hd]; rfl)).mono ?_
    rintro e w' ⟨he, g, hc, hz⟩
    exact ⟨he, g, h.gb g hc hz⟩
  · refine (dues1_y d p B0 B1 w (duE p d) hd _ rfl h.f h.c h.z h.l0 h.l1 h.n1 (by unfold duE; rw [hd]; rfl)).mono ?_
    rintro e w' ⟨he, g, hc, hz⟩
    exact ⟨he, g, h.gb g hc hz⟩
abbrev chkF (B1 : Nat) : Value := .func (.func 74) #[] #[.pointer (some ⟨B1, 0, none⟩)]
set_option maxRecDepth 100000 in
set_option maxHeartbeats 2000000 in
theorem each_Due (L : List Du) (v : Value) (B0 B1 : Nat) (w : World) (hl : L.length ≤ 1000000000000) (hv : LD w v L) (hs : L ≠ [] → ∀ b o n c, v = .slice (some ⟨b, o, none⟩) n c → b ≠ B0) (hc : CS B0 B1 0 w) :
    Calls Try.prog 73 #[v, .int .i64 120, chkF B1] w fun e w' => e = .returned (.int .i64 (duesE L)) ∧ w.grownBy w' (some B0) := by
  obtain ⟨a, cp, rfl, -, hp⟩ := hv
  have HP := Lib.hid hp
  have HS := Lib.hid hs
  have HC := Lib.hid hc
  clear hp hs hc
  by_cases h2 : 120 < L.length
  · have e : duesE L = 8 := by unfold duesE; rw [if_pos h2]
    rw [e]
    clear e
    go_enter Try.func73, Try.ntmps73
    go_wp2
    go_ret
    exact ⟨rfl, gb_refl _ _⟩
  · have e : duesE L = feE (errsD 0 L) := by unfold duesE; rw [if_neg h2]
    obtain ⟨R, hR⟩ : ∃ R, feE (errsD 0 L) = R := ⟨_, rfl⟩
    rw [e, hR]
    have HR := Lib.hid hR
    have d120 : decide (120 < L.length) = false := decide_eq_false h2
    clear e hR
    go_enter Try.func73, Try.ntmps73
    go_wp2
    go_loopw [16] (fun i wr => ∃ k : Nat, k ≤ L.length ∧ i = .int .i64 k ∧ Hid (∀ x ∈ (errsD 0 L).take k, x = 0) ∧ Hid (CS B0 B1 (prevD 0 L k) wr) ∧ Hid (w.grownBy wr (some B0))) (fun i _ => L.length - (intOf i).toNat)
    case atStart => exact ⟨0, Nat.zero_le _, rfl, Lib.hid (by simp), Lib.hid (by simpa [prevD] using HC.out), Lib.hid (gb_refl _ _)⟩
    case round =>
      obtain ⟨k, hk, rfl, HA, HK, HG⟩ := hrel
      have hsz := HG.out.size
      by_cases hlt : k < L.length
      · have hne : L ≠ [] := by rintro rfl; simp at hlt
        obtain ⟨b, o, rfl, hd⟩ := HP.out hne
        have hnb := HS.out hne b o _ _ rfl
        obtain ⟨c0, c1⟩ := hd.2 k hlt
        have c0 := HG.out.cell c0 (fun e => hnb (Option.some.inj e))
        have c1 := HG.out.cell c1 (fun e => hnb (Option.some.inj e))
        have CK := Lib.hid (fun ob => dues1_any L[k] (prevD 0 L k) B0 B1 (wr.alloc ob) (HK.out.al ob))
        have PS := Lib.hid (prevD_succ 0 L k hlt)
        clear hd hnb
        by_cases hz : duE (prevD 0 L k) L[k] = 0
        · have HA2 := Lib.hid (errs_take_ok hlt HA.out hz)
          rw [hz] at CK
          clear hz
          generalize prevD 0 L k = p at *
          generalize L[k] = d at *
          go_wp2_with (go_at_call 74; refine (CK.out _).mono ?_; rintro e w2 ⟨rfl, hg2, hc2⟩; have q2 := hg2.size; have G2 := Lib.hid hg2; have C2 := Lib.hid hc2; clear hg2 hc2)
          go_roundw
          case rel => exact ⟨k + 1, by omega, by go_num, HA2, Lib.hid (by rw [PS.out]; exact C2.out), Lib.hid ((HG.out.trans (World.grownBy_alloc _ _ _)).trans G2.out)⟩
          case measure => simp [intOf]; omega
        · have HRk := Lib.hid ((errs_bad hlt HA.out hz).symm.trans HR.out)
          have e1 : duE (prevD 0 L k) L[k] = R := HRk.out
          rw [e1] at CK
          have hz2 : ¬ R = 0 := fun h => hz (e1.trans h)
          have hzb : (R != 0) = true := by simpa using hz2
          clear hz e1 HRk
          generalize prevD 0 L k = p at *
          generalize L[k] = d at *
          go_wp2_with (go_at_call 74; refine (CK.out _).mono ?_; rintro e w2 ⟨rfl, hg2, hc2⟩; have q2 := hg2.size; have G2 := Lib.hid hg2; clear hg2 hc2)
          go_ret
          exact ⟨rfl, (HG.out.trans (World.grownBy_alloc _ _ _)).trans G2.out⟩
      · obtain rfl : k = L.length := by omega
        have e0 : R = 0 := HR.out.symm.trans (errs_all HA.out)
        subst e0
        go_wp2
        go_ret
        exact ⟨rfl, HG.out⟩
theorem CheckDues_any (L : List Du) (v : Value) (w : World) (hl : L.length ≤ 1000000000000) (hv : LD w v L) : Calls Try.prog 39 #[v] w (RetB (.int .i64 (duesE L)) w) := by
  have HV := Lib.hid hv
  clear hv
  go_enter Try.func39, Try.ntmps39
  go_wp2_with fail
  refine (ascending_any _).mono ?_
  rintro e w1 ⟨rfl, hs1, hb1, hc1, hf1⟩
  have B1 := Lib.hid hb1
  have V1 := Lib.hid (HV.out.below hb1)
  have hx : ∀ ob : Obj, ∀ W, W = w1.alloc ob → W.cell? ⟨w1.heap.size, 0, none⟩ = some (ascF w.heap.size) → CS w.heap.size w1.heap.size 0 W := by
    rintro ob W rfl hW
    have ha := (Below.refl w1.heap.size w1).alloc (Nat.le_refl _) ob
    exact ⟨hW, (ha.cell (p := ⟨w.heap.size, 0, none⟩) (by show w.heap.size < w1.heap.size; omega)).trans hc1, (ha.frozen (p := ⟨w.heap.size, 0, none⟩) (by show w.heap.size < w1.heap.size; omega)).trans hf1, by simp; omega, by simp, by omega⟩
  have HX := Lib.hid hx
  have S1 := Lib.hid hs1
  clear hx hc1 hf1 hb1 hs1
  unfold ascF
  go_wp2_with fail
  refine (each_Due L v w.heap.size w1.heap.size _ hl (V1.out.below ((Below.refl _ _).alloc (Nat.le_refl _) _)) ?_ (HX.out (.cells #[ascF w.heap.size] 95) _ rfl ?_)).mono ?_
  · intro hne b o n c e1
    obtain ⟨a, c', e2, -, hq⟩ := HV.out
    obtain ⟨b', o', rfl, hd⟩ := hq hne
    rw [e1] at e2
    injection e2 with e3
    injection e3 with e4
    injection e4 with e5
    have := hd.1
    omega
  · simp [go_sem]
  rintro e w2 ⟨rfl, hg2⟩
  have G2 := Lib.hid hg2
  clear hg2
  go_wp2
  go_ret
  exact ⟨rfl, below_gb (B1.out.alloc B1.out.size _) G2.out (Nat.le_trans B1.out.size ((Below.refl _ _).alloc (Nat.le_refl _) _).size) (Nat.le_refl _)⟩
end Go.Proofs.Ytcimceepkjpggaa
