/-
  What anyOf and HolidaysOf of the specification of package rule, and HolidaysOf of the package, return: contracts, each for all worlds in which the list lies.
-/
import Derived.Test.YtfphedcgmaakjaaRefIs
namespace Go.Proofs.Ytfphedcgmaakjaa
open Go.RowKit
attribute [local go_sem] set_drewN
theorem anyB_snoc {l : List Hd} {n : Int} {k : Nat} {h : Hd} (hk : k < l.length) (hp : l[k] = h) : anyB (l.take (k + 1)) n = (anyB (l.take k) n || isB h n) := by
  unfold anyB
  rw [List.take_succ_eq_append_getElem hk, hp, List.any_append]
  simp
theorem anyB_yes {l : List Hd} {n : Int} {k : Nat} {h : Hd} (hk : k < l.length) (hp : l[k] = h) (hb : isB h n = true) : anyB l n = true := by
  unfold anyB
  rw [List.any_eq_true]
  exact ⟨h, by rw [← hp]; exact List.getElem_mem hk, hb⟩
set_option maxRecDepth 100000 in
set_option maxHeartbeats 1000000 in
theorem xanyOf_any (l : List Hd) (n : Int) (b o cap : Nat) (w : World) (hl : l.length ≤ 1000) (hv : ∀ h ∈ l, hkE h = 0) (h0 : 0 ≤ n) (h9 : n ≤ 200000) (hc : HdsAt w b o l) :
    Calls Try.prog 83 #[.slice (some ⟨b, o, none⟩) l.length cap, .int .i64 n] w (RetB (.bool (anyB l n)) w) := by
  have HC := Lib.hid hc
  have HVD := Lib.hid hv
  clear hc hv
  go_enter Try.func83, Try.ntmps83
  go_wp2
  go_loopw [5] (fun i wr => ∃ k : Nat, k ≤ l.length ∧ i = .int .i64 k ∧ anyB (l.take k) n = false ∧ Below w.heap.size w wr) (fun i _ => l.length - (intOf i).toNat)
  case atStart => exact ⟨0, Nat.zero_le _, rfl, by simp [anyB], Below.refl _ _⟩
  case round =>
    obtain ⟨k, hk, rfl, hno, hB⟩ := hrel
    have HNO := Lib.hid hno
    clear hno
    by_cases hlt : k < l.length
    · obtain ⟨⟨c0, c1, c2, c3, c4⟩, hsz⟩ := (HC.out.below hB).2 k hlt
      obtain ⟨p, hp⟩ : ∃ p, l[k] = p := ⟨_, rfl⟩
      rw [hp] at c0 c1 c2 c3 c4 hsz
      have sn := Lib.hid (anyB_snoc (n := n) hlt hp)
      have ys : Hid (isB p n = true → anyB l n = true) := Lib.hid (fun hb => anyB_yes (n := n) hlt hp hb)
      have IS := Lib.hid (fun W => xIs_any p n W (HVD.out p (by rw [← hp]; exact List.getElem_mem hlt)) h0 h9)
      clear hp
      obtain ⟨q, hq⟩ : ∃ q, isB p n = q := ⟨_, rfl⟩
      rw [hq] at sn ys IS
      clear hq
      obtain ⟨nm, kd, mo, dy, wd⟩ := p
      simp only at c0 c1 c2 c3 c4 hsz
      simp only [Hd.val] at IS
      have hs := hB.size
      cases q
      · go_wp2_with fail
        refine (IS.out _).mono ?_
        rintro e w1 ⟨rfl, hb1⟩
        have B1 := hB.trans (hb1.mono hs)
        go_wp2
        go_roundw
        case rel => exact ⟨k + 1, by omega, by go_num, by rw [sn.out, HNO.out]; rfl, B1⟩
        case measure => simp [intOf]; omega
      · go_wp2_with fail
        refine (IS.out _).mono ?_
        rintro e w1 ⟨rfl, hb1⟩
        have B1 := hB.trans (hb1.mono hs)
        go_wp2
        go_ret
        exact ⟨by rw [show anyB l n = true from by first | exact ys.out trivial | exact ys.out rfl]; rfl, B1⟩
    · obtain rfl : k = l.length := by omega
      go_wp2
      go_ret
      exact ⟨by have := HNO.out; rw [List.take_length] at this; rw [this]; rfl, hB⟩
theorem dfr_len (l : List Hd) (a : Int) : ∀ k, (dfr l a k).length ≤ k
  | 0 => Nat.le_refl _
  | k + 1 => by
    have := dfr_len l a k
    rw [dfr, List.length_append]
    split <;> simp <;> omega
theorem DaysRow.closed {w0 W : World} {F : List Int} {v : Value} (h : DaysRow w0 W F v) : Closed W w0.heap.size v F := by
  obtain ⟨ho, hn, hb⟩ := h
  by_cases hF : F = []
  · exact .inl ⟨hF, hn hF⟩
  · rcases ho.2 with ⟨_, h0⟩ | ⟨g, cap, cur, rfl, hbase, hr⟩
    · exact absurd (List.length_eq_zero_iff.1 h0) hF
    · exact closed_of ho rfl hbase
set_option maxRecDepth 100000 in
set_option maxHeartbeats 1000000 in
theorem xHolidaysOf_any (l : List Hd) (y : Int) (sv : Value) (G : World → Prop) (hG : ∀ W W', G W → Below W.heap.size W W' → G W') (w : World) (g0 : G w) (h0 : 1800 ≤ y) (h9 : y ≤ 2346)
    (cA : Hid (∀ W n, G W → 0 ≤ n → n ≤ 200000 → Calls Try.prog 83 #[sv, .int .i64 n] W (RetB (.bool (anyB l n)) W))) :
    Calls Try.prog 38 #[sv, .int .i64 y] w (DaysPost (dfr l (Cal.ny y) (Cal.ny (y + 1) - Cal.ny y).toNat) w) := by
  obtain ⟨i0, hi, hz0, hz1, hz2⟩ := info_parts infoInt
  have hg0 := Lib.hid g0
  clear g0
  have a0 := ny_0 h0
  have a1 := Cal.ny_mono y (y + 1) (by omega)
  have a2 := Cal.ny_mono (y + 1) 2347 (by omega)
  have a3 : Cal.ny 2347 = 199787 := by decide +kernel
  have a4 : Cal.ny (y + 1) - Cal.ny y ≤ 366 := by have := Cal.ny_succ y; have := Cal.lp_01 y; omega
  obtain ⟨N, hN⟩ : ∃ N : Nat, Cal.ny (y + 1) = Cal.ny y + N := ⟨(Cal.ny (y + 1) - Cal.ny y).toNat, by omega⟩
  have hNe : (Cal.ny (y + 1) - Cal.ny y).toNat = N := by omega
  rw [hNe]
  have hF1 := Lib.hid (fun W => First_1 y W (by omega) (by omega))
  have hF2 := Lib.hid (fun W => First_1 (y + 1) W (by omega) (by omega))
  rw [hN] at hF2
  have hN9 : N ≤ 366 := by omega
  have ha9 : Cal.ny y + N ≤ 199787 := by omega
  clear hN hNe a1 a2 a3 a4
  generalize Cal.ny y = A at *
  go_enter Try.func38, Try.ntmps38
  go_wp2_with (go_at_call 72; refine (hF1.out _).mono ?_; rintro e w' ⟨rfl, rfl⟩)
  go_loopw [5, 6] (fun v i wr => ∃ k : Nat, k ≤ N ∧ i = .int .i64 (A + k) ∧ DaysRow w wr (dfr l A k) v) (fun _ i _ => ((A + N) - (intOf i)).toNat)
  case atStart => exact ⟨0, Nat.zero_le _, by simp, World.ownsRow_nil _ _ _ _, fun _ => rfl, Below.refl _ _⟩
  case round =>
    obtain ⟨k, hk, rfl, hrow⟩ := hrel
    have hB := hrow.2.2
    have hs := hB.size
    have HR := Lib.hid hrow
    clear hrow
    have fl := dfr_len l A k
    have hg := Lib.hid (hg0.out)
    by_cases hlt : k < N
    · have hlt' : decide (A + k < A + N) = true := by simp; omega
      cases hq : anyB l (A + k)
      · have SN := Lib.hid (show dfr l A (k + 1) = dfr l A k by rw [dfr, hq]; simp)
        have CA := Lib.hid (fun W (hW : G W) => cA.out W (A + k) hW (by omega) (by omega))
        rw [hq] at CA
        clear hq
        have GR := Lib.hid (hG _ _ hg0.out hB)
        go_wp2_with (go_at_call 72; refine (hF2.out _).mono ?_; rintro e w' ⟨rfl, rfl⟩)
        refine (CA.out _ GR.out).mono ?_
        rintro e w2 ⟨rfl, hb2⟩
        have B2 := Lib.hid (hB.trans (hb2.mono hs))
        have own2 := Lib.hid (ownsRow_below HR.out.1 hb2)
        have s2 := hb2.size
        clear hb2
        have D3 : Hid (DaysRow w w2 (dfr l A k) u5) := Lib.hid ⟨own2.out, HR.out.2.1, B2.out⟩
        go_wp2
        go_roundw
        case rel => exact ⟨k + 1, by omega, by go_num, by rw [SN.out]; exact D3.out⟩
        case measure => simp [intOf]; omega
      · have SN := Lib.hid (show dfr l A (k + 1) = dfr l A k ++ [A + k] by rw [dfr, hq]; simp)
        have CA := Lib.hid (fun W (hW : G W) => cA.out W (A + k) hW (by omega) (by omega))
        rw [hq] at CA
        clear hq
        have GR := Lib.hid (hG _ _ hg0.out hB)
        go_wp2_with (go_at_call 72; refine (hF2.out _).mono ?_; rintro e w' ⟨rfl, rfl⟩)
        refine (CA.out _ GR.out).mono ?_
        rintro e w2 ⟨rfl, hb2⟩
        have B2 := Lib.hid (hB.trans (hb2.mono hs))
        have own2 := Lib.hid (ownsRow_below HR.out.1 hb2)
        have s2 := hb2.size
        clear hb2
        generalize hF : dfr l A k = F at *
        clear hF
        go_wp2_with (at_builtin; refine wpList_append_own _ rfl _ _ 48 rfl w.heap.size 3 i0 (.int .i64 0) 1 8 Try.underlying48 hi hz0 hz1 hz2 rfl (by decide) _ _ _ rfl (own2.out.alloc _) ⟨w2.heap.size, 0, none⟩ 1 1 [.int .i64 (A + k)] rfl rfl ?c1 ?c2 ?c3 ?c4 ?c5 ?_)
        case c1 => exact World.news_of_block (cs := #[.int .i64 (A + k)]) (heap_alloc_new _ _)
        case c2 => simp [Value.oneCell']
        case c3 => unfold maxLen; omega
        case c4 => omega
        case c5 => simp; omega
        intro v3 w3 hown3 hgrow3 _
        have D3 := Lib.hid (DaysRow.snoc hown3 (B2.out.alloc (by omega) _) hgrow3 (own2.out.alloc _))
        go_wp2
        go_roundw
        case rel => exact ⟨k + 1, by omega, by go_num, by rw [SN.out]; exact D3.out⟩
        case measure => simp [intOf]; omega
    · obtain rfl : k = N := by omega
      have hlt' : decide (A + (k : Int) < A + k) = false := by simp
      go_wp2_with (go_at_call 72; refine (hF2.out _).mono ?_; rintro e w' ⟨rfl, rfl⟩)
      go_ret
      exact ⟨_, rfl, HR.out.closed, hB⟩
end Go.Proofs.Ytfphedcgmaakjaa
