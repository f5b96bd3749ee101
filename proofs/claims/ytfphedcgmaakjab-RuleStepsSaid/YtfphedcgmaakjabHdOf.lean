/-
  What holidaysOf of package rule returns: a contract for all worlds in which the list lies in one block.
-/
import Derived.Test.YtfphedcgmaakjabWkd
import Derived.Test.YtfphedcgmaakjabApp
import Derived.Test.YtfphedcgmaakjabIterL
namespace Go.Proofs.Ytfphedcgmaakjab
open Go.RowKit Go.Sort Go.Lib
attribute [local go_sem] set_drewN
theorem hdays_snoc {l : List Hd} {y : Int} {k : Nat} {h : Hd} (hk : k < l.length) (hp : l[k] = h) : hdays (l.take (k + 1)) y = hdays (l.take k) y ++ (hday h y).toList := by
  rw [List.take_succ_eq_append_getElem hk, hp]
  unfold hdays
  rw [List.filterMap_append]
  congr 1
theorem hdays_le (l : List Hd) (y : Int) (k : Nat) : (hdays (l.take k) y).length ≤ k := by
  unfold hdays
  exact Nat.le_trans (List.length_filterMap_le _ _) (List.length_take_le _ _)
theorem ownsRow_below {w w' : World} {base : Nat} {e : TypeId} {size n : Nat} {v : Value} {xs : List Value} (h : w.ownsRow base e size v n xs) (hb : Below w.heap.size w w') : w'.ownsRow base e size v n xs :=
  h.kept (row := none) ⟨hb.os, hb.tape, hb.output, hb.size, fun j hj _ => hb.block j hj⟩ (by cases v.ownBlock <;> simp)
theorem addi (b j : Nat) : Addr.add ⟨b, 0, none⟩ j = ⟨b, 0 + j, none⟩ := by
  unfold Addr.add
  split
  · rename_i e; subst e; rfl
  · rfl
/-- the row of days so far -/
def DaysRow (w0 W : World) (F : List Int) (v : Value) : Prop := W.ownsRow w0.heap.size 3 1 v F.length (F.map (Value.int .i64)) ∧ NilIf F v ∧ Below w0.heap.size w0 W
theorem DaysRow.snoc {w0 w1 w2 : World} {F : List Int} {x : Int} {v v' : Value} (h : w2.ownsRow w0.heap.size 3 1 v' (F.length + 1) (F.map (Value.int .i64) ++ [.int .i64 x])) (hb : Below w0.heap.size w0 w1) (hg : w1.grownBy w2 v.ownBlock) (ho : w1.ownsRow w0.heap.size 3 1 v F.length (F.map (Value.int .i64))) :
    DaysRow w0 w2 (F ++ [x]) v' :=
  ⟨by simpa using h, fun c => by simp at c, hb.grown hg hb.size (fun k' e' => (ho.lt k' e').1)⟩
/-- the end: sorted, each once -/
theorem closed_of {W : World} {n0 g cap : Nat} {L : List Int} {ys : List Int} (ho : W.ownsRow n0 3 1 (.slice (some ⟨g, 0, none⟩) ys.length cap) ys.length (ys.map (Value.int .i64))) (h : ys = L) (hg : n0 ≤ g) : Closed W n0 (.slice (some ⟨g, 0, none⟩) ys.length cap) L := by
  subst h
  refine .inr ⟨g, cap, rfl, hg, (ho.lt g rfl).2, fun j hj => ?_⟩
  have := ho.cells (g := g) rfl j (.int .i64 ys[j]) (by rw [List.getElem?_map, List.getElem?_eq_getElem hj]; rfl)
  rwa [addi] at this
theorem est_wide {y : Int} (h0 : 1800 ≤ y) (h9 : y ≤ 2347) : 0 ≤ est y ∧ est y ≤ 300000 := by
  have b := en_bd y
  have a := ny_0 h0
  have c := Cal.ny_mono y 2347 h9
  have d : Cal.ny 2347 = 199787 := by decide +kernel
  have l := Cal.lp_01 y
  have hm : en y / 31 = 3 ∨ en y / 31 = 4 := by omega
  unfold est Cal.num
  rcases hm with h | h
  · rw [h]; have : Cal.cum y 3 = 59 + Cal.lp y := by simp [Cal.cum]
    omega
  · rw [h]; have : Cal.cum y 4 = 90 + Cal.lp y := by simp [Cal.cum]
    omega
set_option maxRecDepth 100000 in
set_option maxHeartbeats 4000000 in
theorem holidaysOf_any (l : List Hd) (y : Int) (b o cap : Nat) (w : World) (hl : l.length ≤ 1000) (hv : ∀ h ∈ l, hkE h = 0) (h0 : 1800 ≤ y) (h9 : y ≤ 2347) (hc : HdsAt w b o l) :
    Calls Try.prog 40 #[.slice (some ⟨b, o, none⟩) l.length cap, .int .i64 y] w (DaysPost (once (hdays l y)) w) := by
  have HC := Lib.hid hc
  have HVD := Lib.hid hv
  clear hc hv
  obtain ⟨i0, hi, hz0, hz1, hz2⟩ := info_parts infoInt
  go_enter Try.func40, Try.ntmps40
  go_wp2
  go_loopw [5, 10] (fun v i wr => ∃ k : Nat, k ≤ l.length ∧ i = .int .i64 k ∧ DaysRow w wr (hdays (l.take k) y) v) (fun _ i _ => l.length - (intOf i).toNat)
  case atStart => exact ⟨0, Nat.zero_le _, rfl, by simpa [hdays] using World.ownsRow_nil _ _ _ _, fun _ => rfl, Below.refl _ _⟩
  case round =>
    obtain ⟨k, hk, rfl, hown, hnil, hB⟩ := hrel
    have HN := Lib.hid hnil
    clear hnil
    by_cases hlt : k < l.length
    · obtain ⟨⟨c0, c1, c2, c3, c4⟩, hsz⟩ := (HC.out.below hB).2 k hlt
      obtain ⟨p, hp⟩ : ∃ p, l[k] = p := ⟨_, rfl⟩
      rw [hp] at c0 c1 c2 c3 c4 hsz
      have hpv := Lib.hid (HVD.out p (by rw [← hp]; exact List.getElem_mem hlt))
      have sn := hdays_snoc (y := y) hlt hp
      clear hp
      have fl := hdays_le l y k
      generalize hF : hdays (l.take k) y = F at *
      clear hF
      have hBs := hB.size
      have SN := Lib.hid sn
      clear sn
      have OW := Lib.hid hown
      by_cases k1 : p.kind = 1
      · have hd := Lib.hid (show hday p y = some (est y + p.day) by unfold hday; rw [if_pos k1])
        have hkf : -80 ≤ p.day ∧ p.day ≤ 240 := by
          rcases hk_facts hpv.out with ⟨q, _⟩ | ⟨_, q⟩ | ⟨q, _⟩
          · omega
          · exact q
          · omega
        obtain ⟨d1, d2⟩ := hkf
        obtain ⟨nm, kd, mo, dy, wd⟩ := p
        simp only at c0 c1 c2 c3 c4 hsz k1 d1 d2 hd
        subst k1
        obtain ⟨eb0, eb9⟩ := est_wide h0 h9
        have hwr : IntKind.i64.wrap (est y + dy) = est y + dy := by simp [IntKind.wrap, IntKind.bits, IntKind.signed]; omega
        go_wp2_with fail
        obtain ⟨w1, hw1⟩ : ∃ w1, wr.alloc (.cells #[.string nm, .int .i64 1, .int .i64 mo, .int .i64 dy, .int .i64 wd] 48) = w1 := ⟨_, rfl⟩
        have own1 := Lib.hid (show w1.ownsRow w.heap.size 3 1 u5 F.length (F.map (Value.int .i64)) by rw [← hw1]; exact OW.out.alloc _)
        have B1 := Lib.hid (show Below w.heap.size w w1 by rw [← hw1]; exact hB.alloc hBs _)
        have q0 : w1.cell? ⟨wr.heap.size, 0, none⟩ = some (.string nm) := by rw [← hw1]; simp [go_sem]
        have q1 : w1.cell? ⟨wr.heap.size, 1, none⟩ = some (.int .i64 1) := by rw [← hw1]; simp [go_sem]
        have q2 : w1.cell? ⟨wr.heap.size, 2, none⟩ = some (.int .i64 mo) := by rw [← hw1]; simp [go_sem]
        have q3 : w1.cell? ⟨wr.heap.size, 3, none⟩ = some (.int .i64 dy) := by rw [← hw1]; simp [go_sem]
        have q4 : w1.cell? ⟨wr.heap.size, 4, none⟩ = some (.int .i64 wd) := by rw [← hw1]; simp [go_sem]
        have s1 : w1.heap.size = wr.heap.size + 1 := by rw [← hw1]; simp
        rw [hw1]
        clear hw1 hown
        go_region_held3 (fun w' => w'.cell? ⟨wr.heap.size, 3, none⟩ = some (.int .i64 dy)) (first | exact q3 | exact k3 | exact j3 | go_keep)
          (first
            | (go_at_call 32
               refine (easter_any y _ (by omega) (by omega)).mono ?_
               rintro e w2 ⟨rfl, hb2⟩
               have B2 := Lib.hid (show Below w1.heap.size w1 w2 from (below_dr (Below.refl _ _)).trans (hb2.mono (by simp)))
               have k3 : w2.cell? ⟨wr.heap.size, 3, none⟩ = some (.int .i64 dy) := (B2.out.cell (p := ⟨wr.heap.size, 3, none⟩) (by simp only; omega)).trans q3
               have own2 := Lib.hid (ownsRow_below own1.out B2.out)
               have s2 := B2.out.size)
            | (refine step_app rfl (.tmp 18) (.tmp 24) _ rfl w.heap.size (v := u5) (n := F.length) (m := 1) (xs := F.map (Value.int .i64)) (news := [.int .i64 (est y + dy)]) Try.underlying69 hi hz0 hz1 hz2 rfl (by decide) rfl rfl ?_ ?_ ?_ ?_ ?_ ?_ ?_ ?_ ?_
               · exact own2.out.alloc _
               · rfl
               · intro ad hs
                 obtain rfl := Option.some.inj hs
                 try rw [hwr]
                 exact World.news_of_block (cs := #[.int .i64 (est y + dy)]) (heap_alloc_new _ _)
               · intro c; cases c
               · simp [Value.oneCell']
               · unfold maxLen; omega
               · omega
               · simp; omega
               intro v3 w3 hown3 hgrow3
               have j3 : w3.cell? ⟨wr.heap.size, 3, none⟩ = some (.int .i64 dy) := (World.cell?_of_block (hgrow3.block _ (by simp; omega) (fun c => absurd (OW.out.lt _ c.symm).2 (Nat.lt_irrefl _)))).trans ((World.cell?_of_block (heap_alloc_old _ _ (show wr.heap.size < w2.heap.size by omega))).trans k3)
               have D3 := Lib.hid (DaysRow.snoc hown3 ((B1.out.trans (B2.out.mono (by omega))).alloc (by omega) _) hgrow3 (own2.out.alloc _))))
        all_goals
          go_wp2
          go_roundw
          case rel => exact ⟨k + 1, by omega, by go_num, by rw [SN.out, hd.out]; exact D3.out⟩
          case measure => simp [intOf]; omega
      · by_cases k2 : p.kind = 2
        · have hd := Lib.hid (show hday p y = some (wkd p y) by unfold hday; rw [if_neg k1, if_pos k2])
          have HW := Lib.hid (fun W => weekdayOf_any p y W h0 h9 hpv.out k2)
          generalize wkd p y = X at *
          obtain ⟨nm, kd, mo, dy, wd⟩ := p
          simp only at c0 c1 c2 c3 c4 hsz k1 k2
          simp only [Hd.val] at HW
          subst k2
          go_wp2_with fail
          obtain ⟨w1, hw1⟩ : ∃ w1, wr.alloc (.cells #[.string nm, .int .i64 2, .int .i64 mo, .int .i64 dy, .int .i64 wd] 48) = w1 := ⟨_, rfl⟩
          have own1 := Lib.hid (show w1.ownsRow w.heap.size 3 1 u5 F.length (F.map (Value.int .i64)) by rw [← hw1]; exact OW.out.alloc _)
          have B1 := Lib.hid (show Below w.heap.size w w1 by rw [← hw1]; exact hB.alloc hBs _)
          have q0 : w1.cell? ⟨wr.heap.size, 0, none⟩ = some (.string nm) := by rw [← hw1]; simp [go_sem]
          have q1 : w1.cell? ⟨wr.heap.size, 1, none⟩ = some (.int .i64 2) := by rw [← hw1]; simp [go_sem]
          have q2 : w1.cell? ⟨wr.heap.size, 2, none⟩ = some (.int .i64 mo) := by rw [← hw1]; simp [go_sem]
          have q3 : w1.cell? ⟨wr.heap.size, 3, none⟩ = some (.int .i64 dy) := by rw [← hw1]; simp [go_sem]
          have q4 : w1.cell? ⟨wr.heap.size, 4, none⟩ = some (.int .i64 wd) := by rw [← hw1]; simp [go_sem]
          have s1 : w1.heap.size = wr.heap.size + 1 := by rw [← hw1]; simp
          rw [hw1]
          clear hw1 hown
          refine (HW.out _).mono ?_
          rintro e w2 ⟨rfl, hb2⟩
          have B2 := Lib.hid hb2
          have own2 := Lib.hid (ownsRow_below own1.out hb2)
          have s2 := hb2.size
          clear hb2
          go_wp2_with (at_builtin; refine wpList_append_own _ rfl _ _ 69 rfl w.heap.size 3 i0 (.int .i64 0) 1 8 Try.underlying69 hi hz0 hz1 hz2 rfl (by decide) _ _ _ rfl (own2.out.alloc _) ⟨w2.heap.size, 0, none⟩ 1 1 [.int .i64 X] rfl rfl ?c1 ?c2 ?c3 ?c4 ?c5 ?_)
          case c1 => exact World.news_of_block (cs := #[.int .i64 X]) (heap_alloc_new _ _)
          case c2 => simp [Value.oneCell']
          case c3 => unfold maxLen; omega
          case c4 => omega
          case c5 => simp; omega
          intro v3 w3 hown3 hgrow3 _
          have D3 := Lib.hid (DaysRow.snoc hown3 ((B1.out.trans (B2.out.mono (by omega))).alloc (by omega) _) hgrow3 (own2.out.alloc _))
          go_wp2
          go_roundw
          case rel => exact ⟨k + 1, by omega, by go_num, by rw [SN.out, hd.out]; exact D3.out⟩
          case measure => simp [intOf]; omega
        · have hkf : p.kind = 0 ∧ 1 ≤ p.month ∧ p.month ≤ 12 ∧ 1 ≤ p.day ∧ p.day ≤ 31 := by
            have := Cal.md_bd 2000 p.month
            rcases hk_facts hpv.out with ⟨q, a, b, c, d⟩ | ⟨q, _⟩ | ⟨q, _⟩
            · exact ⟨q, a, b, c, by omega⟩
            · omega
            · omega
          obtain ⟨k0, m1, m2, d1, d2⟩ := hkf
          have e1 : (p.kind == 1) = false := by simpa using k1
          have e2 : (p.kind == 2) = false := by simpa using k2
          by_cases hle : p.day ≤ Cal.md y p.month
          · have hd := Lib.hid (show hday p y = some (Cal.num y p.month p.day) by unfold hday; rw [if_neg k1, if_neg k2, if_pos hle])
            have hle' : decide (p.day ≤ Cal.md y p.month) = true := by simpa using hle
            obtain ⟨nm, kd, mo, dy, wd⟩ := p
            simp only at c0 c1 c2 c3 c4 hsz k0 m1 m2 d1 d2 hle hle' hd
            subst k0
            go_wp2_with fail
            obtain ⟨w1, hw1⟩ : ∃ w1, wr.alloc (.cells #[.string nm, .int .i64 0, .int .i64 mo, .int .i64 dy, .int .i64 wd] 48) = w1 := ⟨_, rfl⟩
            have own1 := Lib.hid (show w1.ownsRow w.heap.size 3 1 u5 F.length (F.map (Value.int .i64)) by rw [← hw1]; exact OW.out.alloc _)
            have B1 := Lib.hid (show Below w.heap.size w w1 by rw [← hw1]; exact hB.alloc hBs _)
            have q0 : w1.cell? ⟨wr.heap.size, 0, none⟩ = some (.string nm) := by rw [← hw1]; simp [go_sem]
            have q1 : w1.cell? ⟨wr.heap.size, 1, none⟩ = some (.int .i64 0) := by rw [← hw1]; simp [go_sem]
            have q2 : w1.cell? ⟨wr.heap.size, 2, none⟩ = some (.int .i64 mo) := by rw [← hw1]; simp [go_sem]
            have q3 : w1.cell? ⟨wr.heap.size, 3, none⟩ = some (.int .i64 dy) := by rw [← hw1]; simp [go_sem]
            have q4 : w1.cell? ⟨wr.heap.size, 4, none⟩ = some (.int .i64 wd) := by rw [← hw1]; simp [go_sem]
            have s1 : w1.heap.size = wr.heap.size + 1 := by rw [← hw1]; simp
            rw [hw1]
            clear hw1 hown
            go_quiet (first
              | (go_at_call 30; exact quiet_left (monthDays_any _ _ _ (by omega) (by omega))))
            obtain ⟨w4, hw4⟩ : ∃ w4, w1.drewN nq = w4 := ⟨_, rfl⟩
            have p2 : w4.cell? ⟨wr.heap.size, 2, none⟩ = some (.int .i64 mo) := by rw [← hw4]; exact q2
            have p3 : w4.cell? ⟨wr.heap.size, 3, none⟩ = some (.int .i64 dy) := by rw [← hw4]; exact q3
            have B4 := Lib.hid (show Below w1.heap.size w1 w4 by rw [← hw4]; exact below_n (Below.refl _ _) _)
            have own4 := Lib.hid (show w4.ownsRow w.heap.size 3 1 u5 F.length (F.map (Value.int .i64)) by rw [← hw4]; exact ownsRow_below own1.out (below_n (Below.refl _ _) _))
            have s4 : w4.heap.size = w1.heap.size := by rw [← hw4]; rfl
            rw [hw4]
            clear hw4
            go_wp2_with fail
            refine (dayOf_any _ _ _ _ (by omega) (by omega) (by omega) (by omega) (by omega) (by omega)).mono ?_
            rintro e w2 ⟨rfl, hb2⟩
            have B2 := Lib.hid (show Below w1.heap.size w1 w2 from B4.out.trans (hb2.mono (by omega)))
            have own2 := Lib.hid (ownsRow_below own4.out hb2)
            have s2 := hb2.size
            clear hb2
            generalize Cal.num y mo dy = X at *
            go_wp2_with (at_builtin; refine wpList_append_own _ rfl _ _ 69 rfl w.heap.size 3 i0 (.int .i64 0) 1 8 Try.underlying69 hi hz0 hz1 hz2 rfl (by decide) _ _ _ rfl (own2.out.alloc _) ⟨w2.heap.size, 0, none⟩ 1 1 [.int .i64 X] rfl rfl ?c1 ?c2 ?c3 ?c4 ?c5 ?_)
            case c1 => exact World.news_of_block (cs := #[.int .i64 X]) (heap_alloc_new _ _)
            case c2 => simp [Value.oneCell']
            case c3 => unfold maxLen; omega
            case c4 => omega
            case c5 => simp; omega
            intro v3 w3 hown3 hgrow3 _
            have D3 := Lib.hid (DaysRow.snoc hown3 ((B1.out.trans (B2.out.mono (by omega))).alloc (by omega) _) hgrow3 (own2.out.alloc _))
            go_wp2
            go_roundw
            case rel => exact ⟨k + 1, by omega, by go_num, by rw [SN.out, hd.out]; exact D3.out⟩
            case measure => simp [intOf]; omega
          · have hd := Lib.hid (show hday p y = none by unfold hday; rw [if_neg k1, if_neg k2, if_neg hle])
            have hle' : decide (p.day ≤ Cal.md y p.month) = false := by simpa using hle
            obtain ⟨nm, kd, mo, dy, wd⟩ := p
            simp only at c0 c1 c2 c3 c4 hsz k0 m1 m2 d1 d2 hle hle' hd
            subst k0
            go_wp2_with fail
            obtain ⟨w1, hw1⟩ : ∃ w1, wr.alloc (.cells #[.string nm, .int .i64 0, .int .i64 mo, .int .i64 dy, .int .i64 wd] 48) = w1 := ⟨_, rfl⟩
            have own1 := Lib.hid (show w1.ownsRow w.heap.size 3 1 u5 F.length (F.map (Value.int .i64)) by rw [← hw1]; exact OW.out.alloc _)
            have B1 := Lib.hid (show Below w.heap.size w w1 by rw [← hw1]; exact hB.alloc hBs _)
            have q0 : w1.cell? ⟨wr.heap.size, 0, none⟩ = some (.string nm) := by rw [← hw1]; simp [go_sem]
            have q1 : w1.cell? ⟨wr.heap.size, 1, none⟩ = some (.int .i64 0) := by rw [← hw1]; simp [go_sem]
            have q2 : w1.cell? ⟨wr.heap.size, 2, none⟩ = some (.int .i64 mo) := by rw [← hw1]; simp [go_sem]
            have q3 : w1.cell? ⟨wr.heap.size, 3, none⟩ = some (.int .i64 dy) := by rw [← hw1]; simp [go_sem]
            have q4 : w1.cell? ⟨wr.heap.size, 4, none⟩ = some (.int .i64 wd) := by rw [← hw1]; simp [go_sem]
            have s1 : w1.heap.size = wr.heap.size + 1 := by rw [← hw1]; simp
            rw [hw1]
            clear hw1 hown
            go_quiet (first
              | (go_at_call 30; exact quiet_left (monthDays_any _ _ _ (by omega) (by omega))))
            have D3 : DaysRow w (w1.drewN nq) F u5 := ⟨ownsRow_below own1.out (below_n (Below.refl _ _) _), HN.out, below_n B1.out _⟩
            go_wp2
            go_roundw
            case rel => exact ⟨k + 1, by omega, by go_num, by rw [SN.out, hd.out]; simpa using D3⟩
            case measure => simp [intOf]; omega
    · obtain rfl : k = l.length := by omega
      rw [List.take_length] at hown
      rw [List.take_length] at HN
      by_cases hF : hdays l y = []
      · have hnil := HN.out hF
        have HF := Lib.hid hF
        clear hF hown
        subst hnil
        go_wp2_with (first
          | (go_at_call 51; refine (Try.slices_Sort_int_none none 0 _).mono ?_; rintro e w' ⟨rfl, rfl⟩)
          | (go_at_call 52; refine (Try.slices_Compact_int_empty none 0 _).mono ?_; rintro e w' ⟨rfl, rfl⟩))
        go_ret
        exact ⟨_, rfl, .inl ⟨by rw [HF.out]; simp [once, Lib.compact, Lib.compactUpTo], rfl⟩, by assumption⟩
      · rcases hown.2 with ⟨_, h0'⟩ | ⟨g, cap', cur, rfl, hbase, hb, h1, h2, h3, h4⟩
        · exact absurd (List.length_eq_zero_iff.1 h0') hF
        have hbg : once (hdays l y) = Lib.compact ((hdays l y).mergeSort fun x y => decide (x ≤ y)) := rfl
        have hle := hdays_le l y l.length
        rw [List.take_length] at hle
        clear hF HN
        generalize hdays l y = F at *
        have hH := holds_of_blockI hb (by simpa using h4)
        have hgl := (Array.getElem?_eq_some_iff.1 hb).1
        have hlen : (F.mergeSort fun x y => decide (x ≤ y)).length = F.length := List.length_mergeSort _
        have S1 := Lib.hid (Try.slices_Sort_int g 0 cap' F wr hH hgl (by omega))
        have OW := fun n os => ownsRow_sortedI (w := wr) (n := n) (os := os) hlen hbase hb h1 h2 h3
        have GW := fun n os => grownBy_sortedI (w := wr) (g := g) (n := n) (os := os) (F.mergeSort fun x y => decide (x ≤ y)).toArray
        generalize hT : F.mergeSort (fun x y => decide (x ≤ y)) = T at *
        clear hT
        have OWh := Lib.hid OW
        have GWh := Lib.hid GW
        have HL := Lib.hid hlen
        have HBG := Lib.hid hbg
        clear OW GW hown hH h4 hlen hbg hb
        go_wp2_with fail
        refine (S1.out).mono ?_
        rintro e w1 ⟨rfl, n1, os1, hw1⟩
        have O1 := OWh.out n1 os1
        have B1 := hB.grown (GWh.out n1 os1) hB.size (fun j hj => by cases hj; exact hbase)
        rw [← hw1] at O1 B1
        have HW1 := Lib.hid hw1
        clear hw1 OWh GWh
        rcases O1.2 with ⟨hc, _⟩ | ⟨g2, cap2, cur2, hv2, _, hb2, k1, k2, k3, k4⟩
        · cases hc
        cases hv2
        have hH2 := holds_of_blockI (ss := T) hb2 (by rw [HL.out]; simpa using k4)
        have hgl2 := (Array.getElem?_eq_some_iff.1 hb2).1
        have S2 := Try.slices_Compact_int g 0 cap' T w1 hH2 (by rw [HL.out]; unfold maxLen at h2; omega) (by rw [HL.out]; exact h1)
        rw [HL.out] at S2
        have cle : (Lib.compact T).length ≤ T.length := compact_le T
        have hlen2 : (Lib.compact T ++ List.replicate (T.length - (Lib.compact T).length) 0).length = F.length := by rw [List.length_append, List.length_replicate, ← HL.out]; omega
        have O2 := fun n => ownsRow_sortedI (w := w1) (n := n) (os := #[]) hlen2 hbase hb2 k1 k2 k3
        have G2 := fun n => grownBy_sortedI (w := w1) (g := g) (n := n) (os := #[]) (Lib.compact T ++ List.replicate (T.length - (Lib.compact T).length) 0).toArray
        have S2h := Lib.hid S2
        have O2h := Lib.hid O2
        have G2h := Lib.hid G2
        clear S2 O2 G2 hH2 hlen2 k4 k3 O1 hb2
        go_wp2_with fail
        refine (S2h.out).mono ?_
        rintro e w2 ⟨rfl, q, hw2⟩
        rw [← HL.out] at hw2
        have O2 := O2h.out q
        have B2 := B1.grown (G2h.out q) B1.size (fun j hj => by cases hj; exact hbase)
        rw [grow_empty, ← HL.out, ← hw2] at O2
        rw [grow_empty, ← hw2] at B2
        have HW2 := Lib.hid hw2
        clear hw2
        go_wp2
        go_ret
        refine ⟨_, rfl, .inr ⟨g, cap', by rw [HBG.out]; rfl, hbase, (O2.lt g rfl).2, ?_⟩, B2⟩
        intro j hj
        rw [HBG.out] at hj
        have := O2.cells (g := g) rfl j (.int .i64 (Lib.compact T)[j]) (by rw [List.getElem?_map, List.getElem?_append_left hj, List.getElem?_eq_getElem hj]; rfl)
        rw [addi] at this
        simp only [HBG.out]
        exact this
end Go.Proofs.Ytfphedcgmaakjab
