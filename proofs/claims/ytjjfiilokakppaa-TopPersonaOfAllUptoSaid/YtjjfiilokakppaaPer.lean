/-
  What persona of package person returns: what the entries of a class have in common; a contract for all worlds in which the entries and the class lie.
-/
import Derived.Test.YtjjfiilokakppaaPer0
namespace Go.Proofs.Ytjjfiilokakppaa
open Go.RowKit
attribute [local go_sem] set_drewN
theorem perN_snoc (l : List Nt) (c : Nat) (r : List Nat) (k : Nat) : perN l (c :: (r ++ [k])) = stepN (perN l (c :: r)) (l.getD k nt0) := by
  simp [perN, List.foldl_append]
theorem cmT_len (a b : List UInt8) : (cmT a b).1.length ≤ 1320 := by
  by_cases h : feE [nmE a, nmE b] = 0
  · obtain ⟨h1, h2⟩ := feE_2 h
    obtain ⟨x, gx, hx, -⟩ := gd_nmE h1
    obtain ⟨y, gy, hy, -⟩ := gd_nmE h2
    rw [cmT_good h1 h2 hx hy]
    cases hR : cmM x y with
    | none => simp
    | some R =>
      have h3 := nmT_len R
      have h4 := (cmM_gd gx hR).2.1
      simp only
      omega
  · rw [cmT_bad h]; simp
theorem perN_len {l : List Nt} (hn : ∀ p ∈ l, p.nm.length ≤ 2000000) (c : Nat) : ∀ (r : List Nat), (perN l (c :: r)).nm.length ≤ 2000000 := by
  intro r
  rcases List.eq_nil_or_concat r with rfl | ⟨t, k, rfl⟩
  · show (l.getD c nt0).nm.length ≤ _
    rw [List.getD_eq_getElem?_getD]
    by_cases h : c < l.length
    · rw [List.getElem?_eq_getElem h]; exact hn _ (List.getElem_mem h)
    · rw [List.getElem?_eq_none (by omega)]; simp [nt0]
  · rw [List.concat_eq_append, perN_snoc]
    have := cmT_len (perN l (c :: t)).nm (l.getD k nt0).nm
    show (cmT _ _).1.length ≤ _
    omega
theorem NtsAt.get {w : World} {b o : Nat} {l : List Nt} (h : NtsAt w b o l) {k : Nat} (hk : k < l.length) : NtAt w b (o + k * 5) (l.getD k nt0) := by
  have := h.2 k hk
  rw [List.getD_eq_getElem?_getD, List.getElem?_eq_getElem hk]; exact this
set_option maxRecDepth 100000 in
set_option maxHeartbeats 16000000 in
theorem persona_any (l : List Nt) (c : Nat) (r : List Nat) (b o cap cb ccap : Nat) (w : World) (hn : ∀ p ∈ l, p.nm.length ≤ 2000000) (hc : NtsAt w b o l)
    (hI : IntsAt w cb 0 ((c :: r).map (fun k : Nat => (k : Int)))) (hcb : cb < w.heap.size) (hcs : ∀ k ∈ c :: r, k < l.length) (hr9 : r.length ≤ 2000000) (hcap : r.length + 1 ≤ ccap) (hcap9 : ccap ≤ 9223372036854775807) :
    Calls Try.prog 14 #[.slice (some ⟨b, o, none⟩) l.length cap, .slice (some ⟨cb, 0, none⟩) (r.length + 1) ccap] w (RetB (two (perR l (c :: r)).1.val (.int .i64 (perR l (c :: r)).2)) w) := by
  have HC := Lib.hid hc
  have HI := Lib.hid hI
  have HN := Lib.hid hn
  have HCS := Lib.hid hcs
  have hbl := hc.1
  have hc0 : c < l.length := hcs c (by simp)
  have i0 := hI 0 (by simp)
  simp only [List.map_cons, List.getElem_cons_zero, Nat.zero_add] at i0
  obtain ⟨a0, a1, a2, a3, a4⟩ := hc.get hc0
  have HW := Lib.hid (show perN l [c] = l.getD c nt0 from rfl)
  obtain ⟨p, hp⟩ : ∃ p, l.getD c nt0 = p := ⟨_, rfl⟩
  rw [hp] at a0 a1 a2 a3 a4 HW
  have HR := Lib.hid (fun (p : Nt) (h : perN l (c :: r) = p) => show perR l (c :: r) = if cn p = 0 then (p, 0) else (nt0, 13) by unfold perR; rw [h])
  obtain ⟨R, hR⟩ : ∃ R, perR l (c :: r) = R := ⟨_, rfl⟩
  rw [hR] at HR ⊢
  clear hc hI hn hcs hp hR
  have b1 : 0 ≤ (c : Int) ∧ (c : Int) < (l.length : Int) := ⟨by omega, by omega⟩
  have HP0 := Lib.hid (P5.new (w.alloc (.cells #[.string ⟨#[]⟩, .int .i64 0, .int .i64 0, .int .i64 0, .int .i64 0] 30)) p 30)
  have HZ0 := Lib.hid (P5.below (P5.new w nt0 30) ((Below.refl _ _).alloc (Nat.le_refl _) (.cells #[.string ⟨p.nm.toArray⟩, .int .i64 p.bf, .int .i64 p.bt, .int .i64 p.df, .int .i64 p.dt] 30)))
  have HB0 := Lib.hid (((Below.refl w.heap.size w).alloc (Nat.le_refl _) (.cells #[.string ⟨#[]⟩, .int .i64 0, .int .i64 0, .int .i64 0, .int .i64 0] 30)).alloc (by simp) (.cells #[.string ⟨p.nm.toArray⟩, .int .i64 p.bf, .int .i64 p.bt, .int .i64 p.df, .int .i64 p.dt] 30))
  rw [World.size_alloc] at HP0
  go_enter Try.func14, Try.ntmps14
  by_cases hc1 : ccap = 1
  · have hr0 : r = [] := List.length_eq_zero_iff.1 (by omega)
    subst hr0 hc1
    go_wp2
    go_loopw [19] (fun iv wr => iv = .int .i64 0 ∧ Hid (P5 wr (w.heap.size + 1) p) ∧ Hid (P5 wr w.heap.size nt0) ∧ Hid (Below w.heap.size w wr)) (fun _ _ => 0)
    case atStart => exact ⟨rfl, HP0, HZ0, HB0⟩
    case round =>
      obtain ⟨rfl, HP, HZ, HB⟩ := hrel
      have HNL := perN_len HN.out c []
      rw [HW.out] at HNL
      have HPn := HW
      obtain ⟨nm, bf, bt, df, dt⟩ := p
      simp only at HNL
      have CK := Lib.hid (fun w => checkNote_any nm bf bt df dt w (by omega))
      have HRp := Lib.hid (HR.out _ HPn.out)
      by_cases hz : cn ⟨nm, bf, bt, df, dt⟩ = 0
      · have e1 : R = (⟨nm, bf, bt, df, dt⟩, 0) := by rw [HRp.out, if_pos hz]
        have hz2 : cnE nm bf bt df dt = 0 := hz
        rw [hz2] at CK
        subst e1
        clear hz hz2
        obtain ⟨pl, ⟨p0, p1, p2, p3, p4⟩, f0, f1, f2, f3, f4⟩ := HP.out
        simp only at p0 p1 p2 p3 p4
        go_wp2_with (go_at_call 19; refine (CK.out _).mono ?_; rintro e w2 ⟨rfl, hb2⟩; obtain ⟨pl2, ⟨r0, r1, r2, r3, r4⟩, _⟩ := HP.out.below hb2; simp only at r0 r1 r2 r3 r4; obtain ⟨zl, ⟨z0, z1, z2, z3, z4⟩, y0, y1, y2, y3, y4⟩ := HZ.out.below hb2)
        obtain ⟨g0, g1, g2, g3, g4⟩ := cell_set5 z0 z1 z2 z3 z4 (.string ⟨nm.toArray⟩) (.int .i64 bf) (.int .i64 bt) (.int .i64 df) (.int .i64 dt)
        refine bodyPost_ret (v := two (Nt.val ⟨nm, bf, bt, df, dt⟩) (.int .i64 0)) (by simp [results, Try.results14, go_sem, g0, g1, g2, g3, g4]) rfl ⟨rfl, ?_⟩
        exact set5_below (HB.out.trans (hb2.mono HB.out.size)) (Nat.le_refl _) _ _ _ _ _
      · have e1 : R = (nt0, 13) := by rw [HRp.out, if_neg hz]
        obtain ⟨E, hE⟩ : ∃ E, cnE nm bf bt df dt = E := ⟨_, rfl⟩
        rw [hE] at CK
        have hEb : (E != 0) = true := by rw [bne_iff_ne]; intro h; exact hz (hE.trans h)
        subst e1
        clear hz hE
        obtain ⟨pl, ⟨p0, p1, p2, p3, p4⟩, f0, f1, f2, f3, f4⟩ := HP.out
        simp only at p0 p1 p2 p3 p4
        go_wp2_with (go_at_call 19; refine (CK.out _).mono ?_; rintro e w2 ⟨rfl, hb2⟩; obtain ⟨zl, ⟨z0, z1, z2, z3, z4⟩, y0, y1, y2, y3, y4⟩ := HZ.out.below hb2)
        obtain ⟨g0, g1, g2, g3, g4⟩ := cell_set5 z0 z1 z2 z3 z4 (.string ⟨#[]⟩) (.int .i64 0) (.int .i64 0) (.int .i64 0) (.int .i64 0)
        refine bodyPost_ret (v := two nt0.val (.int .i64 13)) (by simp [results, Try.results14, go_sem, nt0, g0, g1, g2, g3, g4]) rfl ⟨rfl, ?_⟩
        exact set5_below (HB.out.trans (hb2.mono HB.out.size)) (Nat.le_refl _) _ _ _ _ _
  · have hc1' : ¬ ccap = 1 := hc1
    go_wp2
    go_loopw [19] (fun iv wr => ∃ (k : Nat) (p' : Nt), k ≤ r.length ∧ iv = .int .i64 k ∧ Hid (perN l (c :: r.take k) = p') ∧ Hid (P5 wr (w.heap.size + 1) p') ∧ Hid (P5 wr w.heap.size nt0) ∧ Hid (Below w.heap.size w wr)) (fun iv _ => r.length - (intOf iv).toNat)
    case atStart => exact ⟨0, p, Nat.zero_le _, rfl, HW, HP0, HZ0, HB0⟩
    case round =>
      obtain ⟨k, p', hk, rfl, HPn, HP, HZ, HB⟩ := hrel
      have hsz := HB.out.size
      have HNL := perN_len HN.out c (r.take k)
      rw [HPn.out] at HNL
      by_cases hlt : k < r.length
      · have hpl := HP.out.1
        have iK := (HB.out.cell (p := ⟨cb, 0 + (k + 1), none⟩) hcb).trans (HI.out (k + 1) (by simpa using hlt))
        simp only [List.map_cons, List.getElem_cons_succ, List.getElem_map, Nat.zero_add] at iK
        have iK2 : wr.cell? ⟨cb, 1 + k, none⟩ = some (.int .i64 (r[k] : Nat)) := by rw [Nat.add_comm]; exact iK
        have hkk := HCS.out r[k] (by simp)
        obtain ⟨a0, a1, a2, a3, a4⟩ := (HC.out.below HB.out).get hkk
        have hnn : (l.getD r[k] nt0).nm.length ≤ 2000000 := perN_len HN.out r[k] []
        have HNx := Lib.hid (show perN l (c :: r.take (k + 1)) = stepN p' (l.getD r[k] nt0) by rw [List.take_succ_eq_append_getElem hlt, perN_snoc, HPn.out])
        obtain ⟨n, hn⟩ : ∃ n, l.getD r[k] nt0 = n := ⟨_, rfl⟩
        rw [hn] at a0 a1 a2 a3 a4 hnn HNx
        clear hn
        obtain ⟨kk, hkk2⟩ : ∃ kk, r[k] = kk := ⟨_, rfl⟩
        rw [hkk2] at iK iK2 hkk a0 a1 a2 a3 a4
        clear hkk2
        have b2 : 0 ≤ (kk : Int) ∧ (kk : Int) < (l.length : Int) := ⟨by omega, by omega⟩
        obtain ⟨X, hX⟩ : ∃ X, (cmT p'.nm n.nm).1 = X := ⟨_, rfl⟩
        obtain ⟨Y, hY⟩ : ∃ Y, (cmT p'.nm n.nm).2 = Y := ⟨_, rfl⟩
        have HCm := Lib.hid (fun w => Common_any p'.nm n.nm w (by omega) (by omega))
        rw [hX, hY] at HCm
        have hNxt := Lib.hid (show ∀ (W : World), P5 W (w.heap.size + 1) ⟨X, max p'.bf n.bf, min p'.bt n.bt, max p'.df n.df, min p'.dt n.dt⟩ → P5 W (w.heap.size + 1) (stepN p' n) from fun W h => by unfold stepN; rw [hX]; exact h)
        clear hX hY
        have HN1 := Lib.hid (P5.new wr n 30)
        have HPa := Lib.hid (HP.out.below ((Below.refl _ wr).alloc (Nat.le_refl _) (.cells #[.string ⟨n.nm.toArray⟩, .int .i64 n.bf, .int .i64 n.bt, .int .i64 n.df, .int .i64 n.dt] 30)))
        have HZa := Lib.hid (HZ.out.below ((Below.refl _ wr).alloc (Nat.le_refl _) (.cells #[.string ⟨n.nm.toArray⟩, .int .i64 n.bf, .int .i64 n.bt, .int .i64 n.df, .int .i64 n.dt] 30)))
        have HBa := Lib.hid (HB.out.alloc hsz (.cells #[.string ⟨n.nm.toArray⟩, .int .i64 n.bf, .int .i64 n.bt, .int .i64 n.df, .int .i64 n.dt] 30))
        obtain ⟨pl0, ⟨p0, p1, p2, p3, p4⟩, f0, f1, f2, f3, f4⟩ := HP.out
        go_wp2_with fail
        refine (HCm.out _).mono ?_
        rintro e w2 ⟨rfl, hb2⟩
        have q2 := hb2.size
        have HP2 := Lib.hid (HPa.out.below hb2)
        have HZ2 := Lib.hid (HZa.out.below hb2)
        have HN2 := Lib.hid (HN1.out.below hb2)
        have HB2 := Lib.hid (HBa.out.trans (hb2.mono HBa.out.size))
        simp only [World.size_alloc] at q2
        clear p0 p1 p2 p3 p4 f0 f1 f2 f3 f4 pl0 HP HZ HPa HZa HN1 hb2
        obtain ⟨pl0, ⟨p0, p1, p2, p3, p4⟩, f0, f1, f2, f3, f4⟩ := HP2.out
        go_wp2_with fail
        have HP6 := Lib.hid (HP2.out.setName X)
        have HZ6 := Lib.hid (HZ2.out.other (w.heap.size + 1) 0 (by omega) (.string ⟨X.toArray⟩))
        have HS7 := Lib.hid (show RdS w.heap.size w wr.heap.size n (w2.setCell ⟨w.heap.size + 1, 0, none⟩ (.string ⟨X.toArray⟩)) from
          RdS.set ⟨HN2.out.2.1, Lib.hid ⟨HB2.out, by omega⟩⟩ (w.heap.size + 1) (by omega) (by omega) 0 _)
        clear p0 p1 p2 p3 p4 f0 f1 f2 f3 f4 pl0 HP2 HZ2 HN2 HB2 HBa
        refine wp_region_held_drew (S := (fun w' => (w'.cell? ⟨wr.heap.size, 0, none⟩ = some (.string ⟨n.nm.toArray⟩) ∧ w'.cell? ⟨wr.heap.size, 1, none⟩ = some (.int .i64 n.bf) ∧ w'.cell? ⟨wr.heap.size, 2, none⟩ = some (.int .i64 n.bt) ∧ w'.cell? ⟨wr.heap.size, 3, none⟩ = some (.int .i64 n.df) ∧ w'.cell? ⟨wr.heap.size, 4, none⟩ = some (.int .i64 n.dt)) ∧ Hid (Below w.heap.size w w' ∧ w.heap.size ≤ w'.heap.size))) (by kernel_rfl) ?_ (fun hHeld => ?_)
        · exact RdS.below HS7.out (below_n (Below.refl _ _) 1)
        have HP7 := Lib.hid (P5.drew HP6.out)
        have HZ7 := Lib.hid (P5.drew HZ6.out)
        refine wpAnyH_take (i := 0) (oi := { dst := some 36, op := Go.Op.fieldAddr 30 (Go.Operand.tmp 6) 1, type := 0, pos := "persona.go:30", after := #[], guard := none }) (v := ?_) rfl (by kernel_rfl) (by kernel_rfl) (by kernel_rfl) (fun _ _ _ h => h) (Or.inl ⟨by rfl, ?_⟩) (by assumption) ?_
        rotate_left
        · intro w hSw
          try dsimp only at hSw
          obtain ⟨⟨c0, c1, c2, c3, c4⟩, _⟩ := hSw
          go_simp
          try with_reducible rfl
        try simp only [Act.put, List.setIfInBounds_toArray, List.set_cons_zero, List.set_cons_succ]
        refine wpAnyH_take (i := 2) (oi := { dst := some 38, op := Go.Op.fieldAddr 30 (Go.Operand.tmp 9) 1, type := 0, pos := "persona.go:30", after := #[], guard := none }) (v := ?_) rfl (by kernel_rfl) (by kernel_rfl) (by kernel_rfl) (fun _ _ _ h => h) (Or.inl ⟨by rfl, ?_⟩) (by assumption) ?_
        rotate_left
        · intro w hSw
          try dsimp only at hSw
          obtain ⟨⟨c0, c1, c2, c3, c4⟩, _⟩ := hSw
          go_simp
          try with_reducible rfl
        try simp only [Act.put, List.setIfInBounds_toArray, List.set_cons_zero, List.set_cons_succ]
        refine wpAnyH_take (i := 3) (oi := { dst := some 39, op := Go.Op.load 28 (Go.Operand.tmp 38), type := 28, pos := "persona.go:30", after := #[{ on := 2, ground := Go.Ground.data }], guard := none }) (v := ?_) rfl (by kernel_rfl) (by kernel_rfl) (by kernel_rfl) (fun _ _ _ h => h) (Or.inl ⟨by rfl, ?_⟩) (by assumption) ?_
        rotate_left
        · intro w hSw
          try dsimp only at hSw
          obtain ⟨⟨c0, c1, c2, c3, c4⟩, _⟩ := hSw
          go_simp
          try with_reducible rfl
        try simp only [Act.put, List.setIfInBounds_toArray, List.set_cons_zero, List.set_cons_succ]
        refine wpAnyH_take (i := 5) (oi := { dst := some 41, op := Go.Op.fieldAddr 30 (Go.Operand.tmp 6) 2, type := 0, pos := "persona.go:30", after := #[], guard := none }) (v := ?_) rfl (by kernel_rfl) (by kernel_rfl) (by kernel_rfl) (fun _ _ _ h => h) (Or.inl ⟨by rfl, ?_⟩) (by assumption) ?_
        rotate_left
        · intro w hSw
          try dsimp only at hSw
          obtain ⟨⟨c0, c1, c2, c3, c4⟩, _⟩ := hSw
          go_simp
          try with_reducible rfl
        try simp only [Act.put, List.setIfInBounds_toArray, List.set_cons_zero, List.set_cons_succ]
        refine wpAnyH_take (i := 7) (oi := { dst := some 43, op := Go.Op.fieldAddr 30 (Go.Operand.tmp 9) 2, type := 0, pos := "persona.go:30", after := #[], guard := none }) (v := ?_) rfl (by kernel_rfl) (by kernel_rfl) (by kernel_rfl) (fun _ _ _ h => h) (Or.inl ⟨by rfl, ?_⟩) (by assumption) ?_
        rotate_left
        · intro w hSw
          try dsimp only at hSw
          obtain ⟨⟨c0, c1, c2, c3, c4⟩, _⟩ := hSw
          go_simp
          try with_reducible rfl
        try simp only [Act.put, List.setIfInBounds_toArray, List.set_cons_zero, List.set_cons_succ]
        refine wpAnyH_take (i := 8) (oi := { dst := some 44, op := Go.Op.load 28 (Go.Operand.tmp 43), type := 28, pos := "persona.go:30", after := #[{ on := 7, ground := Go.Ground.data }], guard := none }) (v := ?_) rfl (by kernel_rfl) (by kernel_rfl) (by kernel_rfl) (fun _ _ _ h => h) (Or.inl ⟨by rfl, ?_⟩) (by assumption) ?_
        rotate_left
        · intro w hSw
          try dsimp only at hSw
          obtain ⟨⟨c0, c1, c2, c3, c4⟩, _⟩ := hSw
          go_simp
          try with_reducible rfl
        try simp only [Act.put, List.setIfInBounds_toArray, List.set_cons_zero, List.set_cons_succ]
        refine wpAnyH_ready (rs := [1, 6]) (by kernel_rfl) (by simp) ?_
        refine AllReadyH.cons (o := { dst := some 37, op := Go.Op.load 28 (Go.Operand.tmp 36), type := 28, pos := "persona.go:30", after := #[{ on := 0, ground := Go.Ground.data }], guard := none }) rfl (fun K hK => ?_) ?_
        · obtain ⟨pl, ⟨p0, p1, p2, p3, p4⟩, f0, f1, f2, f3, f4⟩ := HP7.out
          go_simp
          refine hK.out _ _ ?_ (fun hHeld' => ?_)
          · exact hHeld
          clear p0 p1 p2 p3 p4 f0 f1 f2 f3 f4 pl
          clear hK K hHeld
          have hHeld := hHeld'
          clear hHeld'
          try simp only [Act.put, List.setIfInBounds_toArray, List.set_cons_zero, List.set_cons_succ]
          refine wpAnyH_ready (rs := [4, 6]) (by kernel_rfl) (by simp) ?_
          refine AllReadyH.cons (o := { dst := some 40, op := Go.Op.call { callee := Go.Callee.value (Go.Operand.func 21), args := #[Go.Operand.tmp 37, Go.Operand.tmp 39], argTypes := #[28, 28] }, type := 28, pos := "persona.go:30", after := #[{ on := 1, ground := Go.Ground.data }, { on := 3, ground := Go.Ground.data }], guard := none }) rfl (fun K hK => ?_) ?_
          · go_simp
            go_at_call 21
            refine (overlap_any _ _ _ _ _).mono ?_
            rintro e w4 ⟨rfl, hb⟩
            go_wp2_with fail
            refine hK.out _ _ ?_ (fun hHeld' => ?_)
            · exact RdS.below hHeld hb
            have HP7 := Lib.hid (HP7.out.below hb)
            have HZ7 := Lib.hid (HZ7.out.below hb)
            clear hK K hHeld hb
            have hHeld := hHeld'
            clear hHeld'
            try simp only [Act.put, List.setIfInBounds_toArray, List.set_cons_zero, List.set_cons_succ]
            refine wpAnyH_ready (rs := [6]) (by kernel_rfl) (by simp) ?_
            refine AllReadyH.cons (o := { dst := some 42, op := Go.Op.load 28 (Go.Operand.tmp 41), type := 28, pos := "persona.go:30", after := #[{ on := 5, ground := Go.Ground.data }], guard := none }) rfl (fun K hK => ?_) ?_
            · obtain ⟨pl, ⟨p0, p1, p2, p3, p4⟩, f0, f1, f2, f3, f4⟩ := HP7.out
              go_simp
              refine hK.out _ _ ?_ (fun hHeld' => ?_)
              · exact hHeld
              clear p0 p1 p2 p3 p4 f0 f1 f2 f3 f4 pl
              clear hK K hHeld
              have hHeld := hHeld'
              clear hHeld'
              try simp only [Act.put, List.setIfInBounds_toArray, List.set_cons_zero, List.set_cons_succ]
              refine wpAnyH_take (i := 10) (oi := { dst := some 46, op := Go.Op.fieldAddr 30 (Go.Operand.tmp 6) 1, type := 0, pos := "persona.go:30", after := #[{ on := 0, ground := Go.Ground.phase }, { on := 1, ground := Go.Ground.phase }, { on := 2, ground := Go.Ground.phase }, { on := 3, ground := Go.Ground.phase }, { on := 4, ground := Go.Ground.phase }, { on := 5, ground := Go.Ground.phase }, { on := 6, ground := Go.Ground.phase }, { on := 7, ground := Go.Ground.textOnly Go.Departure.lateStores }, { on := 8, ground := Go.Ground.textOnly Go.Departure.lateStores }, { on := 9, ground := Go.Ground.textOnly Go.Departure.lateStoresUnsure }], guard := none }) (v := ?_) rfl (by kernel_rfl) (by kernel_rfl) (by kernel_rfl) (fun _ _ _ h => h) (Or.inl ⟨by rfl, ?_⟩) (by assumption) ?_
              rotate_left
              · intro w hSw
                try dsimp only at hSw
                obtain ⟨⟨c0, c1, c2, c3, c4⟩, _⟩ := hSw
                go_simp
                try with_reducible rfl
              try simp only [Act.put, List.setIfInBounds_toArray, List.set_cons_zero, List.set_cons_succ]
              refine wpAnyH_ready (rs := [9]) (by kernel_rfl) (by simp) ?_
              refine AllReadyH.cons (o := { dst := some 45, op := Go.Op.call { callee := Go.Callee.value (Go.Operand.func 21), args := #[Go.Operand.tmp 42, Go.Operand.tmp 44], argTypes := #[28, 28] }, type := 28, pos := "persona.go:30", after := #[{ on := 6, ground := Go.Ground.data }, { on := 8, ground := Go.Ground.data }, { on := 4, ground := Go.Ground.chain }], guard := none }) rfl (fun K hK => ?_) ?_
              · go_simp
                go_at_call 21
                refine (overlap_any _ _ _ _ _).mono ?_
                rintro e w9 ⟨rfl, hb⟩
                go_wp2_with fail
                refine hK.out _ _ ?_ (fun hHeld' => ?_)
                · exact RdS.below hHeld hb
                have HP7 := Lib.hid (HP7.out.below hb)
                have HZ7 := Lib.hid (HZ7.out.below hb)
                clear hK K hHeld hb
                have hHeld := hHeld'
                clear hHeld'
                try simp only [Act.put, List.setIfInBounds_toArray, List.set_cons_zero, List.set_cons_succ]
                refine wpAnyH_ready (rs := [11]) (by kernel_rfl) (by simp) ?_
                refine AllReadyH.cons (o := { dst := none, op := Go.Op.store 28 (Go.Operand.tmp 46) (Go.Operand.tmp 40), type := 0, pos := "persona.go:30", after := #[{ on := 10, ground := Go.Ground.data }, { on := 4, ground := Go.Ground.data }, { on := 9, ground := Go.Ground.chain }, { on := 0, ground := Go.Ground.phase }, { on := 1, ground := Go.Ground.phase }, { on := 2, ground := Go.Ground.phase }, { on := 3, ground := Go.Ground.phase }, { on := 4, ground := Go.Ground.phase }, { on := 5, ground := Go.Ground.phase }, { on := 6, ground := Go.Ground.phase }, { on := 7, ground := Go.Ground.textOnly Go.Departure.lateStores }, { on := 8, ground := Go.Ground.textOnly Go.Departure.lateStores }, { on := 9, ground := Go.Ground.textOnly Go.Departure.lateStoresUnsure }], guard := none }) rfl (fun K hK => ?_) ?_
                · obtain ⟨pl, ⟨p0, p1, p2, p3, p4⟩, f0, f1, f2, f3, f4⟩ := HP7.out
                  go_simp
                  refine hK.out _ _ ?_ (fun hHeld' => ?_)
                  · exact RdS.set (RdS.set hHeld (w.heap.size + 1) (by omega) (by omega) 1 _) (w.heap.size + 1) (by omega) (by omega) 2 _
                  have HP7 := Lib.hid (P5.set12 HP7.out (max p'.bf n.bf) (min p'.bt n.bt))
                  have HZ7 := Lib.hid ((HZ7.out.other (w.heap.size + 1) 1 (by omega) (.int .i64 (max p'.bf n.bf))).other (w.heap.size + 1) 2 (by omega) (.int .i64 (min p'.bt n.bt)))
                  clear p0 p1 p2 p3 p4 f0 f1 f2 f3 f4 pl
                  clear hK K hHeld
                  have hHeld := hHeld'
                  clear hHeld'
                  try simp only [Act.put, List.setIfInBounds_toArray, List.set_cons_zero, List.set_cons_succ]
                  refine wpAnyH_take (i := 12) (oi := { dst := some 47, op := Go.Op.fieldAddr 30 (Go.Operand.tmp 6) 2, type := 0, pos := "persona.go:30", after := #[{ on := 0, ground := Go.Ground.phase }, { on := 1, ground := Go.Ground.phase }, { on := 2, ground := Go.Ground.phase }, { on := 3, ground := Go.Ground.phase }, { on := 4, ground := Go.Ground.phase }, { on := 5, ground := Go.Ground.phase }, { on := 6, ground := Go.Ground.phase }, { on := 7, ground := Go.Ground.phase }, { on := 8, ground := Go.Ground.phase }, { on := 9, ground := Go.Ground.phase }, { on := 10, ground := Go.Ground.phase }, { on := 11, ground := Go.Ground.phase }], guard := none }) (v := ?_) rfl (by kernel_rfl) (by kernel_rfl) (by kernel_rfl) (fun _ _ _ h => h) (Or.inl ⟨by rfl, ?_⟩) (by assumption) ?_
                  rotate_left
                  · intro w hSw
                    try dsimp only at hSw
                    obtain ⟨⟨c0, c1, c2, c3, c4⟩, _⟩ := hSw
                    go_simp
                    try with_reducible rfl
                  try simp only [Act.put, List.setIfInBounds_toArray, List.set_cons_zero, List.set_cons_succ]
                  refine wpAnyH_ready (rs := [13]) (by kernel_rfl) (by simp) ?_
                  refine AllReadyH.cons (o := { dst := none, op := Go.Op.store 28 (Go.Operand.tmp 47) (Go.Operand.tmp 45), type := 0, pos := "persona.go:30", after := #[{ on := 12, ground := Go.Ground.data }, { on := 9, ground := Go.Ground.data }, { on := 11, ground := Go.Ground.chain }, { on := 0, ground := Go.Ground.phase }, { on := 1, ground := Go.Ground.phase }, { on := 2, ground := Go.Ground.phase }, { on := 3, ground := Go.Ground.phase }, { on := 4, ground := Go.Ground.phase }, { on := 5, ground := Go.Ground.phase }, { on := 6, ground := Go.Ground.phase }, { on := 7, ground := Go.Ground.phase }, { on := 8, ground := Go.Ground.phase }, { on := 9, ground := Go.Ground.phase }, { on := 10, ground := Go.Ground.phase }, { on := 11, ground := Go.Ground.phase }], guard := none }) rfl (fun K hK => ?_) ?_
                  · obtain ⟨pl, ⟨p0, p1, p2, p3, p4⟩, f0, f1, f2, f3, f4⟩ := HP7.out
                    go_simp
                    refine hK.out _ _ ?_ (fun hHeld' => ?_)
                    · exact RdS.set (RdS.set hHeld (w.heap.size + 1) (by omega) (by omega) 3 _) (w.heap.size + 1) (by omega) (by omega) 4 _
                    have HP7 := Lib.hid (P5.set34 HP7.out (max p'.df n.df) (min p'.dt n.dt))
                    have HZ7 := Lib.hid ((HZ7.out.other (w.heap.size + 1) 3 (by omega) (.int .i64 (max p'.df n.df))).other (w.heap.size + 1) 4 (by omega) (.int .i64 (min p'.dt n.dt)))
                    clear p0 p1 p2 p3 p4 f0 f1 f2 f3 f4 pl
                    clear hK K hHeld
                    have hHeld := hHeld'
                    clear hHeld'
                    try simp only [Act.put, List.setIfInBounds_toArray, List.set_cons_zero, List.set_cons_succ]
                    refine wpAnyH_done (by kernel_rfl) ?_ _
                    go_wp2
                    go_roundw
                    case rel => exact ⟨k + 1, _, by omega, by go_num, HNx, Lib.hid (hNxt.out _ HP7.out), HZ7, Lib.hid hHeld.2.out.1⟩
                    case measure => simp [intOf]; omega
                  exact AllReadyH.nil
                exact AllReadyH.nil
              exact AllReadyH.nil
            exact AllReadyH.nil
          refine AllReadyH.cons (o := { dst := some 42, op := Go.Op.load 28 (Go.Operand.tmp 41), type := 28, pos := "persona.go:30", after := #[{ on := 5, ground := Go.Ground.data }], guard := none }) rfl (fun K hK => ?_) ?_
          · obtain ⟨pl, ⟨p0, p1, p2, p3, p4⟩, f0, f1, f2, f3, f4⟩ := HP7.out
            go_simp
            refine hK.out _ _ ?_ (fun hHeld' => ?_)
            · exact hHeld
            clear p0 p1 p2 p3 p4 f0 f1 f2 f3 f4 pl
            clear hK K hHeld
            have hHeld := hHeld'
            clear hHeld'
            try simp only [Act.put, List.setIfInBounds_toArray, List.set_cons_zero, List.set_cons_succ]
            refine wpAnyH_ready (rs := [4]) (by kernel_rfl) (by simp) ?_
            refine AllReadyH.cons (o := { dst := some 40, op := Go.Op.call { callee := Go.Callee.value (Go.Operand.func 21), args := #[Go.Operand.tmp 37, Go.Operand.tmp 39], argTypes := #[28, 28] }, type := 28, pos := "persona.go:30", after := #[{ on := 1, ground := Go.Ground.data }, { on := 3, ground := Go.Ground.data }], guard := none }) rfl (fun K hK => ?_) ?_
            · go_simp
              go_at_call 21
              refine (overlap_any _ _ _ _ _).mono ?_
              rintro e w4 ⟨rfl, hb⟩
              go_wp2_with fail
              refine hK.out _ _ ?_ (fun hHeld' => ?_)
              · exact RdS.below hHeld hb
              have HP7 := Lib.hid (HP7.out.below hb)
              have HZ7 := Lib.hid (HZ7.out.below hb)
              clear hK K hHeld hb
              have hHeld := hHeld'
              clear hHeld'
              try simp only [Act.put, List.setIfInBounds_toArray, List.set_cons_zero, List.set_cons_succ]
              refine wpAnyH_take (i := 10) (oi := { dst := some 46, op := Go.Op.fieldAddr 30 (Go.Operand.tmp 6) 1, type := 0, pos := "persona.go:30", after := #[{ on := 0, ground := Go.Ground.phase }, { on := 1, ground := Go.Ground.phase }, { on := 2, ground := Go.Ground.phase }, { on := 3, ground := Go.Ground.phase }, { on := 4, ground := Go.Ground.phase }, { on := 5, ground := Go.Ground.phase }, { on := 6, ground := Go.Ground.phase }, { on := 7, ground := Go.Ground.textOnly Go.Departure.lateStores }, { on := 8, ground := Go.Ground.textOnly Go.Departure.lateStores }, { on := 9, ground := Go.Ground.textOnly Go.Departure.lateStoresUnsure }], guard := none }) (v := ?_) rfl (by kernel_rfl) (by kernel_rfl) (by kernel_rfl) (fun _ _ _ h => h) (Or.inl ⟨by rfl, ?_⟩) (by assumption) ?_
              rotate_left
              · intro w hSw
                try dsimp only at hSw
                obtain ⟨⟨c0, c1, c2, c3, c4⟩, _⟩ := hSw
                go_simp
                try with_reducible rfl
              try simp only [Act.put, List.setIfInBounds_toArray, List.set_cons_zero, List.set_cons_succ]
              refine wpAnyH_ready (rs := [9]) (by kernel_rfl) (by simp) ?_
              refine AllReadyH.cons (o := { dst := some 45, op := Go.Op.call { callee := Go.Callee.value (Go.Operand.func 21), args := #[Go.Operand.tmp 42, Go.Operand.tmp 44], argTypes := #[28, 28] }, type := 28, pos := "persona.go:30", after := #[{ on := 6, ground := Go.Ground.data }, { on := 8, ground := Go.Ground.data }, { on := 4, ground := Go.Ground.chain }], guard := none }) rfl (fun K hK => ?_) ?_
              · go_simp
                go_at_call 21
                refine (overlap_any _ _ _ _ _).mono ?_
                rintro e w9 ⟨rfl, hb⟩
                go_wp2_with fail
                refine hK.out _ _ ?_ (fun hHeld' => ?_)
                · exact RdS.below hHeld hb
                have HP7 := Lib.hid (HP7.out.below hb)
                have HZ7 := Lib.hid (HZ7.out.below hb)
                clear hK K hHeld hb
                have hHeld := hHeld'
                clear hHeld'
                try simp only [Act.put, List.setIfInBounds_toArray, List.set_cons_zero, List.set_cons_succ]
                refine wpAnyH_ready (rs := [11]) (by kernel_rfl) (by simp) ?_
                refine AllReadyH.cons (o := { dst := none, op := Go.Op.store 28 (Go.Operand.tmp 46) (Go.Operand.tmp 40), type := 0, pos := "persona.go:30", after := #[{ on := 10, ground := Go.Ground.data }, { on := 4, ground := Go.Ground.data }, { on := 9, ground := Go.Ground.chain }, { on := 0, ground := Go.Ground.phase }, { on := 1, ground := Go.Ground.phase }, { on := 2, ground := Go.Ground.phase }, { on := 3, ground := Go.Ground.phase }, { on := 4, ground := Go.Ground.phase }, { on := 5, ground := Go.Ground.phase }, { on := 6, ground := Go.Ground.phase }, { on := 7, ground := Go.Ground.textOnly Go.Departure.lateStores }, { on := 8, ground := Go.Ground.textOnly Go.Departure.lateStores }, { on := 9, ground := Go.Ground.textOnly Go.Departure.lateStoresUnsure }], guard := none }) rfl (fun K hK => ?_) ?_
                · obtain ⟨pl, ⟨p0, p1, p2, p3, p4⟩, f0, f1, f2, f3, f4⟩ := HP7.out
                  go_simp
                  refine hK.out _ _ ?_ (fun hHeld' => ?_)
                  · exact RdS.set (RdS.set hHeld (w.heap.size + 1) (by omega) (by omega) 1 _) (w.heap.size + 1) (by omega) (by omega) 2 _
                  have HP7 := Lib.hid (P5.set12 HP7.out (max p'.bf n.bf) (min p'.bt n.bt))
                  have HZ7 := Lib.hid ((HZ7.out.other (w.heap.size + 1) 1 (by omega) (.int .i64 (max p'.bf n.bf))).other (w.heap.size + 1) 2 (by omega) (.int .i64 (min p'.bt n.bt)))
                  clear p0 p1 p2 p3 p4 f0 f1 f2 f3 f4 pl
                  clear hK K hHeld
                  have hHeld := hHeld'
                  clear hHeld'
                  try simp only [Act.put, List.setIfInBounds_toArray, List.set_cons_zero, List.set_cons_succ]
                  refine wpAnyH_take (i := 12) (oi := { dst := some 47, op := Go.Op.fieldAddr 30 (Go.Operand.tmp 6) 2, type := 0, pos := "persona.go:30", after := #[{ on := 0, ground := Go.Ground.phase }, { on := 1, ground := Go.Ground.phase }, { on := 2, ground := Go.Ground.phase }, { on := 3, ground := Go.Ground.phase }, { on := 4, ground := Go.Ground.phase }, { on := 5, ground := Go.Ground.phase }, { on := 6, ground := Go.Ground.phase }, { on := 7, ground := Go.Ground.phase }, { on := 8, ground := Go.Ground.phase }, { on := 9, ground := Go.Ground.phase }, { on := 10, ground := Go.Ground.phase }, { on := 11, ground := Go.Ground.phase }], guard := none }) (v := ?_) rfl (by kernel_rfl) (by kernel_rfl) (by kernel_rfl) (fun _ _ _ h => h) (Or.inl ⟨by rfl, ?_⟩) (by assumption) ?_
                  rotate_left
                  · intro w hSw
                    try dsimp only at hSw
                    obtain ⟨⟨c0, c1, c2, c3, c4⟩, _⟩ := hSw
                    go_simp
                    try with_reducible rfl
                  try simp only [Act.put, List.setIfInBounds_toArray, List.set_cons_zero, List.set_cons_succ]
                  refine wpAnyH_ready (rs := [13]) (by kernel_rfl) (by simp) ?_
                  refine AllReadyH.cons (o := { dst := none, op := Go.Op.store 28 (Go.Operand.tmp 47) (Go.Operand.tmp 45), type := 0, pos := "persona.go:30", after := #[{ on := 12, ground := Go.Ground.data }, { on := 9, ground := Go.Ground.data }, { on := 11, ground := Go.Ground.chain }, { on := 0, ground := Go.Ground.phase }, { on := 1, ground := Go.Ground.phase }, { on := 2, ground := Go.Ground.phase }, { on := 3, ground := Go.Ground.phase }, { on := 4, ground := Go.Ground.phase }, { on := 5, ground := Go.Ground.phase }, { on := 6, ground := Go.Ground.phase }, { on := 7, ground := Go.Ground.phase }, { on := 8, ground := Go.Ground.phase }, { on := 9, ground := Go.Ground.phase }, { on := 10, ground := Go.Ground.phase }, { on := 11, ground := Go.Ground.phase }], guard := none }) rfl (fun K hK => ?_) ?_
                  · obtain ⟨pl, ⟨p0, p1, p2, p3, p4⟩, f0, f1, f2, f3, f4⟩ := HP7.out
                    go_simp
                    refine hK.out _ _ ?_ (fun hHeld' => ?_)
                    · exact RdS.set (RdS.set hHeld (w.heap.size + 1) (by omega) (by omega) 3 _) (w.heap.size + 1) (by omega) (by omega) 4 _
                    have HP7 := Lib.hid (P5.set34 HP7.out (max p'.df n.df) (min p'.dt n.dt))
                    have HZ7 := Lib.hid ((HZ7.out.other (w.heap.size + 1) 3 (by omega) (.int .i64 (max p'.df n.df))).other (w.heap.size + 1) 4 (by omega) (.int .i64 (min p'.dt n.dt)))
                    clear p0 p1 p2 p3 p4 f0 f1 f2 f3 f4 pl
                    clear hK K hHeld
                    have hHeld := hHeld'
                    clear hHeld'
                    try simp only [Act.put, List.setIfInBounds_toArray, List.set_cons_zero, List.set_cons_succ]
                    refine wpAnyH_done (by kernel_rfl) ?_ _
                    go_wp2
                    go_roundw
                    case rel => exact ⟨k + 1, _, by omega, by go_num, HNx, Lib.hid (hNxt.out _ HP7.out), HZ7, Lib.hid hHeld.2.out.1⟩
                    case measure => simp [intOf]; omega
                  exact AllReadyH.nil
                exact AllReadyH.nil
              exact AllReadyH.nil
            exact AllReadyH.nil
          exact AllReadyH.nil
        refine AllReadyH.cons (o := { dst := some 42, op := Go.Op.load 28 (Go.Operand.tmp 41), type := 28, pos := "persona.go:30", after := #[{ on := 5, ground := Go.Ground.data }], guard := none }) rfl (fun K hK => ?_) ?_
        · obtain ⟨pl, ⟨p0, p1, p2, p3, p4⟩, f0, f1, f2, f3, f4⟩ := HP7.out
          go_simp
          refine hK.out _ _ ?_ (fun hHeld' => ?_)
          · exact hHeld
          clear p0 p1 p2 p3 p4 f0 f1 f2 f3 f4 pl
          clear hK K hHeld
          have hHeld := hHeld'
          clear hHeld'
          try simp only [Act.put, List.setIfInBounds_toArray, List.set_cons_zero, List.set_cons_succ]
          refine wpAnyH_ready (rs := [1]) (by kernel_rfl) (by simp) ?_
          refine AllReadyH.cons (o := { dst := some 37, op := Go.Op.load 28 (Go.Operand.tmp 36), type := 28, pos := "persona.go:30", after := #[{ on := 0, ground := Go.Ground.data }], guard := none }) rfl (fun K hK => ?_) ?_
          · obtain ⟨pl, ⟨p0, p1, p2, p3, p4⟩, f0, f1, f2, f3, f4⟩ := HP7.out
            go_simp
            refine hK.out _ _ ?_ (fun hHeld' => ?_)
            · exact hHeld
            clear p0 p1 p2 p3 p4 f0 f1 f2 f3 f4 pl
            clear hK K hHeld
            have hHeld := hHeld'
            clear hHeld'
            try simp only [Act.put, List.setIfInBounds_toArray, List.set_cons_zero, List.set_cons_succ]
            refine wpAnyH_ready (rs := [4]) (by kernel_rfl) (by simp) ?_
            refine AllReadyH.cons (o := { dst := some 40, op := Go.Op.call { callee := Go.Callee.value (Go.Operand.func 21), args := #[Go.Operand.tmp 37, Go.Operand.tmp 39], argTypes := #[28, 28] }, type := 28, pos := "persona.go:30", after := #[{ on := 1, ground := Go.Ground.data }, { on := 3, ground := Go.Ground.data }], guard := none }) rfl (fun K hK => ?_) ?_
            · go_simp
              go_at_call 21
              refine (overlap_any _ _ _ _ _).mono ?_
              rintro e w4 ⟨rfl, hb⟩
              go_wp2_with fail
              refine hK.out _ _ ?_ (fun hHeld' => ?_)
              · exact RdS.below hHeld hb
              have HP7 := Lib.hid (HP7.out.below hb)
              have HZ7 := Lib.hid (HZ7.out.below hb)
              clear hK K hHeld hb
              have hHeld := hHeld'
              clear hHeld'
              try simp only [Act.put, List.setIfInBounds_toArray, List.set_cons_zero, List.set_cons_succ]
              refine wpAnyH_take (i := 10) (oi := { dst := some 46, op := Go.Op.fieldAddr 30 (Go.Operand.tmp 6) 1, type := 0, pos := "persona.go:30", after := #[{ on := 0, ground := Go.Ground.phase }, { on := 1, ground := Go.Ground.phase }, { on := 2, ground := Go.Ground.phase }, { on := 3, ground := Go.Ground.phase }, { on := 4, ground := Go.Ground.phase }, { on := 5, ground := Go.Ground.phase }, { on := 6, ground := Go.Ground.phase }, { on := 7, ground := Go.Ground.textOnly Go.Departure.lateStores }, { on := 8, ground := Go.Ground.textOnly Go.Departure.lateStores }, { on := 9, ground := Go.Ground.textOnly Go.Departure.lateStoresUnsure }], guard := none }) (v := ?_) rfl (by kernel_rfl) (by kernel_rfl) (by kernel_rfl) (fun _ _ _ h => h) (Or.inl ⟨by rfl, ?_⟩) (by assumption) ?_
              rotate_left
              · intro w hSw
                try dsimp only at hSw
                obtain ⟨⟨c0, c1, c2, c3, c4⟩, _⟩ := hSw
                go_simp
                try with_reducible rfl
              try simp only [Act.put, List.setIfInBounds_toArray, List.set_cons_zero, List.set_cons_succ]
              refine wpAnyH_ready (rs := [9]) (by kernel_rfl) (by simp) ?_
              refine AllReadyH.cons (o := { dst := some 45, op := Go.Op.call { callee := Go.Callee.value (Go.Operand.func 21), args := #[Go.Operand.tmp 42, Go.Operand.tmp 44], argTypes := #[28, 28] }, type := 28, pos := "persona.go:30", after := #[{ on := 6, ground := Go.Ground.data }, { on := 8, ground := Go.Ground.data }, { on := 4, ground := Go.Ground.chain }], guard := none }) rfl (fun K hK => ?_) ?_
              · go_simp
                go_at_call 21
                refine (overlap_any _ _ _ _ _).mono ?_
                rintro e w9 ⟨rfl, hb⟩
                go_wp2_with fail
                refine hK.out _ _ ?_ (fun hHeld' => ?_)
                · exact RdS.below hHeld hb
                have HP7 := Lib.hid (HP7.out.below hb)
                have HZ7 := Lib.hid (HZ7.out.below hb)
                clear hK K hHeld hb
                have hHeld := hHeld'
                clear hHeld'
                try simp only [Act.put, List.setIfInBounds_toArray, List.set_cons_zero, List.set_cons_succ]
                refine wpAnyH_ready (rs := [11]) (by kernel_rfl) (by simp) ?_
                refine AllReadyH.cons (o := { dst := none, op := Go.Op.store 28 (Go.Operand.tmp 46) (Go.Operand.tmp 40), type := 0, pos := "persona.go:30", after := #[{ on := 10, ground := Go.Ground.data }, { on := 4, ground := Go.Ground.data }, { on := 9, ground := Go.Ground.chain }, { on := 0, ground := Go.Ground.phase }, { on := 1, ground := Go.Ground.phase }, { on := 2, ground := Go.Ground.phase }, { on := 3, ground := Go.Ground.phase }, { on := 4, ground := Go.Ground.phase }, { on := 5, ground := Go.Ground.phase }, { on := 6, ground := Go.Ground.phase }, { on := 7, ground := Go.Ground.textOnly Go.Departure.lateStores }, { on := 8, ground := Go.Ground.textOnly Go.Departure.lateStores }, { on := 9, ground := Go.Ground.textOnly Go.Departure.lateStoresUnsure }], guard := none }) rfl (fun K hK => ?_) ?_
                · obtain ⟨pl, ⟨p0, p1, p2, p3, p4⟩, f0, f1, f2, f3, f4⟩ := HP7.out
                  go_simp
                  refine hK.out _ _ ?_ (fun hHeld' => ?_)
                  · exact RdS.set (RdS.set hHeld (w.heap.size + 1) (by omega) (by omega) 1 _) (w.heap.size + 1) (by omega) (by omega) 2 _
                  have HP7 := Lib.hid (P5.set12 HP7.out (max p'.bf n.bf) (min p'.bt n.bt))
                  have HZ7 := Lib.hid ((HZ7.out.other (w.heap.size + 1) 1 (by omega) (.int .i64 (max p'.bf n.bf))).other (w.heap.size + 1) 2 (by omega) (.int .i64 (min p'.bt n.bt)))
                  clear p0 p1 p2 p3 p4 f0 f1 f2 f3 f4 pl
                  clear hK K hHeld
                  have hHeld := hHeld'
                  clear hHeld'
                  try simp only [Act.put, List.setIfInBounds_toArray, List.set_cons_zero, List.set_cons_succ]
                  refine wpAnyH_take (i := 12) (oi := { dst := some 47, op := Go.Op.fieldAddr 30 (Go.Operand.tmp 6) 2, type := 0, pos := "persona.go:30", after := #[{ on := 0, ground := Go.Ground.phase }, { on := 1, ground := Go.Ground.phase }, { on := 2, ground := Go.Ground.phase }, { on := 3, ground := Go.Ground.phase }, { on := 4, ground := Go.Ground.phase }, { on := 5, ground := Go.Ground.phase }, { on := 6, ground := Go.Ground.phase }, { on := 7, ground := Go.Ground.phase }, { on := 8, ground := Go.Ground.phase }, { on := 9, ground := Go.Ground.phase }, { on := 10, ground := Go.Ground.phase }, { on := 11, ground := Go.Ground.phase }], guard := none }) (v := ?_) rfl (by kernel_rfl) (by kernel_rfl) (by kernel_rfl) (fun _ _ _ h => h) (Or.inl ⟨by rfl, ?_⟩) (by assumption) ?_
                  rotate_left
                  · intro w hSw
                    try dsimp only at hSw
                    obtain ⟨⟨c0, c1, c2, c3, c4⟩, _⟩ := hSw
                    go_simp
                    try with_reducible rfl
                  try simp only [Act.put, List.setIfInBounds_toArray, List.set_cons_zero, List.set_cons_succ]
                  refine wpAnyH_ready (rs := [13]) (by kernel_rfl) (by simp) ?_
                  refine AllReadyH.cons (o := { dst := none, op := Go.Op.store 28 (Go.Operand.tmp 47) (Go.Operand.tmp 45), type := 0, pos := "persona.go:30", after := #[{ on := 12, ground := Go.Ground.data }, { on := 9, ground := Go.Ground.data }, { on := 11, ground := Go.Ground.chain }, { on := 0, ground := Go.Ground.phase }, { on := 1, ground := Go.Ground.phase }, { on := 2, ground := Go.Ground.phase }, { on := 3, ground := Go.Ground.phase }, { on := 4, ground := Go.Ground.phase }, { on := 5, ground := Go.Ground.phase }, { on := 6, ground := Go.Ground.phase }, { on := 7, ground := Go.Ground.phase }, { on := 8, ground := Go.Ground.phase }, { on := 9, ground := Go.Ground.phase }, { on := 10, ground := Go.Ground.phase }, { on := 11, ground := Go.Ground.phase }], guard := none }) rfl (fun K hK => ?_) ?_
                  · obtain ⟨pl, ⟨p0, p1, p2, p3, p4⟩, f0, f1, f2, f3, f4⟩ := HP7.out
                    go_simp
                    refine hK.out _ _ ?_ (fun hHeld' => ?_)
                    · exact RdS.set (RdS.set hHeld (w.heap.size + 1) (by omega) (by omega) 3 _) (w.heap.size + 1) (by omega) (by omega) 4 _
                    have HP7 := Lib.hid (P5.set34 HP7.out (max p'.df n.df) (min p'.dt n.dt))
                    have HZ7 := Lib.hid ((HZ7.out.other (w.heap.size + 1) 3 (by omega) (.int .i64 (max p'.df n.df))).other (w.heap.size + 1) 4 (by omega) (.int .i64 (min p'.dt n.dt)))
                    clear p0 p1 p2 p3 p4 f0 f1 f2 f3 f4 pl
                    clear hK K hHeld
                    have hHeld := hHeld'
                    clear hHeld'
                    try simp only [Act.put, List.setIfInBounds_toArray, List.set_cons_zero, List.set_cons_succ]
                    refine wpAnyH_done (by kernel_rfl) ?_ _
                    go_wp2
                    go_roundw
                    case rel => exact ⟨k + 1, _, by omega, by go_num, HNx, Lib.hid (hNxt.out _ HP7.out), HZ7, Lib.hid hHeld.2.out.1⟩
                    case measure => simp [intOf]; omega
                  exact AllReadyH.nil
                exact AllReadyH.nil
              exact AllReadyH.nil
            exact AllReadyH.nil
          exact AllReadyH.nil
        exact AllReadyH.nil
      · obtain rfl : k = r.length := by omega
        have HPn2 := Lib.hid (show perN l (c :: r) = p' by have := HPn.out; rwa [List.take_length] at this)
        have HPn := HPn2
        obtain ⟨nm, bf, bt, df, dt⟩ := p'
        simp only at HNL
        have CK := Lib.hid (fun w => checkNote_any nm bf bt df dt w (by omega))
        have HRp := Lib.hid (HR.out _ HPn.out)
        by_cases hz : cn ⟨nm, bf, bt, df, dt⟩ = 0
        · have e1 : R = (⟨nm, bf, bt, df, dt⟩, 0) := by rw [HRp.out, if_pos hz]
          have hz2 : cnE nm bf bt df dt = 0 := hz
          rw [hz2] at CK
          subst e1
          clear hz hz2
          obtain ⟨pl, ⟨p0, p1, p2, p3, p4⟩, f0, f1, f2, f3, f4⟩ := HP.out
          simp only at p0 p1 p2 p3 p4
          go_wp2_with (go_at_call 19; refine (CK.out _).mono ?_; rintro e w2 ⟨rfl, hb2⟩; obtain ⟨pl2, ⟨r0, r1, r2, r3, r4⟩, _⟩ := HP.out.below hb2; simp only at r0 r1 r2 r3 r4; obtain ⟨zl, ⟨z0, z1, z2, z3, z4⟩, y0, y1, y2, y3, y4⟩ := HZ.out.below hb2)
          obtain ⟨g0, g1, g2, g3, g4⟩ := cell_set5 z0 z1 z2 z3 z4 (.string ⟨nm.toArray⟩) (.int .i64 bf) (.int .i64 bt) (.int .i64 df) (.int .i64 dt)
          refine bodyPost_ret (v := two (Nt.val ⟨nm, bf, bt, df, dt⟩) (.int .i64 0)) (by simp [results, Try.results14, go_sem, g0, g1, g2, g3, g4]) rfl ⟨rfl, ?_⟩
          exact set5_below (HB.out.trans (hb2.mono HB.out.size)) (Nat.le_refl _) _ _ _ _ _
        · have e1 : R = (nt0, 13) := by rw [HRp.out, if_neg hz]
          obtain ⟨E, hE⟩ : ∃ E, cnE nm bf bt df dt = E := ⟨_, rfl⟩
          rw [hE] at CK
          have hEb : (E != 0) = true := by rw [bne_iff_ne]; intro h; exact hz (hE.trans h)
          subst e1
          clear hz hE
          obtain ⟨pl, ⟨p0, p1, p2, p3, p4⟩, f0, f1, f2, f3, f4⟩ := HP.out
          simp only at p0 p1 p2 p3 p4
          go_wp2_with (go_at_call 19; refine (CK.out _).mono ?_; rintro e w2 ⟨rfl, hb2⟩; obtain ⟨zl, ⟨z0, z1, z2, z3, z4⟩, y0, y1, y2, y3, y4⟩ := HZ.out.below hb2)
          obtain ⟨g0, g1, g2, g3, g4⟩ := cell_set5 z0 z1 z2 z3 z4 (.string ⟨#[]⟩) (.int .i64 0) (.int .i64 0) (.int .i64 0) (.int .i64 0)
          refine bodyPost_ret (v := two nt0.val (.int .i64 13)) (by simp [results, Try.results14, go_sem, nt0, g0, g1, g2, g3, g4]) rfl ⟨rfl, ?_⟩
          exact set5_below (HB.out.trans (hb2.mono HB.out.size)) (Nat.le_refl _) _ _ _ _ _
end Go.Proofs.Ytjjfiilokakppaa
