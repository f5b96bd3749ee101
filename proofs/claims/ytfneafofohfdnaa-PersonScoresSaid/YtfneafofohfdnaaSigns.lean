/-
  What Signs and CheckName of the specification of package person return: contracts, each for all worlds.
-/
import Derived.Test.YtfneafofohfdnaaRefS
import Derived.Test.YtfneafofohfdnaaCutS
import Derived.Test.YtfneafofohfdnaaRdNm
namespace Go.Proofs.Ytfneafofohfdnaa
open Go.RowKit
attribute [local go_sem] set_drewN
/-- what Signs returns -/
def rsOk (s : List UInt8) : Bool := match rdN s with
  | none => false
  | some M => decide (M ≠ [])
def RSPost (s : List UInt8) (w : World) (e : Ending) (w' : World) : Prop :=
  ∃ a n c, e = .returned (two (.slice a n c) (.bool (rsOk s))) ∧ (∀ M, rdN s = some M → n = M.length ∧ (M ≠ [] → ∃ g, a = some ⟨g, 0, none⟩ ∧ TxAt w' g (M.map lets))) ∧ Below w.heap.size w w'
theorem rsOk_none {s : List UInt8} (h : rdN s = none) : rsOk s = false := by unfold rsOk; rw [h]
theorem rsOk_some {s : List UInt8} {M : List Nat} (h : rdN s = some M) : rsOk s = decide (M ≠ []) := by unfold rsOk; rw [h]
theorem rdN_push {s r t : List UInt8} {P : List Nat} {m : Nat} (h : rdN s = (rdN r).map (fun l => P ++ l)) (hr : r ≠ []) (hc : cutS r = (t, (cutS r).2)) (hk : rdS t = (m, true)) :
    rdN s = (rdN (cutS r).2).map (fun l => (P ++ [m]) ++ l) := by
  have e : (cutS r).1 = t := by rw [hc]
  rw [h, rdN_yes hr (by rw [e, hk]), Option.map_map, e, hk]
  congr 1
  funext l
  simp
theorem rdN_stop {s r : List UInt8} {P : List Nat} (h : rdN s = (rdN r).map (fun l => P ++ l)) (hr : r ≠ []) (hk : (rdS (cutS r).1).2 = false) : rdN s = none := by
  rw [h, rdN_no hr hk]; rfl
theorem CRow.texts {w0 W : World} {D : List (List UInt8)} {v : Value} (h : CRow w0 W D v) : ∃ a c, v = .slice a D.length c ∧ (D ≠ [] → ∃ g, a = some ⟨g, 0, none⟩ ∧ TxAt W g D) := by
  by_cases hD : D = []
  · subst hD
    rcases h.1.2 with ⟨e, _⟩ | ⟨g, cap, cur, rfl, _⟩
    · exact ⟨_, _, e, fun h => absurd rfl h⟩
    · exact ⟨_, _, rfl, fun h => absurd rfl h⟩
  · obtain ⟨g, cap, e, _, ht⟩ := h.closed hD
    exact ⟨_, _, e, fun _ => ⟨g, rfl, ht⟩⟩
theorem CRow.below {w0 W W' : World} {D : List (List UInt8)} {v : Value} (h : CRow w0 W D v) (hb : Below W.heap.size W W') : CRow w0 W' D v :=
  ⟨h.1.kept (row := none) ⟨hb.os, hb.tape, hb.output, hb.size, fun j hj _ => hb.block j hj⟩ (by cases v.ownBlock <;> simp), h.2.trans (hb.mono h.2.size)⟩
theorem sl_two (s x : List UInt8) (i j : Nat) (I J : Int) (hI : I = i) (hJ : J = j) (hij : i ≤ j) (hj : j ≤ s.length) (hx : (s.take j).drop i = x) (w : World) :
    (Instr.slice 9 (.string ⟨s.toArray⟩) (some (.int .i64 I)) (some (.int .i64 J)) none).run Try.prog w = .ok (.string ⟨x.toArray⟩) w := by
  have hs : (⟨s.toArray⟩ : ByteArray).size = s.length := by show s.toArray.size = _; simp
  rw [run_slice_string w 9 ⟨s.toArray⟩ .i64 .i64 I J Try.underlying9 (by omega) (by omega) (by omega), hI, hJ]
  rw [Int.toNat_natCast, Int.toNat_natCast, ext_of s i j x hx]
theorem sl_from (s x : List UInt8) (i : Nat) (hi : i ≤ s.length) (hx : s.drop i = x) (w : World) :
    (Instr.slice 9 (.string ⟨s.toArray⟩) (some (.int .i64 (i : Int))) none none).run Try.prog w = .ok (.string ⟨x.toArray⟩) w := by
  have hs : (⟨s.toArray⟩ : ByteArray).size = s.length := by show s.toArray.size = _; simp
  rw [run_slice_string_from_if w 9 ⟨s.toArray⟩ .i64 (i : Int) Try.underlying9, if_pos ⟨by omega, by omega⟩]
  rw [Int.toNat_natCast, ext_of s i _ x (by rw [hs, List.take_length]; exact hx)]
theorem len_mapE (P : List Nat) : (P.map lets).length = P.length := List.length_map ..
set_option maxRecDepth 100000 in
set_option maxHeartbeats 8000000 in
theorem Signs_any (s : List UInt8) (w : World) (hl : s.length ≤ 2000000) : Calls Try.prog 15 #[.string ⟨s.toArray⟩] w (RSPost s w) := by
  obtain ⟨i0, hi, hz0, hz1, hz2⟩ := info_parts infoS
  go_enter Try.func15, Try.ntmps15
  go_wp2
  go_loopw [4, 5] (fun ov av wr => ∃ (P : List Nat) (k : Nat), k ≤ s.length ∧ av = .int .i64 k ∧ Hid (rdN s = (rdN (s.drop k)).map (fun l => P ++ l)) ∧ P.length ≤ k ∧ Hid (CRow w wr (P.map lets) ov)) (fun _ av _ => s.length - (intOf av).toNat)
  case atStart => exact ⟨[], 0, Nat.zero_le _, rfl, Lib.hid (by simp), Nat.le_refl _, Lib.hid ⟨World.ownsRow_nil _ _ _ _, Below.refl _ _⟩⟩
  case round =>
    obtain ⟨P, k, hk, rfl, HP, hPk, HRow⟩ := hrel
    have hsz := HRow.out.2.size
    by_cases hlt : k < s.length
    · have hg := arr_at s k hlt (arr_lt hlt)
      have hdr : s.drop k = s[k] :: s.drop (k + 1) := (List.getElem_cons_drop hlt).symm
      obtain ⟨c, hc⟩ : ∃ c, s[k] = c := ⟨_, rfl⟩
      rw [hc] at hg hdr
      have hne : s.drop k ≠ [] := by rw [hdr]; simp
      have x1 := fun w => sl_two s [c] k (k + 1) (k : Int) ((k : Int) + 1) rfl (by omega) (by omega) (by omega) (by rw [List.drop_take, hdr]; simp) w
      have hb1 : (((⟨s.toArray⟩ : ByteArray)[k]'(arr_lt hlt)).toNat : Int) = (c.toNat : Int) := by rw [hg]
      by_cases h63 : c = 63
      · have HPn := Lib.hid (show rdN s = (rdN (s.drop (k + 1))).map (fun l => (P ++ [anyM]) ++ l) by
          have hcut : cutS (s.drop k) = ([63], s.drop (k + 1)) := by rw [hdr, h63]; exact cutS_one _ (by decide)
          have := rdN_push HP.out hne (t := [63]) (m := anyM) (by rw [hcut]) rdS_any
          rw [hcut] at this
          exact this)
        have hD := Lib.hid (show (P ++ [anyM]).map lets = P.map lets ++ [AB] by rw [List.map_append, List.map_singleton, lets_any])
        have hb2 : (((⟨s.toArray⟩ : ByteArray)[k]'(arr_lt hlt)).toNat : Int) = 63 := by rw [hg, h63]; rfl
        have hDk : (P.map lets).length ≤ k := by rw [len_mapE]; exact hPk
        clear hg hdr hne hb1 hc h63
        obtain ⟨a2, c2, rfl, _⟩ := HRow.out.texts
        generalize P.map lets = D at *
        have R9 := HRow
        go_wp2_with (at_builtin; refine wpList_append_own _ rfl _ _ 24 rfl w.heap.size 9 i0 (.string ⟨#[]⟩) 1 16 Try.underlying24 hi hz0 hz1 hz2 rfl (by decide) _ _ _ rfl (R9.out.1.alloc _) ⟨wr.heap.size, 0, none⟩ 1 1 [strV AB] rfl rfl ?c1 ?c2 ?c3 ?c4 ?c5 ?_)
        case c1 => exact World.news_of_block (cs := #[strV AB]) (heap_alloc_new _ _)
        case c2 => simp [strV, Value.oneCell']
        case c3 => unfold maxLen; omega
        case c4 => omega
        case c5 => simp; omega
        intro v3 w3 hown3 hgrow3 _
        have D3 := Lib.hid (CRow.snoc (x := AB) hown3 (R9.out.2.alloc (by omega) _) hgrow3 (R9.out.1.alloc _))
        go_wp2
        go_roundw
        case rel => exact ⟨P ++ [anyM], k + 1, by omega, by go_num, HPn, by simp; omega, by rw [hD.out]; exact D3⟩
        case measure => simp [intOf]; omega
      · have d63 : (((⟨s.toArray⟩ : ByteArray)[k]'(arr_lt hlt)).toNat : Int) = 63 → False := by
          rw [hg]; intro e; exact h63 (Lib.byte_eq_of_toNat (by exact_mod_cast e))
        have n63 : ¬ (((⟨s.toArray⟩ : ByteArray)[k]'(arr_lt hlt)).toNat : Int) = 63 := d63
        clear d63
        by_cases h91 : c = 91
        · have hb2 : (((⟨s.toArray⟩ : ByteArray)[k]'(arr_lt hlt)).toNat : Int) = 91 := by rw [hg, h91]; rfl
          obtain ⟨r, hr⟩ : ∃ r, s.drop (k + 1) = r := ⟨_, rfl⟩
          rw [h91, hr] at hdr
          have x2 := fun w => sl_from s (91 :: r) k (by omega) hdr w
          have hpl := Lib.hid (fun w => place_any (91 :: r) 93 w (by have := congrArg List.length hr; simp at this; simp; omega))
          by_cases h93 : (93 : UInt8) ∈ r
          · obtain ⟨a, b, rfl, hn⟩ := first93 h93
            have hcut : cutS (s.drop k) = (91 :: (a ++ [93]), b) := by rw [hdr]; exact cutS_at b hn
            have hib : Lib.indexByte (91 :: (a ++ 93 :: b)) 93 = ((a.length + 1 : Nat) : Int) := by
              have := ib_at b (a := 91 :: a) (by simp only [List.mem_cons, not_or]; exact ⟨by decide, hn⟩)
              simpa using this
            rw [hib] at hpl
            have hlen : k + 1 + (a.length + 1 + b.length) = s.length := by have := congrArg List.length hr; simp at this; omega
            have hdb : s.drop (k + 1 + a.length + 1) = b := by
              have : s.drop (k + 1 + a.length + 1) = (s.drop (k + 1)).drop (a.length + 1) := by rw [List.drop_drop]; congr 1
              rw [this, hr, show a ++ 93 :: b = (a ++ [93]) ++ b by simp, List.drop_left' (by simp)]
            have htk : (s.take (k + 1 + a.length)).drop (k + 1) = a := by
              rw [List.drop_take, hr, show k + 1 + a.length - (k + 1) = a.length by omega, List.take_left' rfl]
            obtain ⟨q, hq⟩ : ∃ q, a.length + 1 = q := ⟨_, rfl⟩
            have x3 := fun w => sl_two s a (k + 1) (k + 1 + a.length) ((k : Int) + 1) ((q : Int) + (k : Int) + 1 - 1) (by omega) (by omega) (by omega) (by omega) htk w
            have x4 := fun w => sl_two s a (k + 1) (k + 1 + a.length) ((k : Int) + 1) ((q : Int) + (k : Int)) (by omega) (by omega) (by omega) (by omega) htk w
            rw [hq] at hpl
            have hset := Lib.hid (fun w => isSet_any a w (by omega))
            have hnle : ¬ (q : Int) + (k : Int) + 1 ≤ (k : Int) := by omega
            have hdle : decide ((q : Int) + (k : Int) + 1 ≤ (k : Int)) = false := decide_eq_false hnle
            by_cases hok : setB a ∧ 2 ≤ a.length ∧ a.length < 53
            · obtain ⟨o1, o2, o3⟩ := hok
              have HPn := Lib.hid (show rdN s = (rdN (s.drop (k + 1 + a.length + 1))).map (fun l => (P ++ [msk a]) ++ l) by
                have := rdN_push HP.out hne (t := 91 :: (a ++ [93])) (m := msk a) (by rw [hcut]) (by rw [rdS_br, decide_eq_true ⟨o1, o2, o3⟩])
                rw [hcut] at this
                rw [hdb]; exact this)
              have hD := Lib.hid (show (P ++ [msk a]).map lets = P.map lets ++ [a] by rw [List.map_append, List.map_singleton, lets_msk o1])
              have hDk : (P.map lets).length ≤ k := by rw [len_mapE]; exact hPk
              rw [decide_eq_true o1] at hset
              have hl2 : ¬ (a.length : Int) < 2 := by omega
              have hl53 : ¬ 53 ≤ (a.length : Int) := by omega
              have hd2 : decide ((a.length : Int) < 2) = false := decide_eq_false hl2
              have hd53 : decide (53 ≤ (a.length : Int)) = false := decide_eq_false hl53
              clear hcut hib hdb htk o1 hr hn h93 hdr hne hb1 hc hg
              obtain ⟨a2, c2, rfl, _⟩ := HRow.out.texts
              generalize P.map lets = D at *
              go_wp2_with (first
                | (go_at_call 40; refine (hpl.out _).mono ?_; rintro e w' ⟨rfl, rfl⟩)
                | (go_at_call 41; refine (hset.out _).mono ?_; rintro e w9 ⟨rfl, hb9⟩; have q9 := hb9.size; have R9 := Lib.hid (HRow.out.below hb9))
                | (at_builtin; refine wpList_append_own _ rfl _ _ 24 rfl w.heap.size 9 i0 (.string ⟨#[]⟩) 1 16 Try.underlying24 hi hz0 hz1 hz2 rfl (by decide) _ _ _ rfl (R9.out.1.alloc _) ⟨w9.heap.size, 0, none⟩ 1 1 [strV a] rfl rfl ?c1 ?c2 ?c3 ?c4 ?c5 ?_))
              case c1 => exact World.news_of_block (cs := #[strV a]) (heap_alloc_new _ _)
              case c2 => simp [strV, Value.oneCell']
              case c3 => unfold maxLen; omega
              case c4 => omega
              case c5 => simp; omega
              intro v3 w3 hown3 hgrow3 _
              have D3 := Lib.hid (CRow.snoc (x := a) hown3 (R9.out.2.alloc (by omega) _) hgrow3 (R9.out.1.alloc _))
              go_wp2
              go_roundw
              case rel => exact ⟨P ++ [msk a], k + 1 + a.length + 1, by omega, by go_num, HPn, by simp; omega, by rw [hD.out]; exact D3⟩
              case measure => simp [intOf]; omega
            · have HNn := Lib.hid (rdN_stop HP.out hne (by rw [hcut]; simp only; rw [rdS_br]; exact decide_eq_false hok))
              have HO := Lib.hid (rsOk_none HNn.out)
              by_cases o1 : setB a
              · rw [decide_eq_true o1] at hset
                by_cases o2 : a.length < 2
                · have hd2 : decide ((a.length : Int) < 2) = true := decide_eq_true (by omega)
                  have hi2 : (a.length : Int) < 2 := by omega
                  clear hcut hib hdb htk o1 hr hn h93 hdr hne hb1 hc hg hok
                  go_wp2_with (first
                    | (go_at_call 40; refine (hpl.out _).mono ?_; rintro e w' ⟨rfl, rfl⟩)
                    | (go_at_call 41; refine (hset.out _).mono ?_; rintro e w9 ⟨rfl, hb9⟩; have q9 := hb9.size; have R9 := Lib.hid (HRow.out.below hb9)))
                  go_ret2
                  exact ⟨_, _, _, by rw [HO.out]; rfl, (fun M hM => by rw [HNn.out] at hM; cases hM), R9.out.2⟩
                · have h53 : 53 ≤ a.length := Nat.le_of_not_lt (fun h => hok ⟨o1, by omega, h⟩)
                  have hl2 : ¬ (a.length : Int) < 2 := by omega
                  have hd2 : decide ((a.length : Int) < 2) = false := decide_eq_false hl2
                  have hi53 : 53 ≤ (a.length : Int) := by omega
                  have hd53 : decide (53 ≤ (a.length : Int)) = true := decide_eq_true hi53
                  clear hcut hib hdb htk o1 hr hn h93 hdr hne hb1 hc hg hok
                  go_wp2_with (first
                    | (go_at_call 40; refine (hpl.out _).mono ?_; rintro e w' ⟨rfl, rfl⟩)
                    | (go_at_call 41; refine (hset.out _).mono ?_; rintro e w9 ⟨rfl, hb9⟩; have q9 := hb9.size; have R9 := Lib.hid (HRow.out.below hb9)))
                  go_ret2
                  exact ⟨_, _, _, by rw [HO.out]; rfl, (fun M hM => by rw [HNn.out] at hM; cases hM), R9.out.2⟩
              · rw [decide_eq_false o1] at hset
                clear hcut hib hdb htk o1 hr hn h93 hdr hne hb1 hc hg hok
                go_wp2_with (first
                  | (go_at_call 40; refine (hpl.out _).mono ?_; rintro e w' ⟨rfl, rfl⟩)
                  | (go_at_call 41; refine (hset.out _).mono ?_; rintro e w9 ⟨rfl, hb9⟩; have q9 := hb9.size; have R9 := Lib.hid (HRow.out.below hb9)))
                go_ret2
                exact ⟨_, _, _, by rw [HO.out]; rfl, (fun M hM => by rw [HNn.out] at hM; cases hM), R9.out.2⟩
          · have hib : Lib.indexByte (91 :: r) 93 = -1 := ib_no (by simp only [List.mem_cons, not_or]; exact ⟨by decide, h93⟩)
            rw [hib] at hpl
            have HNn := Lib.hid (rdN_stop HP.out hne (by rw [hdr, cutS_no h93]; exact rdS_open h93))
            have HO := Lib.hid (rsOk_none HNn.out)
            clear hib hr h93 hdr hne hb1 hc hg
            go_wp2_with (first
              | (go_at_call 40; refine (hpl.out _).mono ?_; rintro e w' ⟨rfl, rfl⟩))
            go_ret2
            exact ⟨_, _, _, by rw [HO.out]; rfl, (fun M hM => by rw [HNn.out] at hM; cases hM), HRow.out.2⟩
        · have hcut : cutS (s.drop k) = ([c], s.drop (k + 1)) := by rw [hdr]; exact cutS_one _ h91
          have n91 : ¬ (((⟨s.toArray⟩ : ByteArray)[k]'(arr_lt hlt)).toNat : Int) = 91 := by
            rw [hg]; intro e; exact h91 (Lib.byte_eq_of_toNat (by exact_mod_cast e))
          by_cases hab : c ∈ AB
          · have hx := Lib.hid (show plI ((⟨s.toArray⟩ : ByteArray)[k]'(arr_lt hlt)) = (pl c : Int) by unfold plI; rw [hg, if_pos (pl_mem.2 hab)])
            have HPn := Lib.hid (show rdN s = (rdN (s.drop (k + 1))).map (fun l => (P ++ [msk [c]]) ++ l) by
              have := rdN_push HP.out hne (t := [c]) (m := msk [c]) (by rw [hcut]) (by rw [rdS_one h63, decide_eq_true hab])
              rw [hcut] at this
              exact this)
            have hD := Lib.hid (show (P ++ [msk [c]]).map lets = P.map lets ++ [[c]] by rw [List.map_append, List.map_singleton, lets_one hab])
            have hDk : (P.map lets).length ≤ k := by rw [len_mapE]; exact hPk
            obtain ⟨p, hp⟩ : ∃ p, pl c = p := ⟨_, rfl⟩
            rw [hp] at hx
            have hpneg : decide ((p : Int) < 0) = false := by rw [decide_eq_false_iff_not]; omega
            clear hcut hab hdr hne hb1 hc hg hp h63 h91
            obtain ⟨a2, c2, rfl, _⟩ := HRow.out.texts
            generalize P.map lets = D at *
            have R9 := HRow
            go_wp2_with (first
              | (go_at_call 40; refine (placeAB _ _ hx _).mono ?_; rintro e w' ⟨rfl, rfl⟩)
              | (at_builtin; refine wpList_append_own _ rfl _ _ 24 rfl w.heap.size 9 i0 (.string ⟨#[]⟩) 1 16 Try.underlying24 hi hz0 hz1 hz2 rfl (by decide) _ _ _ rfl (R9.out.1.alloc _) ⟨wr.heap.size, 0, none⟩ 1 1 [strV [c]] rfl rfl ?c1 ?c2 ?c3 ?c4 ?c5 ?_))
            case c1 => exact World.news_of_block (cs := #[strV [c]]) (heap_alloc_new _ _)
            case c2 => simp [strV, Value.oneCell']
            case c3 => unfold maxLen; omega
            case c4 => omega
            case c5 => simp; omega
            intro v3 w3 hown3 hgrow3 _
            have D3 := Lib.hid (CRow.snoc (x := [c]) hown3 (R9.out.2.alloc (by omega) _) hgrow3 (R9.out.1.alloc _))
            go_wp2
            go_roundw
            case rel => exact ⟨P ++ [msk [c]], k + 1, by omega, by go_num, HPn, by simp; omega, by rw [hD.out]; exact D3⟩
            case measure => simp [intOf]; omega
          · have hx := Lib.hid (show plI ((⟨s.toArray⟩ : ByteArray)[k]'(arr_lt hlt)) = -1 by unfold plI; rw [hg, if_neg (fun h => hab (pl_mem.1 h))])
            have HNn := Lib.hid (rdN_stop HP.out hne (by rw [hcut]; simp only; rw [rdS_one h63]; exact decide_eq_false hab))
            have HO := Lib.hid (rsOk_none HNn.out)
            clear hcut hab hdr hne hb1 hc hg h63 h91
            go_wp2_with (first
              | (go_at_call 40; refine (placeAB _ _ hx _).mono ?_; rintro e w' ⟨rfl, rfl⟩))
            go_ret2
            exact ⟨_, _, _, by rw [HO.out]; rfl, (fun M hM => by rw [HNn.out] at hM; cases hM), HRow.out.2⟩
    · obtain rfl : k = s.length := by omega
      have hP := HP.out
      rw [List.drop_length, rdN_nil] at hP
      have hP' : rdN s = some P := by rw [hP]; simp
      have HS := Lib.hid hP'
      have HO := Lib.hid (rsOk_some hP')
      have HL := Lib.hid (len_mapE P)
      obtain ⟨a2, c2, rfl, hT⟩ := HRow.out.texts
      have HT := Lib.hid hT
      clear hP hP' hT
      have hDl : (P.map lets).length ≤ s.length := by rw [HL.out]; exact hPk
      have HE := Lib.hid (show decide (P ≠ []) = decide (0 < (P.map lets).length) by
        rw [len_mapE]
        by_cases h : P = []
        · simp [h]
        · have := List.length_pos_iff.2 h
          rw [decide_eq_true h, decide_eq_true (by omega)])
      have HD := Lib.hid (show P ≠ [] → P.map lets ≠ [] from fun h => by simpa using h)
      obtain ⟨D, hD⟩ : ∃ D, P.map lets = D := ⟨_, rfl⟩
      have HDD := Lib.hid hD
      rw [hD] at HL HE HD HT hDl ⊢
      clear hD
      go_wp2
      go_ret2
      refine ⟨a2, D.length, c2, by rw [HO.out, HE.out]; rfl, fun M hM => ?_, HRow.out.2⟩
      rw [HS.out] at hM
      obtain rfl := Option.some.inj hM
      refine ⟨HL.out, fun h => ?_⟩
      obtain ⟨g, e1, e2⟩ := HT.out (HD.out h)
      exact ⟨g, e1, by rw [HDD.out]; exact e2⟩
theorem nmE_rs {s : List UInt8} : (rsOk s = false → nmE s = 7) ∧ (∀ M, rdN s = some M → rsOk s = true → nmE s = if 24 < M.length then 8 else 0) := by
  cases hr : rdN s with
  | none => exact ⟨fun _ => nmE_none hr, fun M h => by cases h⟩
  | some M =>
    obtain ⟨e1, _⟩ := rdN_some hr
    have hk := rsOk_some hr
    refine ⟨fun h => ?_, fun M' h h2 => ?_⟩
    · rw [hk, decide_eq_false_iff_not] at h
      have hM : M = [] := Decidable.of_not_not h
      have hs : s = [] := by rw [e1, hM]; rfl
      rw [hs]; exact nmE_nil
    · obtain rfl := Option.some.inj h
      rw [hk, decide_eq_true_eq] at h2
      have hs : s ≠ [] := fun e => by
        rw [e, rdN_nil] at hr
        exact h2 (Option.some.inj hr).symm
      unfold nmE
      rw [hr]
      simp only
      rw [if_neg hs]
set_option maxHeartbeats 1000000 in
theorem xCheckName_any (s : List UInt8) (w : World) (hl : s.length ≤ 2000000) : Calls Try.prog 13 #[.string ⟨s.toArray⟩] w (RetB (.int .i64 (nmE s)) w) := by
  have hS := Lib.hid (fun w => Signs_any s w hl)
  obtain ⟨n1, n2⟩ := @nmE_rs s
  cases hk : rsOk s
  · rw [n1 hk]
    have HP := Lib.hid (fun w => (hS.out w).mono (R' := fun e w' => ∃ v, e = .returned (two v (.bool false)) ∧ Below w.heap.size w w')
      (fun e w' ⟨a, n, c, h1, _, h3⟩ => ⟨.slice a n c, by rw [h1, hk], h3⟩))
    clear n1 n2 hS hk
    go_enter Try.func13, Try.ntmps13
    go_wp2_with (go_at_call 15; refine (HP.out _).mono ?_; rintro e w1 ⟨v, rfl, hb⟩)
    go_ret
    exact ⟨rfl, hb⟩
  · cases hr : rdN s with
    | none => rw [rsOk_none hr] at hk; cases hk
    | some M =>
      rw [n2 M hr hk]
      have HP := Lib.hid (fun w => (hS.out w).mono (R' := fun e w' => ∃ a c, e = .returned (two (.slice a M.length c) (.bool true)) ∧ Below w.heap.size w w')
        (fun e w' ⟨a, n, c, h1, h2, h3⟩ => ⟨a, c, by rw [h1, hk, (h2 M hr).1], h3⟩))
      clear n1 n2 hS hk hr
      by_cases h24 : 24 < M.length
      · rw [if_pos h24]
        go_enter Try.func13, Try.ntmps13
        go_wp2_with (go_at_call 15; refine (HP.out _).mono ?_; rintro e w1 ⟨a, c, rfl, hb⟩)
        go_ret
        exact ⟨rfl, hb⟩
      · rw [if_neg h24]
        have hd : decide (24 < M.length) = false := decide_eq_false h24
        go_enter Try.func13, Try.ntmps13
        go_wp2_with (go_at_call 15; refine (HP.out _).mono ?_; rintro e w1 ⟨a, c, rfl, hb⟩)
        go_ret
        exact ⟨rfl, hb⟩
end Go.Proofs.Ytfneafofohfdnaa
