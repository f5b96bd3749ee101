/-
  What HasText and Texts of package mortsafebase return: contracts for all worlds in which the lists lie.
-/
import Derived.Test.YtfphedcgmaakjaaGreatDoorNums
import Derived.Laws.AppendOwn
import Derived.Deep.AppendLies
import Derived.Test.YtfphedcgmaakjaaGreatDoorNms0
import Derived.Laws.Cover1
namespace Go.Proofs.YtfphedcgmaakjaaGreatDoor
open Go.RowKit
section
variable {P : Program} {w : World}
theorem run_app_src {t ty e : TypeId} {i : TypeInfo} {z : Value} {size bytes base n m c : Nat} {v : Value} {A : Option Addr} {xs news : List Value} (ht : P.underlying t = some (.slice e)) (hi : P.info? e = some i) (hz : i.zero = some z)
    (hsize : i.size = size) (hby : i.bytes = bytes) (hzs : z.cells.size = size) (hsz : 0 < size) (hown : w.ownsRow base e size v n xs) (hl : news.length = m * size)
    (hA : ∀ ad, A = some ad → ∀ j u, news[j]? = some u → w.cell? (ad.add j) = some u) (hN : A = none → m = 0) (h1 : ∀ u ∈ news, u.oneCell' = true)
    (h63 : n + m ≤ maxLen) (hbytes : (n + m) * bytes ≤ 140737488355328) (hbase : base ≤ w.heap.size) :
    ∃ v' w', (Builtin.append_ #[t, t] ty #[v, .slice A m c]).run P w = .ok v' w' ∧ w'.ownsRow base e size v' (n + m) (xs ++ news) ∧ w.grownBy w' v.ownBlock := by
  cases A with
  | some ad =>
    obtain ⟨v', w', a, b, c, _⟩ := run_append_own (P := P) w base t ty e i z size bytes ht hi hz hsize hby hzs hsz v n xs hown ad m c news hl (hA ad rfl) h1 h63 hbytes hbase
    exact ⟨v', w', a, b, c⟩
  | none =>
    obtain rfl : m = 0 := hN rfl
    obtain rfl : news = [] := List.eq_nil_of_length_eq_zero (by simpa using hl)
    refine ⟨v, w, ?_, by simpa using hown, ⟨rfl, rfl, rfl, Nat.le_refl _, fun _ _ _ => rfl⟩⟩
    rcases hown.2 with ⟨rfl, rfl⟩ | ⟨g, cap, cur, rfl, _, _, hnc, _⟩
    · simp [Builtin.append_, run_underlying ht, sizeOf, typeInfo, hi, Builtin.lenOf, Builtin.firstCells]
    · simp [Builtin.append_, run_underlying ht, sizeOf, typeInfo, hi, Builtin.lenOf, Builtin.firstCells, hnc, storeCells]
theorem step_app {ops : Array Oper} {o : Oper} {a : Act} {K : Act → World → Prop} {Q : Exit → Act → World → Prop} {E : Prop} (hgd : o.guard = none) (s x : Operand) (t : TypeId)
    (ho : o.op = .call { callee := .builtin .append, args := #[s, x], argTypes := #[t, t] })
    {e : TypeId} {i : TypeInfo} {z : Value} {size bytes : Nat} (base : Nat) {n m c : Nat} {v : Value} {A : Option Addr} {xs news : List Value} (ht : P.underlying t = some (.slice e)) (hi : P.info? e = some i) (hz : i.zero = some z)
    (hsize : i.size = size) (hby : i.bytes = bytes) (hzs : z.cells.size = size) (hsz : 0 < size) (hs : a.eval s = v) (hx : a.eval x = .slice A m c) (hown : w.ownsRow base e size v n xs) (hl : news.length = m * size)
    (hA : ∀ ad, A = some ad → ∀ j u, news[j]? = some u → w.cell? (ad.add j) = some u) (hN : A = none → m = 0) (h1 : ∀ u ∈ news, u.oneCell' = true)
    (h63 : n + m ≤ maxLen) (hbytes : (n + m) * bytes ≤ 140737488355328) (hbase : base ≤ w.heap.size)
    (h : ∀ v' w', w'.ownsRow base e size v' (n + m) (xs ++ news) → w.grownBy w' v.ownBlock → K (a.put o.dst v') w') :
    if Region.wanted o (yielded ops a.tmps) = true then Oper.wp P o a w K Q else E := by
  have hw : Region.wanted o (yielded ops a.tmps) = true := by simp [Region.wanted, hgd]
  rw [if_pos hw]
  obtain ⟨v', w', hr, h2, h3⟩ := run_app_src (P := P) (w := w) (ty := o.type) ht hi hz hsize hby hzs hsz hown hl hA hN h1 h63 hbytes hbase (c := c)
  unfold Oper.wp execOp
  simp only [ho, resolve, invoke, builtin, Sem.run_bind, Sem.run_pure, Result.andThen_ok, List.map_toArray, List.map_cons, List.map_nil, hs, hx, hr]
  exact h v' w' h2 h3
end
end Go.Proofs.YtfphedcgmaakjaaGreatDoor
namespace Go.Proofs.YtfphedcgmaakjaaGreatDoor
open Go.RowKit Go.WideMaps Go.Maps
/-- the names that have a value, of the first k entries, ascending -/
def rfN (l : List Pv) (a0 a1 : Int) (k : Nat) : List (List UInt8) := ((dd ((l.take k).map fun p => bsOf p.name)).filter fun x => hasV l a0 a1 x).mergeSort leB
theorem rfN_mem (l : List Pv) (a0 a1 : Int) (k : Nat) (x : List UInt8) : x ∈ rfN l a0 a1 k ↔ (x ∈ (l.take k).map fun p => bsOf p.name) ∧ hasV l a0 a1 x = true := by
  unfold rfN
  rw [List.mem_mergeSort, List.mem_filter, dd_mem]
theorem rfN_nodup (l : List Pv) (a0 a1 : Int) (k : Nat) : (rfN l a0 a1 k).Nodup :=
  (List.mergeSort_perm _ leB).nodup_iff.2 ((dd_nodup _).filter _)
theorem rfN_all (l : List Pv) (a0 a1 : Int) : rfN l a0 a1 l.length = nmsOf l a0 a1 := by
  unfold rfN nmsOf nmSet
  rw [List.take_length]
theorem rfN_0 (l : List Pv) (a0 a1 : Int) : rfN l a0 a1 0 = [] := by simp [rfN, dd]
theorem leB_tr : ∀ a b c : List UInt8, leB a b = true → leB b c = true → leB a c = true := fun a b c h1 h2 => by simp only [leB, decide_eq_true_eq] at *; exact List.le_trans h1 h2
theorem leB_to : ∀ a b : List UInt8, (leB a b || leB b a) = true := fun a b => by simp only [leB, Bool.or_eq_true, decide_eq_true_eq]; exact List.le_total a b
theorem rfN_sorted (l : List Pv) (a0 a1 : Int) (k : Nat) : (rfN l a0 a1 k).Pairwise (· < ·) := by
  have h := List.pairwise_mergeSort leB_tr leB_to ((dd ((l.take k).map fun p => bsOf p.name)).filter fun x => hasV l a0 a1 x)
  have hn := rfN_nodup l a0 a1 k
  refine (List.Pairwise.and h hn).imp fun {a b} hab => ?_
  obtain ⟨h1, h2⟩ := hab
  simp only [leB, decide_eq_true_eq] at h1
  by_cases h3 : a < b
  · exact h3
  · exact absurd (List.le_antisymm h1 (List.not_lt.1 h3)) h2
/-- an ascending list with the same members is the same -/
theorem rfN_uni {l : List Pv} {a0 a1 : Int} {k : Nat} {L : List (List UInt8)} (hs : L.Pairwise (· < ·)) (hm : ∀ x, x ∈ L ↔ x ∈ rfN l a0 a1 k) : L = rfN l a0 a1 k := by
  have hnd : L.Nodup := hs.imp fun {a b} h e => by subst e; exact List.lt_irrefl _ h
  refine List.Perm.eq_of_pairwise (le := fun a b => leB a b = true) (fun a b _ _ h1 h2 => ?_) (hs.imp fun {a b} h => by simpa [leB] using List.le_of_lt h) ((rfN_sorted l a0 a1 k).imp fun {a b} h => by simpa [leB] using List.le_of_lt h) ((List.perm_ext_iff_of_nodup hnd (rfN_nodup l a0 a1 k)).2 hm)
  simp only [leB, decide_eq_true_eq] at h1 h2
  exact List.le_antisymm h1 h2
theorem take_names {l : List Pv} {k : Nat} {p : Pv} (hk : k < l.length) (hp : l[k] = p) (x : List UInt8) : (x ∈ (l.take (k + 1)).map fun p => bsOf p.name) ↔ ((x ∈ (l.take k).map fun p => bsOf p.name) ∨ x = bsOf p.name) := by
  rw [List.take_succ_eq_append_getElem hk, hp, List.map_append, List.mem_append]
  simp
theorem rfN_skip {l : List Pv} {a0 a1 : Int} {k : Nat} {p : Pv} (hk : k < l.length) (hp : l[k] = p) (h : hasV l a0 a1 (bsOf p.name) = false ∨ bsOf p.name ∈ rfN l a0 a1 k) : rfN l a0 a1 (k + 1) = rfN l a0 a1 k := by
  refine (rfN_uni (rfN_sorted l a0 a1 k) fun x => ?_).symm
  rw [rfN_mem, rfN_mem, take_names hk hp]
  constructor
  · rintro ⟨h1, h2⟩; exact ⟨.inl h1, h2⟩
  · rintro ⟨h1 | h1, h2⟩
    · exact ⟨h1, h2⟩
    · subst h1
      rcases h with h | h
      · rw [h] at h2; cases h2
      · exact ⟨((rfN_mem _ _ _ _ _).1 h).1, h2⟩
theorem rfN_ins {l : List Pv} {a0 a1 : Int} {k : Nat} {p : Pv} {j : Nat} (hk : k < l.length) (hp : l[k] = p) (hh : hasV l a0 a1 (bsOf p.name) = true) (hj : j ≤ (rfN l a0 a1 k).length)
    (h1 : ∀ i (hi : i < (rfN l a0 a1 k).length), j ≤ i → bsOf p.name < (rfN l a0 a1 k)[i]) (h2 : ∀ i (hi : i < (rfN l a0 a1 k).length), i < j → (rfN l a0 a1 k)[i] < bsOf p.name) :
    (rfN l a0 a1 k).take j ++ [bsOf p.name] ++ (rfN l a0 a1 k).drop j = rfN l a0 a1 (k + 1) := by
  have hs := rfN_sorted l a0 a1 k
  have hm := rfN_mem l a0 a1 k
  have hu := @rfN_uni l a0 a1 (k + 1)
  have hm1 := rfN_mem l a0 a1 (k + 1)
  generalize rfN l a0 a1 k = L at *
  have ht : ∀ y ∈ L.take j, y < bsOf p.name := fun y hy => by
    obtain ⟨i, hi, rfl⟩ := List.mem_iff_getElem.1 hy
    rw [List.length_take] at hi
    rw [List.getElem_take]
    exact h2 i (by omega) (by omega)
  have hd : ∀ y ∈ L.drop j, bsOf p.name < y := fun y hy => by
    obtain ⟨i, hi, rfl⟩ := List.mem_iff_getElem.1 hy
    rw [List.length_drop] at hi
    rw [List.getElem_drop]
    exact h1 (j + i) (by omega) (by omega)
  refine hu ?_ fun x => ?_
  · rw [List.append_assoc]
    refine List.pairwise_append.2 ⟨hs.sublist (List.take_sublist _ _), List.pairwise_append.2 ⟨List.pairwise_singleton _ _, hs.sublist (List.drop_sublist _ _), fun a ha b hb => by rw [List.mem_singleton.1 ha]; exact hd b hb⟩, fun a ha b hb => ?_⟩
    rcases List.mem_append.1 hb with hb | hb
    · rw [List.mem_singleton.1 hb]; exact ht a ha
    · exact List.lt_trans (ht a ha) (hd b hb)
  · rw [hm1, take_names hk hp, List.mem_append, List.mem_append, List.mem_singleton]
    have e : x ∈ L ↔ (x ∈ L.take j ∨ x ∈ L.drop j) := by rw [← List.mem_append, List.take_append_drop]
    constructor
    · rintro ((h | h) | h)
      · have := (hm x).1 (e.2 (.inl h)); exact ⟨.inl this.1, this.2⟩
      · subst h; exact ⟨.inr rfl, hh⟩
      · have := (hm x).1 (e.2 (.inr h)); exact ⟨.inl this.1, this.2⟩
    · rintro ⟨h | h, h2⟩
      · rcases e.1 ((hm x).2 ⟨h, h2⟩) with h | h
        · exact .inl (.inl h)
        · exact .inr h
      · exact .inl (.inr h)
theorem rfN_len (l : List Pv) (a0 a1 : Int) (k : Nat) : (rfN l a0 a1 k).length ≤ k := by
  unfold rfN
  rw [List.length_mergeSort]
  exact Nat.le_trans (List.length_filter_le _ _) (Nat.le_trans (dd_len _) (by simp; omega))
end Go.Proofs.YtfphedcgmaakjaaGreatDoor
namespace Go.Proofs.YtfphedcgmaakjaaGreatDoor
open Go.RowKit
attribute [local go_sem] set_drewN
/-- a list of texts: nil, or a row -/
def StrV (W : World) (n0 : Nat) (v : Value) (T : List (List UInt8)) : Prop :=
  (T = [] ∧ v = .slice none 0 0) ∨ (∃ g cap, v = .slice (some ⟨g, 0, none⟩) T.length cap ∧ n0 ≤ g ∧ StrsAt W g T)
theorem StrV.below {W W' : World} {n0 : Nat} {v : Value} {T : List (List UInt8)} (h : StrV W n0 v T) (hb : Below W.heap.size W W') : StrV W' n0 v T := by
  rcases h with h | ⟨g, cap, e, h0, h⟩
  · exact .inl h
  · exact .inr ⟨g, cap, e, h0, h.below hb⟩
theorem seq_ne {a b : List UInt8} (h : ¬ a = b) : ((⟨a.toArray⟩ : ByteArray).toList == (⟨b.toArray⟩ : ByteArray).toList) = false := by
  refine str_ne fun c => h ?_
  have := congrArg (fun z : ByteArray => z.data.toList) c
  simpa using this
theorem hasText_any {W : World} {n0 : Nat} {v : Value} {L : List (List UInt8)} (h : StrV W n0 v L) (hl : L.length ≤ 1000) (x : List UInt8) (r : Bool) (hr : decide (x ∈ L) = r) :
    Calls Tryz.prog 27 #[v, .string ⟨x.toArray⟩] W (RetB (.bool r) W) := by
  rcases h with ⟨rfl, rfl⟩ | ⟨g, c, rfl, h1, h3⟩
  · obtain rfl : r = false := by rw [← hr]; simp
    go_enter Tryz.func27, Tryz.ntmps27
    go_wp2
    go_loop [5] (fun i => i = .int .i64 0) (fun _ => 0)
    case atStart => exact rfl
    case round =>
      obtain rfl := hrel
      go_wp2
      go_ret
      exact ⟨rfl, Below.refl _ _⟩
  · have H3 := Lib.hid h3
    have HR := Lib.hid hr
    clear h3 hr
    go_enter Tryz.func27, Tryz.ntmps27
    go_wp2
    go_loopw [5] (fun i wr => ∃ k : Nat, k ≤ L.length ∧ i = .int .i64 k ∧ (∀ j (hj : j < L.length), j < k → L[j] ≠ x) ∧ Below W.heap.size W wr) (fun i _ => L.length - (intOf i).toNat)
    case atStart => exact ⟨0, Nat.zero_le _, rfl, fun j _ h => absurd h (by omega), Below.refl _ _⟩
    case round =>
      obtain ⟨k, hk, rfl, hall, hB⟩ := hrel
      have HA := Lib.hid hall
      clear hall
      by_cases hlt : k < L.length
      · have a1 := (H3.out.below hB).2 k _ (List.getElem?_eq_getElem hlt)
        by_cases he : L[k] = x
        · have hm : x ∈ L := by rw [← he]; exact List.getElem_mem hlt
          obtain rfl : r = true := by rw [← HR.out]; simpa using hm
          rw [he] at a1
          clear he hm
          go_wp2
          go_ret
          exact ⟨rfl, hB⟩
        · have HA2 := Lib.hid (show ∀ j (hj : j < L.length), j < k + 1 → L[j] ≠ x by
            intro j hj h
            by_cases e : j = k
            · subst e; exact he
            · exact HA.out j hj (by omega))
          have hne := seq_ne he
          have hne2 : (L[k] == x) = false := by simpa using he
          generalize L[k] = X at *
          clear he
          go_wp2
          go_roundw
          case rel => exact ⟨k + 1, by omega, by go_num, HA2.out, hB⟩
          case measure => simp [intOf]; omega
      · obtain rfl : k = L.length := by omega
        obtain rfl : r = false := by
          rw [← HR.out]
          simp only [decide_eq_false_iff_not]
          intro c
          obtain ⟨j, hj, e⟩ := List.mem_iff_getElem.1 c
          exact HA.out j hj hj e
        go_wp2
        go_ret
        exact ⟨rfl, hB⟩
theorem texts_any {W : World} {n0 n1 : Nat} {v1 v2 : Value} {T : List (List UInt8)} (h1 : StrV W n0 v1 T) (h2 : StrV W n1 v2 T) (hl : T.length ≤ 1000) :
    Calls Tryz.prog 9 #[v1, v2] W (RetB (.bool true) W) := by
  have z : ∀ (a1 a2 : Option Addr) (c1 c2 : Nat), Calls Tryz.prog 9 #[.slice a1 0 c1, .slice a2 0 c2] W (RetB (.bool true) W) := by
    intro a1 a2 c1 c2
    go_enter Tryz.func9, Tryz.ntmps9
    go_wp2
    go_loop [5] (fun i => i = .int .i64 0) (fun _ => 0)
    case atStart => exact rfl
    case round =>
      obtain rfl := hrel
      go_wp2
      go_ret
      exact ⟨rfl, Below.refl _ _⟩
  rcases h1 with ⟨rfl, rfl⟩ | ⟨g1, c1, rfl, _, hA⟩ <;> rcases h2 with ⟨hT, rfl⟩ | ⟨g2, c2, rfl, _, hB2⟩
  · exact z _ _ _ _
  · exact z _ _ _ _
  · subst hT; exact z _ _ _ _
  · have H1 := Lib.hid hA
    have H2 := Lib.hid hB2
    clear hA hB2 z
    go_enter Tryz.func9, Tryz.ntmps9
    go_wp2
    go_loopw [5] (fun i wr => ∃ k : Nat, k ≤ T.length ∧ i = .int .i64 k ∧ Below W.heap.size W wr) (fun i _ => T.length - (intOf i).toNat)
    case atStart => exact ⟨0, Nat.zero_le _, rfl, Below.refl _ _⟩
    case round =>
      obtain ⟨k, hk, rfl, hB⟩ := hrel
      by_cases hlt : k < T.length
      · have a1 := (H1.out.below hB).2 k _ (List.getElem?_eq_getElem hlt)
        have a2 := (H2.out.below hB).2 k _ (List.getElem?_eq_getElem hlt)
        generalize T[k] = X at *
        go_wp2
        go_quiet (fail)
        go_wp2
        go_roundw
        case rel => exact ⟨k + 1, by omega, by go_num, below_n hB _⟩
        case measure => simp [intOf]; omega
      · obtain rfl : k = T.length := by omega
        go_wp2
        go_ret
        exact ⟨rfl, hB⟩
end Go.Proofs.YtfphedcgmaakjaaGreatDoor
