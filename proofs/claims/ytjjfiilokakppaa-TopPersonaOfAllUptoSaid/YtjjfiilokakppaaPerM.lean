/-
  What the entries of a class have in common does not depend on their order; plain mathematics, no program.
-/
import Derived.Test.YtjjfiilokakppaaPer0
namespace Go.Proofs.Ytjjfiilokakppaa
/-- a name that comes up: none, or a right one -/
def St (nm : List UInt8) : Prop := nm = [] ∨ ∃ M, gdM M ∧ nm = nmT M
/-- its signs -/
def mk (nm : List UInt8) : Option (List Nat) := if nmE nm = 0 then rdN nm else none
def tx : Option (List Nat) → List UInt8
  | none => []
  | some M => nmT M
theorem mk_nil : mk [] = none := by unfold mk; rw [nmE_nil]; rfl
theorem mk_gd {M : List Nat} (h : gdM M) : mk (nmT M) = some M := by unfold mk; rw [nmE_gd h, if_pos rfl, rdN_nmT h.2.2]
theorem St.tx {nm : List UInt8} (h : St nm) : tx (mk nm) = nm := by
  rcases h with rfl | ⟨M, hM, rfl⟩
  · rw [mk_nil]; rfl
  · rw [mk_gd hM]; rfl
theorem St.of_ok {nm : List UInt8} (h : nmE nm = 0) : St nm := by
  obtain ⟨M, hM, _, e⟩ := gd_nmE h
  exact .inr ⟨M, hM, e⟩
theorem mk_ok {nm : List UInt8} (h : St nm) : nmE nm = 0 ↔ mk nm ≠ none := by
  rcases h with rfl | ⟨M, hM, rfl⟩
  · rw [mk_nil, nmE_nil]; simp
  · rw [mk_gd hM, nmE_gd hM]; simp
theorem cmT_nil_left (b : List UInt8) : (cmT [] b).1 = [] := by
  rw [cmT_bad (by simp [feE, nmE_nil])]
theorem cmT_nil_right (a : List UInt8) : (cmT a []).1 = [] := by
  have : feE [nmE a, nmE []] ≠ 0 := by
    by_cases h : nmE a = 0 <;> simp [feE, nmE_nil, h]
  rw [cmT_bad this]
theorem cmT_two {x y : List Nat} (hx : gdM x) (hy : gdM y) : cmT (nmT x) (nmT y) = match cmM x y with
      | some R => (nmT R, 0)
      | none => ([], 12) := cmT_good (nmE_gd hx) (nmE_gd hy) (rdN_nmT hx.2.2) (rdN_nmT hy.2.2)
theorem cmT_st {a b : List UInt8} (ha : St a) (hb : St b) : St (cmT a b).1 ∧ mk (cmT a b).1 = cmO (mk a) (mk b) := by
  rcases ha with rfl | ⟨x, hx, rfl⟩
  · rw [cmT_nil_left, mk_nil]; exact ⟨.inl rfl, rfl⟩
  · rcases hb with rfl | ⟨y, hy, rfl⟩
    · rw [cmT_nil_right, mk_nil, cmO_comm]; exact ⟨.inl rfl, rfl⟩
    · rw [cmT_two hx hy, mk_gd hx, mk_gd hy]
      show _ ∧ _ = cmM x y
      cases hR : cmM x y with
      | none => exact ⟨.inl rfl, mk_nil⟩
      | some R => exact ⟨.inr ⟨R, cmM_gd hx hR, rfl⟩, mk_gd (cmM_gd hx hR)⟩
/-- two entries with the same signs and days are the same -/
theorem nt_ext {p q : Nt} (hp : St p.nm) (hq : St q.nm) (h0 : mk p.nm = mk q.nm) (h1 : p.bf = q.bf) (h2 : p.bt = q.bt) (h3 : p.df = q.df) (h4 : p.dt = q.dt) : p = q := by
  obtain ⟨n, a, b, c, d⟩ := p
  obtain ⟨n', a', b', c', d'⟩ := q
  simp only at hp hq h0 h1 h2 h3 h4
  subst h1 h2 h3 h4
  have e : n = n' := by rw [← hp.tx, ← hq.tx, h0]
  rw [e]
theorem step_st {p n : Nt} (hp : St p.nm) (hn : St n.nm) : St (stepN p n).nm := (cmT_st hp hn).1
theorem step_mk {p n : Nt} (hp : St p.nm) (hn : St n.nm) : mk (stepN p n).nm = cmO (mk p.nm) (mk n.nm) := (cmT_st hp hn).2
theorem step_comm {p n : Nt} (hp : St p.nm) (hn : St n.nm) : stepN p n = stepN n p := by
  refine nt_ext (step_st hp hn) (step_st hn hp) (by rw [step_mk hp hn, step_mk hn hp, cmO_comm]) ?_ ?_ ?_ ?_ <;> simp only [stepN] <;> omega
theorem step_assoc {a b c : Nt} (ha : St a.nm) (hb : St b.nm) (hc : St c.nm) : stepN (stepN a b) c = stepN a (stepN b c) := by
  refine nt_ext (step_st (step_st ha hb) hc) (step_st ha (step_st hb hc)) ?_ ?_ ?_ ?_ ?_
  · rw [step_mk (step_st ha hb) hc, step_mk ha hb, step_mk ha (step_st hb hc), step_mk hb hc, cmO_assoc]
  all_goals simp only [stepN] <;> omega
theorem step_self {a : Nt} (ha : St a.nm) : stepN a a = a := by
  refine nt_ext (step_st ha ha) ha ?_ ?_ ?_ ?_ ?_
  · rw [step_mk ha ha]
    rcases ha with h | ⟨M, hM, h⟩
    · rw [h, mk_nil]; rfl
    · rw [h, mk_gd hM]
      exact cmM_self (fun m hm => by have := (hM.2.2 m hm).1; omega)
  all_goals simp only [stepN] <;> omega
theorem step_right {s x y : Nt} (hs : St s.nm) (hx : St x.nm) (hy : St y.nm) : stepN (stepN s x) y = stepN (stepN s y) x := by
  rw [step_assoc hs hx hy, step_comm hx hy, ← step_assoc hs hy hx]
theorem fold_st {s : Nt} : ∀ {B : List Nt}, St s.nm → (∀ b ∈ B, St b.nm) → St (B.foldl stepN s).nm
  | [], hs, _ => hs
  | b :: B, hs, h => fold_st (s := stepN s b) (step_st hs (h b (by simp))) (fun c hc => h c (by simp [hc]))
theorem fold_move {x : Nt} (hx : St x.nm) : ∀ {B : List Nt} {s : Nt}, St s.nm → (∀ b ∈ B, St b.nm) → B.foldl stepN (stepN s x) = stepN (B.foldl stepN s) x
  | [], _, _, _ => rfl
  | b :: B, s, hs, h => by
    have hb := h b (by simp)
    rw [List.foldl_cons, List.foldl_cons, step_right hs hx hb]
    exact fold_move hx (step_st hs hb) (fun c hc => h c (by simp [hc]))
/-- what all entries of a list have in common -/
def foldE : List Nt → Nt
  | [] => nt0
  | x :: xs => xs.foldl stepN x
theorem foldE_st {l : List Nt} (h : ∀ p ∈ l, St p.nm) : St (foldE l).nm := by
  cases l with
  | nil => exact .inl rfl
  | cons x xs => exact fold_st (h x (by simp)) (fun c hc => h c (by simp [hc]))
theorem foldE_move {A B : List Nt} {x : Nt} (h : ∀ p ∈ A ++ x :: B, St p.nm) (hne : A ++ B ≠ []) : foldE (A ++ x :: B) = stepN (foldE (A ++ B)) x := by
  have hx := h x (by simp)
  have hB : ∀ b ∈ B, St b.nm := fun b hb => h b (by simp [hb])
  cases A with
  | cons a A =>
    have ha := h a (by simp)
    have hA : ∀ b ∈ A, St b.nm := fun b hb => h b (by simp [hb])
    show (A ++ x :: B).foldl stepN a = stepN ((A ++ B).foldl stepN a) x
    rw [List.foldl_append, List.foldl_append, List.foldl_cons]
    exact fold_move hx (fold_st ha hA) hB
  | nil =>
    cases B with
    | nil => exact absurd rfl hne
    | cons b B =>
      have hb := h b (by simp)
      show B.foldl stepN (stepN x b) = stepN (B.foldl stepN b) x
      rw [step_comm hx hb]
      exact fold_move hx hb (fun c hc => h c (by simp [hc]))
theorem perN_fold (l : List Nt) (cs : List Nat) : perN l cs = foldE (cs.map (fun k => l.getD k nt0)) := by
  cases cs with
  | nil => rfl
  | cons c r => show r.foldl _ _ = (r.map _).foldl stepN _; rw [List.foldl_map]
/-- days in their range -/
def DR (p : Nt) : Prop := (0 ≤ p.bf ∧ p.bf ≤ 200000) ∧ (0 ≤ p.bt ∧ p.bt ≤ 200000) ∧ (0 ≤ p.df ∧ p.df ≤ 200000) ∧ (0 ≤ p.dt ∧ p.dt ≤ 200000)
theorem DR.step {p n : Nt} (hp : DR p) (hn : DR n) : DR (stepN p n) := by
  obtain ⟨⟨_, _⟩, ⟨_, _⟩, ⟨_, _⟩, ⟨_, _⟩⟩ := hp
  obtain ⟨⟨_, _⟩, ⟨_, _⟩, ⟨_, _⟩, ⟨_, _⟩⟩ := hn
  unfold DR stepN
  simp only
  refine ⟨⟨?_, ?_⟩, ⟨?_, ?_⟩, ⟨?_, ?_⟩, ⟨?_, ?_⟩⟩ <;> omega
theorem DR.fold {s : Nt} : ∀ {B : List Nt}, DR s → (∀ b ∈ B, DR b) → DR (B.foldl stepN s)
  | [], hs, _ => hs
  | b :: B, hs, h => DR.fold (s := stepN s b) (hs.step (h b (by simp))) (fun c hc => h c (by simp [hc]))
theorem DR.foldE {l : List Nt} (h : ∀ p ∈ l, DR p) : DR (foldE l) := by
  cases l with
  | nil => exact ⟨⟨by decide, by decide⟩, ⟨by decide, by decide⟩, ⟨by decide, by decide⟩, ⟨by decide, by decide⟩⟩
  | cons x xs => exact DR.fold (h x (by simp)) (fun c hc => h c (by simp [hc]))
theorem cn_iff {p : Nt} : cn p = 0 ↔ nmE p.nm = 0 ∧ DR p ∧ p.bf ≤ p.bt ∧ p.df ≤ p.dt ∧ p.bf ≤ p.dt := by
  unfold cn
  by_cases h0 : nmE p.nm = 0
  · rw [cn_rest h0]
    unfold DR
    cases h1 : inB p.bf 0 200000 <;> cases h2 : inB p.bt 0 200000 <;> cases h3 : inB p.df 0 200000 <;> cases h4 : inB p.dt 0 200000 <;> (try rw [inB_iff] at h1) <;> (try rw [inB_iff] at h2) <;> (try rw [inB_iff] at h3) <;> (try rw [inB_iff] at h4) <;> (try rw [inB_iff'] at h1) <;> (try rw [inB_iff'] at h2) <;> (try rw [inB_iff'] at h3) <;> (try rw [inB_iff'] at h4)
    all_goals
      by_cases g1 : p.bt < p.bf <;> by_cases g2 : p.dt < p.df <;> by_cases g3 : p.dt < p.bf <;> simp [feE, eI, g1, g2, g3, h0] <;> omega
  · rw [cn_name h0]
    simp [h0]
theorem cn_st {p : Nt} (h : cn p = 0) : St p.nm ∧ DR p := ⟨St.of_ok (cn_iff.1 h).1, (cn_iff.1 h).2.1⟩
/-- less in common, and still a right entry: so was it before -/
theorem cn_mono {a b : Nt} (ha : St a.nm) (hb : St b.nm) (hd : DR a) (h : cn (stepN a b) = 0) : cn a = 0 := by
  obtain ⟨h1, _, h2, h3, h4⟩ := cn_iff.1 h
  refine cn_iff.2 ⟨?_, hd, ?_, ?_, ?_⟩
  · rw [mk_ok ha]
    rw [mk_ok (step_st ha hb), step_mk ha hb] at h1
    intro e
    rw [e] at h1
    exact h1 rfl
  all_goals simp only [stepN] at h2 h3 h4; omega
/-- with an entry that is in it already, it is the same -/
theorem same_again {T a : Nt} (hT : St T.nm) (ha : St a.nm) (hcn : cn T = 0) (h : stepN T a = T) : cmT T.nm a.nm = (T.nm, 0) ∧ a.bf ≤ T.bf ∧ T.bt ≤ a.bt ∧ a.df ≤ T.df ∧ T.dt ≤ a.dt := by
  have e1 : (cmT T.nm a.nm).1 = T.nm := congrArg Nt.nm h
  have e2 : max T.bf a.bf = T.bf := congrArg Nt.bf h
  have e3 : min T.bt a.bt = T.bt := congrArg Nt.bt h
  have e4 : max T.df a.df = T.df := congrArg Nt.df h
  have e5 : min T.dt a.dt = T.dt := congrArg Nt.dt h
  refine ⟨?_, by omega, by omega, by omega, by omega⟩
  have hTk := (mk_ok hT).1 (cn_iff.1 hcn).1
  have hm := step_mk hT ha
  rw [h] at hm
  rcases hT with hn | ⟨x, hx, hn⟩
  · rw [hn, mk_nil] at hTk; exact absurd rfl hTk
  · rcases ha with han | ⟨y, hy, han⟩
    · rw [han, mk_nil, cmO_comm] at hm; exact absurd hm hTk
    · rw [hn, han] at e1 ⊢
      rw [hn, han, mk_gd hx, mk_gd hy] at hm
      rw [cmT_two hx hy]
      have hm' : cmM x y = some x := hm.symm
      rw [hm']
end Go.Proofs.Ytjjfiilokakppaa
