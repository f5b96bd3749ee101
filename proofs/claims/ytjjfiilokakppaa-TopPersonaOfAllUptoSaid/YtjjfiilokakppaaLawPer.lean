/-
  TopPersonaOfAll returns true, for entries that lie.
-/
import Derived.Test.YtjjfiilokakppaaPersona
import Derived.Test.YtjjfiilokakppaaPerM
import Derived.Test.YtjjfiilokakppaaNamed
import Derived.Test.YtjjfiilokakppaaTwo
namespace Go.Proofs.Ytjjfiilokakppaa
open Go.RowKit
attribute [local go_sem] set_drewN
theorem infoNt : (Try.prog.info? 30).map (fun i => (i.zero, i.size, i.bytes)) = some (some (.agg #[.string ⟨#[]⟩, .int .i64 0, .int .i64 0, .int .i64 0, .int .i64 0]), 5, 48) := by kernel_rfl
set_option maxRecDepth 100000 in
set_option maxHeartbeats 4000000 in
theorem law_few (a : Option Addr) (n c : Nat) (at' : Int) (w : World) (h : n < 2 ∨ 8 < n) (hn : n ≤ 9223372036854775807) : Calls Try.prog 3 #[.slice a n c, .int .i64 at'] w (RetB (.bool true) w) := by
  by_cases h2 : n < 2
  · have d2 : decide ((n : Int) < 2) = true := decide_eq_true (by omega)
    go_enter Try.func3, Try.ntmps3
    go_wp2_with (go_at_call 4; refine (named_any _).mono ?_; rintro e w1 ⟨rfl, hb1⟩)
    go_ret
    exact ⟨rfl, hb1⟩
  · have d2 : decide ((n : Int) < 2) = false := decide_eq_false (by omega)
    have d8 : decide (8 < (n : Int)) = true := decide_eq_true (by omega)
    have n8 : 8 < (n : Int) := by omega
    have n2 : ¬ (n : Int) < 2 := by omega
    go_enter Try.func3, Try.ntmps3
    go_wp2_with (go_at_call 4; refine (named_any _).mono ?_; rintro e w1 ⟨rfl, hb1⟩)
    go_ret
    exact ⟨rfl, hb1⟩
set_option maxRecDepth 100000 in
set_option maxHeartbeats 4000000 in
theorem law_bad (l : List Nt) (b o cap : Nat) (at' : Int) (w : World) (h2 : 2 ≤ l.length) (h8 : l.length ≤ 8) (hn : ∀ p ∈ l, p.nm.length ≤ 2000000) (hc : NtsAt w b o l) (hE : cnsE l ≠ 0) :
    Calls Try.prog 3 #[.slice (some ⟨b, o, none⟩) l.length cap, .int .i64 at'] w (RetB (.bool true) w) := by
  have d2 : decide ((l.length : Int) < 2) = false := decide_eq_false (by omega)
  have d8 : decide (8 < (l.length : Int)) = false := decide_eq_false (by omega)
  have n8 : ¬ 8 < (l.length : Int) := by omega
  have n2 : ¬ (l.length : Int) < 2 := by omega
  have HK := Lib.hid (fun (W : World) (hb : Below w.heap.size w W) => xCheckNotes_any l b o cap W (by omega) hn (hc.below hb))
  obtain ⟨E, hEE⟩ : ∃ E, cnsE l = E := ⟨_, rfl⟩
  rw [hEE] at HK hE
  have hEb : (E != 0) = true := by simpa using hE
  clear hEE hc hn hE
  go_enter Try.func3, Try.ntmps3
  go_wp2_with fail
  refine (named_any _).mono ?_
  rintro e w1 ⟨rfl, hb1⟩
  go_wp2_with (go_at_call 5; refine (HK.out _ hb1).mono ?_; rintro e w2 ⟨rfl, hb2⟩)
  go_ret
  exact ⟨rfl, hb1.trans (hb2.mono hb1.size)⟩
end Go.Proofs.Ytjjfiilokakppaa
