/-
  The walk of the law JournalNil.
-/
import Derived.Test.YteanjnkfoddfmaaJ5
namespace Go.Proofs.Yteanjnkfoddfmaa
open Go.RowKit
set_option linter.unusedVariables false

set_option maxRecDepth 100000 in
set_option maxHeartbeats 2000000 in
theorem walkJournalNil {w : World} (v : Value) (z : ActV) (hz : ActIs w v z) :
    Calls Try.prog 6 #[v] w fun e w' => e = .returned (.bool true) ∧ Below w.heap.size w w' := by
  obtain ⟨rfl, hok⟩ := hz
  obtain ⟨kind, n, m, vv, b, torn, cell⟩ := z
  obtain ⟨n0, n1, m0, m1, hs⟩ := hok
  simp only at n0 n1 hs
  obtain ⟨ao, c, rfl, hc1, hc2, _⟩ := hs
  unfold maxLen at hc2
  simp only
  have hA := ActAt.new w ⟨kind, n, m, .slice ao b.length c, b, torn, cell⟩ 37
  have hb := below_new w (.cells #[.int .i64 kind, .int .i64 n, .int .i64 m, .slice ao b.length c, .bool torn, .bool cell] 37)
  have HA := hide hA
  have HB := hide hb
  clear hA hb
  by_cases hl : 200 < b.length
  · have hI : decide ((200 : Int) < b.length) = true := by simp; omega
    go_enter Try.func6, Try.ntmps6
    go_wp2_with fail
    refine (alive_any _).mono ?_
    rintro e w1 ⟨rfl, hb1⟩
    replace HB := hide ((unhide HB).trans (hb1.mono (unhide HB).size))
    clear hb1 HA
    go_wp2
    go_ret
    exact ⟨rfl, unhide HB⟩
  · have hI : decide ((200 : Int) < b.length) = false := by simp; omega
    go_enter Try.func6, Try.ntmps6
    go_wp2_with fail
    refine (open_nil _).mono ?_
    rintro e w2 ⟨rfl, rfl⟩
    go_wp2_with fail
    refine (jbase_nil _).mono ?_
    rintro e w2 ⟨rfl, rfl⟩
    go_wp2_with fail
    refine (alive_any _).mono ?_
    rintro e w1 ⟨rfl, hb1⟩
    obtain ⟨c0, c1, c2, c3, c4, c5⟩ := (unhide HA).later hb1
    replace HB := hide ((unhide HB).trans (hb1.mono (unhide HB).size))
    simp only at c0 c1 c2 c3 c4 c5
    have HA1 := hide ((unhide HA).later hb1)
    clear hb1 HA
    go_wp2_with fail
    refine (jappend_nil _ _).mono ?_
    rintro e w2 ⟨rfl, rfl⟩
    go_wp2_with fail
    refine (jcut_nil _ _).mono ?_
    rintro e w2 ⟨rfl, rfl⟩
    go_wp2_with fail
    refine (jrebase_nil _ _ _).mono ?_
    rintro e w2 ⟨rfl, rfl⟩
    go_wp2_with fail
    refine (jset_nil _ _ _ _).mono ?_
    rintro e w3 ⟨rfl, hb3⟩
    replace HB := hide ((unhide HB).trans (hb3.mono (unhide HB).size))
    clear hb3
    go_wp2_with fail
    refine (jsync_nil _).mono ?_
    rintro e w4 ⟨rfl, rfl⟩
    go_wp2_with fail
    refine (jrecords_nil _).mono ?_
    rintro e w4 ⟨rfl, rfl⟩
    go_wp2_with fail
    refine (jhard_nil _).mono ?_
    rintro e w5 ⟨rfl, hb5⟩
    replace HB := hide ((unhide HB).trans (hb5.mono (unhide HB).size))
    clear hb5
    go_wp2_with fail
    refine (jlast_nil _).mono ?_
    rintro e w6 ⟨rfl, rfl⟩
    go_wp2
    go_ret
    exact ⟨rfl, unhide HB⟩

end Go.Proofs.Yteanjnkfoddfmaa
