/-
  The document's own answers: wampumref06's Crash. No law is proved here.
-/
import Derived.Test.YtdhjogfalkmggaaRef2
namespace Go.Proofs.Ytdhjogfalkmggaa
open Go.RowKit
set_option linter.unusedVariables false

section
set_option maxRecDepth 100000
variable {T : Nat → Prop}

theorem Q4.low {w : World} {N B : Nat} {v : Value} (h : In T w B v) (hN : w.heap.size ≤ N) : ∀ g, v.ownBlock = some g → g ≠ N := fun g hg e => by have := (h g hg).2.1; omega

set_option maxHeartbeats 2000000 in
theorem refcrash_ok (M : Nat) (nf nc sf sc : List UInt8) (keep : Int) (torn cell : Bool) (w : World) (h : Rk T w M nf nc sf sc) (hT : ∀ k, w.heap.size ≤ k → T k) (hk0 : -9223372036854775808 ≤ keep) (hk : keep ≤ 9223372036854775807) :
    Calls Try.prog 19 #[.pointer (some ⟨M, 0, none⟩), .int .i64 keep, .bool torn, .bool cell] w fun e w' =>
      ∃ M', e = .returned (.pointer (some ⟨M', 0, none⟩)) ∧ w.heap.size ≤ M' ∧ Rk T w' M' (left sf nf keep torn) (cel nc sc cell) (left sf nf keep torn) (cel nc sc cell) ∧ Below w.heap.size w w' := by
  have hb4 : (left sf nf keep torn).length ≤ 16777216 := by obtain ⟨_, _, _, _, hq⟩ := h; exact left_length sf nf keep torn _ hq.b0 hq.b1
  have hF := hide (fun y (hy : Below w.heap.size w y) => reffile_ok (T := T) M nf nc sf sc keep torn y (h.later hy) (fun k hk => hT k (Nat.le_trans hy.size hk)) hk0 hk)
  generalize left sf nf keep torn = L at *
  obtain ⟨v0, v1, v2, v3, hq⟩ := h
  have HQ := hide (fun y (hy : Below w.heap.size w y) => hq.frame (w' := y) hy.size (fun k hk _ => hy.block k hk))
  obtain ⟨bo, dp, rfl, _, hdp, _⟩ := id hq.s2
  obtain ⟨yo, yp, rfl, _, hyp, _⟩ := id hq.s3
  have c2 := hq.c2
  have hMn := World.new_ne w ⟨M, 2, none⟩ hq.c2
  clear hq
  go_enter Try.func19, Try.ntmps19
  go_wp2_with fail
  go_region_held (fun w' => w'.cell? ⟨M, 2, none⟩ = some (.slice bo sc.length dp)) (go_keep)
    (first | (go_at_call 27; refine (unhide hF _ (Below.refl _ _).drew).mono ?_; rintro e w3 ⟨fo, fn, fc, rfl, hs3, hi3, hb3⟩; have HS := hide hs3; have HI := hide hi3; have HB := hide (show Below w.heap.size w w3 from (Below.refl _ _).drew.trans hb3); have c2 := (unhide HQ w3 (unhide HB)).c2; have hMn3 := World.new_ne w3 ⟨M, 2, none⟩ c2; clear hs3 hi3 hb3))
  have q3 := unhide HQ w3 (unhide HB)
  have hz := (unhide HB).size
  have hq1 : Q4 T _ w3.heap.size _ _ _ _ L [] sc [] := Q4.new w3 (.slice fo fn fc) (.slice none 0 0) (.slice bo sc.length dp) (.slice none 0 0) L [] sc [] 28 (unhide HS) (Sl.nil _) q3.s2 (Sl.nil _) (unhide HI) (fun g h => by cases h) (fun g hg => ⟨(q3.i2 g hg).1, (q3.i2 g hg).2.1⟩) (fun g h => by cases h) hb4 (by simp) q3.b2 (by simp) (hT _ hz)
  have hB1 : Below w.heap.size w (w3.alloc (.cells #[.slice fo fn fc, .slice none 0 0, .slice bo sc.length dp, .slice none 0 0] 28)) := (unhide HB).alloc hz _
  have qm := unhide HQ _ hB1
  have iv : In T _ w3.heap.size (.slice yo nc.length yp) := fun g hg => ⟨(qm.i3 g hg).1, (qm.i3 g hg).2.1, fun e => by have := (q3.i3 g hg).2.1; omega⟩
  generalize w3.alloc (.cells #[.slice fo fn fc, .slice none 0 0, .slice bo sc.length dp, .slice none 0 0] 28) = W at *
  generalize w3.heap.size = N at *
  have m3 := qm.c3
  have Hqm := hide qm
  have Hq1 := hide hq1
  have Hiv := hide iv
  have HB1 := hide hB1
  obtain ⟨c0, c1, c2', c3, f0, f1, f2, f3, _⟩ := hq1
  obtain ⟨xfo, xfc, exf, _⟩ := id (unhide HS)
  clear hF HQ HS HI HB q3 qm iv hB1 c2 exf hT
  cases cell
  · have K3 : Hid (Rk T _ N L sc L sc) := ⟨_, _, _, _, ((unhide Hq1).set1 (unhide Hq1).s0 (unhide Hq1).i0 hb4).set3 (sl_set (unhide Hq1).s2 (unhide Hq1).i2 _ _) (in_set (unhide Hq1).i2 _ _) (unhide Hq1).b2⟩
    have K4 := hide (((unhide HB1).setCell (p := ⟨N, 1, none⟩) hz (.slice fo fn fc)).setCell (p := ⟨N, 3, none⟩) hz (.slice bo sc.length dp))
    clear Hq1 Hiv HB1 Hqm
    go_wp2
    go_ret
    exact ⟨N, rfl, hz, unhide K3, unhide K4⟩
  · have K3 : Hid (Rk T _ N L nc L nc) := ⟨_, _, _, _, (((unhide Hq1).set2 (unhide Hqm).s3 (unhide Hiv) (unhide Hqm).b3).set1 (sl_set (unhide Hq1).s0 (unhide Hq1).i0 _ _) (in_set (unhide Hq1).i0 _ _) hb4).set3 (sl_set (sl_set (unhide Hqm).s3 (unhide Hiv) _ _) (in_set (unhide Hiv) _ _) _ _) (in_set (in_set (unhide Hiv) _ _) _ _) (unhide Hqm).b3⟩
    have K4 := hide ((((unhide HB1).setCell (p := ⟨N, 2, none⟩) hz (.slice yo nc.length yp)).setCell (p := ⟨N, 1, none⟩) hz (.slice fo fn fc)).setCell (p := ⟨N, 3, none⟩) hz (.slice yo nc.length yp))
    clear Hq1 Hiv HB1 Hqm
    go_wp2
    go_ret
    exact ⟨N, rfl, hz, unhide K3, unhide K4⟩
end

end Go.Proofs.Ytdhjogfalkmggaa
