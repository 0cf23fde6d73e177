/-
  The law StoreParses: its walk.
-/
import Derived.Test.YtcdehnghggleoaaGreatPz13
import Derived.Test.YtcdehnghggleoaaGreatPf2
import Derived.Test.YtcdehnghggleoaaGreatGz11
namespace Go.Proofs.YtcdehnghggleoaaGreat
open Go.RowKit Go.Maps
set_option linter.unusedVariables false
set_option maxRecDepth 100000
set_option maxHeartbeats 4000000

theorem bnd_abs {L : List Ent} {l : List UInt8} (h : prsS l = some (absL L)) : ∀ e ∈ L, bndC e.c := fun e he =>
  prsS_bnd h (e.key, e.c) (by unfold absL; exact List.mem_map.2 ⟨e, he, rfl⟩)

theorem walkStoreParses {w : World} (v : Value) (b : List UInt8) (hs : P1.Sl w v b) :
    Calls Tryz.prog 3 #[v] w fun e w' => e = .returned (.bool true) ∧ Below w.heap.size w w' := by
  obtain ⟨vo, vc, rfl, hq⟩ := id hs
  obtain ⟨hq1, hq2, _⟩ := hq
  unfold maxLen at hq2
  obtain ⟨n, hn⟩ : ∃ n, b.length = n := ⟨_, rfl⟩
  by_cases hlong : 1000 < n
  · rw [hn] at hq1 ⊢
    have hli : (1000 : Int) < (n : Int) := by omega
    clear hn hs
    go_enter Tryz.func3, Tryz.ntmps3
    go_wp2_with fail
    refine (alive9_any w).mono ?_
    rintro e w2 ⟨rfl, hb2⟩
    go_wp2
    go_ret
    exact ⟨rfl, hb2⟩
  · have hli : ¬ (1000 : Int) < (n : Int) := by omega
    have hP := parse_any _ b w hs (by omega)
    have hM := fun w' (hb : Below w.heap.size w w') => refparse_any _ b w' (hs.below hb (Nat.le_refl _)) (by omega)
    have hcv := fun w' (hb : Below w.heap.size w w') => P1.conv_sl w' _ b (hs.below hb (Nat.le_refl _))
    rw [hn] at hP hq1 ⊢
    simp only [hn] at hM hcv
    have Hn := hide hn
    clear hs hn
    go_enter Tryz.func3, Tryz.ntmps3
    go_wp2_with fail
    refine hP.mono ?_
    clear hP
    rintro e w2 ⟨hb2, ⟨hno, rfl⟩ | ⟨s, bk, L, N, rfl, hS, hR, hN, hs1, hs2, hF, hyes⟩⟩
    · go_wp2_with fail
      refine (hM w2 hb2).mono ?_
      clear hM
      rintro e w3 ⟨hb3, ⟨_, rfl⟩ | ⟨m, ao, cap, R, rfl, _, _, hyes⟩⟩
      · have hB3 := hide (hb2.trans (hb3.mono hb2.size))
        go_wp2_with fail
        refine (alive9_any w3).mono ?_
        rintro e w4 ⟨rfl, hb4⟩
        go_wp2
        go_ret
        exact ⟨rfl, (unhide hB3).trans (hb4.mono (unhide hB3).size)⟩
      · rw [hno] at hyes
        cases hyes
    · go_wp2_with fail
      refine (hM w2 hb2).mono ?_
      clear hM
      rintro e w3 ⟨hb3, ⟨hno, rfl⟩ | ⟨m, ao, cap, R, rfl, hcell, hRow, hyes2⟩⟩
      · rw [hyes] at hno
        cases hno
      · have hD : absL L = absL R := by
          rw [hyes] at hyes2
          injection hyes2
        have hS3 := hS.later hb3
        have HSm := same9_any s bk L w3 hS3 m w2.heap.size ao cap R.length R hcell rfl hRow hD
        have hE := (prsS_one hyes).1
        have hBy := fun w' (hb : Below w3.heap.size w3 w') => sbytes_any s bk L w' (hS3.later hb) (bnd_abs hyes) (by rw [hE, unhide Hn]; omega)
        rw [hE] at hBy
        have hB3 := hide (hb2.trans (hb3.mono hb2.size))
        clear hcell hRow hyes2 hD hS hS3 hR hF hyes hE hb2 hb3 hs1 hs2
        go_wp2_with fail
        refine HSm.mono ?_
        clear HSm
        rintro e w4 ⟨rfl, hb4⟩
        have hB4 := hide ((unhide hB3).trans (hb4.mono (unhide hB3).size))
        have hBy4 := fun w' (hb : Below w4.heap.size w4 w') => hBy w' (hb4.trans (hb.mono hb4.size))
        clear hBy hb4 hB3
        have Hcv : Hid (∀ w', Below w4.heap.size w4 w' → (convert 22 9 (.slice vo n vc)).run Tryz.prog w' = .ok (.string (P1.bs b)) w') := fun w' hb => hcv w' ((unhide hB4).trans (hb.mono (unhide hB4).size))
        have HBy := hide hBy4
        clear hcv hBy4
        go_upto_region 10 with fail
        have q9 := unhide Hcv _ (Below.refl _ _).drew
        have HP : Hid (Below w4.heap.size w4 w4.drew) := (Below.refl _ _).drew
        go_region_held (fun w' => (convert 22 9 (.slice vo n vc)).run Tryz.prog w' = .ok (.string (P1.bs b)) w') (first | assumption | go_keep)
          (first | (go_at_call 4; refine (alive9_any _).mono ?_; rintro e w9 ⟨rfl, hb9⟩; have HP := hide ((unhide HP).trans (hb9.mono (unhide HP).size)); have q9 := unhide Hcv _ (unhide HP); clear hb9) | (go_at_call 8; refine (unhide HBy _ (unhide HP)).mono ?_; rintro e w9 ⟨r9, rfl, ho9, hb9⟩; have HP := hide ((unhide HP).trans (hb9.mono (unhide HP).size)); have q9 := unhide Hcv _ (unhide HP); have z9 := P1.conv_sl w9 _ _ ho9.sl; clear hb9 ho9))
        all_goals
          go_wp2
          go_ret
          exact ⟨rfl, (unhide hB4).trans ((unhide HP).mono (unhide hB4).size)⟩

end Go.Proofs.YtcdehnghggleoaaGreat
