/-
  The law DiskPlays: its walk.
-/
import Derived.Test.YtdhjogfalkmggaaBoth
namespace Go.Proofs.Ytdhjogfalkmggaa
open Go.RowKit
set_option linter.unusedVariables false

section
set_option maxRecDepth 100000

set_option maxHeartbeats 8000000 in
theorem walkDiskPlays {w : World} (v : Value) (xs : List ActV) (hx : Acts w v xs) :
    Calls Try.prog 3 #[v] w fun e w' => e = .returned (.bool true) ∧ Below w.heap.size w w' := by
  have Hx := hide hx
  obtain ⟨ao, c, rfl, hc1, hc2, _⟩ := hx
  unfold maxLen at hc2
  go_enter Try.func3, Try.ntmps3
  go_wp2_with fail
  refine (new_any _).mono ?_
  rintro e w1 ⟨rfl, hw1⟩
  have hD := Dk.new (S := fun k => k = w.heap.size) w rfl 48
  rw [← hw1] at hD
  have hb1 : Below w.heap.size w w1 := by rw [hw1]; exact below_new _ _
  have hz1 : w.heap.size < w1.heap.size := by rw [hw1]; simp
  clear hw1
  have hM : Rk (fun k => k = w1.heap.size) (w1.alloc (.cells #[.slice none 0 0, .slice none 0 0, .slice none 0 0, .slice none 0 0] 28)) w1.heap.size [] [] [] [] :=
    ⟨_, _, _, _, Q4.new w1 _ _ _ _ [] [] [] [] 28 (Sl.nil _) (Sl.nil _) (Sl.nil _) (Sl.nil _) (fun g h => by cases h) (fun g h => by cases h) (fun g h => by cases h) (fun g h => by cases h) (by simp) (by simp) (by simp) (by simp) rfl⟩
  have HT : Hid (Bth w _ w.heap.size w1.heap.size [] [] [] []) := ⟨_, _, fun k a b => by omega, fun k a => by omega, fun k a => by omega, hD.later (below_new w1 (.cells #[.slice none 0 0, .slice none 0 0, .slice none 0 0, .slice none 0 0] 28)), hM, hb1.trans ((below_new _ _).mono hb1.size)⟩
  clear hD hM hb1
  go_wp2_with fail
  go_loopw [3, 4, 5] (fun dv mv i wr => ∃ (k D M : Nat) (nf nc sf sc : List UInt8), k ≤ xs.length ∧ k ≤ 60 ∧ dv = .pointer (some ⟨D, 0, none⟩) ∧ mv = .pointer (some ⟨M, 0, none⟩) ∧ i = .int .i64 k ∧ nf.length ≤ 200 * k ∧ sf.length ≤ 200 * k ∧ Hid (Bth w wr D M nf nc sf sc)) (fun _ _ i _ => 60 - (intOf i).toNat)
  case atStart => exact ⟨0, _, _, [], [], [], [], by omega, by omega, rfl, rfl, rfl, by simp, by simp, HT⟩
  case round =>
    clear HT
    obtain ⟨k, D, M, nf, nc, sf, sc, hk1, hk2, rfl, rfl, rfl, hnf, hsf, HT⟩ := hrel
    by_cases hlt : k < xs.length ∧ k < 60
    · obtain ⟨hl1, hl2⟩ := hlt
      obtain ⟨q, hq⟩ : ∃ q, Hid (q = xs[k]) := ⟨xs[k], Eq.refl _⟩
      obtain ⟨ao', c', e, _, _, hcell⟩ := (unhide Hx).below (unhide HT).b
      injection e with e1 e2 e3
      subst e1 e3
      obtain ⟨hok, bb, of, rfl, c0, c1, c2, c3, c4⟩ := hcell k hl1
      rw [← unhide hq] at c0 c1 c2 c3 c4 hok
      have hTn := (unhide HT).act q 30
      obtain ⟨qk, qn, qv, qb, qt, qc⟩ := q
      obtain ⟨q0, q1, qs⟩ := hok
      simp only at q0 q1 qs c0 c1 c2 c3 c4 hTn
      obtain ⟨po, pc, rfl, hp1, hp2, _⟩ := id qs
      unfold maxLen at hp2
      have hkI : (k : Int) < (xs.length : Int) := by omega
      have Hqs : Hid (Sl w (.slice po qb.length pc) qb) := by
        obtain ⟨_, _, e', _, _, hc'⟩ := unhide Hx
        obtain ⟨hok', _⟩ := hc' k hl1
        have := hok'.s
        rw [← unhide hq] at this
        exact this
      have HT0 := HT
      replace HT := hide hTn
      clear hcell e2 hq hTn qs
      by_cases hlong : 200 < qb.length
      · go_wp2
        go_roundw
        case rel => exact ⟨k + 1, D, M, nf, nc, sf, sc, by omega, by omega, rfl, rfl, by go_num, by omega, by omega, hide (unhide HT).bth⟩
        case measure => simp [intOf]; omega
      clear HT0
      have hshort : qb.length ≤ 200 := by omega
      by_cases h1 : qk = 1
      · have k1 : (qk == 1) = true := by simpa using h1
        clear h1
        go_wp2_with fail
        generalize wr.alloc (.cells #[.int .i64 qk, .int .i64 qn, .slice po qb.length pc, .bool qt, .bool qc] 30) = W at *
        generalize wr.heap.size = N at *
        have HT := hide ((unhide HT).later (show Below W.heap.size W W.drew from (Below.refl _ _).drew))
        have a2 := (unhide HT).act.c2
        simp only at a2
        go_region_held (fun w' => w'.cell? ⟨N, 2, none⟩ = some (.slice po qb.length pc)) (first | assumption | go_keep)
          (first | (go_at_call 10; obtain ⟨S, hd, hS, hback⟩ := (unhide HT).asD; refine (append_ok (S := S) D _ _ _ _ qb _ _ hd hS ((unhide Hqs).later (unhide HT).b) (by omega)).mono ?_; rintro e w3 ⟨rfl, h3, f3⟩; have HT := hide (hback w3 _ _ _ _ h3 f3); have a2 := (unhide HT).act.c2; simp only at a2; clear h3 f3 hd hS hback) | (go_at_call 11; obtain ⟨S, hd, hS, hback⟩ := (unhide HT).asM; refine (refappend_ok (T := S) M _ _ _ _ qb _ _ hd hS ((unhide Hqs).later (unhide HT).b) (by omega)).mono ?_; rintro e w4 ⟨rfl, h3, f3⟩; have HT := hide (hback w4 _ _ _ _ h3 f3); have a2 := (unhide HT).act.c2; simp only at a2; clear h3 f3 hd hS hback))
        clear a2
        generalize w4 = W at *
        generalize hL0 : nf ++ qb = nfb at *
        have hlb : nfb.length ≤ 200 * (k + 1) := by rw [← hL0, List.length_append]; omega
        clear hL0
        obtain ⟨S, T, x1, x2, x3, xd, ⟨v0, v1, v2, v3, xq⟩, x6, x7⟩ := unhide HT
        have HDk := hide (fun y (hy : Below W.heap.size W y) => xd.later hy)
        have HR := hide (fun y (hy : Below W.heap.size W y) => xq.frame (w' := y) hy.size (fun k hk _ => hy.block k hk))
        obtain ⟨bo, dp, rfl, _⟩ := id xq.s1
        obtain ⟨eo, ep, rfl, _⟩ := id xq.s3
        have HRk := hide (fun y (hy : Below W.heap.size W y) => show Rk T y _ _ _ _ _ from ⟨_, _, _, _, unhide HR y hy⟩)
        clear x1 x2 x3 xd xq x6 x7
        have HY := hide (show Below W.heap.size W W.drew from (Below.refl _ _).drew)
        have s1 := (unhide HR _ (unhide HY)).c1
        have s3 := (unhide HR _ (unhide HY)).c3
        have k1 := conv_sl _ _ _ (unhide HR _ (unhide HY)).s1
        have k3 := conv_sl _ _ _ (unhide HR _ (unhide HY)).s3
        go_wp2_with fail
        go_region_held (fun w' => w'.cell? ⟨M, 1, none⟩ = some (.slice bo nfb.length dp) ∧ (convert 26 9 (.slice bo nfb.length dp)).run Try.prog w' = .ok (.string (bs nfb)) w' ∧ w'.cell? ⟨M, 3, none⟩ = some (.slice eo nc.length ep) ∧ (convert 26 9 (.slice eo nc.length ep)).run Try.prog w' = .ok (.string (bs nc)) w') (first | (refine ⟨?_, ?_, ?_, ?_⟩ <;> assumption) | go_keep)
          (first | (go_at_call 20; refine (file_g D _ _ _ _ _ (unhide HDk _ (unhide HY))).mono ?_; rintro e w9 ⟨g9, rfl, ho9, hb9⟩; have HY := hide ((unhide HY).trans (hb9.mono (unhide HY).size)); have s1 := (unhide HR _ (unhide HY)).c1; have s3 := (unhide HR _ (unhide HY)).c3; have k1 := conv_sl _ _ _ (unhide HR _ (unhide HY)).s1; have k3 := conv_sl _ _ _ (unhide HR _ (unhide HY)).s3; have r9 := conv_sl w9 _ _ ho9.sl; clear ho9 hb9) | (go_at_call 21; refine (cell_g D _ _ _ _ _ (unhide HDk _ (unhide HY))).mono ?_; rintro e w9 ⟨g9, rfl, ho9, hb9⟩; have HY := hide ((unhide HY).trans (hb9.mono (unhide HY).size)); have s1 := (unhide HR _ (unhide HY)).c1; have s3 := (unhide HR _ (unhide HY)).c3; have k1 := conv_sl _ _ _ (unhide HR _ (unhide HY)).s1; have k3 := conv_sl _ _ _ (unhide HR _ (unhide HY)).s3; have r9 := conv_sl w9 _ _ ho9.sl; clear ho9 hb9) | (go_at_call 22; refine (dirty_ok D _ _ _ _ _ (unhide HDk _ (unhide HY))).mono ?_; rintro e w9 ⟨rfl, hb9⟩; have HY := hide ((unhide HY).trans (hb9.mono (unhide HY).size)); have s1 := (unhide HR _ (unhide HY)).c1; have s3 := (unhide HR _ (unhide HY)).c3; have k1 := conv_sl _ _ _ (unhide HR _ (unhide HY)).s1; have k3 := conv_sl _ _ _ (unhide HR _ (unhide HY)).s3; clear hb9) | (go_at_call 23; refine (refdirty_ok M _ _ _ _ _ (unhide HRk _ (unhide HY))).mono ?_; rintro e w9 ⟨rfl, hb9⟩; have HY := hide ((unhide HY).trans (hb9.mono (unhide HY).size)); have s1 := (unhide HR _ (unhide HY)).c1; have s3 := (unhide HR _ (unhide HY)).c3; have k1 := conv_sl _ _ _ (unhide HR _ (unhide HY)).s1; have k3 := conv_sl _ _ _ (unhide HR _ (unhide HY)).s3; clear hb9))
        go_wp2
        go_roundw
        case rel => exact ⟨k + 1, D, M, nfb, nc, sf, sc, by omega, by omega, rfl, rfl, by go_num, hlb, by omega, hide ((unhide HT).later (unhide HY)).bth⟩
        case measure => simp [intOf]; omega
      have k1 : (qk == 1) = false := by simpa using h1
      by_cases h2 : qk = 2
      · have k2 : (qk == 2) = true := by simpa using h2
        clear h1 h2
        by_cases hn : 0 ≤ qn ∧ qn ≤ nf.length
        · obtain ⟨j, rfl⟩ : ∃ j : Nat, qn = j := ⟨qn.toNat, by omega⟩
          have hjn : j ≤ nf.length := by omega
          clear hn
          go_wp2_with fail
          generalize wr.alloc (.cells #[.int .i64 qk, .int .i64 (j : Int), .slice po qb.length pc, .bool qt, .bool qc] 30) = W at *
          generalize wr.heap.size = N at *
          have HT := hide ((unhide HT).later (show Below W.heap.size W W.drew from (Below.refl _ _).drew))
          have a2 := (unhide HT).act.c1
          simp only at a2
          go_region_held (fun w' => w'.cell? ⟨N, 1, none⟩ = some (.int .i64 j)) (first | assumption | go_keep)
            (first | (go_at_call 12; obtain ⟨S, hd, hS, hback⟩ := (unhide HT).asD; refine (cut_ok (S := S) D _ _ _ _ j _ hd hjn).mono ?_; rintro e w3 ⟨rfl, h3, f3⟩; have HT := hide (hback w3 _ _ _ _ h3 f3); have a2 := (unhide HT).act.c1; simp only at a2; clear h3 f3 hd hS hback) | (go_at_call 13; obtain ⟨S, hd, hS, hback⟩ := (unhide HT).asM; refine (refcut_ok (T := S) M _ _ _ _ j _ hd hS hjn).mono ?_; rintro e w4 ⟨rfl, h3, f3⟩; have HT := hide (hback w4 _ _ _ _ h3 f3); have a2 := (unhide HT).act.c1; simp only at a2; clear h3 f3 hd hS hback))
          clear a2
          generalize w4 = W at *
          have hlb : (nf.take j).length ≤ 200 * (k + 1) := by rw [List.length_take]; omega
          generalize nf.take j = nfb at *
          obtain ⟨S, T, x1, x2, x3, xd, ⟨v0, v1, v2, v3, xq⟩, x6, x7⟩ := unhide HT
          have HDk := hide (fun y (hy : Below W.heap.size W y) => xd.later hy)
          have HR := hide (fun y (hy : Below W.heap.size W y) => xq.frame (w' := y) hy.size (fun k hk _ => hy.block k hk))
          obtain ⟨bo, dp, rfl, _⟩ := id xq.s1
          obtain ⟨eo, ep, rfl, _⟩ := id xq.s3
          have HRk := hide (fun y (hy : Below W.heap.size W y) => show Rk T y _ _ _ _ _ from ⟨_, _, _, _, unhide HR y hy⟩)
          clear x1 x2 x3 xd xq x6 x7
          have HY := hide (show Below W.heap.size W W.drew from (Below.refl _ _).drew)
          have s1 := (unhide HR _ (unhide HY)).c1
          have s3 := (unhide HR _ (unhide HY)).c3
          have k1 := conv_sl _ _ _ (unhide HR _ (unhide HY)).s1
          have k3 := conv_sl _ _ _ (unhide HR _ (unhide HY)).s3
          go_wp2_with fail
          go_region_held (fun w' => w'.cell? ⟨M, 1, none⟩ = some (.slice bo nfb.length dp) ∧ (convert 26 9 (.slice bo nfb.length dp)).run Try.prog w' = .ok (.string (bs nfb)) w' ∧ w'.cell? ⟨M, 3, none⟩ = some (.slice eo nc.length ep) ∧ (convert 26 9 (.slice eo nc.length ep)).run Try.prog w' = .ok (.string (bs nc)) w') (first | (refine ⟨?_, ?_, ?_, ?_⟩ <;> assumption) | go_keep)
            (first | (go_at_call 20; refine (file_g D _ _ _ _ _ (unhide HDk _ (unhide HY))).mono ?_; rintro e w9 ⟨g9, rfl, ho9, hb9⟩; have HY := hide ((unhide HY).trans (hb9.mono (unhide HY).size)); have s1 := (unhide HR _ (unhide HY)).c1; have s3 := (unhide HR _ (unhide HY)).c3; have k1 := conv_sl _ _ _ (unhide HR _ (unhide HY)).s1; have k3 := conv_sl _ _ _ (unhide HR _ (unhide HY)).s3; have r9 := conv_sl w9 _ _ ho9.sl; clear ho9 hb9) | (go_at_call 21; refine (cell_g D _ _ _ _ _ (unhide HDk _ (unhide HY))).mono ?_; rintro e w9 ⟨g9, rfl, ho9, hb9⟩; have HY := hide ((unhide HY).trans (hb9.mono (unhide HY).size)); have s1 := (unhide HR _ (unhide HY)).c1; have s3 := (unhide HR _ (unhide HY)).c3; have k1 := conv_sl _ _ _ (unhide HR _ (unhide HY)).s1; have k3 := conv_sl _ _ _ (unhide HR _ (unhide HY)).s3; have r9 := conv_sl w9 _ _ ho9.sl; clear ho9 hb9) | (go_at_call 22; refine (dirty_ok D _ _ _ _ _ (unhide HDk _ (unhide HY))).mono ?_; rintro e w9 ⟨rfl, hb9⟩; have HY := hide ((unhide HY).trans (hb9.mono (unhide HY).size)); have s1 := (unhide HR _ (unhide HY)).c1; have s3 := (unhide HR _ (unhide HY)).c3; have k1 := conv_sl _ _ _ (unhide HR _ (unhide HY)).s1; have k3 := conv_sl _ _ _ (unhide HR _ (unhide HY)).s3; clear hb9) | (go_at_call 23; refine (refdirty_ok M _ _ _ _ _ (unhide HRk _ (unhide HY))).mono ?_; rintro e w9 ⟨rfl, hb9⟩; have HY := hide ((unhide HY).trans (hb9.mono (unhide HY).size)); have s1 := (unhide HR _ (unhide HY)).c1; have s3 := (unhide HR _ (unhide HY)).c3; have k1 := conv_sl _ _ _ (unhide HR _ (unhide HY)).s1; have k3 := conv_sl _ _ _ (unhide HR _ (unhide HY)).s3; clear hb9))
          go_wp2
          go_roundw
          case rel => exact ⟨k + 1, D, M, nfb, nc, sf, sc, by omega, by omega, rfl, rfl, by go_num, hlb, by omega, hide ((unhide HT).later (unhide HY)).bth⟩
          case measure => simp [intOf]; omega
        · have hjn : qn < 0 ∨ nf.length < qn := by omega
          clear hn
          go_wp2_with fail
          generalize wr.alloc (.cells #[.int .i64 qk, .int .i64 qn, .slice po qb.length pc, .bool qt, .bool qc] 30) = W at *
          generalize wr.heap.size = N at *
          have HT := hide ((unhide HT).later (show Below W.heap.size W W.drew from (Below.refl _ _).drew))
          have a2 := (unhide HT).act.c1
          simp only at a2
          go_region_held (fun w' => w'.cell? ⟨N, 1, none⟩ = some (.int .i64 qn)) (first | assumption | go_keep)
            (first | (go_at_call 12; obtain ⟨S, hd, hS, hback⟩ := (unhide HT).asD; refine (cut_no (S := S) D _ _ _ _ qn _ hd hjn).mono ?_; rintro e w3 ⟨rfl, h3⟩; have HT := hide (show Both w w3 _ _ _ _ _ _ _ _ _ _ _ _ by rw [h3]; exact unhide HT); have a2 := (unhide HT).act.c1; simp only at a2; clear h3 hd hS hback) | (go_at_call 13; obtain ⟨S, hd, hS, hback⟩ := (unhide HT).asM; refine (refcut_no (T := S) M _ _ _ _ qn _ hd hjn).mono ?_; rintro e w4 ⟨rfl, h3⟩; have HT := hide (show Both w w4 _ _ _ _ _ _ _ _ _ _ _ _ by rw [h3]; exact unhide HT); have a2 := (unhide HT).act.c1; simp only at a2; clear h3 hd hS hback))
          clear a2
          generalize w4 = W at *
          obtain ⟨S, T, x1, x2, x3, xd, ⟨v0, v1, v2, v3, xq⟩, x6, x7⟩ := unhide HT
          have HDk := hide (fun y (hy : Below W.heap.size W y) => xd.later hy)
          have HR := hide (fun y (hy : Below W.heap.size W y) => xq.frame (w' := y) hy.size (fun k hk _ => hy.block k hk))
          obtain ⟨bo, dp, rfl, _⟩ := id xq.s1
          obtain ⟨eo, ep, rfl, _⟩ := id xq.s3
          have HRk := hide (fun y (hy : Below W.heap.size W y) => show Rk T y _ _ _ _ _ from ⟨_, _, _, _, unhide HR y hy⟩)
          clear x1 x2 x3 xd xq x6 x7
          have HY := hide (show Below W.heap.size W W.drew from (Below.refl _ _).drew)
          have s1 := (unhide HR _ (unhide HY)).c1
          have s3 := (unhide HR _ (unhide HY)).c3
          have k1 := conv_sl _ _ _ (unhide HR _ (unhide HY)).s1
          have k3 := conv_sl _ _ _ (unhide HR _ (unhide HY)).s3
          go_wp2_with fail
          go_region_held (fun w' => w'.cell? ⟨M, 1, none⟩ = some (.slice bo nf.length dp) ∧ (convert 26 9 (.slice bo nf.length dp)).run Try.prog w' = .ok (.string (bs nf)) w' ∧ w'.cell? ⟨M, 3, none⟩ = some (.slice eo nc.length ep) ∧ (convert 26 9 (.slice eo nc.length ep)).run Try.prog w' = .ok (.string (bs nc)) w') (first | (refine ⟨?_, ?_, ?_, ?_⟩ <;> assumption) | go_keep)
            (first | (go_at_call 20; refine (file_g D _ _ _ _ _ (unhide HDk _ (unhide HY))).mono ?_; rintro e w9 ⟨g9, rfl, ho9, hb9⟩; have HY := hide ((unhide HY).trans (hb9.mono (unhide HY).size)); have s1 := (unhide HR _ (unhide HY)).c1; have s3 := (unhide HR _ (unhide HY)).c3; have k1 := conv_sl _ _ _ (unhide HR _ (unhide HY)).s1; have k3 := conv_sl _ _ _ (unhide HR _ (unhide HY)).s3; have r9 := conv_sl w9 _ _ ho9.sl; clear ho9 hb9) | (go_at_call 21; refine (cell_g D _ _ _ _ _ (unhide HDk _ (unhide HY))).mono ?_; rintro e w9 ⟨g9, rfl, ho9, hb9⟩; have HY := hide ((unhide HY).trans (hb9.mono (unhide HY).size)); have s1 := (unhide HR _ (unhide HY)).c1; have s3 := (unhide HR _ (unhide HY)).c3; have k1 := conv_sl _ _ _ (unhide HR _ (unhide HY)).s1; have k3 := conv_sl _ _ _ (unhide HR _ (unhide HY)).s3; have r9 := conv_sl w9 _ _ ho9.sl; clear ho9 hb9) | (go_at_call 22; refine (dirty_ok D _ _ _ _ _ (unhide HDk _ (unhide HY))).mono ?_; rintro e w9 ⟨rfl, hb9⟩; have HY := hide ((unhide HY).trans (hb9.mono (unhide HY).size)); have s1 := (unhide HR _ (unhide HY)).c1; have s3 := (unhide HR _ (unhide HY)).c3; have k1 := conv_sl _ _ _ (unhide HR _ (unhide HY)).s1; have k3 := conv_sl _ _ _ (unhide HR _ (unhide HY)).s3; clear hb9) | (go_at_call 23; refine (refdirty_ok M _ _ _ _ _ (unhide HRk _ (unhide HY))).mono ?_; rintro e w9 ⟨rfl, hb9⟩; have HY := hide ((unhide HY).trans (hb9.mono (unhide HY).size)); have s1 := (unhide HR _ (unhide HY)).c1; have s3 := (unhide HR _ (unhide HY)).c3; have k1 := conv_sl _ _ _ (unhide HR _ (unhide HY)).s1; have k3 := conv_sl _ _ _ (unhide HR _ (unhide HY)).s3; clear hb9))
          go_wp2
          go_roundw
          case rel => exact ⟨k + 1, D, M, nf, nc, sf, sc, by omega, by omega, rfl, rfl, by go_num, by omega, by omega, hide ((unhide HT).later (unhide HY)).bth⟩
          case measure => simp [intOf]; omega
      have k2 : (qk == 2) = false := by simpa using h2
      by_cases h3 : qk = 3
      · have k3 : (qk == 3) = true := by simpa using h3
        clear h1 h2 h3
        go_wp2_with fail
        generalize wr.alloc (.cells #[.int .i64 qk, .int .i64 qn, .slice po qb.length pc, .bool qt, .bool qc] 30) = W at *
        generalize wr.heap.size = N at *
        have HT := hide ((unhide HT).later (show Below W.heap.size W W.drew from (Below.refl _ _).drew))
        have a2 := (unhide HT).act.c2
        simp only at a2
        go_region_held (fun w' => w'.cell? ⟨N, 2, none⟩ = some (.slice po qb.length pc)) (first | assumption | go_keep)
          (first | (go_at_call 14; obtain ⟨S, hd, hS, hback⟩ := (unhide HT).asD; refine (set_ok (S := S) D _ _ _ _ qb _ _ hd hS ((unhide Hqs).later (unhide HT).b) (by omega)).mono ?_; rintro e w3 ⟨rfl, h3, f3⟩; have HT := hide (hback w3 _ _ _ _ h3 f3); have a2 := (unhide HT).act.c2; simp only at a2; clear h3 f3 hd hS hback) | (go_at_call 15; obtain ⟨S, hd, hS, hback⟩ := (unhide HT).asM; refine (refset_ok (T := S) M _ _ _ _ qb _ _ hd hS ((unhide Hqs).later (unhide HT).b) (by omega)).mono ?_; rintro e w4 ⟨rfl, h3, f3⟩; have HT := hide (hback w4 _ _ _ _ h3 f3); have a2 := (unhide HT).act.c2; simp only at a2; clear h3 f3 hd hS hback))
        clear a2
        generalize w4 = W at *
        obtain ⟨S, T, x1, x2, x3, xd, ⟨v0, v1, v2, v3, xq⟩, x6, x7⟩ := unhide HT
        have HDk := hide (fun y (hy : Below W.heap.size W y) => xd.later hy)
        have HR := hide (fun y (hy : Below W.heap.size W y) => xq.frame (w' := y) hy.size (fun k hk _ => hy.block k hk))
        obtain ⟨bo, dp, rfl, _⟩ := id xq.s1
        obtain ⟨eo, ep, rfl, _⟩ := id xq.s3
        have HRk := hide (fun y (hy : Below W.heap.size W y) => show Rk T y _ _ _ _ _ from ⟨_, _, _, _, unhide HR y hy⟩)
        clear x1 x2 x3 xd xq x6 x7
        have HY := hide (show Below W.heap.size W W.drew from (Below.refl _ _).drew)
        have s1 := (unhide HR _ (unhide HY)).c1
        have s3 := (unhide HR _ (unhide HY)).c3
        have k1 := conv_sl _ _ _ (unhide HR _ (unhide HY)).s1
        have k3 := conv_sl _ _ _ (unhide HR _ (unhide HY)).s3
        go_wp2_with fail
        go_region_held (fun w' => w'.cell? ⟨M, 1, none⟩ = some (.slice bo nf.length dp) ∧ (convert 26 9 (.slice bo nf.length dp)).run Try.prog w' = .ok (.string (bs nf)) w' ∧ w'.cell? ⟨M, 3, none⟩ = some (.slice eo qb.length ep) ∧ (convert 26 9 (.slice eo qb.length ep)).run Try.prog w' = .ok (.string (bs qb)) w') (first | (refine ⟨?_, ?_, ?_, ?_⟩ <;> assumption) | go_keep)
          (first | (go_at_call 20; refine (file_g D _ _ _ _ _ (unhide HDk _ (unhide HY))).mono ?_; rintro e w9 ⟨g9, rfl, ho9, hb9⟩; have HY := hide ((unhide HY).trans (hb9.mono (unhide HY).size)); have s1 := (unhide HR _ (unhide HY)).c1; have s3 := (unhide HR _ (unhide HY)).c3; have k1 := conv_sl _ _ _ (unhide HR _ (unhide HY)).s1; have k3 := conv_sl _ _ _ (unhide HR _ (unhide HY)).s3; have r9 := conv_sl w9 _ _ ho9.sl; clear ho9 hb9) | (go_at_call 21; refine (cell_g D _ _ _ _ _ (unhide HDk _ (unhide HY))).mono ?_; rintro e w9 ⟨g9, rfl, ho9, hb9⟩; have HY := hide ((unhide HY).trans (hb9.mono (unhide HY).size)); have s1 := (unhide HR _ (unhide HY)).c1; have s3 := (unhide HR _ (unhide HY)).c3; have k1 := conv_sl _ _ _ (unhide HR _ (unhide HY)).s1; have k3 := conv_sl _ _ _ (unhide HR _ (unhide HY)).s3; have r9 := conv_sl w9 _ _ ho9.sl; clear ho9 hb9) | (go_at_call 22; refine (dirty_ok D _ _ _ _ _ (unhide HDk _ (unhide HY))).mono ?_; rintro e w9 ⟨rfl, hb9⟩; have HY := hide ((unhide HY).trans (hb9.mono (unhide HY).size)); have s1 := (unhide HR _ (unhide HY)).c1; have s3 := (unhide HR _ (unhide HY)).c3; have k1 := conv_sl _ _ _ (unhide HR _ (unhide HY)).s1; have k3 := conv_sl _ _ _ (unhide HR _ (unhide HY)).s3; clear hb9) | (go_at_call 23; refine (refdirty_ok M _ _ _ _ _ (unhide HRk _ (unhide HY))).mono ?_; rintro e w9 ⟨rfl, hb9⟩; have HY := hide ((unhide HY).trans (hb9.mono (unhide HY).size)); have s1 := (unhide HR _ (unhide HY)).c1; have s3 := (unhide HR _ (unhide HY)).c3; have k1 := conv_sl _ _ _ (unhide HR _ (unhide HY)).s1; have k3 := conv_sl _ _ _ (unhide HR _ (unhide HY)).s3; clear hb9))
        go_wp2
        go_roundw
        case rel => exact ⟨k + 1, D, M, nf, qb, sf, sc, by omega, by omega, rfl, rfl, by go_num, by omega, by omega, hide ((unhide HT).later (unhide HY)).bth⟩
        case measure => simp [intOf]; omega
      have k3 : (qk == 3) = false := by simpa using h3
      by_cases h4 : qk = 4
      · have k4 : (qk == 4) = true := by simpa using h4
        clear h1 h2 h3 h4
        obtain ⟨S, hd, hS, hback⟩ := (unhide HT).asM
        go_wp2_with fail
        refine (refsync_ok (T := S) M _ _ _ _ _ hd).mono ?_
        rintro e w3 ⟨rfl, h3, f3⟩
        replace HT := hide (hback w3 _ _ _ _ h3 f3)
        clear h3 f3 hd hS hback
        obtain ⟨S, hd, hS, hback⟩ := (unhide HT).asD
        go_wp2_with fail
        refine (sync_ok (S := S) D _ _ _ _ _ hd).mono ?_
        rintro e w4 ⟨rfl, h3, f3⟩
        replace HT := hide (hback w4 _ _ _ _ h3 f3)
        clear h3 f3 hd hS hback
        generalize w4 = W at *
        obtain ⟨S, T, x1, x2, x3, xd, ⟨v0, v1, v2, v3, xq⟩, x6, x7⟩ := unhide HT
        have HDk := hide (fun y (hy : Below W.heap.size W y) => xd.later hy)
        have HR := hide (fun y (hy : Below W.heap.size W y) => xq.frame (w' := y) hy.size (fun k hk _ => hy.block k hk))
        obtain ⟨bo, dp, rfl, _⟩ := id xq.s1
        obtain ⟨eo, ep, rfl, _⟩ := id xq.s3
        have HRk := hide (fun y (hy : Below W.heap.size W y) => show Rk T y _ _ _ _ _ from ⟨_, _, _, _, unhide HR y hy⟩)
        clear x1 x2 x3 xd xq x6 x7
        have HY := hide (show Below W.heap.size W W.drew from (Below.refl _ _).drew)
        have s1 := (unhide HR _ (unhide HY)).c1
        have s3 := (unhide HR _ (unhide HY)).c3
        have k1 := conv_sl _ _ _ (unhide HR _ (unhide HY)).s1
        have k3 := conv_sl _ _ _ (unhide HR _ (unhide HY)).s3
        go_wp2_with fail
        go_region_held (fun w' => w'.cell? ⟨M, 1, none⟩ = some (.slice bo nf.length dp) ∧ (convert 26 9 (.slice bo nf.length dp)).run Try.prog w' = .ok (.string (bs nf)) w' ∧ w'.cell? ⟨M, 3, none⟩ = some (.slice eo nc.length ep) ∧ (convert 26 9 (.slice eo nc.length ep)).run Try.prog w' = .ok (.string (bs nc)) w') (first | (refine ⟨?_, ?_, ?_, ?_⟩ <;> assumption) | go_keep)
          (first | (go_at_call 20; refine (file_g D _ _ _ _ _ (unhide HDk _ (unhide HY))).mono ?_; rintro e w9 ⟨g9, rfl, ho9, hb9⟩; have HY := hide ((unhide HY).trans (hb9.mono (unhide HY).size)); have s1 := (unhide HR _ (unhide HY)).c1; have s3 := (unhide HR _ (unhide HY)).c3; have k1 := conv_sl _ _ _ (unhide HR _ (unhide HY)).s1; have k3 := conv_sl _ _ _ (unhide HR _ (unhide HY)).s3; have r9 := conv_sl w9 _ _ ho9.sl; clear ho9 hb9) | (go_at_call 21; refine (cell_g D _ _ _ _ _ (unhide HDk _ (unhide HY))).mono ?_; rintro e w9 ⟨g9, rfl, ho9, hb9⟩; have HY := hide ((unhide HY).trans (hb9.mono (unhide HY).size)); have s1 := (unhide HR _ (unhide HY)).c1; have s3 := (unhide HR _ (unhide HY)).c3; have k1 := conv_sl _ _ _ (unhide HR _ (unhide HY)).s1; have k3 := conv_sl _ _ _ (unhide HR _ (unhide HY)).s3; have r9 := conv_sl w9 _ _ ho9.sl; clear ho9 hb9) | (go_at_call 22; refine (dirty_ok D _ _ _ _ _ (unhide HDk _ (unhide HY))).mono ?_; rintro e w9 ⟨rfl, hb9⟩; have HY := hide ((unhide HY).trans (hb9.mono (unhide HY).size)); have s1 := (unhide HR _ (unhide HY)).c1; have s3 := (unhide HR _ (unhide HY)).c3; have k1 := conv_sl _ _ _ (unhide HR _ (unhide HY)).s1; have k3 := conv_sl _ _ _ (unhide HR _ (unhide HY)).s3; clear hb9) | (go_at_call 23; refine (refdirty_ok M _ _ _ _ _ (unhide HRk _ (unhide HY))).mono ?_; rintro e w9 ⟨rfl, hb9⟩; have HY := hide ((unhide HY).trans (hb9.mono (unhide HY).size)); have s1 := (unhide HR _ (unhide HY)).c1; have s3 := (unhide HR _ (unhide HY)).c3; have k1 := conv_sl _ _ _ (unhide HR _ (unhide HY)).s1; have k3 := conv_sl _ _ _ (unhide HR _ (unhide HY)).s3; clear hb9))
        go_wp2
        go_roundw
        case rel => exact ⟨k + 1, D, M, nf, nc, nf, nc, by omega, by omega, rfl, rfl, by go_num, by omega, by omega, hide ((unhide HT).later (unhide HY)).bth⟩
        case measure => simp [intOf]; omega
      have k4 : (qk == 4) = false := by simpa using h4
      by_cases h5 : qk = 5
      · have k5 : (qk == 5) = true := by simpa using h5
        clear h1 h2 h3 h4 h5
        obtain ⟨S, hd, hS, hback⟩ := (unhide HT).asD
        have a1 := (unhide HT).act.c1
        have a3 := (unhide HT).act.c3
        have a4 := (unhide HT).act.c4
        simp only at a1 a3 a4
        go_wp2_with fail
        refine (crash_ok (S := S) D _ _ _ _ qn qt qc _ hd q1).mono ?_
        rintro e w3 ⟨X, rfl, h3, f3⟩
        replace HT := hide ((unhide HT).crashD h3 f3)
        clear h3 f3 hd hS hback a1 a3 a4
        obtain ⟨S, hd, hS, hback⟩ := (unhide HT).crashM
        have a1 := (unhide HT).act.c1
        have a3 := (unhide HT).act.c3
        have a4 := (unhide HT).act.c4
        simp only at a1 a3 a4
        go_wp2_with fail
        refine (refcrash_ok (T := S) M _ _ _ _ qn qt qc _ hd hS q0 q1).mono ?_
        rintro e w4 ⟨Y, rfl, _, h3, f3⟩
        replace HT := hide (hback w4 Y _ _ _ _ h3 f3)
        clear h3 f3 hd hS hback a1 a3 a4
        generalize w4 = W at *
        have hlb := left_length sf nf qn qt (200 * (k + 1)) (by omega) (by omega)
        generalize left sf nf qn qt = L at *
        generalize cel nc sc qc = C at *
        obtain ⟨S, T, x1, x2, x3, xd, ⟨v0, v1, v2, v3, xq⟩, x6, x7⟩ := unhide HT
        have HDk := hide (fun y (hy : Below W.heap.size W y) => xd.later hy)
        have HR := hide (fun y (hy : Below W.heap.size W y) => xq.frame (w' := y) hy.size (fun k hk _ => hy.block k hk))
        obtain ⟨bo, dp, rfl, _⟩ := id xq.s1
        obtain ⟨eo, ep, rfl, _⟩ := id xq.s3
        have HRk := hide (fun y (hy : Below W.heap.size W y) => show Rk T y _ _ _ _ _ from ⟨_, _, _, _, unhide HR y hy⟩)
        clear x1 x2 x3 xd xq x6 x7
        have HY := hide (show Below W.heap.size W W.drew from (Below.refl _ _).drew)
        have s1 := (unhide HR _ (unhide HY)).c1
        have s3 := (unhide HR _ (unhide HY)).c3
        have k1 := conv_sl _ _ _ (unhide HR _ (unhide HY)).s1
        have k3 := conv_sl _ _ _ (unhide HR _ (unhide HY)).s3
        go_wp2_with fail
        go_region_held (fun w' => w'.cell? ⟨Y, 1, none⟩ = some (.slice bo L.length dp) ∧ (convert 26 9 (.slice bo L.length dp)).run Try.prog w' = .ok (.string (bs L)) w' ∧ w'.cell? ⟨Y, 3, none⟩ = some (.slice eo C.length ep) ∧ (convert 26 9 (.slice eo C.length ep)).run Try.prog w' = .ok (.string (bs C)) w') (first | (refine ⟨?_, ?_, ?_, ?_⟩ <;> assumption) | go_keep)
          (first | (go_at_call 20; refine (file_g X _ _ _ _ _ (unhide HDk _ (unhide HY))).mono ?_; rintro e w9 ⟨g9, rfl, ho9, hb9⟩; have HY := hide ((unhide HY).trans (hb9.mono (unhide HY).size)); have s1 := (unhide HR _ (unhide HY)).c1; have s3 := (unhide HR _ (unhide HY)).c3; have k1 := conv_sl _ _ _ (unhide HR _ (unhide HY)).s1; have k3 := conv_sl _ _ _ (unhide HR _ (unhide HY)).s3; have r9 := conv_sl w9 _ _ ho9.sl; clear ho9 hb9) | (go_at_call 21; refine (cell_g X _ _ _ _ _ (unhide HDk _ (unhide HY))).mono ?_; rintro e w9 ⟨g9, rfl, ho9, hb9⟩; have HY := hide ((unhide HY).trans (hb9.mono (unhide HY).size)); have s1 := (unhide HR _ (unhide HY)).c1; have s3 := (unhide HR _ (unhide HY)).c3; have k1 := conv_sl _ _ _ (unhide HR _ (unhide HY)).s1; have k3 := conv_sl _ _ _ (unhide HR _ (unhide HY)).s3; have r9 := conv_sl w9 _ _ ho9.sl; clear ho9 hb9) | (go_at_call 22; refine (dirty_ok X _ _ _ _ _ (unhide HDk _ (unhide HY))).mono ?_; rintro e w9 ⟨rfl, hb9⟩; have HY := hide ((unhide HY).trans (hb9.mono (unhide HY).size)); have s1 := (unhide HR _ (unhide HY)).c1; have s3 := (unhide HR _ (unhide HY)).c3; have k1 := conv_sl _ _ _ (unhide HR _ (unhide HY)).s1; have k3 := conv_sl _ _ _ (unhide HR _ (unhide HY)).s3; clear hb9) | (go_at_call 23; refine (refdirty_ok Y _ _ _ _ _ (unhide HRk _ (unhide HY))).mono ?_; rintro e w9 ⟨rfl, hb9⟩; have HY := hide ((unhide HY).trans (hb9.mono (unhide HY).size)); have s1 := (unhide HR _ (unhide HY)).c1; have s3 := (unhide HR _ (unhide HY)).c3; have k1 := conv_sl _ _ _ (unhide HR _ (unhide HY)).s1; have k3 := conv_sl _ _ _ (unhide HR _ (unhide HY)).s3; clear hb9))
        go_wp2
        go_roundw
        case rel => exact ⟨k + 1, X, Y, L, C, L, C, by omega, by omega, rfl, rfl, by go_num, hlb, hlb, hide ((unhide HT).later (unhide HY)).bth⟩
        case measure => simp [intOf]; omega
      have k5 : (qk == 5) = false := by simpa using h5
      clear h1 h2 h3 h4 h5
      go_wp2_with fail
      generalize wr.alloc (.cells #[.int .i64 qk, .int .i64 qn, .slice po qb.length pc, .bool qt, .bool qc] 30) = W at *
      obtain ⟨S, T, x1, x2, x3, xd, ⟨v0, v1, v2, v3, xq⟩, x6, x7⟩ := unhide HT
      have HDk := hide (fun y (hy : Below W.heap.size W y) => xd.later hy)
      have HR := hide (fun y (hy : Below W.heap.size W y) => xq.frame (w' := y) hy.size (fun k hk _ => hy.block k hk))
      obtain ⟨bo, dp, rfl, _⟩ := id xq.s1
      obtain ⟨eo, ep, rfl, _⟩ := id xq.s3
      have HRk := hide (fun y (hy : Below W.heap.size W y) => show Rk T y _ _ _ _ _ from ⟨_, _, _, _, unhide HR y hy⟩)
      clear x1 x2 x3 xd xq x6 x7
      have HY := hide (show Below W.heap.size W W.drew from (Below.refl _ _).drew)
      have s1 := (unhide HR _ (unhide HY)).c1
      have s3 := (unhide HR _ (unhide HY)).c3
      have k1 := conv_sl _ _ _ (unhide HR _ (unhide HY)).s1
      have k3 := conv_sl _ _ _ (unhide HR _ (unhide HY)).s3
      go_wp2_with fail
      go_region_held (fun w' => w'.cell? ⟨M, 1, none⟩ = some (.slice bo nf.length dp) ∧ (convert 26 9 (.slice bo nf.length dp)).run Try.prog w' = .ok (.string (bs nf)) w' ∧ w'.cell? ⟨M, 3, none⟩ = some (.slice eo nc.length ep) ∧ (convert 26 9 (.slice eo nc.length ep)).run Try.prog w' = .ok (.string (bs nc)) w') (first | (refine ⟨?_, ?_, ?_, ?_⟩ <;> assumption) | go_keep)
        (first | (go_at_call 20; refine (file_g D _ _ _ _ _ (unhide HDk _ (unhide HY))).mono ?_; rintro e w9 ⟨g9, rfl, ho9, hb9⟩; have HY := hide ((unhide HY).trans (hb9.mono (unhide HY).size)); have s1 := (unhide HR _ (unhide HY)).c1; have s3 := (unhide HR _ (unhide HY)).c3; have k1 := conv_sl _ _ _ (unhide HR _ (unhide HY)).s1; have k3 := conv_sl _ _ _ (unhide HR _ (unhide HY)).s3; have r9 := conv_sl w9 _ _ ho9.sl; clear ho9 hb9) | (go_at_call 21; refine (cell_g D _ _ _ _ _ (unhide HDk _ (unhide HY))).mono ?_; rintro e w9 ⟨g9, rfl, ho9, hb9⟩; have HY := hide ((unhide HY).trans (hb9.mono (unhide HY).size)); have s1 := (unhide HR _ (unhide HY)).c1; have s3 := (unhide HR _ (unhide HY)).c3; have k1 := conv_sl _ _ _ (unhide HR _ (unhide HY)).s1; have k3 := conv_sl _ _ _ (unhide HR _ (unhide HY)).s3; have r9 := conv_sl w9 _ _ ho9.sl; clear ho9 hb9) | (go_at_call 22; refine (dirty_ok D _ _ _ _ _ (unhide HDk _ (unhide HY))).mono ?_; rintro e w9 ⟨rfl, hb9⟩; have HY := hide ((unhide HY).trans (hb9.mono (unhide HY).size)); have s1 := (unhide HR _ (unhide HY)).c1; have s3 := (unhide HR _ (unhide HY)).c3; have k1 := conv_sl _ _ _ (unhide HR _ (unhide HY)).s1; have k3 := conv_sl _ _ _ (unhide HR _ (unhide HY)).s3; clear hb9) | (go_at_call 23; refine (refdirty_ok M _ _ _ _ _ (unhide HRk _ (unhide HY))).mono ?_; rintro e w9 ⟨rfl, hb9⟩; have HY := hide ((unhide HY).trans (hb9.mono (unhide HY).size)); have s1 := (unhide HR _ (unhide HY)).c1; have s3 := (unhide HR _ (unhide HY)).c3; have k1 := conv_sl _ _ _ (unhide HR _ (unhide HY)).s1; have k3 := conv_sl _ _ _ (unhide HR _ (unhide HY)).s3; clear hb9))
      go_wp2
      go_roundw
      case rel => exact ⟨k + 1, D, M, nf, nc, sf, sc, by omega, by omega, rfl, rfl, by go_num, by omega, by omega, hide ((unhide HT).later (unhide HY)).bth⟩
      case measure => simp [intOf]; omega
    · have hlt' : xs.length ≤ k ∨ (k < xs.length ∧ 60 ≤ k) := by omega
      clear hlt
      rcases hlt' with hq | ⟨hq, hq2⟩
      all_goals
        go_wp2_with fail
        refine (alive_any _).mono ?_
        rintro e w2 ⟨rfl, b2⟩
        have HB := hide ((unhide HT).b.trans (b2.mono (unhide HT).b.size))
        clear b2 HT
        go_wp2
        go_ret
        exact ⟨rfl, unhide HB⟩
end

end Go.Proofs.Ytdhjogfalkmggaa
