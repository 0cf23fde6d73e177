/-
  seal.Scan: what it answers.
-/
import Derived.Test.YteacolahbnilnaaColl
namespace Go.Proofs.Yteacolahbnilnaa
open Go.RowKit Go.Shelf
set_option linter.unusedVariables false

attribute [local go_sem] Oper.semAt_some

theorem map_piece (w : World) (pre : List (Piece w)) (x : Piece w) (ps : List (List UInt8)) (xl : List UInt8) (h : pre.map (fun p : Piece w => p.1.2) = ps) (hx : x.1.2 = xl) : (pre ++ [x]).map (fun p : Piece w => p.1.2) = ps ++ [xl] := by
  rw [List.map_append, h]; simp [hx]

theorem coll_eq {w W : World} {ps qs : List (List UInt8)} (h : Coll w ps W) (e : qs = ps) : Coll w qs W := by rw [e]; exact h

set_option maxRecDepth 100000 in
set_option maxHeartbeats 2000000 in
theorem scan_any (v : Value) (bs : List UInt8) (rs : List (List UInt8)) (w : World) (hs : Sl w v bs) (hl : bs.length ≤ 1099511627776) (hsc : Scans bs rs) :
    Calls Try.prog 11 #[v] w fun e w' => ∃ r, e = .returned (.tuple #[r, .int .i64 (total rs)]) ∧ Recs w.heap.size w' r rs ∧ Below w.heap.size w w' := by
  have hv : ∃ ao c, v = .slice ao bs.length c ∧ bs.length ≤ c ∧ c ≤ maxLen := by obtain ⟨ao, c, rfl, h1, h2, _⟩ := hs; exact ⟨_, _, rfl, h1, h2⟩
  obtain ⟨ao, c, rfl, h1, h2⟩ := hv
  obtain ⟨i0, hi, hz0, hz1, hz2⟩ := info_parts Try.infoBytes
  refine (callsIn_wide (n := 3)).1 ?_
  refine callsIn_of_wp_marks Try.func11 rfl trivial ?_ rfl
  simp only [Try.ntmps11, List.size_toArray, List.length_cons, List.length_nil, Nat.reduceAdd, Nat.reduceSub, Array.replicate_succ, Array.replicate_zero, List.push_toArray, List.append_toArray, List.nil_append, List.cons_append]
  gi_wp2_with (refine ⟨trivial, ?_⟩; gi_at_call 21; refine (frames_in _ _ _ _ _).mono ?_; rintro e w' ⟨rfl, rfl⟩)
  have bO := Boxed.new w 27 (.slice none 0 0)
  have bN := Boxed.new (w.alloc (.cells #[.slice none 0 0] 27)) 3 (.int .i64 0)
  have bB := Boxed.new ((w.alloc (.cells #[.slice none 0 0] 27)).alloc (.cells #[.int .i64 0] 3)) 22 (.slice ao bs.length c)
  rw [World.size_alloc] at bN bB
  rw [World.size_alloc] at bB
  have hB0 : Below w.heap.size w (((w.alloc (.cells #[.slice none 0 0] 27)).alloc (.cells #[.int .i64 0] 3)).alloc (.cells #[.slice ao bs.length c] 22)) := (((Below.refl _ w).alloc (Nat.le_refl _) _).alloc (by simp) _).alloc (by simp; omega) _
  have hcnt := hsc.count_le
  have htot := hsc.total_le
  refine wpIn_rangeFunc_ownG rfl (by decide) (gf := 25) (lb := #[.pointer (some ⟨w.heap.size + 1 + 1, 0, none⟩)]) rfl trivial (enters_of Try.func25 (by kernel_rfl) rfl)
    (frames_stops (3 - 1) (by decide) (w.heap.size + 1 + 1) w _ bs rs hl hs hsc _ hB0 (by simp) bB.cell) belowK_t (belowK_b (by simp; omega)) (Below.refl _ _) (fun _ => rfl)
    (fun pre W => Coll w (pre.map (fun p : Piece w => p.1.2)) W)
    (fun _ _ _ => False)
    (coll_own w (fun p : Piece w => p.1.2) _ (by simp; omega))
    (fun _ _ _ _ _ hs _ _ => hs)
    ⟨_, (bO.alloc _).alloc _, ⟨[], World.ownsRow_nil _ _ _ _, fun i u x hu => by simp at hu⟩, bN.alloc _, hB0⟩
    (fun x => { tmps := #[.slice ao bs.length c, undef, .slice none 0 0, .int .i64 0, .pointer (some ⟨w.heap.size, 0, none⟩), .pointer (some ⟨w.heap.size + 1, 0, none⟩), x.1.1, .slice ao bs.length c, .func (.func 25) #[] #[.pointer (some ⟨w.heap.size + 1 + 1, 0, none⟩)], x.1.1, undef, undef, undef, undef, undef, undef, undef, undef, undef, undef, undef, undef], defers := [] }) ?assign ?body ?done ?stop
  case assign =>
    intro l x W K hK
    gi_wp2
    exact hK
  case body =>
    rintro l pre x W ⟨v, b1, ⟨vs, hrow, hrec⟩, b2, hbel⟩ hlt
    obtain ⟨⟨xv, xl⟩, hx, hx2⟩ := x
    obtain ⟨xo, xc, hxe, _⟩ := id hx
    dsimp only at hxe
    subst hxe
    have hc1 := b1.cell
    have hx2' : xl.length ≤ 65536 := hx2
    have hxW : Sl W.drew (.slice xo xl.length xc) xl := hx.below hbel.drew (Nat.le_refl _)
    obtain ⟨ps, hps⟩ : ∃ ps, Hid (pre.map (fun p : Piece w => p.1.2) = ps) := ⟨_, Eq.refl _⟩
    have hpl : ps.length < rs.length := by rw [← hps.out, List.length_map]; exact hlt
    have hpt : total ps ≤ 65544 * ps.length := total_small (fun y hy => by
      rw [← hps.out, List.mem_map] at hy
      obtain ⟨p, _, rfl⟩ := hy
      exact p.2.2)
    rw [hps.out] at hrow hrec b2
    clear hlt
    gi_wp2
    refine wpIn_region_any (by kernel_rfl) ?_
    change wpAnyIn _ _ _ _ _ _ _ _ _ (World.drew _)
    refine wpAnyIn_ready (rs := [0, 1]) (by kernel_rfl) (by simp) (AllReadyIn.cons rfl (fun K hK => ?A) (AllReadyIn.cons rfl (fun K hK => ?B) AllReadyIn.nil))
    case' A =>
      go_simp; refine hK _ _ ?_; clear hK K
      refine wpAnyIn_ready (rs := [1]) (by kernel_rfl) (by simp) (AllReadyIn.cons rfl (fun K hK => ?_) AllReadyIn.nil)
      go_simp; refine hK _ _ ?_; clear hK K
      refine wpAnyIn_ready (rs := [2]) (by kernel_rfl) (by simp) (AllReadyIn.cons rfl (fun K hK => ?_) AllReadyIn.nil)
      go_simp
      refine ⟨trivial, (CallsIn.inRound l (callsIn_wide.2 (clone_any _ xl _ hxW (by omega)))).mono ?_⟩
      rintro e W1 ⟨r, rfl, ho, hb⟩
      obtain ⟨ro, rc, rfl, _⟩ := id ho.sl
      have hcW : W1.cell? ⟨w.heap.size, 0, none⟩ = some v := (hb.cell (p := ⟨w.heap.size, 0, none⟩) b1.lt).trans hc1
      have hcW2 : (W1.alloc (.cells #[.slice ro xl.length rc] 22)).cell? ⟨w.heap.size, 0, none⟩ = some v := (World.cell?_of_block (w := W1) (Below.heap_alloc W1 _ _ (World.block_lt_of_cell? W1 _ hcW))).trans hcW
      dsimp only
      refine hK _ _ ?_; clear hK K
      refine wpAnyIn_ready (rs := [3]) (by kernel_rfl) (by simp) (AllReadyIn.cons rfl (fun K hK => ?_) AllReadyIn.nil)
      go_simp; refine hK _ _ ?_; clear hK K
    case' B =>
      go_simp; refine hK _ _ ?_; clear hK K
      refine wpAnyIn_ready (rs := [0, 2]) (by kernel_rfl) (by simp) (AllReadyIn.cons rfl (fun K hK => ?B1) (AllReadyIn.cons rfl (fun K hK => ?B2) AllReadyIn.nil))
    case' B1 =>
      go_simp; refine hK _ _ ?_; clear hK K
      refine wpAnyIn_ready (rs := [2]) (by kernel_rfl) (by simp) (AllReadyIn.cons rfl (fun K hK => ?_) AllReadyIn.nil)
      go_simp
      refine ⟨trivial, (CallsIn.inRound l (callsIn_wide.2 (clone_any _ xl _ hxW (by omega)))).mono ?_⟩
      rintro e W1 ⟨r, rfl, ho, hb⟩
      obtain ⟨ro, rc, rfl, _⟩ := id ho.sl
      have hcW : W1.cell? ⟨w.heap.size, 0, none⟩ = some v := (hb.cell (p := ⟨w.heap.size, 0, none⟩) b1.lt).trans hc1
      have hcW2 : (W1.alloc (.cells #[.slice ro xl.length rc] 22)).cell? ⟨w.heap.size, 0, none⟩ = some v := (World.cell?_of_block (w := W1) (Below.heap_alloc W1 _ _ (World.block_lt_of_cell? W1 _ hcW))).trans hcW
      dsimp only
      refine hK _ _ ?_; clear hK K
      refine wpAnyIn_ready (rs := [3]) (by kernel_rfl) (by simp) (AllReadyIn.cons rfl (fun K hK => ?_) AllReadyIn.nil)
      go_simp; refine hK _ _ ?_; clear hK K
    case' B2 =>
      go_simp
      refine ⟨trivial, (CallsIn.inRound l (callsIn_wide.2 (clone_any _ xl _ hxW (by omega)))).mono ?_⟩
      rintro e W1 ⟨r, rfl, ho, hb⟩
      obtain ⟨ro, rc, rfl, _⟩ := id ho.sl
      have hcW : W1.cell? ⟨w.heap.size, 0, none⟩ = some v := (hb.cell (p := ⟨w.heap.size, 0, none⟩) b1.lt).trans hc1
      have hcW2 : (W1.alloc (.cells #[.slice ro xl.length rc] 22)).cell? ⟨w.heap.size, 0, none⟩ = some v := (World.cell?_of_block (w := W1) (Below.heap_alloc W1 _ _ (World.block_lt_of_cell? W1 _ hcW))).trans hcW
      dsimp only
      refine hK _ _ ?_; clear hK K
      refine wpAnyIn_ready (rs := [0, 3]) (by kernel_rfl) (by simp) (AllReadyIn.cons rfl (fun K hK => ?B21) (AllReadyIn.cons rfl (fun K hK => ?B22) AllReadyIn.nil))
    case' B21 =>
      go_simp; refine hK _ _ ?_; clear hK K
      refine wpAnyIn_ready (rs := [3]) (by kernel_rfl) (by simp) (AllReadyIn.cons rfl (fun K hK => ?_) AllReadyIn.nil)
      go_simp; refine hK _ _ ?_; clear hK K
    case' B22 =>
      go_simp; refine hK _ _ ?_; clear hK K
      refine wpAnyIn_ready (rs := [0]) (by kernel_rfl) (by simp) (AllReadyIn.cons rfl (fun K hK => ?_) AllReadyIn.nil)
      go_simp; refine hK _ _ ?_; clear hK K
    all_goals
      have hsz := hb.size
      have hsz2 := hbel.size
      have hsz3 : W.heap.size ≤ W1.heap.size := hsz
      refine wpAnyIn_ready (rs := [4]) (by kernel_rfl) (by simp) (AllReadyIn.cons rfl (fun K hK => ?_) AllReadyIn.nil)
      refine step_append_own_in rfl (.tmp 10) (.tmp 13) 27 rfl w.heap.size 22 i0 (.slice none 0 0) 1 24 Try.underlying27 hi hz0 hz1 hz2 rfl (by decide) v _ vs rfl ((row_below (W := W.drew) hrow hb).alloc _) ⟨W1.heap.size, 0, none⟩ 1 1 [.slice ro xl.length rc] rfl rfl (cell_one_new _ _ _) (by simp [Value.oneCell']) (by unfold maxLen; omega) (by omega) (by simp; omega) ?_
      intro v' w1 hown' hgrow
      obtain ⟨g', cap', rfl⟩ := ownsRow_succ hown'
      obtain ⟨k1, k2, k3, k4, k5, k6, k7⟩ := coll_step (W := W.drew) (x := xl) b1 hrow hrec b2 hbel.drew hb ho hown' hgrow
      have hd1 := k1.cell
      have hd2 := k1.frozen
      have hd3 := k7.cell
      have hd4 := k7.frozen
      refine hK _ _ ?_; clear hK K
      refine wpAnyIn_ready (rs := [5]) (by kernel_rfl) (by simp) (AllReadyIn.cons rfl (fun K hK => ?_) AllReadyIn.nil)
      go_simp; refine hK _ _ ?_; clear hK K
      refine wpAnyIn_done (by kernel_rfl) ?_ _
      gi_wp2
      obtain ⟨j1, j2, j3⟩ := coll_count (total ps + (8 + xl.length)) k2 k3 k4 (hbel.drew.trans k5) (total_snoc xl ps).symm
      have e : (((total ps + (8 + xl.length) : Nat) : Int)) = (total ps : Int) + (8 + (xl.length : Int)) := by omega
      rw [e] at j1 j2 j3
      refine ⟨(((KeepsOthers.drew W).trans k6).trans j3).from _, ((Below.refl _ W).drew.trans k5).trans j2, ?_⟩
      exact coll_eq j1 (map_piece w pre _ ps xl hps.out rfl)
  case done =>
    rintro D ys W hD hys ⟨v, b1, hrecs, b2, hbel⟩ hK
    rw [show ys.map (fun p : Piece w => p.1.2) = rs from hys] at hrecs b2
    have hc := b1.cell
    have hc2 := b2.cell
    clear hys
    gi_wp2
    gi_region
    gi_wp2
    have hKd : W.drew.heap[D]? = some (.deferred (some [])) := hK
    refine ⟨by simp, .inl ⟨_, _, rfl, run_takeDeferred hKd, ?_⟩⟩
    have hD' : w.heap.size ≤ D := by simp at hD; omega
    have hrow' : ∀ r, some D = some r → ∃ o : Obj, W.drew.heap[r]? = some o ∧ o.isCells = false := fun r e => by cases e; exact ⟨_, hKd, rfl⟩
    exact ⟨_, results_tmp2 rfl _ _ _, v, rfl, Recs.kept (W := W.drew) hrecs (grownBy_putObj' _ D _) hrow', hbel.drew.trans (belowK_b (w := w) (Nat.le_refl _) W.drew D _ _ hD' hKd rfl rfl)⟩
  case stop =>
    rintro D c pre W _ _ h _
    exact h.elim

end Go.Proofs.Yteacolahbnilnaa
