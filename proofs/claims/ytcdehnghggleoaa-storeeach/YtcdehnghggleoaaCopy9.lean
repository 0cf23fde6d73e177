/-
  The contract of a store's Copy. No law is proved here.
-/
import Derived.Test.YtcdehnghggleoaaSk
namespace Go.Proofs.Ytcdehnghggleoaa
open Go.RowKit Go.Maps
set_option linter.unusedVariables false

/-- While a store is copied: what is there, each once. -/
structure CpI (w : World) (a2 b2 : Nat) (L : List Ent) (R n : Nat) (b N : Nat) (M : Nat) (W : World) : Prop where
  bel : Below w.heap.size w W
  ex : ∃ (left : Lit → Bool) (cnt N2 : Nat) (L2 : List Ent), W.ranges Try.prog 9 rv b R n (DL L) left cnt ∧ cnt = W.rangeLeft b R ∧ Sto W a2 b2 L2 ∧ Room W b2 L2 N2 ∧ N ≤ N2 ∧ N2 + cnt ≤ M ∧
    (∀ e ∈ L, left (keyL e.key) = false → ∃ z ∈ L2, z.key = e.key ∧ z.c = e.c) ∧ (∀ z ∈ L2, ∃ e ∈ L, e.key = z.key ∧ e.c = z.c)

theorem abs_of {L L2 : List Ent} (h1 : riseE L) (h2 : riseE L2) (a : ∀ e ∈ L, ∃ z ∈ L2, z.key = e.key ∧ z.c = e.c) (b : ∀ z ∈ L2, ∃ e ∈ L, e.key = z.key ∧ e.c = z.c) : absL L2 = absL L := by
  induction L generalizing L2 with
  | nil =>
    cases L2 with
    | nil => rfl
    | cons z r => obtain ⟨e, he, _⟩ := b z (by simp); cases he
  | cons e r ih =>
    obtain ⟨p1, p2⟩ := List.pairwise_cons.1 h1
    cases L2 with
    | nil => obtain ⟨z, hz, _⟩ := a e (by simp); cases hz
    | cons z s =>
      obtain ⟨q1, q2⟩ := List.pairwise_cons.1 h2
      have hk : z.key = e.key ∧ z.c = e.c := by
        obtain ⟨z', hz', k1, k2⟩ := a e (by simp)
        rcases List.mem_cons.1 hz' with rfl | hz'
        · exact ⟨k1, k2⟩
        · obtain ⟨e', he', k3, k4⟩ := b z (by simp)
          rcases List.mem_cons.1 he' with rfl | he'
          · exact ⟨k3.symm, k4.symm⟩
          · have := q1 z' hz'
            rw [k1, ← k3] at this
            exact absurd (S5.L.tr this (p1 e' he')) (S5.L.irr _)
      unfold absL at ih ⊢
      rw [List.map_cons, List.map_cons, hk.1, hk.2, ih p2 q2 (fun x hx => ?_) (fun x hx => ?_)]
      · obtain ⟨z', hz', k1, k2⟩ := a x (List.mem_cons_of_mem _ hx)
        rcases List.mem_cons.1 hz' with rfl | hz'
        · have := p1 x hx
          rw [← k1, hk.1] at this
          exact absurd this (S5.L.irr _)
        · exact ⟨z', hz', k1, k2⟩
      · obtain ⟨e', he', k1, k2⟩ := b x (List.mem_cons_of_mem _ hx)
        rcases List.mem_cons.1 he' with rfl | he'
        · have := q1 x hx
          rw [← k1, ← hk.1] at this
          exact absurd this (S5.L.irr _)
        · exact ⟨e', he', k1, k2⟩

/-- A store stays while another's map is turned. -/
theorem Sto.apart {w w' : World} {a b r : Nat} {l : List Ent} (h : Sto w a b l) (hg : w.grownBy w' (some r)) (hc : ∃ o : Obj, w.heap[r]? = some o ∧ o.isCells = false) (hb : b ≠ r) : Sto w' a b l := by
  have ha : a ≠ r := by
    rintro rfl
    obtain ⟨o, q, qc⟩ := hc
    rw [h.at_] at q
    cases q
    cases qc
  exact h.move (hg.block a h.lta (fun e => ha (Option.some.inj e))) (hg.block b h.ltb (fun e => hb (Option.some.inj e))) fun e he => (h.vs e he).mapped hc hg
theorem Room.apart {w w' : World} {b r N : Nat} {l : List Ent} (h : Room w b l N) (hg : w.grownBy w' (some r)) (hb : b ≠ r) : Room w' b l N := by
  obtain ⟨n, hn, _⟩ := h.1
  exact h.move (hg.block b hn.lt (fun e => hb (Option.some.inj e)))

section
set_option maxRecDepth 100000
set_option maxHeartbeats 4000000

theorem copy9_any (a b N : Nat) (L : List Ent) (w : World) (h : Sto w a b L) (hr : Room w b L N) (hN : N ≤ 400000) :
    Calls Try.prog 8 #[.pointer (some ⟨a, 0, none⟩)] w fun e w' => ∃ a2 b2 L2, e = .returned (.pointer (some ⟨a2, 0, none⟩)) ∧ Sto w' a2 b2 L2 ∧ absL L2 = absL L ∧ w.heap.size ≤ a2 ∧ w.heap.size ≤ b2 ∧ Below w.heap.size w w' := by
  have hLN : L.length ≤ N := by
    obtain ⟨n, hn, hl⟩ := hr.1
    have := hn.size_le
    rw [size_DL] at this
    omega
  go_enter Try.func8, Try.ntmps8
  go_wp2_with fail
  refine (new_any w).mono ?_
  rintro e w1 ⟨a2, b2, rfl, hs2, ha2, hb2, hb1⟩
  have hr2 : Room w1 b2 [] N := by
    obtain ⟨n, hn, _⟩ := hs2.own
    exact ⟨⟨0, own_tight hn, Nat.zero_le _⟩, fun e he => (by cases he)⟩
  have hs := h.later hb1
  obtain ⟨n0, hn0, hnl⟩ := hs.own
  have hn := own_tight hn0
  rw [size_DL] at hn
  have hcell := hs.cell
  clear hn0 hnl
  go_wp2_with (first
    | (at_range; refine wpList_range_own _ rfl _ 63 rfl 9 48 keyed Try.underlying63 rv b L.length _ rfl hn ?_; intro w0 hrg0 hg0 hs0)
    | go_in)
  go_frame
  have hB0 : Below w.heap.size w w0 := hb1.grown hg0 hb1.size (fun k e => by cases e)
  have hb0 : Below w1.heap.size w1 w0 := (Below.refl _ _).grown hg0 (Nat.le_refl _) (fun k e => by cases e)
  have hI : CpI w a2 b2 L w1.heap.size L.length b N (N + L.length) w0 := ⟨hB0, _, _, N, [], hrg0, hrg0.left_eq.symm, hs2.later hb0, hr2.later hb0, Nat.le_refl _, by rw [size_DL]; exact Nat.le_refl _, (fun e he hl => by
    rw [has_DL, getE_mem h.rise he] at hl
    cases hl), (fun z hz => by cases hz)⟩
  have HI := hide hI
  have hW := hb1.size
  clear hI hB0 hb0 hs2 hr2 hs hn hcell hrg0 hg0 hs0 hb1
  generalize w1.heap.size = R at *
  go_loopw [4] (fun _ wr => Hid (CpI w a2 b2 L R L.length b N (N + L.length) wr)) (fun _ wr => wr.rangeLeft b R)
  case atStart => exact unhide HI
  case round =>
    clear HI
    have hI := unhide hrel
    clear hrel
    obtain ⟨left, cnt, N2, L2, hrg, hcnt, hs2, hr2, hNN, hN2, hl1, hl2⟩ := hI.ex
    have hB := hI.bel
    clear hI
    go_wp2_with (first
      | (at_next; refine wpList_next_ranges _ rfl _ rfl 9 keyed rv id id (fun key _ _ => ⟨key, rfl⟩) (fun v _ _ => ⟨v, rfl⟩) b R L.length _ _ _ rfl hrg ?_ ?_)
      | go_in)
    · intro hc0 hl0
      have HR := hide (And.intro hs2 (And.intro (abs_of h.rise hs2.rise (fun e he => hl1 e he (hl0 _)) hl2) hB))
      clear hs2 hr2 hl1 hl2 hB hrg
      go_wp2
      go_ret
      exact ⟨a2, b2, L2, rfl, (unhide HR).1, (unhide HR).2.1, ha2, hb2, (unhide HR).2.2⟩
    · intro x c kl yd yp w3 cnt1 hkey hlx hv hat hrg1 hlt hg1 hs1 hen
      obtain ⟨e, he, rfl, rfl, hce, hge⟩ := came hkey hv hat (has_true_of_atKey hat)
      clear hv hat hkey hce
      have hcR : ∃ o : Obj, wr.heap[R]? = some o ∧ o.isCells = false := by
        obtain ⟨_, _, _, _, _, _, _, _, _, q, _⟩ := hrg
        exact ⟨_, q, rfl⟩
      have hbR : b2 ≠ R := by
        obtain ⟨_, _, _, _, _, _, _, _, _, q, _⟩ := hrg
        obtain ⟨_, ⟨_, _, q2, _⟩, _⟩ := hs2.own
        rintro rfl
        rw [q] at q2
        cases q2
      have hbb : b2 ≠ b := by
        have := h.ltb
        omega
      have hB3 := (hB.grown hg1 hB.size (fun k e => by cases e; exact hW)).drew
      have hs3 := (hs2.apart hg1 hcR hbR).drew
      have hr3 := (hr2.apart hg1 hbR).drew
      have hS := h.below hB3 (Nat.le_refl _)
      have hrg3 : w3.drew.ranges Try.prog 9 rv b R L.length (DL L) (fun z => left z && !z.sameKey (keyL e.key)) cnt1 := hrg1
      have hcd := hs3.cell
      have hCh := fun w' (hb : Below w3.drew.heap.size w3.drew w') => chain_any a b L e.key w' (hS.later hb) (by have := key_le (h.keys e he); omega)
      have hE : (entAt L e.key).c = e.c := by unfold entAt; rw [hge]
      rw [hE] at hCh
      have hlen : e.c.vs.length ≤ N := hr.2 e he
      have hkk := h.keys e he
      clear hg1 hs2 hr2 hcR hrg1 hrg hB hS hE hge
      obtain ⟨key, ao, cap, ⟨vs, q, i⟩⟩ := e
      simp only [chV] at hCh hlen hkk hen
      obtain ⟨nv, hnv⟩ : ∃ nv, vs.length = nv := ⟨_, rfl⟩
      simp only [hnv] at hCh
      have HN := hide hnv
      clear hnv
      have Hst := hide (And.intro hs3 (And.intro hr3 (And.intro hrg3 hB3)))
      clear hs3 hr3 hrg3 hB3
      go_upto_region 7 with fail
      refine wp_region_held_drew (S := fun y => y.cell? ⟨a2, 0, none⟩ = some (.map (some b2))) (by kernel_rfl) hcd (fun hSS => ?_)
      clear hcd hen
      generalize w3.drew = wd at *
      refine held_take 0 17 rfl rfl (by kernel_rfl) (by kernel_rfl) (by kernel_rfl) (fun _ _ _ h => h) (by rfl) hSS (v := ?_) ?_ ?_
      rotate_left
      · intro y hSy
        have hy0 := hSy
        go_simp
        with_reducible rfl
      simp only [Act.put, List.setIfInBounds_toArray, List.set_cons_zero, List.set_cons_succ]
      refine held_take 1 18 rfl rfl (by kernel_rfl) (by kernel_rfl) (by kernel_rfl) (fun _ _ _ h => h) (by rfl) hSS (v := ?_) ?_ ?_
      rotate_left
      · intro y hSy
        have hy0 := hSy
        go_simp
        with_reducible rfl
      simp only [Act.put, List.setIfInBounds_toArray, List.set_cons_zero, List.set_cons_succ]
      refine held_take 2 19 rfl rfl (by kernel_rfl) (by kernel_rfl) (by kernel_rfl) (fun _ _ _ h => h) (by rfl) hSS (v := ?_) ?_ ?_
      rotate_left
      · intro y hSy
        have hy0 := hSy
        go_simp
        with_reducible rfl
      simp only [Act.put, List.setIfInBounds_toArray, List.set_cons_zero, List.set_cons_succ]
      refine held_take 3 20 rfl rfl (by kernel_rfl) (by kernel_rfl) (by kernel_rfl) (fun _ _ _ h => h) (by rfl) hSS (v := ?_) ?_ ?_
      rotate_left
      · intro y hSy
        have hy0 := hSy
        go_simp
        with_reducible rfl
      simp only [Act.put, List.setIfInBounds_toArray, List.set_cons_zero, List.set_cons_succ]
      refine held_take 4 21 rfl rfl (by kernel_rfl) (by kernel_rfl) (by kernel_rfl) (fun _ _ _ h => h) (by rfl) hSS (v := ?_) ?_ ?_
      rotate_left
      · intro y hSy
        have hy0 := hSy
        go_simp
        with_reducible rfl
      simp only [Act.put, List.setIfInBounds_toArray, List.set_cons_zero, List.set_cons_succ]
      refine held_take 5 22 rfl rfl (by kernel_rfl) (by kernel_rfl) (by kernel_rfl) (fun _ _ _ h => h) (by rfl) hSS (v := ?_) ?_ ?_
      rotate_left
      · intro y hSy
        have hy0 := hSy
        go_simp
        with_reducible rfl
      simp only [Act.put, List.setIfInBounds_toArray, List.set_cons_zero, List.set_cons_succ]
      refine held_take 6 23 rfl rfl (by kernel_rfl) (by kernel_rfl) (by kernel_rfl) (fun _ _ _ h => h) (by rfl) hSS (v := ?_) ?_ ?_
      rotate_left
      · intro y hSy
        have hy0 := hSy
        go_simp
        with_reducible rfl
      simp only [Act.put, List.setIfInBounds_toArray, List.set_cons_zero, List.set_cons_succ]
      refine wpAnyH_ready (rs := [7]) (by kernel_rfl) (by simp) ?_
      refine AllReadyH.cons rfl (fun K hK => ?_) AllReadyH.nil
      go_wp2_with (go_at_call 14; refine (hCh _ (Below.refl _ _)).mono ?_; rintro e9 w4 ⟨bo, d, rfl, hv9, hb9⟩; have HZ := hide (And.intro hv9 hb9); clear hv9 hb9)
      clear hCh
      obtain ⟨hv9, hb9⟩ := unhide HZ
      clear HZ
      obtain ⟨hs3, hr3, hrg3, hB3⟩ := unhide Hst
      clear Hst
      have hs4 := hs3.later hb9
      have hr4 := hr3.later hb9
      have hrg4 := hrg3.kept (grown_of_below hb9 none) (by simp) (by simp)
      have hB4 := hB3.trans (hb9.mono hB3.size)
      refine hK.out _ _ hs4.cell (fun _ => ?_)
      clear hK K hs3 hr3 hrg3 hB3
      refine wpAnyH_ready (rs := [8]) (by kernel_rfl) (by simp) ?_
      refine AllReadyH.cons rfl (fun K hK => ?_) AllReadyH.nil
      have hcnt1 : cnt1 < cnt := by rw [hcnt]; exact hlt
      have hcl : cnt ≤ L.length + N := by omega
      obtain ⟨w5, hrun, hs5, hr5, hg5⟩ := put_store hs4 hr4 (by omega) ⟨key, bo, d, ⟨vs, q, i⟩⟩ rfl hv9 hkk (by show vs.length ≤ N2 + 1; omega)
      simp only [Ent.v, chV, unhide HN] at hrun
      go_simp
      refine hK.out _ _ hs5.cell (fun _ => ?_)
      clear hK K hrun hSS
      refine wpAnyH_done (by kernel_rfl) ?_ _
      have hrg5 := hrg4.kept hg5 (fun e => hbb (Option.some.inj e).symm) (fun e => hbR (Option.some.inj e).symm)
      have HF : Hid (CpI w a2 b2 L R L.length b N (N + L.length) w5) := hide ⟨hB4.grown hg5 hB4.size (fun k e => by cases e; exact hb2), _, cnt1, N2 + 1, _, hrg5, hrg5.left_eq.symm, hs5, hr5, by omega, by omega, fun e he1 hl => by
        by_cases q1 : e.key = key
        · refine ⟨_, (mem_setE hs4.rise).2 (.inl rfl), q1.symm, ?_⟩
          have q2 := key_inj h.rise he1 he q1
          subst q2
          rfl
        · have q2 : left (keyL e.key) = false := by
            rw [same_s, Bool.and_eq_false_iff] at hl
            rcases hl with hl | hl
            · exact hl
            · simp [q1] at hl
          obtain ⟨z, hz, k1, k2⟩ := hl1 e he1 q2
          exact ⟨z, (mem_setE hs4.rise).2 (.inr ⟨hz, by rw [k1]; exact q1⟩), k1, k2⟩, fun z hz => by
        rcases (mem_setE hs4.rise).1 hz with rfl | ⟨hz, _⟩
        · exact ⟨_, he, rfl, rfl⟩
        · exact hl2 z hz⟩
      have hms : w5.rangeLeft b R < wr.rangeLeft b R := by rw [hrg5.left_eq]; exact hlt
      clear hrg5 hrg4 hs4 hr4 hB4 hs5 hr5 hg5 hv9 hb9 hl1 hl2
      go_wp2
      go_roundw
      case rel => exact unhide HF
      case measure => exact hms
end

end Go.Proofs.Ytcdehnghggleoaa
