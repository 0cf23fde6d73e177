/-
  What is read and refreshed of a span is what is of its keys, one by one: by lists. No law is proved here.
-/
import Derived.Test.YtcdehnghggleoaaSq
namespace Go.Proofs.Ytcdehnghggleoaa
open Go.RowKit
set_option linter.unusedVariables false

/-- The error that a key's reading has. -/
def rdE (a l : Stp) (id ep : Int) (e : Ent) : Int := (readR e.c.vs e.c.opn e.c.itn a l id ep).2.2.2
/-- The pairs that a key's reading has. -/
def rdP (a l : Stp) (id ep : Int) (e : Ent) : List Pr := if (readR e.c.vs e.c.opn e.c.itn a l id ep).2.1 = true then [(e.key, (readR e.c.vs e.c.opn e.c.itn a l id ep).1.val)] else []
/-- The error that a key's refresh has. -/
def rfE (id : Int) (fr to : Stp) (e : Ent) : Int := (refR e.c.vs e.c.opn e.c.itn id fr to).2

theorem found_zero {a l : Stp} {id ep : Int} {e : Ent} (h : rdE a l id ep e ≠ 0) : rdP a l id ep e = [] := by
  have hf : ∀ v : Ver, (foundV v).2.2.2 = 0 := fun v => by unfold foundV; split <;> rfl
  unfold rdE at h
  unfold rdP
  rw [if_neg]
  intro h1
  apply h
  unfold readR at h1 ⊢
  split at h1
  · rename_i q; rw [if_pos q]; exact hf _
  · rename_i q; rw [if_neg q]
    split at h1
    · rename_i q2; rw [if_pos q2]
      split at h1
      · cases h1
      · rename_i q3; rw [if_neg q3]
        split at h1
        · cases h1
        · rename_i q4; rw [if_neg q4]; exact hf _
    · cases h1
theorem step_ps (a l : Stp) (id ep : Int) (s : RdS) (e : Ent) : (stepR a l id ep s e).ps = s.ps ++ rdP a l id ep e := by
  unfold stepR rdP
  simp only
  split <;> simp
theorem step_r (a l : Stp) (id ep : Int) (s : RdS) (e : Ent) : (stepR a l id ep s e).r = if rdE a l id ep e = 0 then s.r else rdE a l id ep e := rfl
theorem fin_r (s : RdS) : (finR s).2.2.2 = s.r := by unfold finR; split <;> simp_all
theorem fin_ps {s : RdS} (h : s.r = 0) : (finR s).1 = s.ps := by unfold finR; rw [if_pos h]

theorem go_ok (a l : Stp) (id ep : Int) : ∀ (r : List Ent) (s : RdS), s.ps.length + (r.flatMap (rdP a l id ep)).length < 50 →
    ((goR a l id ep s r).2.2.2 = 0 ↔ s.r = 0 ∧ ∀ e ∈ r, rdE a l id ep e = 0) ∧ ((goR a l id ep s r).2.2.2 = 0 → (goR a l id ep s r).1 = s.ps ++ r.flatMap (rdP a l id ep))
  | [], s, h => by
    unfold goR
    rw [fin_r]
    refine ⟨by simp, fun h0 => ?_⟩
    rw [fin_ps h0]
    simp
  | e :: r, s, h => by
    rw [List.flatMap_cons, List.length_append] at h
    unfold goR
    by_cases h1 : rdE a l id ep e = 81
    · rw [if_pos (show (readR e.c.vs e.c.opn e.c.itn a l id ep).2.2.2 = 81 from h1)]
      refine ⟨⟨fun q => absurd q (by simp), fun q => ?_⟩, fun q => absurd q (by simp)⟩
      have := q.2 e (by simp)
      rw [h1] at this
      exact absurd this (by decide)
    · rw [if_neg (show ¬ (readR e.c.vs e.c.opn e.c.itn a l id ep).2.2.2 = 81 from h1)]
      have hl : (stepR a l id ep s e).ps.length = s.ps.length + (rdP a l id ep e).length := by rw [step_ps, List.length_append]
      rw [if_neg (by omega)]
      obtain ⟨g1, g2⟩ := go_ok a l id ep r (stepR a l id ep s e) (by omega)
      refine ⟨?_, fun q => ?_⟩
      · rw [g1, step_r]
        constructor
        · rintro ⟨q1, q2⟩
          split at q1
          · rename_i q; exact ⟨q1, fun z hz => by
              rcases List.mem_cons.1 hz with rfl | hz
              · exact q
              · exact q2 z hz⟩
          · rename_i q; exact absurd q1 q
        · rintro ⟨q1, q2⟩
          rw [if_pos (q2 e (by simp))]
          exact ⟨q1, fun z hz => q2 z (List.mem_cons_of_mem _ hz)⟩
      · rw [g2 q, step_ps, List.flatMap_cons, List.append_assoc]

theorem goF_ok (id : Int) (fr to : Stp) : ∀ (l : List Ent) (r : Int), (goF id fr to r l).2 = 0 ↔ r = 0 ∧ ∀ e ∈ l, rfE id fr to e = 0
  | [], r => by unfold goF; simp
  | e :: l, r => by
    unfold goF
    by_cases h1 : rfE id fr to e = 81
    · rw [if_pos (show (refR e.c.vs e.c.opn e.c.itn id fr to).2 = 81 from h1)]
      refine ⟨fun q => absurd q (by simp), fun q => ?_⟩
      have := q.2 e (by simp)
      rw [h1] at this
      exact absurd this (by decide)
    · rw [if_neg (show ¬ (refR e.c.vs e.c.opn e.c.itn id fr to).2 = 81 from h1), goF_ok id fr to l]
      show ((if rfE id fr to e = 0 then r else rfE id fr to e) = 0 ∧ _) ↔ _
      constructor
      · rintro ⟨q1, q2⟩
        split at q1
        · rename_i q; exact ⟨q1, fun z hz => by
            rcases List.mem_cons.1 hz with rfl | hz
            · exact q
            · exact q2 z hz⟩
        · rename_i q; exact absurd q1 q
      · rintro ⟨q1, q2⟩
        rw [if_pos (q2 e (by simp))]
        exact ⟨q1, fun z hz => q2 z (List.mem_cons_of_mem _ hz)⟩

/-- A key's own span has it alone. -/
theorem one_has {k z : ByteArray} (hk : S5.keyB k = true) : S5.hasB k S5.emp z = true ↔ z = k := by
  rw [S5.has_iff]
  unfold S5.H
  constructor
  · rintro ⟨_, _, ⟨_, h⟩ | ⟨h, _⟩⟩
    · exact h
    · exact absurd rfl h
  · rintro rfl
    exact ⟨hk, hk, .inl ⟨rfl, rfl⟩⟩
theorem one_right {k : ByteArray} (hk : S5.keyB k = true) : S5.rightB k S5.emp = true := (S5.right_iff k S5.emp).2 ⟨hk, .inl rfl⟩
theorem one_in {L : List Ent} (hr : riseE L) (hk : ∀ e ∈ L, S5.keyB e.key = true) {e : Ent} (he : e ∈ L) : inE e.key S5.emp L = [e] := by
  refine rise_ext (rise_inE hr _ _) (List.pairwise_singleton _ _) fun z => ?_
  unfold inE
  rw [List.mem_filter, one_has (hk e he), List.mem_singleton]
  constructor
  · rintro ⟨h1, h2⟩
    exact key_inj hr h1 he h2
  · rintro rfl
    exact ⟨he, rfl⟩
theorem one_read {L : List Ent} (hr : riseE L) (hk : ∀ e ∈ L, S5.keyB e.key = true) {e : Ent} (he : e ∈ L) (a l : Stp) (id ep : Int) :
    (readS e.key S5.emp a l id ep L).1 = rdP a l id ep e ∧ (readS e.key S5.emp a l id ep L).2.2.2 = rdE a l id ep e := by
  unfold readS
  rw [if_pos (one_right (hk e he)), one_in hr hk he]
  unfold goR goR
  by_cases h1 : rdE a l id ep e = 81
  · rw [if_pos (show (readR e.c.vs e.c.opn e.c.itn a l id ep).2.2.2 = 81 from h1), found_zero (by rw [h1]; decide)]
    exact ⟨rfl, h1.symm⟩
  · rw [if_neg (show ¬ (readR e.c.vs e.c.opn e.c.itn a l id ep).2.2.2 = 81 from h1), ite_self, fin_r, step_r]
    by_cases h0 : rdE a l id ep e = 0
    · rw [if_pos h0]
      refine ⟨?_, h0.symm⟩
      rw [fin_ps (by rw [step_r, if_pos h0]; rfl), step_ps]
      rfl
    · rw [if_neg h0]
      refine ⟨?_, rfl⟩
      rw [found_zero h0]
      unfold finR
      rw [if_neg (by rw [step_r, if_neg h0]; exact h0)]
theorem one_refresh {L : List Ent} (hr : riseE L) (hk : ∀ e ∈ L, S5.keyB e.key = true) {e : Ent} (he : e ∈ L) (id : Int) (fr to : Stp) : (refS e.key S5.emp id fr to L).2 = rfE id fr to e := by
  unfold refS
  rw [if_pos (one_right (hk e he)), one_in hr hk he]
  unfold goF goF
  by_cases h1 : rfE id fr to e = 81
  · rw [if_pos (show (refR e.c.vs e.c.opn e.c.itn id fr to).2 = 81 from h1)]
    exact h1.symm
  · rw [if_neg (show ¬ (refR e.c.vs e.c.opn e.c.itn id fr to).2 = 81 from h1)]
    show (if rfE id fr to e = 0 then 0 else rfE id fr to e) = rfE id fr to e
    split
    · rename_i q; exact q.symm
    · rfl

/-- The whole span against its keys. -/
theorem keys_read {f t : ByteArray} (hR : S5.rightB f t = true) (L : List Ent) (a l : Stp) (id ep : Int) (hl : ((inE f t L).flatMap (rdP a l id ep)).length < 50) :
    ((readS f t a l id ep L).2.2.2 = 0 ↔ ∀ e ∈ inE f t L, rdE a l id ep e = 0) ∧ ((readS f t a l id ep L).2.2.2 = 0 → (readS f t a l id ep L).1 = (inE f t L).flatMap (rdP a l id ep)) := by
  unfold readS
  rw [if_pos hR]
  obtain ⟨g1, g2⟩ := go_ok a l id ep (inE f t L) RdS.zero (by simpa [RdS.zero] using hl)
  exact ⟨by rw [g1]; simp [RdS.zero], fun q => by rw [g2 q]; simp [RdS.zero]⟩
theorem keys_refresh {f t : ByteArray} (hR : S5.rightB f t = true) (L : List Ent) (id : Int) (fr to : Stp) : (refS f t id fr to L).2 = 0 ↔ ∀ e ∈ inE f t L, rfE id fr to e = 0 := by
  unfold refS
  rw [if_pos hR, goF_ok]
  simp
theorem not_right {f t : ByteArray} (hR : S5.rightB f t = false) (L : List Ent) (a l : Stp) (id ep : Int) (id' : Int) (fr to : Stp) : (readS f t a l id ep L).2.2.2 = 51 ∧ (refS f t id' fr to L).2 = 51 := by
  unfold readS refS
  rw [hR]
  exact ⟨rfl, rfl⟩

end Go.Proofs.Ytcdehnghggleoaa
