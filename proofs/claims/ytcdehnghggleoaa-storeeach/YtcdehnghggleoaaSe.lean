/-
  What is put at a key, or decided of a span, leaves all other keys' chains: by lists. No law is proved here.
-/
import Derived.Test.YtcdehnghggleoaaCopy9
namespace Go.Proofs.Ytcdehnghggleoaa
open Go.RowKit
set_option linter.unusedVariables false

theorem entC (l : List Ent) (k : ByteArray) : (entAt l k).c = (((absL l).find? fun p => decide (p.1 = k)).map (·.2)).getD Chn.zero := by
  have e : (absL l).find? (fun p => decide (p.1 = k)) = (getE l k).map fun e => (e.key, e.c) := by
    unfold absL getE
    rw [List.find?_map]
    rfl
  rw [e]
  unfold entAt
  cases getE l k <;> rfl
theorem entC_abs {l m : List Ent} (h : absL l = absL m) (k : ByteArray) : (entAt l k).c = (entAt m k).c := by rw [entC, entC, h]
theorem keys_abs {l m : List Ent} (h : absL l = absL m) : l.map (·.key) = m.map (·.key) := by
  have := congrArg (List.map (·.1)) h
  simpa [absL, Function.comp_def] using this
theorem len_abs {l m : List Ent} (h : absL l = absL m) : l.length = m.length := by
  have := congrArg List.length h
  simpa [absL] using this

/-- No key's chain is empty. -/
def NE (l : List Ent) : Prop := ∀ e ∈ l, emC e.c = false

theorem writeC_open {c : Chn} {i : Itn} (h : (writeC c i).2.2.2 = 0) : (writeC c i).1.opn = true := by
  obtain ⟨⟨x, a, m, e⟩, hX⟩ : ∃ X, writeC c i = X := ⟨_, rfl⟩
  rw [hX] at h ⊢
  simp only at h ⊢
  subst h
  rcases (writeC_ok hX).2.2.2 with ⟨rfl, _, h, _⟩ | ⟨_, _, rfl⟩
  · exact h
  · rfl

theorem put_facts {L L' : List Ent} {k : ByteArray} {i : Itn} (hr : riseE L) (hn : NE L) (h : putL L L' k i) :
    NE L' ∧ L.length ≤ L'.length ∧ L'.length ≤ L.length + 1 ∧ ((putA L k i).2.2 ≠ 0 → L' = L) ∧ ∀ x, x ≠ k → (entAt L' x).c = (entAt L x).c := by
  unfold putL at h
  split at h
  · rename_i q
    obtain ⟨q1, q2, q3⟩ := q
    obtain ⟨ao, cap, rfl⟩ := h
    obtain ⟨l1, l2⟩ := len_setE L ⟨k, ao, cap, (writeC (entAt L k).c i).1⟩
    refine ⟨fun e he => ?_, l1, l2, fun q => ?_, fun x hx => ?_⟩
    · rcases (mem_setE hr).1 he with rfl | ⟨he, _⟩
      · unfold emC
        rw [writeC_open q3]
        simp
      · exact hn e he
    · exfalso
      apply q
      unfold putA
      rw [if_pos q1, if_pos q2]
      exact q3
    · have e : getE (setE L ⟨k, ao, cap, (writeC (entAt L k).c i).1⟩) x = getE L x := by
        rw [getE_setE hr, if_neg (fun e => hx e.symm)]
      unfold entAt at e ⊢
      rw [e]
  · subst h
    exact ⟨hn, Nat.le_refl _, Nat.le_succ _, fun _ => rfl, fun _ _ => rfl⟩

theorem goV_keys (id ep : Int) (cm : Bool) (a : Stp) : ∀ (r : List Ent) (D : List KC), ∀ p ∈ (goV id ep cm a D r).1, p ∈ D ∨ ∃ e ∈ r, e.key = p.1
  | [], D, p, hp => .inl hp
  | e :: r, D, p, hp => by
    unfold goV at hp
    split at hp
    · rcases goV_keys id ep cm a r _ p hp with q | ⟨z, hz, hk⟩
      · split at q
        · rcases List.mem_append.1 q with q | q
          · exact .inl q
          · rw [List.mem_singleton] at q
            exact .inr ⟨e, by simp, by rw [q]⟩
        · exact .inl q
      · exact .inr ⟨z, List.mem_cons_of_mem _ hz, hk⟩
    · cases hp
theorem goV_err (id ep : Int) (cm : Bool) (a : Stp) : ∀ (r : List Ent) (D : List KC), (goV id ep cm a D r).2 ≠ 0 → (goV id ep cm a D r).1 = []
  | [], D, h => absurd rfl h
  | e :: r, D, h => by
    unfold goV at h ⊢
    split
    · rename_i q
      rw [if_pos q] at h
      exact goV_err id ep cm a r _ h
    · rfl
theorem fold_other : ∀ (ds l : List Ent) (x : ByteArray), riseE l → (∀ d ∈ ds, d.key ≠ x) → getE (ds.foldl setE l) x = getE l x
  | [], _, _, _, _ => rfl
  | d :: r, l, x, h, hd => by
    rw [List.foldl_cons, fold_other r (setE l d) x (rise_setE h) (fun e he => hd e (List.mem_cons_of_mem _ he)), getE_setE h, if_neg (hd d (by simp))]
theorem filter_other {l : List Ent} {p : Ent → Bool} {x : ByteArray} (h : riseE l) (hp : ∀ e ∈ l, e.key = x → p e = true) : getE (l.filter p) x = getE l x := by
  cases hg : getE l x with
  | none =>
    cases hs : getE (l.filter p) x with
    | none => rfl
    | some z =>
      obtain ⟨h1, h2⟩ := getE_some hs
      exact absurd h2 (getE_none hg z (List.mem_filter.1 h1).1)
  | some e =>
    obtain ⟨h1, h2⟩ := getE_some hg
    have : e ∈ l.filter p := List.mem_filter.2 ⟨h1, hp e h1 h2⟩
    rw [← h2]
    exact getE_mem (h.filter _) this

theorem res_facts {L L' : List Ent} {f t : ByteArray} {id ep : Int} {cm : Bool} {a : Stp} (hr : riseE L) (hn : NE L) (h : resL L L' (resA f t id ep cm a L).1) :
    NE L' ∧ L'.length ≤ L.length ∧ ((resA f t id ep cm a L).2 ≠ 0 → L' = L) ∧ ∀ x, S5.hasB f t x = false → (entAt L' x).c = (entAt L x).c := by
  have hk : ∀ p ∈ (resA f t id ep cm a L).1, ∃ e ∈ L, e.key = p.1 ∧ S5.hasB f t p.1 = true := fun p hp => by
    unfold resA at hp
    split at hp
    · rcases goV_keys id ep cm a _ [] p hp with q | ⟨e, he, hk⟩
      · cases q
      · unfold inE at he
        obtain ⟨h1, h2⟩ := List.mem_filter.1 he
        exact ⟨e, h1, hk, hk ▸ h2⟩
    · cases hp
  have he : (resA f t id ep cm a L).2 ≠ 0 → (resA f t id ep cm a L).1 = [] := fun q => by
    unfold resA at q ⊢
    split
    · rename_i hR
      rw [if_pos hR] at q
      exact goV_err id ep cm a _ _ q
    · rfl
  unfold resL at h
  split at h
  · subst h
    exact ⟨hn, Nat.le_refl _, fun _ => rfl, fun _ _ => rfl⟩
  · rename_i hD
    obtain ⟨Ds, hDs, rfl⟩ := h
    have hd : ∀ d ∈ Ds, ∃ e ∈ L, e.key = d.key ∧ S5.hasB f t d.key = true := fun d hd => hk (d.key, d.c) (by rw [← hDs]; exact List.mem_map.2 ⟨d, hd, rfl⟩)
    refine ⟨fun e he => ?_, ?_, fun q => absurd (he q) hD, fun x hx => ?_⟩
    · have := (List.mem_filter.1 he).2
      simpa using this
    · refine Nat.le_trans (List.length_filter_le _ _) (Nat.le_of_eq (len_fold_in hr fun d h => ?_))
      obtain ⟨e, h1, h2, _⟩ := hd d h
      exact ⟨e, h1, h2⟩
    · have hne : ∀ d ∈ Ds, d.key ≠ x := fun d h q => by
        obtain ⟨_, _, _, h3⟩ := hd d h
        rw [q, hx] at h3
        cases h3
      have hf : getE ((Ds.foldl setE L).filter fun e => !emC e.c) x = getE L x := by
        rw [filter_other (rise_fold hr) (fun e he hex => ?_), fold_other Ds L x hr hne]
        rcases mem_fold hr he with q | q
        · exact absurd hex (hne e q)
        · rw [hn e q]; rfl
      unfold entAt
      rw [hf]

end Go.Proofs.Ytcdehnghggleoaa
