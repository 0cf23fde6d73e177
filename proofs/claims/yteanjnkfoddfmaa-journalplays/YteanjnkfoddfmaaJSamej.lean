/-
  Contract of whether a journal tells what the document's does; how long what is opened may be. No law is proved here.
-/
import Derived.Test.YteanjnkfoddfmaaJRopen
namespace Go.Proofs.Yteanjnkfoddfmaa
open Go.RowKit
set_option linter.unusedVariables false

/-- Texts of a state are short. -/
def Shrt (st : St) : Prop := st.2.1.length ≤ 65536 ∧ ∀ x ∈ st.2.2, x.length ≤ 65536

theorem chOf_txt {r : List UInt8} {c : Ch} (h : chOf r = some c) : c.txt.length ≤ 65536 := by
  have key : ∀ l, (rdT l 65536).1.length ≤ 65536 := fun l => by
    rcases rdT_one l 65536 with ⟨_, _, h⟩ | ⟨_, _, h⟩
    · rw [h]; simp
    · omega
  unfold chOf at h
  split at h
  · cases h
  split at h
  · split at h
    · cases h
      exact key (rdN r 1099511627776).2.2
    · cases h
  split at h
  · split at h
    · cases h; exact Nat.zero_le _
    · cases h
  split at h
  · split at h
    · cases h
      exact key (rdN (rdN r 1099511627776).2.2 1099511627776).2.2
    · cases h
  · cases h

theorem one_shrt {r : List UInt8} {st st' : St} (h : one r st = some st') (hs : Shrt st) : Shrt st' := by
  unfold one at h
  cases hc : chOf r with
  | none => rw [hc] at h; cases h
  | some c =>
    rw [hc] at h
    replace h : c.go st = some st' := h
    have ht := chOf_txt hc
    obtain ⟨b, d, L⟩ := st
    obtain ⟨h1, h2⟩ := hs
    rcases c.three with ⟨s, rfl⟩ | ⟨n, rfl⟩ | ⟨n, s, rfl⟩
    · replace h : some (b, d, L ++ [s]) = some st' := h
      simp only [Option.some.injEq] at h
      subst h
      refine ⟨h1, fun x hx => ?_⟩
      rcases List.mem_append.1 hx with e | e
      · exact h2 x e
      · simp at e; subst e; exact ht
    · replace h : (if n ≤ L.length then some (b, d, L.take n) else none) = some st' := h
      split at h
      · simp only [Option.some.injEq] at h
        subst h
        exact ⟨h1, fun x hx => h2 x (List.mem_of_mem_take hx)⟩
      · cases h
    · replace h : some (n, s, if b ≤ n ∧ n ≤ b + L.length then L.drop (n - b) else []) = some st' := h
      simp only [Option.some.injEq] at h
      subst h
      refine ⟨ht, fun x hx => ?_⟩
      replace hx : x ∈ (if b ≤ n ∧ n ≤ b + L.length then L.drop (n - b) else []) := hx
      split at hx
      · exact h2 x (List.mem_of_mem_drop hx)
      · simp at hx

theorem plays_shrt : ∀ (rs : List (List UInt8)) (st : St), Shrt st → Shrt (plays rs st).1
  | [], st, h => h
  | r :: rs, st, h => by
    cases ho : one r st with
    | none => rw [plays_none ho]; exact h
    | some st' =>
      rw [plays_some ho]
      exact plays_shrt rs st' (one_shrt ho h)

theorem Opens.shrt {F : List UInt8} {st : St} {n : Nat} (h : Opens F st n) : Shrt st := by
  obtain ⟨rs, h1, h2⟩ := h
  have := plays_shrt rs (0, [], []) ⟨by simp, fun x hx => by simp at hx⟩
  rw [h2] at this
  exact this

set_option maxRecDepth 100000 in
set_option maxHeartbeats 2000000 in
theorem samej_any {P : Nat → Prop} (B D J M t v o b : Nat) (d : List UInt8) (L : List (List UInt8)) (rv : Value) (w : World) (hj : Jp w B D t v o (b, d, L) rv) (hr : Rj P w J M t v o (b, d, L)) (hd : d.length ≤ 1099511627776) (hL : ∀ x ∈ L, x.length ≤ 1099511627776) :
    Calls Try.prog 26 #[.pointer (some ⟨B, 0, none⟩), .pointer (some ⟨J, 0, none⟩)] w fun e w' => e = .returned (.bool true) ∧ Below w.heap.size w w' := by
  have hbb : b ≤ 1099511627776 := hj.hb
  have hll : L.length ≤ 1099511627776 := hj.hl
  have Hj := hide hj
  have Hr := hide hr
  have HL := hide hL
  clear hj hr hL
  go_enter Try.func26, Try.ntmps26
  go_wp2_with fail
  refine (base_any B D t v o b d L rv w (unhide Hj) hd).mono ?_
  rintro e w1 ⟨g, c, rfl, hs1, hb1⟩
  have hr1 := (unhide Hr).later hb1
  obtain ⟨lv, l1, l2⟩ := hr1.c3
  obtain ⟨lo, lc, rfl, lc1, lc2, _⟩ := id l2
  replace l1 : w1.cell? ⟨J, 3, none⟩ = some (.slice lo L.length lc) := l1
  have hJl := hr1.lt
  have HLS : Hid (Bss w1 (.slice lo L.length lc) L) := l2.bss
  have Hr1 := hide hr1
  have Hj1 := hide ((unhide Hj).later hb1)
  have Hs1 := hide hs1
  have HB1 := hide hb1
  clear hs1 hr1 l2 hb1 Hj Hr
  go_wp2_with fail
  go_region_held (fun w' => w'.cell? ⟨J, 3, none⟩ = some (.slice lo L.length lc)) (first | assumption | go_keep) (first | (go_at_call 36; (refine (records_b B D t v o b d L rv _ ((unhide Hj1).drew) (unhide HL) L.length rfl).mono ?_); rintro e w2 ⟨g2, rfl, hq2, hb2⟩; have hbb2 := (Below.refl w1.heap.size w1).drew.trans hb2; have z2 := (hbb2.cell (p := ⟨J, 3, none⟩) hJl).trans l1; have HQ2 := hide hq2.bss; have HB2 := hide hbb2; clear hq2 hb2 hbb2) | (go_at_call 38; (refine (same_yes _ _ L _ (unhide HQ2) ((unhide HLS).below (unhide HB2) (Nat.le_refl _))).mono ?_); rintro e w3 ⟨rfl, q3, hw3⟩; have hb3 : Below w2.heap.size w2 w3 := (by rw [hw3]; exact belowN (Below.refl _ _) q3); have z3 : w3.cell? ⟨J, 3, none⟩ = some (.slice lo L.length lc) := (by rw [hw3]; exact z2); have HB3 := hide ((unhide HB2).trans (hb3.mono (unhide HB2).size)); clear hb3 hw3))
  have hj3 := (unhide Hj1).later (unhide HB3)
  have hr3 := (unhide Hr1).later (unhide HB3)
  obtain ⟨dv, d1, d2, _⟩ := hr3.c2
  obtain ⟨dvo, dvc, rfl, _⟩ := id d2
  have e1 := hide (fun i : Later w3 => last_b B D t v o b d L rv i.val (hj3.later i.below) ((b : Int) + (L.length : Int)) (by simp))
  have e2 := hide (fun i : Later w3 => hard_any B D t v o (b, d, L) rv i.val (hj3.later i.below))
  have f1 := fun i : Later w3 => conv_sl i.val _ _ (((unhide Hs1).later (unhide HB3)).later i.below)
  have f2 := fun i : Later w3 => conv_sl i.val _ _ (d2.later i.below)
  have C1 := fun i : Later w3 => i.cell hr3.c1
  have C2 := fun i : Later w3 => i.cell d1
  have C3 := fun i : Later w3 => i.cell z3
  have C4 := fun i : Later w3 => i.cell hr3.c4
  have C5 := fun i : Later w3 => i.cell hr3.c5
  have C6 := fun i : Later w3 => i.cell hr3.c6
  replace C1 : ∀ i : Later w3, i.val.cell? ⟨J, 1, none⟩ = some (.int .i64 (b : Int)) := C1
  have inst : Nonempty (Later w3) := ⟨⟨w3, Below.refl _ _⟩⟩
  simp only at f1 f2 C2
  clear hj3 hr3 d1 d2 z2 z3 l1 Hj1 Hr1 Hs1 HLS HQ2
  generalize bs d = X at *
  go_wp2_with fail
  refine wp_region_later (by kernel_rfl) (by kernel_rfl) ?_
  repeat (first
    | go_big_quiet_step ((go_at_call 37; with_reducible exact calls_later (unhide e1 _)))
    | go_big_quiet_step ((go_at_call 33; with_reducible exact calls_later (unhide e2 _)))
    | quiet_step (fail))
  refine wpQuiet_nil ?_
  intro w' hw'
  obtain ⟨i, rfl⟩ := hw'
  have HZ := hide ((unhide HB1).trans (((unhide HB3).trans (i.below.mono (unhide HB3).size)).mono (unhide HB1).size))
  go_wp2
  go_ret
  exact ⟨rfl, unhide HZ⟩

end Go.Proofs.Yteanjnkfoddfmaa
