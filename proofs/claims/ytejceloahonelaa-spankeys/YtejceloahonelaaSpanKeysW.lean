/-
  The walk of the statement SpanKeys.
-/
import Derived.Test.YtejceloahonelaaRefK
namespace Go.Proofs.Ytejceloahonelaa
open Go.RowKit
set_option linter.unusedVariables false

section
set_option maxRecDepth 100000
set_option maxHeartbeats 4000000

theorem walkSpanKeys0 (f t : ByteArray) (ao : Option Addr) (c : Nat) (l : List ByteArray) (w : World) (hl : StrsAt w ao l) (hmax : l.length ≤ maxLen) :
    Calls Try.prog 4 #[.agg #[.string f, .string t], .slice ao l.length c] w fun e w' => e = .returned (.bool true) ∧ Below w.heap.size w w' := by
  have hmax' : l.length ≤ 9223372036854775807 := by unfold maxLen at hmax; omega
  clear hmax
  have H0 := hide (Sp.new w f t 23)
  have HL0 := hide (hl.later ((Below.refl _ w).alloc (Nat.le_refl _) (.cells #[.string f, .string t] 23)))
  clear hl
  go_enter Try.func4, Try.ntmps4
  go_wp2_with fail
  refine (fits_any _ _ _).mono ?_
  rintro e w1 ⟨rfl, hb⟩
  have S2 := hide ((unhide H0).later hb)
  have HL := hide ((unhide HL0).later hb)
  have HB := hide (below_alloc _ hb)
  clear hb H0 HL0
  cases hf : fitsB f t
  · go_wp2_with fail
    refine (alive_any _).mono ?_
    rintro e wz ⟨rfl, hb⟩
    have HZ := hide (bstep (unhide HB) hb)
    clear hb
    go_wp2_with fail
    go_ret
    exact ⟨rfl, unhide HZ⟩
  · obtain ⟨sf, st⟩ := (fitsB_iff f t).1 hf
    by_cases h200 : 200 < l.length
    · go_wp2_with fail
      refine (alive_any _).mono ?_
      rintro e wz ⟨rfl, hb⟩
      have HZ := hide (bstep (unhide HB) hb)
      clear hb
      go_wp2_with fail
      go_ret
      exact ⟨rfl, unhide HZ⟩
    · go_wp2_with fail
      go_loop [6] (fun i => ∃ k : Nat, i = .int .i64 k ∧ k ≤ l.length ∧ Hid (∀ j, (h : j < k) → (h' : j < l.length) → l[j].size ≤ 200)) (fun i => l.length - (intOf i).toNat)
      case atStart => exact ⟨0, rfl, by omega, (fun j h => absurd h (Nat.not_lt_zero _))⟩
      case round =>
        obtain ⟨k, rfl, hk, Hk⟩ := hrel
        by_cases hlt : k < l.length
        · obtain ⟨b, o, rfl, hc⟩ := unhide HL (by omega)
          replace hc := hc k hlt
          obtain ⟨x, hx⟩ : ∃ x, Hid (l[k] = x) := ⟨l[k], Eq.refl l[k]⟩
          rw [unhide hx] at hc
          by_cases hs : 200 < x.size
          · go_wp2_with fail
            refine (alive_any _).mono ?_
            rintro e wz ⟨rfl, hb⟩
            have HZ := hide (bstep (unhide HB) hb)
            clear hb
            go_wp2_with fail
            go_ret
            exact ⟨rfl, unhide HZ⟩
          · go_wp2
            go_round
            case rel =>
              refine ⟨k + 1, by go_num, by omega, (fun j hj hj' => ?_)⟩
              by_cases e : j = k
              · subst e; rw [unhide hx]; omega
              · exact unhide Hk j (by omega) hj'
            case measure => simp [intOf]; omega
        · have HS : Hid (∀ j, (h : j < l.length) → l[j].size ≤ 9223372036854775807) := fun j hj => by have := unhide Hk j (by omega) hj; omega
          clear Hk
          go_wp2_with (at_builtin; refine wpList_append_strs _ rfl (.tmp 32) (.tmp 33) rfl w1.heap.size (by simp) _ [] rfl ?q0 _ _ _ l rfl ?qx rfl ?ql ?_)
          case q0 => exact World.ownsRow_made _ #[] 0 (Nat.le_refl _) (Nat.zero_le _) rfl
          case qx => exact (unhide HL).later ((Below.refl _ _).alloc (Nat.le_refl _) _)
          case ql => first | omega | (simp; omega)
          intro v1 W1 ho1 hg1
          have hB1 : Below w1.heap.size w1 W1 := ((Below.refl _ w1).alloc (Nat.le_refl _) _).grown hg1 (by simp) (fun q hq => by cases hq; exact Nat.le_refl _)
          replace ho1 : OwnS w1.heap.size W1 v1 l := ho1
          obtain ⟨wa, wc, rfl, hwS, _⟩ := ho1.open
          have HW := hide hwS
          replace S2 := hide ((unhide S2).later hB1)
          replace HL := hide ((unhide HL).later hB1)
          replace HB := hide (bstep (unhide HB) hB1)
          clear hg1 hB1 ho1 hwS
          obtain ⟨a0, a1, af0, af1⟩ := unhide S2
          go_wp2_with fail
          refine (keys_any f t ao c l _ (unhide HL) (by omega)).mono ?_
          rintro e w2 ⟨ka, kc, rfl, hK, hb⟩
          have HK := hide hK
          replace S2 := hide ((unhide S2).later hb)
          replace HL := hide ((unhide HL).later hb)
          replace HW := hide ((unhide HW).later hb)
          replace HB := hide (bstep (unhide HB) hb)
          clear hb hK a0 a1 af0 af1
          have hlen := keys_len f t l
          go_wp2_with fail
          refine (alive_any _).mono ?_
          rintro e w3 ⟨rfl, hb⟩
          replace HK := hide ((unhide HK).later hb)
          replace S2 := hide ((unhide S2).later hb)
          replace HL := hide ((unhide HL).later hb)
          replace HW := hide ((unhide HW).later hb)
          replace HB := hide (bstep (unhide HB) hb)
          clear hb
          obtain ⟨a0, a1, af0, af1⟩ := unhide S2
          go_wp2_with fail
          refine (refKeys_any f t ao c l _ (unhide HL) (by omega) (by omega) (by omega) (unhide HS)).mono ?_
          rintro e w4 ⟨ra, rc, rfl, hR, hb⟩
          have HR := hide hR
          replace HK := hide ((unhide HK).later hb)
          replace HL := hide ((unhide HL).later hb)
          replace HW := hide ((unhide HW).later hb)
          replace HB := hide (bstep (unhide HB) hb)
          clear hb hR a0 a1 af0 af1
          go_wp2_with fail
          refine (same_yes ka ra kc rc (keysOf f t l) _ (unhide HK) (unhide HR) (by omega)).mono ?_
          rintro e w5 ⟨rfl, hb⟩
          replace HL := hide ((unhide HL).later hb)
          replace HW := hide ((unhide HW).later hb)
          replace HB := hide (bstep (unhide HB) hb)
          clear hb
          go_wp2_with fail
          refine (same_yes ao wa c wc l _ (unhide HL) (unhide HW) (by omega)).mono ?_
          rintro e w6 ⟨rfl, hb⟩
          replace HB := hide (bstep (unhide HB) hb)
          clear hb
          go_wp2_with fail
          go_ret
          exact ⟨rfl, unhide HB⟩

end

theorem walkSpanKeys {w : World} (v : Value) (z : ByteArray × ByteArray) (h : Spn v z) (v' : Value) (l : List ByteArray) (h' : StrV w v' l) :
    Calls Try.prog 4 #[v, v'] w fun e w' => e = .returned (.bool true) ∧ Below w.heap.size w w' := by
  obtain ⟨ao, c, rfl, ha⟩ := h'.at'
  rw [h.eq]; exact walkSpanKeys0 z.1 z.2 ao c l w ha h'.len

end Go.Proofs.Ytejceloahonelaa
