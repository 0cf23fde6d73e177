/-
  The document's answer: Keys. No law is proved here.
-/
import Derived.Test.YtejceloahonelaaStrs
import Derived.Test.YtejceloahonelaaRef
namespace Go.Proofs.Ytejceloahonelaa
open Go.RowKit
set_option linter.unusedVariables false

/-- Where a text is put into a rising list. -/
theorem ins_at : ∀ (O : List ByteArray) (x : ByteArray) (k : Nat), k ≤ O.length → (∀ j, (h : j < k) → (h' : j < O.length) → L O[j] x) → (∀ h : k < O.length, ¬ L O[k] x) → ((h : k < O.length) → O[k] ≠ x) → insS O x = O.take k ++ x :: O.drop k
  | [], x, k, hk, h1, h2, h3 => by simp [insS]
  | y :: r, x, 0, hk, h1, h2, h3 => by
    have hn := h2 (by simp)
    have he := h3 (by simp)
    unfold insS
    have e1 : ltB y x = false := by unfold L at hn; simpa using hn
    have e2 : eqB y x = false := by cases q : eqB y x with | false => rfl | true => exact absurd ((eqB_iff _ _).1 q) he
    rw [e1, e2]; rfl
  | y :: r, x, k + 1, hk, h1, h2, h3 => by
    have hy : ltB y x = true := h1 0 (by omega) (by simp)
    unfold insS
    rw [hy, cond_true, ins_at r x k (by simpa using hk) (fun j h h' => by have := h1 (j + 1) (by omega) (by simpa using h'); simpa using this) (fun h => by have := h2 (by simpa using h); simpa using this) (fun h => by have := h3 (by simpa using h); simpa using this)]
    rfl
/-- A text that is there already. -/
theorem ins_there : ∀ (O : List ByteArray) (x : ByteArray) (k : Nat), (h : k < O.length) → (∀ j, (h : j < k) → (h' : j < O.length) → L O[j] x) → O[k] = x → insS O x = O
  | y :: r, x, 0, hk, h1, h2 => by
    have e : y = x := h2
    subst e
    unfold insS
    rw [lt_irrefl, eqB_self]; rfl
  | y :: r, x, k + 1, hk, h1, h2 => by
    have hy : ltB y x = true := h1 0 (by omega) (by simp)
    unfold insS
    rw [hy, cond_true, ins_there r x k (by simpa using hk) (fun j h h' => by have := h1 (j + 1) (by omega) (by simpa using h'); simpa using this) (by simpa using h2)]

theorem keys_snoc (f t : ByteArray) (l : List ByteArray) (i : Nat) (h : i < l.length) : keysOf f t (l.take (i + 1)) = cond (hasB f t l[i]) (insS (keysOf f t (l.take i)) l[i]) (keysOf f t (l.take i)) := by
  rw [List.take_succ_eq_append_getElem h]
  unfold keysOf
  rw [List.foldl_append]
  rfl

theorem StrsAt.take {w : World} {ao : Option Addr} {l : List ByteArray} (h : StrsAt w ao l) (k : Nat) : StrsAt w ao (l.take k) := fun h0 => by
  rw [List.length_take] at h0
  obtain ⟨b, o, e, hc⟩ := h (by omega)
  refine ⟨b, o, e, fun j hj => ?_⟩
  rw [List.length_take] at hj
  rw [hc j (by omega)]; simp
theorem StrsAt.drop {w : World} {g o : Nat} {l : List ByteArray} (h : StrsAt w (some ⟨g, o, none⟩) l) (k : Nat) : StrsAt w (some ⟨g, o + k, none⟩) (l.drop k) := fun h0 => by
  rw [List.length_drop] at h0
  obtain ⟨b', o', e, hc⟩ := h (by omega)
  cases e
  refine ⟨g, o + k, rfl, fun j hj => ?_⟩
  rw [List.length_drop] at hj
  have := hc (k + j) (by omega)
  rw [show o + k + j = o + (k + j) by omega, this]; simp
theorem strs_one (W : World) (x : ByteArray) : StrsAt (W.alloc (.cells #[.string x] 9)) (some ⟨W.heap.size, 0, none⟩) [x] := fun _ => ⟨W.heap.size, 0, rfl, fun j hj => by
  have e : j = 0 := by simp at hj; exact hj
  subst e
  simp⟩
theorem OwnS.base {B C : Nat} {w : World} {v : Value} {l : List ByteArray} (h : OwnS B w v l) (hC : C ≤ B) : OwnS C w v l := by
  refine ⟨h.1, ?_⟩
  rcases h.2 with hn | ⟨g, cap, cur, rfl, hb, rest⟩
  · exact .inl hn
  · exact .inr ⟨g, cap, cur, rfl, Nat.le_trans hC hb, rest⟩

section
set_option maxRecDepth 100000
set_option maxHeartbeats 8000000

theorem refKeys_any (f t : ByteArray) (ao : Option Addr) (c : Nat) (l : List ByteArray) (w : World) (hl : StrsAt w ao l) (h200 : l.length ≤ 200) (hf : f.size ≤ 9223372036854775807) (ht : t.size ≤ 9223372036854775807) (hs : ∀ j, (h : j < l.length) → l[j].size ≤ 9223372036854775807) :
    Calls Try.prog 23 #[.agg #[.string f, .string t], .slice ao l.length c] w fun e w' =>
      ∃ ao' c', e = .returned (.slice ao' (keysOf f t l).length c') ∧ StrsAt w' ao' (keysOf f t l) ∧ Below w.heap.size w w' := by
  have S2 := hide (Sp.new w f t 23)
  have HL := hide (hl.later ((Below.refl _ w).alloc (Nat.le_refl _) (.cells #[.string f, .string t] 23)))
  have HB0 : Hid (Below w.heap.size w (w.alloc (.cells #[.string f, .string t] 23))) := (Below.refl _ w).alloc (Nat.le_refl _) _
  have Hs := hide hs
  clear hl hs
  go_enter Try.func23, Try.ntmps23
  go_wp2_with fail
  generalize w.alloc (.cells #[.string f, .string t] 23) = w0 at *
  go_loopw [5, 6] (fun ov iv wr => ∃ (i : Nat) (O : List ByteArray), iv = .int .i64 i ∧ i ≤ l.length ∧ Hid (O = keysOf f t (l.take i)) ∧ Hid (OwnS w.heap.size wr ov O) ∧ Hid (Below w0.heap.size w0 wr)) (fun _ iv _ => l.length - (intOf iv).toNat)
  case atStart => exact ⟨0, [], rfl, by omega, rfl, OwnS.nil _ _, Below.refl _ _⟩
  case round =>
    obtain ⟨i, O, rfl, hi, HO, Ho, Hb⟩ := hrel
    by_cases hilt : i < l.length
    · have HOlen : O.length ≤ 200 := by rw [unhide HO]; have := keys_len f t (l.take i); rw [List.length_take] at this; omega
      have Hstep := hide (keys_snoc f t l i hilt)
      rw [← unhide HO] at Hstep
      obtain ⟨b, o, rfl, hc⟩ := ((unhide HL).later (unhide Hb)) (by omega)
      have hci := hc i hilt
      have hsi := unhide Hs i hilt
      clear hc
      obtain ⟨x, hx⟩ : ∃ x, Hid (l[i] = x) := ⟨l[i], Eq.refl l[i]⟩
      rw [unhide hx] at hci hsi Hstep
      have HHas : Hid (∀ w, Calls Try.prog 18 #[.agg #[.string f, .string t], .string x] w fun e w' => e = .returned (.bool (hasB f t x)) ∧ Below w.heap.size w w') := fun w => refHas_any f t x w hf ht hsi
      generalize hasB f t x = h at *
      have S2r := hide ((unhide S2).later (unhide Hb))
      have HCI := hide hci
      clear hci
      have hiI : (i : Int) < (l.length : Int) := by omega
      go_wp2_with fail
      have q20 := fun i : Later wr => ((unhide S2r).later i.below).c0
      have q21 := fun i : Later wr => ((unhide S2r).later i.below).c1
      have qi := fun k : Later wr => k.cell (unhide HCI)
      have inst : Nonempty (Later wr) := ⟨⟨wr, Below.refl _ _⟩⟩
      refine wp_region_later (by kernel_rfl) (by kernel_rfl) ?_
      repeat (first
        | go_big_quiet_step ((go_at_call 18; exact calls_later (unhide HHas _)))
        | quiet_step (fail))
      refine wpQuiet_nil ?_
      intro w' hw'
      obtain ⟨iw, rfl⟩ := hw'
      replace Ho := hide ((unhide Ho).later iw.below)
      replace HCI := hide (iw.cell (unhide HCI))
      replace Hb := hide (bstep (unhide Hb) iw.below)
      clear q20 q21 qi inst S2r
      generalize iw.val = w1 at *
      clear iw
      obtain ⟨oa, oc, rfl, HoS, hoc, hom, hoo⟩ := (unhide Ho).open
      have HS := hide HoS
      clear HoS
      have hciN := unhide HCI
      have HBS : Hid (w.heap.size ≤ w1.heap.size) := Nat.le_trans (unhide HB0).size (unhide Hb).size
      rcases hoo with ⟨rfl, rfl, rfl⟩ | ⟨g, rfl, hgB, hgl⟩
      · go_wp2_with fail
        go_loopw [8] (fun kv wq => ∃ n : Nat, kv = .int .i64 0 ∧ wq = w1.drewN n) (fun kv _ => 0)
        case atStart => exact ⟨0, rfl, rfl⟩
        case round =>
          obtain ⟨n, rfl, rfl⟩ := hrel
          go_wp2_with fail
          go_quiet (fail)
          go_wp2_with fail
          cases h
          · go_quiet (fail)
            go_wp2
            go_roundw
            case rel => exact ⟨i + 1, _, by go_num, by omega, by rw [unhide Hstep]; rfl, (unhide Ho).later (below_drewN _ w1 _), (unhide Hb).trans (below_drewN _ w1 _)⟩
            case measure => simp [intOf]; omega
          · have HI : Hid (insS [] x = [] ++ [x] ++ []) := rfl
            go_quiet (fail)
            go_wp2_with (at_builtin; refine wpList_append_strs _ rfl (.tmp 57) (.tmp 60) rfl w1.heap.size ?hB1 _ [] rfl ?h01 _ _ _ [] rfl ?hx1 ?hn1 ?hl1 ?_)
            case hB1 => simp
            case h01 => exact World.ownsRow_made _ #[] 0 (Nat.le_refl _) (Nat.zero_le _) rfl
            case hx1 =>
              have HSV := fun m o => ((unhide HS).later (below_drewN _ w1 m)).later ((Below.refl _ _).alloc (Nat.le_refl _) o)
              exact (fun h => absurd h (by simp))
            case hn1 => exact (by simp)
            case hl1 => first | (simp; done) | (simp; omega)
            intro v1 W1 ho1 hg1
            have hB1 : Below w1.heap.size w1 W1 := ((below_drewN _ w1 _).alloc (Nat.le_refl _) _).grown hg1 (by simp) (fun q hq => by cases hq; exact Nat.le_refl _)
            replace ho1 : OwnS w1.heap.size W1 v1 [] := ho1
            have HB1 := hide hB1
            have Ho1 := hide ho1
            have hci1 := (hB1.cell (p := ⟨b, o + i, none⟩) (World.block_lt_of_cell? w1 _ (unhide HCI))).trans (unhide HCI)
            clear hg1 hB1 ho1
            go_wp2_with (at_builtin; refine wpList_append_strs _ rfl (.tmp 62) (.tmp 67) rfl w1.heap.size ?hB2 _ [] rfl ?h02 _ _ _ [x] rfl ?hx2 ?hn2 ?hl2 ?_)
            case hB2 => have := (unhide HB1).size; simp; omega
            case h02 => exact (unhide Ho1).later ((Below.refl _ _).alloc (Nat.le_refl _) _)
            case hx2 => exact strs_one _ _
            case hn2 => rfl
            case hl2 => first | (simp; done) | (simp; omega)
            intro v2 W2 ho2 hg2
            have hB2 : Below w1.heap.size w1 W2 := ((unhide HB1).alloc (unhide HB1).size _).grown hg2 (by have := (unhide HB1).size; simp; omega) (fun q hq => (World.ownsRow.lt (unhide Ho1) q hq).1)
            have HB2 := hide hB2
            have Ho2 := hide ho2
            clear hg2 hB2 ho2 hci1
            go_wp2_with (at_builtin; refine wpList_append_strs _ rfl (.tmp 69) (.tmp 72) rfl w1.heap.size ?hB3 _ ([] ++ [x]) rfl ?h03 _ _ _ [] rfl ?hx3 ?hn3 ?hl3 ?_)
            case hB3 => exact (unhide HB2).size
            case h03 => exact unhide Ho2
            case hx3 =>
              have HSW := (unhide HS).later (unhide HB2)
              exact (fun h => absurd h (by simp))
            case hn3 => exact (by simp)
            case hl3 => first | (simp; done) | (simp; omega)
            intro v3 W3 ho3 hg3
            have hB3 : Below w1.heap.size w1 W3 := (unhide HB2).grown hg3 (unhide HB2).size (fun q hq => (World.ownsRow.lt (unhide Ho2) q hq).1)
            have HB3 := hide hB3
            have Ho3 := hide ho3
            clear hg3 hB3 ho3
            go_wp2_with fail
            go_roundw
            case rel => exact ⟨i + 1, _, by go_num, by omega, (by have q := unhide Hstep; rw [cond_true, unhide HI] at q; show _ = keysOf f t (l.take (i + 1)); rw [q] <;> simp), (unhide Ho3).base (unhide HBS), bstep (unhide Hb) (unhide HB3)⟩
            case measure => simp [intOf]; omega
      · go_wp2_with fail
        go_loopw [8] (fun kv wq => ∃ k n : Nat, kv = .int .i64 k ∧ k ≤ O.length ∧ Hid (∀ j, (h : j < k) → (h' : j < O.length) → L O[j] x) ∧ wq = w1.drewN n) (fun kv _ => O.length - (intOf kv).toNat)
        case atStart => exact ⟨0, 0, rfl, by omega, (fun j h => absurd h (Nat.not_lt_zero _)), rfl⟩
        case round =>
          obtain ⟨k, n, rfl, hk, Hk, rfl⟩ := hrel
          by_cases hklt : k < O.length
          · obtain ⟨g', go, e, hck⟩ := unhide HS (by omega)
            cases e
            have hcK := hck k hklt
            rw [Nat.zero_add] at hcK
            obtain ⟨y, hy⟩ : ∃ y, Hid (O[k] = y) := ⟨O[k], Eq.refl O[k]⟩
            rw [unhide hy] at hcK
            clear hck
            have hkI : (k : Int) < (O.length : Int) := by omega
            have dk : decide ((k : Int) < (O.length : Int)) = true := decide_eq_true hkI
            cases hlt : ltB y x
            · have eL : Op.bytesLess y.toList x.toList = false := hlt
              go_wp2_with fail
              go_quiet (fail)
              go_wp2_with fail
              cases h
              · go_quiet (fail)
                go_wp2
                go_roundw
                case rel => exact ⟨i + 1, _, by go_num, by omega, by rw [unhide Hstep]; rfl, (unhide Ho).later (below_drewN _ w1 _), (unhide Hb).trans (below_drewN _ w1 _)⟩
                case measure => simp [intOf]; omega
              · have hkb : ((k : Int) == (O.length : Int)) = false := beq_eq_false_iff_ne.2 (by omega)
                cases hq : eqB y x
                · have eq : (y.toList == x.toList) = false := hq
                  have HI : Hid (insS O x = O.take k ++ [x] ++ O.drop k) := by
                    rw [List.append_assoc]
                    exact ins_at O x k hk (unhide Hk) (fun _ => by rw [unhide hy]; unfold L; rw [hlt]; simp) (fun _ => by rw [unhide hy]; intro e; rw [e, eqB_self] at hq; exact absurd hq (by simp))
                  go_quiet (fail)
                  clear hcK
                  go_wp2_with (at_builtin; refine wpList_append_strs _ rfl (.tmp 57) (.tmp 60) rfl w1.heap.size ?hB1 _ [] rfl ?h01 _ _ _ (O.take k) rfl ?hx1 ?hn1 ?hl1 ?_)
                  case hB1 => simp
                  case h01 => exact World.ownsRow_made _ #[] 0 (Nat.le_refl _) (Nat.zero_le _) rfl
                  case hx1 =>
                    have HSV := fun m o => ((unhide HS).later (below_drewN _ w1 m)).later ((Below.refl _ _).alloc (Nat.le_refl _) o)
                    exact (StrsAt.take (HSV _ _) k)
                  case hn1 => exact (by simp; omega)
                  case hl1 => first | (simp; done) | (simp; omega)
                  intro v1 W1 ho1 hg1
                  have hB1 : Below w1.heap.size w1 W1 := ((below_drewN _ w1 _).alloc (Nat.le_refl _) _).grown hg1 (by simp) (fun q hq => by cases hq; exact Nat.le_refl _)
                  replace ho1 : OwnS w1.heap.size W1 v1 (O.take k) := ho1
                  have HB1 := hide hB1
                  have Ho1 := hide ho1
                  have hci1 := (hB1.cell (p := ⟨b, o + i, none⟩) (World.block_lt_of_cell? w1 _ (unhide HCI))).trans (unhide HCI)
                  clear hg1 hB1 ho1
                  go_wp2_with (at_builtin; refine wpList_append_strs _ rfl (.tmp 62) (.tmp 67) rfl w1.heap.size ?hB2 _ (O.take k) rfl ?h02 _ _ _ [x] rfl ?hx2 ?hn2 ?hl2 ?_)
                  case hB2 => have := (unhide HB1).size; simp; omega
                  case h02 => exact (unhide Ho1).later ((Below.refl _ _).alloc (Nat.le_refl _) _)
                  case hx2 => exact strs_one _ _
                  case hn2 => rfl
                  case hl2 => first | (simp; done) | (simp; omega)
                  intro v2 W2 ho2 hg2
                  have hB2 : Below w1.heap.size w1 W2 := ((unhide HB1).alloc (unhide HB1).size _).grown hg2 (by have := (unhide HB1).size; simp; omega) (fun q hq => (World.ownsRow.lt (unhide Ho1) q hq).1)
                  have HB2 := hide hB2
                  have Ho2 := hide ho2
                  clear hg2 hB2 ho2 hci1
                  go_wp2_with (at_builtin; refine wpList_append_strs _ rfl (.tmp 69) (.tmp 72) rfl w1.heap.size ?hB3 _ ((O.take k) ++ [x]) rfl ?h03 _ _ _ (O.drop k) rfl ?hx3 ?hn3 ?hl3 ?_)
                  case hB3 => exact (unhide HB2).size
                  case h03 => exact unhide Ho2
                  case hx3 =>
                    have HSW := (unhide HS).later (unhide HB2)
                    exact (by have := StrsAt.drop HSW k; rwa [Nat.zero_add] at this)
                  case hn3 => exact (by simp)
                  case hl3 => first | (simp; done) | (simp; omega)
                  intro v3 W3 ho3 hg3
                  have hB3 : Below w1.heap.size w1 W3 := (unhide HB2).grown hg3 (unhide HB2).size (fun q hq => (World.ownsRow.lt (unhide Ho2) q hq).1)
                  have HB3 := hide hB3
                  have Ho3 := hide ho3
                  clear hg3 hB3 ho3
                  go_wp2_with fail
                  go_roundw
                  case rel => exact ⟨i + 1, _, by go_num, by omega, (by have q := unhide Hstep; rw [cond_true, unhide HI] at q; show _ = keysOf f t (l.take (i + 1)); rw [q] <;> simp), (unhide Ho3).base (unhide HBS), bstep (unhide Hb) (unhide HB3)⟩
                  case measure => simp [intOf]; omega
                · have eq : (y.toList == x.toList) = true := hq
                  have hyx : Hid (insS O x = O) := ins_there O x k hklt (unhide Hk) (by rw [unhide hy]; exact (eqB_iff _ _).1 hq)
                  go_quiet (fail)
                  go_wp2
                  go_roundw
                  case rel => exact ⟨i + 1, O, by go_num, by omega, by rw [unhide Hstep, cond_true, unhide hyx]; rfl, (unhide Ho).later (below_drewN _ w1 _), (unhide Hb).trans (below_drewN _ w1 _)⟩
                  case measure => simp [intOf]; omega
            · have eL : Op.bytesLess y.toList x.toList = true := hlt
              go_wp2_with fail
              go_quiet (fail)
              go_wp2
              go_roundw
              case rel =>
                refine ⟨k + 1, _, by go_num, by omega, (fun j hj hj' => ?_), rfl⟩
                by_cases e : j = k
                · subst e; rw [unhide hy]; exact hlt
                · exact unhide Hk j (by omega) hj'
              case measure => simp [intOf]; omega
          · obtain rfl : k = O.length := by omega
            have dk : decide ((O.length : Int) < (O.length : Int)) = false := decide_eq_false (by omega)
            go_wp2_with fail
            go_quiet (fail)
            go_wp2_with fail
            cases h
            · go_quiet (fail)
              go_wp2
              go_roundw
              case rel => exact ⟨i + 1, _, by go_num, by omega, by rw [unhide Hstep]; rfl, (unhide Ho).later (below_drewN _ w1 _), (unhide Hb).trans (below_drewN _ w1 _)⟩
              case measure => simp [intOf]; omega
            · have HI : Hid (insS O x = O ++ [x] ++ []) := by
                have := ins_at O x O.length hk (unhide Hk) (fun h => absurd h (Nat.lt_irrefl _)) (fun h => absurd h (Nat.lt_irrefl _))
                rw [List.take_length, List.drop_length] at this
                simpa [Hid] using this
              go_quiet (fail)
              by_cases hcc : O.length = oc
              · subst hcc
                go_wp2_with (at_builtin; refine wpList_append_strs _ rfl (.tmp 57) (.tmp 60) rfl w1.heap.size ?hB1 _ [] rfl ?h01 _ _ _ O rfl ?hx1 ?hn1 ?hl1 ?_)
                case hB1 => simp
                case h01 => exact World.ownsRow_made _ #[] 0 (Nat.le_refl _) (Nat.zero_le _) rfl
                case hx1 =>
                  have HSV := fun m o => ((unhide HS).later (below_drewN _ w1 m)).later ((Below.refl _ _).alloc (Nat.le_refl _) o)
                  exact (HSV _ _)
                case hn1 => exact rfl
                case hl1 => first | (simp; done) | (simp; omega)
                intro v1 W1 ho1 hg1
                have hB1 : Below w1.heap.size w1 W1 := ((below_drewN _ w1 _).alloc (Nat.le_refl _) _).grown hg1 (by simp) (fun q hq => by cases hq; exact Nat.le_refl _)
                replace ho1 : OwnS w1.heap.size W1 v1 O := ho1
                have HB1 := hide hB1
                have Ho1 := hide ho1
                have hci1 := (hB1.cell (p := ⟨b, o + i, none⟩) (World.block_lt_of_cell? w1 _ (unhide HCI))).trans (unhide HCI)
                clear hg1 hB1 ho1
                go_wp2_with (at_builtin; refine wpList_append_strs _ rfl (.tmp 62) (.tmp 67) rfl w1.heap.size ?hB2 _ O rfl ?h02 _ _ _ [x] rfl ?hx2 ?hn2 ?hl2 ?_)
                case hB2 => have := (unhide HB1).size; simp; omega
                case h02 => exact (unhide Ho1).later ((Below.refl _ _).alloc (Nat.le_refl _) _)
                case hx2 => exact strs_one _ _
                case hn2 => rfl
                case hl2 => first | (simp; done) | (simp; omega)
                intro v2 W2 ho2 hg2
                have hB2 : Below w1.heap.size w1 W2 := ((unhide HB1).alloc (unhide HB1).size _).grown hg2 (by have := (unhide HB1).size; simp; omega) (fun q hq => (World.ownsRow.lt (unhide Ho1) q hq).1)
                have HB2 := hide hB2
                have Ho2 := hide ho2
                clear hg2 hB2 ho2 hci1
                go_wp2_with (at_builtin; refine wpList_append_strs _ rfl (.tmp 69) (.tmp 72) rfl w1.heap.size ?hB3 _ (O ++ [x]) rfl ?h03 _ _ _ [] rfl ?hx3 ?hn3 ?hl3 ?_)
                case hB3 => exact (unhide HB2).size
                case h03 => exact unhide Ho2
                case hx3 =>
                  have HSW := (unhide HS).later (unhide HB2)
                  exact (fun h => absurd h (by simp))
                case hn3 => exact (by simp)
                case hl3 => first | (simp; done) | (simp; omega)
                intro v3 W3 ho3 hg3
                have hB3 : Below w1.heap.size w1 W3 := (unhide HB2).grown hg3 (unhide HB2).size (fun q hq => (World.ownsRow.lt (unhide Ho2) q hq).1)
                have HB3 := hide hB3
                have Ho3 := hide ho3
                clear hg3 hB3 ho3
                go_wp2_with fail
                go_roundw
                case rel => exact ⟨i + 1, _, by go_num, by omega, (by have q := unhide Hstep; rw [cond_true, unhide HI] at q; show _ = keysOf f t (l.take (i + 1)); rw [q] <;> simp), (unhide Ho3).base (unhide HBS), bstep (unhide Hb) (unhide HB3)⟩
                case measure => simp [intOf]; omega
              · go_wp2_with (at_builtin; refine wpList_append_strs _ rfl (.tmp 57) (.tmp 60) rfl w1.heap.size ?hB1 _ [] rfl ?h01 _ _ _ O rfl ?hx1 ?hn1 ?hl1 ?_)
                case hB1 => simp
                case h01 => exact World.ownsRow_made _ #[] 0 (Nat.le_refl _) (Nat.zero_le _) rfl
                case hx1 =>
                  have HSV := fun m o => ((unhide HS).later (below_drewN _ w1 m)).later ((Below.refl _ _).alloc (Nat.le_refl _) o)
                  exact (HSV _ _)
                case hn1 => exact rfl
                case hl1 => first | (simp; done) | (simp; omega)
                intro v1 W1 ho1 hg1
                have hB1 : Below w1.heap.size w1 W1 := ((below_drewN _ w1 _).alloc (Nat.le_refl _) _).grown hg1 (by simp) (fun q hq => by cases hq; exact Nat.le_refl _)
                replace ho1 : OwnS w1.heap.size W1 v1 O := ho1
                have HB1 := hide hB1
                have Ho1 := hide ho1
                have hci1 := (hB1.cell (p := ⟨b, o + i, none⟩) (World.block_lt_of_cell? w1 _ (unhide HCI))).trans (unhide HCI)
                clear hg1 hB1 ho1
                go_wp2_with (at_builtin; refine wpList_append_strs _ rfl (.tmp 62) (.tmp 67) rfl w1.heap.size ?hB2 _ O rfl ?h02 _ _ _ [x] rfl ?hx2 ?hn2 ?hl2 ?_)
                case hB2 => have := (unhide HB1).size; simp; omega
                case h02 => exact (unhide Ho1).later ((Below.refl _ _).alloc (Nat.le_refl _) _)
                case hx2 => exact strs_one _ _
                case hn2 => rfl
                case hl2 => first | (simp; done) | (simp; omega)
                intro v2 W2 ho2 hg2
                have hB2 : Below w1.heap.size w1 W2 := ((unhide HB1).alloc (unhide HB1).size _).grown hg2 (by have := (unhide HB1).size; simp; omega) (fun q hq => (World.ownsRow.lt (unhide Ho1) q hq).1)
                have HB2 := hide hB2
                have Ho2 := hide ho2
                clear hg2 hB2 ho2 hci1
                go_wp2_with (at_builtin; refine wpList_append_strs _ rfl (.tmp 69) (.tmp 72) rfl w1.heap.size ?hB3 _ (O ++ [x]) rfl ?h03 _ _ _ [] rfl ?hx3 ?hn3 ?hl3 ?_)
                case hB3 => exact (unhide HB2).size
                case h03 => exact unhide Ho2
                case hx3 =>
                  have HSW := (unhide HS).later (unhide HB2)
                  exact (fun h => absurd h (by simp))
                case hn3 => exact (by simp)
                case hl3 => first | (simp; done) | (simp; omega)
                intro v3 W3 ho3 hg3
                have hB3 : Below w1.heap.size w1 W3 := (unhide HB2).grown hg3 (unhide HB2).size (fun q hq => (World.ownsRow.lt (unhide Ho2) q hq).1)
                have HB3 := hide hB3
                have Ho3 := hide ho3
                clear hg3 hB3 ho3
                go_wp2_with fail
                go_roundw
                case rel => exact ⟨i + 1, _, by go_num, by omega, (by have q := unhide Hstep; rw [cond_true, unhide HI] at q; show _ = keysOf f t (l.take (i + 1)); rw [q] <;> simp), (unhide Ho3).base (unhide HBS), bstep (unhide Hb) (unhide HB3)⟩
                case measure => simp [intOf]; omega
    · go_wp2
      go_ret
      have e : O = keysOf f t l := by rw [unhide HO, List.take_of_length_le (by omega)]
      obtain ⟨oa, oc, rfl, HoS, _⟩ := (unhide Ho).open
      rw [← e]
      exact ⟨oa, oc, rfl, HoS, (unhide HB0).trans ((unhide Hb).mono (unhide HB0).size)⟩

end

end Go.Proofs.Ytejceloahonelaa
