/-
  Contracts of a journal's Base, Records, Set. No law is proved here.
  Contract of a journal's Records. No law is proved here.
  Contracts of hard numbers' bytes, and of a journal's Set. No law is proved here.
  Contracts of a journal's Set. No law is proved here.
  Contract of cmp.Or over errors; hard numbers out of a cell's bytes. No law is proved here.
  Contract of hard numbers out of a cell's bytes. No law is proved here.
-/
import Derived.Test.YteanjnkfoddfmaaJ2
namespace Go.Proofs.Yteanjnkfoddfmaa
open Go.RowKit
set_option linter.unusedVariables false

theorem conv_bytes (w : World) (s : ByteArray) : (convert 9 26 (.string s)).run Try.prog w = .ok (.slice (some ⟨w.heap.size, 0, none⟩) s.size (grownCap w s.size 0 5)) (Lib.bytesWorld w 5 s) :=
  Lib.run_convert_string_bytes w 9 26 5 s Try.underlying9 Try.underlying26 Try.underlying5

theorem bytesWorld_below (w : World) (s : ByteArray) : Below w.heap.size w (Lib.bytesWorld w 5 s) := by
  refine ⟨?_, ?_, ?_, by rw [Lib.bytesWorld_size]; omega, fun k hk => Lib.bytesWorld_at_old w _ s k hk⟩
  all_goals (unfold Lib.bytesWorld World.freeze; split <;> rfl)

theorem bytesWorld_sl (w : World) (l : List UInt8) (hl : l.length ≤ maxLen) : Sl (Lib.bytesWorld w 5 (bs l)) (.slice (some ⟨w.heap.size, 0, none⟩) l.length (grownCap w l.length 0 5)) l := by
  refine ⟨_, _, rfl, grownCap_ge _ _ _ _, grownCap_le_maxLen _ _ _ _ hl, fun e => (by cases e), fun a ha j u hu => ?_⟩
  injection ha with ha
  subst ha
  rw [Addr.add_lit, Nat.zero_add]
  have hj : j < l.length := by
    have := (List.getElem?_eq_some_iff.1 hu).1
    rwa [bc_length] at this
  rw [Lib.bytesWorld_cell w _ (bs l) j (by rw [bs_size]; exact hj), bs_data]
  rw [bc_get, List.getElem?_eq_getElem hj] at hu
  simp only [Option.map_some, Option.some.injEq] at hu
  rw [← hu, List.getD_eq_getElem?_getD, List.getElem?_eq_getElem hj]
  rfl

section
set_option maxRecDepth 100000
variable {S : Nat → Prop}

theorem base_any (B D t v o b : Nat) (d : List UInt8) (L : List (List UInt8)) (rv : Value) (w : World) (h : Jp w B D t v o (b, d, L) rv) (hd : d.length ≤ 1099511627776) :
    Calls Try.prog 35 #[.pointer (some ⟨B, 0, none⟩)] w fun e w' => ∃ g c, e = .returned (.tuple #[.int .i64 b, .slice (some ⟨g, 0, none⟩) d.length c]) ∧ Sl w' (.slice (some ⟨g, 0, none⟩) d.length c) d ∧ Below w.heap.size w w' := by
  have c4 := h.c4
  have c5 := h.c5
  have hcv := fun w => conv_bytes w (bs d)
  have c4a : ∀ ob : Obj, (w.alloc ob).cell? ⟨B, 4, none⟩ = some (.int .i64 b) := fun ob => Lib.cell?_alloc_some ob c4
  have c4b : ∀ (s : ByteArray), (Lib.bytesWorld w.drew 5 s).cell? ⟨B, 4, none⟩ = some (.int .i64 b) := fun s => (Lib.bytesWorld_old w.drew _ s ⟨B, 4, none⟩ h.lt).trans c4
  clear h
  go_enter Try.func35, Try.ntmps35
  go_wp2_with fail
  go_region
  all_goals go_wp2
  all_goals go_ret2
  exact ⟨w.heap.size, grownCap w.drew d.length 0 5, by simp [bs_size], bytesWorld_sl w.drew d (by unfold maxLen; omega), (Below.refl _ _).drew.trans (bytesWorld_below w.drew (bs d))⟩
end

/-- Texts' bytes, each a slice of its own, in a row with room. -/
def Rcs (w : World) (g B cap : Nat) (ds : List (List UInt8)) : Prop :=
  ∃ vs, w.ownsRow B 26 1 (.slice (some ⟨g, 0, none⟩) ds.length cap) ds.length vs ∧ ∀ (i : Nat) (u : Value) (x : List UInt8), vs[i]? = some u → ds[i]? = some x → Sl w u x ∧ ∀ j, u.ownBlock = some j → B ≤ j ∧ j ≠ g ∧ j < w.heap.size

theorem Rcs.bss {w : World} {g B cap : Nat} {ds : List (List UInt8)} (h : Rcs w g B cap ds) : Bss w (.slice (some ⟨g, 0, none⟩) ds.length cap) ds := by
  obtain ⟨vs, h1, h2⟩ := h
  exact bss_row h1 fun i u x hu hx => (h2 i u x hu hx).1

theorem Rcs.frame {w w' : World} {g B cap : Nat} {ds : List (List UInt8)} (h : Rcs w g B cap ds) (hs : w.heap.size ≤ w'.heap.size) (hk : ∀ k, B ≤ k → k < w.heap.size → w'.heap[k]? = w.heap[k]?) : Rcs w' g B cap ds := by
  obtain ⟨vs, h1, h2⟩ := h
  refine ⟨vs, ⟨h1.1, ?_⟩, fun i u x hu hx => ?_⟩
  · rcases h1.2 with e | ⟨g', c', cur, e, hb, hg, r⟩
    · exact .inl e
    · exact .inr ⟨g', c', cur, e, hb, (hk g' hb (Array.getElem?_eq_some_iff.1 hg).1).trans hg, r⟩
  · obtain ⟨k1, k2⟩ := h2 i u x hu hx
    exact ⟨k1.frame fun j hj _ => hk j (k2 j hj).1 (k2 j hj).2.2, fun j hj => ⟨(k2 j hj).1, (k2 j hj).2.1, Nat.lt_of_lt_of_le (k2 j hj).2.2 hs⟩⟩

theorem run_append_rcs {W W2 : World} {g B cap : Nat} {ds : List (List UInt8)} (hR : Rcs W g B cap ds) (hcap : ds.length + 1 ≤ cap) (hb : Below W.heap.size W W2) (xb : Nat) (u : Value) (x : List UInt8) (hxb : W2.cell? ⟨xb, 0, none⟩ = some u) (hu1 : u.oneCell' = true) (hsl : Sl W2 u x) (hug : ∀ j, u.ownBlock = some j → B ≤ j ∧ j ≠ g ∧ j < W2.heap.size) (hB : B ≤ W2.heap.size) (hlen : ds.length ≤ 1099511627776) (ty : TypeId) :
    ∃ w3, (Builtin.append_ #[54, 54] ty #[.slice (some ⟨g, 0, none⟩) ds.length cap, .slice (some ⟨xb, 0, none⟩) 1 1]).run Try.prog W2 = .ok (.slice (some ⟨g, 0, none⟩) (ds.length + 1) cap) w3 ∧ Rcs w3 g B cap (ds ++ [x]) ∧ W2.grownBy w3 (some g) := by
  obtain ⟨vs, h1, h2⟩ := hR
  obtain ⟨i0, hi, hz0, hz1, hz2⟩ := info_parts Try.infoBytes
  have hrow := row_below h1 hb
  have hvl : vs.length = ds.length := by have := h1.1; omega
  have hnews : ∀ j w', [u][j]? = some w' → W2.cell? ((⟨xb, 0, none⟩ : Addr).add j) = some w' := by
    intro j w' hj
    cases j with
    | zero => simp at hj; subst hj; rw [Addr.add_zero']; exact hxb
    | succ j => simp at hj
  obtain ⟨v', w', hr, r2, r3, _⟩ := run_append_own (P := Try.prog) W2 B 54 ty 26 i0 (.slice none 0 0) 1 24 Try.underlying54 hi hz0 hz1 hz2 rfl (by decide) _ ds.length vs hrow ⟨xb, 0, none⟩ 1 1 [u] rfl hnews (by simpa using hu1) (by unfold maxLen; omega) (by omega) hB
  rcases hrow.2 with ⟨e, _⟩ | ⟨g', cap', cur, e, hbg, hgg, hnc, hcm, hcs, htake⟩
  · cases e
  · injection e with e1 e2 e3
    injection e1 with e1
    injection e1 with e1
    subst e1 e3
    have hr2 := run_append_room (P := Try.prog) W2 54 ty 26 i0 Try.underlying54 hi g ds.length cap cur hgg ⟨xb, 0, none⟩ 1 1 [u] (by rw [hz1]; rfl) hnews (by simpa using hu1) hcap (by rw [hz1, hcs]; simp; omega)
    rw [hr] at hr2
    injection hr2 with e1 e2
    subst e1
    refine ⟨w', hr, ⟨vs ++ [u], by rw [List.length_append]; exact r2, fun i u' x' hu' hx' => ?_⟩, r3⟩
    by_cases hlt : i < vs.length
    · rw [List.getElem?_append_left hlt] at hu'
      rw [List.getElem?_append_left (by omega)] at hx'
      obtain ⟨k1, k2⟩ := h2 i u' x' hu' hx'
      exact ⟨(k1.later hb).frame fun k hk hkl => r3.block k hkl (fun e => by injection e with e; exact (k2 k hk).2.1 e), fun j hj => ⟨(k2 j hj).1, (k2 j hj).2.1, Nat.lt_of_lt_of_le (k2 j hj).2.2 (Nat.le_trans hb.size r3.size)⟩⟩
    · rw [List.getElem?_append_right (by omega)] at hu'
      rw [List.getElem?_append_right (by omega)] at hx'
      have hi0 : i - vs.length = 0 := by
        have := (List.getElem?_eq_some_iff.1 hu').1
        simp at this
        omega
      rw [hi0] at hu'
      rw [show i - ds.length = 0 by omega] at hx'
      simp at hu' hx'
      subst hu' hx'
      exact ⟨hsl.frame fun k hk hkl => r3.block k hkl (fun e => by injection e with e; exact (hug k hk).2.1 e), fun j hj => ⟨(hug j hj).1, (hug j hj).2.1, Nat.lt_of_lt_of_le (hug j hj).2.2 r3.size⟩⟩

theorem wpList_append_rcs {ops : Array Oper} {rest : List Oper} {o : Oper} {a : Act} {Q : Exit → Act → World → Prop} (hgd : o.guard = none) (s xo : Operand)
    (ho : o.op = .call { callee := .builtin .append, args := #[s, xo], argTypes := #[54, 54] })
    {W W2 : World} {g B cap : Nat} {ds : List (List UInt8)} (n : Nat) (hn : ds.length = n) (hs : a.eval s = .slice (some ⟨g, 0, none⟩) n cap) (hR : Rcs W g B cap ds) (hcap : ds.length + 1 ≤ cap) (hb : Below W.heap.size W W2) (xb : Nat) (u : Value) (x : List UInt8) (hxo : a.eval xo = .slice (some ⟨xb, 0, none⟩) 1 1) (hxb : W2.cell? ⟨xb, 0, none⟩ = some u) (hu1 : u.oneCell' = true) (hsl : Sl W2 u x) (hug : ∀ j, u.ownBlock = some j → B ≤ j ∧ j ≠ g ∧ j < W2.heap.size) (hB : B ≤ W2.heap.size) (hlen : ds.length ≤ 1099511627776)
    (hK : ∀ w3, Rcs w3 g B cap (ds ++ [x]) → W2.grownBy w3 (some g) → wpList Try.prog ops Q rest (a.put o.dst (.slice (some ⟨g, 0, none⟩) (n + 1) cap)) w3) : wpList Try.prog ops Q (o :: rest) a W2 := by
  subst hn
  refine wpList_plain hgd fun K hK' => ?_
  obtain ⟨w3, hr, h2, h3⟩ := run_append_rcs hR hcap hb xb u x hxb hu1 hsl hug hB hlen o.type
  unfold Oper.wp execOp
  simp only [ho, resolve, invoke, builtin, Sem.run_bind, Sem.run_pure, Result.andThen_ok, List.map_toArray, List.map_cons, List.map_nil, hs, hxo, hr]
  exact hK' _ _ (hK w3 h2 h3)

end Go.Proofs.Yteanjnkfoddfmaa

namespace Go.Proofs.Yteanjnkfoddfmaa
open Go.RowKit
set_option linter.unusedVariables false

/-- The records' cells. -/
theorem Rw.get {w : World} {b o c : Nat} {L : List (List UInt8)} {k : Nat} (h : Rw w (.slice (some ⟨b, o, none⟩) L.length c) L) (hk : k < L.length) : w.cell? ⟨b, o + k, none⟩ = some (.string (bs L[k])) := by
  rcases h with ⟨e, rfl⟩ | ⟨b', o', c', e, _, _, _, h4, _⟩
  · cases e
  · injection e with e1 e2 e3
    injection e1 with e1
    injection e1 with e1 e4
    subst e1 e4
    exact h4 k hk
theorem Rw.addr {w : World} {ao : Option Addr} {n c : Nat} {L : List (List UInt8)} (h : Rw w (.slice ao n c) L) (hl : 0 < L.length) : ∃ b o, ao = some ⟨b, o, none⟩ := by
  rcases h with ⟨e, rfl⟩ | ⟨b', o', c', e, _⟩
  · simp at hl
  · injection e with e1
    exact ⟨_, _, e1⟩

set_option maxRecDepth 100000 in
set_option maxHeartbeats 1000000 in
theorem records_any (B D t v o b : Nat) (d : List UInt8) (L : List (List UInt8)) (rv : Value) (w : World) (h : Jp w B D t v o (b, d, L) rv) (hL : ∀ x ∈ L, x.length ≤ 1099511627776) :
    Calls Try.prog 36 #[.pointer (some ⟨B, 0, none⟩)] w fun e w' => ∃ g, e = .returned (.slice (some ⟨g, 0, none⟩) L.length L.length) ∧ Rcs w' g w.heap.size L.length L ∧ Below w.heap.size w w' := by
  obtain ⟨ao, c, rfl, hc1, hc2⟩ := h.rw.val
  obtain ⟨i0, hi, hz0, hz1, hz2⟩ := info_parts Try.infoBytes
  have hll : L.length ≤ 1099511627776 := h.hl
  have c6 := h.c6
  have HR := hide h.rw
  have hBl := h.lt
  have Hj := hide h
  have HL := hide hL
  unfold maxLen at hc2
  clear h hL
  go_enter Try.func36, Try.ntmps36
  go_wp2_with (at_make; refine wpList_make_own _ rfl _ _ 54 rfl w.heap.size 26 i0 (.slice none 0 0) 1 Try.underlying54 hi hz0 hz1 .i64 .i64 _ L.length rfl rfl rfl (by rw [hz2]; omega) (by unfold maxLen; omega) (Nat.le_refl _) ?_)
  intro w0 hrow0 hgr0
  have hb0 : Below w.heap.size w w0 := (Below.refl _ _).grown hgr0 (Nat.le_refl _) (fun k hk => by cases hk)
  have hz : w.heap.size < w0.heap.size := (World.ownsRow.lt hrow0 _ rfl).2
  have k6 := ((unhide Hj).later hb0).c6
  have hR0 : Rcs w0 w.heap.size w.heap.size L.length [] := ⟨[], hrow0, fun i u x hu => by simp at hu⟩
  have HR0 := hide hR0
  have HB0 := hide hb0
  clear hrow0 hgr0 hR0 hb0 c6
  go_wp2
  go_loopw [3, 5, 19] (fun ov _ iv wr => ∃ k : Nat, iv = .int .i64 k ∧ k ≤ L.length ∧ ov = .slice (some ⟨w.heap.size, 0, none⟩) k L.length ∧ Hid (Rcs wr w.heap.size w.heap.size L.length (L.take k) ∧ Below w.heap.size w wr)) (fun _ _ iv _ => L.length - (intOf iv).toNat)
  case atStart => exact ⟨0, rfl, Nat.zero_le _, rfl, unhide HR0, unhide HB0⟩
  case round =>
    obtain ⟨k, rfl, hk, rfl, Hh⟩ := hrel
    obtain ⟨hr, hb⟩ := unhide Hh
    by_cases hkl : k < L.length
    · have hI : decide ((k : Int) < (L.length : Int)) = true := by simpa using hkl
      obtain ⟨rb, ro, rfl⟩ := (unhide HR).addr (by omega)
      have hcell := ((unhide HR).later hb).get hkl
      have hcv := fun w => conv_bytes w (bs L[k])
      have hxl := unhide HL L[k] (List.getElem_mem hkl)
      have hlen : (L.take k).length = k := by rw [List.length_take]; omega
      generalize hX : L[k] = x at *
      have hbw := bytesWorld_below wr (bs x)
      have hsl := bytesWorld_sl wr x (by unfold maxLen; omega)
      have hzr := hb.size
      have HX := hide hX
      clear hX
      have hsz : (bs x).size = x.length := bs_size x
      have hgl : w.heap.size < wr.heap.size := by obtain ⟨vs, hrow, _⟩ := hr; exact (World.ownsRow.lt hrow _ rfl).2
      have hgk : ¬ wr.heap.size = w.heap.size := by omega
      have hB3 : Below w.heap.size w ((Lib.bytesWorld wr 5 (bs x)).alloc (.cells #[.slice (some ⟨wr.heap.size, 0, none⟩) x.length (grownCap wr x.length 0 5)] 26)) := (hb.trans (hbw.mono hzr)).alloc (by rw [Lib.bytesWorld_size]; omega) _
      have hB4 : Below wr.heap.size wr ((Lib.bytesWorld wr 5 (bs x)).alloc (.cells #[.slice (some ⟨wr.heap.size, 0, none⟩) x.length (grownCap wr x.length 0 5)] 26)) := hbw.alloc (by rw [Lib.bytesWorld_size]; omega) _
      have Hr := hide hr
      have HB3 := hide hB3
      have HB4 := hide hB4
      have Hsl := hide hsl
      clear hr hb hB3 hB4 hsl hbw
      go_wp2_with (at_builtin; refine wpList_append_rcs rfl (.tmp 23) (.tmp 26) rfl k hlen rfl (unhide Hr) (by rw [hlen]; omega) (unhide HB4) (Lib.bytesWorld wr 5 (bs x)).heap.size (.slice (some ⟨wr.heap.size, 0, none⟩) x.length (grownCap wr x.length 0 5)) x rfl (by simp) rfl ((unhide Hsl).later (below_new _ _)) (fun j hj => by simp only [Value.ownBlock, Option.some.injEq] at hj; subst hj; exact ⟨hzr, hgk, by simp [Lib.bytesWorld_size]; omega⟩) (by have := (unhide HB3).size; omega) (by omega) ?_)
      intro w3 hr3 hg3
      have hb3 : Below w.heap.size w w3 := (unhide HB3).grown hg3 (by have := (unhide HB3).size; omega) (fun j hj => by injection hj with hj; omega)
      have hr4 : Rcs w3 w.heap.size w.heap.size L.length (L.take (k + 1)) := by
        rw [List.take_succ_eq_append_getElem hkl, unhide HX]
        exact hr3
      have HR4 := hide hr4
      have HB5 := hide hb3
      clear hr3 hg3 hr4 hb3 HB3 HB4 Hsl Hr
      go_wp2
      go_roundw
      · exact ⟨k + 1, by simp, hkl, rfl, unhide HR4, unhide HB5⟩
      · simp only [intOf]; omega
    · have hI : decide ((k : Int) < (L.length : Int)) = false := by simpa using hkl
      obtain rfl : k = L.length := by omega
      rw [List.take_length] at hr
      have HR4 := hide hr
      have HB5 := hide hb
      clear hr hb Hh hkl
      go_wp2
      go_ret
      exact ⟨_, rfl, unhide HR4, unhide HB5⟩

end Go.Proofs.Yteanjnkfoddfmaa

namespace Go.Proofs.Yteanjnkfoddfmaa
open Go.RowKit
set_option linter.unusedVariables false

def encH (t v o : Nat) : List UInt8 := (enc t ++ enc v) ++ enc o

theorem encH_fits {t v o : Nat} (ht : t ≤ 1099511627776) (hv : v ≤ 1099511627776) (ho : o ≤ 1099511627776) : Fits (encH t v o) ∧ (encH t v o).length ≤ 18 := by
  have h1 := enc_len6 ht
  have h2 := enc_len6 hv
  have h3 := enc_len6 ho
  have h4 := enc_pos t
  unfold encH Fits
  rw [List.length_append, List.length_append]
  omega

set_option maxRecDepth 100000 in
set_option maxHeartbeats 2000000 in
theorem hbytes_any (t v o : Nat) (w : World) (ht : t ≤ 1099511627776) (hv : v ≤ 1099511627776) (ho : o ≤ 1099511627776) :
    Calls Try.prog 57 #[.agg #[.int .i64 t, .int .i64 v, .int .i64 o]] w fun e w' => ∃ r, e = .returned r ∧ Own w.heap.size w' r (encH t v o) ∧ Below w.heap.size w w' := by
  have hb0 : Below w.heap.size w (w.alloc (.cells #[.int .i64 t, .int .i64 v, .int .i64 o] 43)) := below_new w _
  have h0 : (w.alloc (.cells #[.int .i64 t, .int .i64 v, .int .i64 o] 43)).cell? ⟨w.heap.size, 0, none⟩ = some (.int .i64 t) := by simp
  have h1 : (w.alloc (.cells #[.int .i64 t, .int .i64 v, .int .i64 o] 43)).cell? ⟨w.heap.size, 1, none⟩ = some (.int .i64 v) := by simp
  have h2 : (w.alloc (.cells #[.int .i64 t, .int .i64 v, .int .i64 o] 43)).cell? ⟨w.heap.size, 2, none⟩ = some (.int .i64 o) := by simp
  have hlt : w.heap.size < (w.alloc (.cells #[.int .i64 t, .int .i64 v, .int .i64 o] 43)).heap.size := by simp
  have l1 := enc_len6 ht
  have l2 := enc_len6 hv
  have HB0 := hide hb0
  clear hb0
  go_enter Try.func57, Try.ntmps57
  go_wp2_with fail
  generalize w.alloc (.cells #[.int .i64 t, .int .i64 v, .int .i64 o] 43) = W at *
  go_region_held (fun w' => w'.cell? ⟨w.heap.size, 0, none⟩ = some (.int .i64 t) ∧ w'.cell? ⟨w.heap.size, 1, none⟩ = some (.int .i64 v) ∧ w'.cell? ⟨w.heap.size, 2, none⟩ = some (.int .i64 o)) (first | (refine ⟨?_, ?_, ?_⟩ <;> assumption) | go_keep)
    (first | (go_at_call_of 74 (Value.slice none 0 0); refine (number_any (.slice none 0 0) [] t _ (Sl.nil _) (by simp) (by omega)).mono ?_; rintro e w1 ⟨r1, rfl, ho1, hb1⟩; have k0 := (hb1.cell (p := ⟨w.heap.size, 0, none⟩) hlt).trans h0; have k1 := (hb1.cell (p := ⟨w.heap.size, 1, none⟩) hlt).trans h1; have k2 := (hb1.cell (p := ⟨w.heap.size, 2, none⟩) hlt).trans h2; have z1 := Nat.lt_of_lt_of_le hlt hb1.size; have HB1 := hide ((unhide HB0).drew.trans (hb1.mono (Nat.le_of_lt hlt))); have HO1 := hide ho1; clear hb1 ho1) | (go_at_call_of 74 r1; refine (number_any r1 _ v _ (unhide HO1).sl (by simp; omega) (by omega)).mono ?_; rintro e w2 ⟨r2, rfl, ho2, hb2⟩; have m0 := (hb2.cell (p := ⟨w.heap.size, 0, none⟩) z1).trans k0; have m1 := (hb2.cell (p := ⟨w.heap.size, 1, none⟩) z1).trans k1; have m2 := (hb2.cell (p := ⟨w.heap.size, 2, none⟩) z1).trans k2; have z2 := Nat.lt_of_lt_of_le z1 hb2.size; have HB2 := hide ((unhide HB1).trans (hb2.mono (Nat.le_of_lt z1))); have HO2 := hide ho2; clear hb2 ho2) | (go_at_call_of 74 r2; refine (number_any r2 _ o _ (unhide HO2).sl (by simp; omega) (by omega)).mono ?_; rintro e w3 ⟨r3, rfl, ho3, hb3⟩; have n0 := (hb3.cell (p := ⟨w.heap.size, 0, none⟩) z2).trans m0; have n1 := (hb3.cell (p := ⟨w.heap.size, 1, none⟩) z2).trans m1; have n2 := (hb3.cell (p := ⟨w.heap.size, 2, none⟩) z2).trans m2; have HB3 := hide ((unhide HB2).trans (hb3.mono (Nat.le_of_lt z2))); have HO3 := hide ho3; clear hb3 ho3))
  all_goals go_wp2
  all_goals go_ret
  all_goals exact ⟨r3, by simp, (unhide HO3).mono (Nat.le_of_lt z2), unhide HB3⟩

end Go.Proofs.Yteanjnkfoddfmaa

namespace Go.Proofs.Yteanjnkfoddfmaa
open Go.RowKit
set_option linter.unusedVariables false

theorem Jp.put123 {w : World} {B D t v o : Nat} {st : St} {rv : Value} (h : Jp w B D t v o st rv) (t' v' o' : Nat) :
    Jp (((w.setCell ⟨B, 1, none⟩ (.int .i64 t')).setCell ⟨B, 2, none⟩ (.int .i64 v')).setCell ⟨B, 3, none⟩ (.int .i64 o')) B D t' v' o' st rv := by
  have a1 : (w.setCell ⟨B, 1, none⟩ (.int .i64 t')).cell? ⟨B, 1, none⟩ = some (.int .i64 t') := World.cell?_setCell_same w _ _ h.c1
  have a2 : (w.setCell ⟨B, 1, none⟩ (.int .i64 t')).cell? ⟨B, 2, none⟩ = some (.int .i64 v) := (World.cell?_setCell_other w _ _ _ (by simp)).trans h.c2
  have b2 : ((w.setCell ⟨B, 1, none⟩ (.int .i64 t')).setCell ⟨B, 2, none⟩ (.int .i64 v')).cell? ⟨B, 2, none⟩ = some (.int .i64 v') := World.cell?_setCell_same _ _ _ a2
  have b3 : ((w.setCell ⟨B, 1, none⟩ (.int .i64 t')).setCell ⟨B, 2, none⟩ (.int .i64 v')).cell? ⟨B, 3, none⟩ = some (.int .i64 o) := (World.cell?_setCell_other _ _ _ _ (by simp)).trans ((World.cell?_setCell_other w _ _ _ (by simp)).trans h.c3)
  have ot : ∀ j, j ≠ 1 → j ≠ 2 → j ≠ 3 → (((w.setCell ⟨B, 1, none⟩ (.int .i64 t')).setCell ⟨B, 2, none⟩ (.int .i64 v')).setCell ⟨B, 3, none⟩ (.int .i64 o')).cell? ⟨B, j, none⟩ = w.cell? ⟨B, j, none⟩ := fun j h1 h2 h3 => by
    rw [World.cell?_setCell_other _ _ _ _ (fun e => h3 (by injection e with _ e; exact e.symm)), World.cell?_setCell_other _ _ _ _ (fun e => h2 (by injection e with _ e; exact e.symm)), World.cell?_setCell_other _ _ _ _ (fun e => h1 (by injection e with _ e; exact e.symm))]
  exact ⟨(ot 0 (by decide) (by decide) (by decide)).trans h.c0, (World.cell?_setCell_other _ _ _ _ (by simp)).trans ((World.cell?_setCell_other _ _ _ _ (by simp)).trans a1), (World.cell?_setCell_other _ _ _ _ (by simp)).trans b2, World.cell?_setCell_same _ _ _ b3, (ot 4 (by decide) (by decide) (by decide)).trans h.c4, (ot 5 (by decide) (by decide) (by decide)).trans h.c5, (ot 6 (by decide) (by decide) (by decide)).trans h.c6, fun j => by simpa using h.fz j, ((h.rw.set h.ne 1).set h.ne 2).set h.ne 3, h.ne, h.hb, h.hl⟩

set_option maxRecDepth 100000 in
theorem set_j_no (B : Nat) (t v o : Int) (w : World) (h : ¬ (0 ≤ t ∧ t ≤ 1099511627776) ∨ ¬ (0 ≤ v ∧ v ≤ 1099511627776) ∨ ¬ (0 ≤ o ∧ o ≤ 1099511627776)) :
    Calls Try.prog 18 #[.pointer (some ⟨B, 0, none⟩), .agg #[.int .i64 t, .int .i64 v, .int .i64 o]] w fun e w' => e = .returned (.int .i64 71) ∧ Below w.heap.size w w' := by
  have hb0 : Below w.heap.size w (w.alloc (.cells #[.int .i64 t, .int .i64 v, .int .i64 o] 43)) := below_new w _
  by_cases ht : 0 ≤ t ∧ t ≤ 1099511627776
  · obtain ⟨t', rfl⟩ : ∃ t' : Nat, t = t' := ⟨t.toNat, by omega⟩
    by_cases hv : 0 ≤ v ∧ v ≤ 1099511627776
    · obtain ⟨v', rfl⟩ : ∃ v' : Nat, v = v' := ⟨v.toNat, by omega⟩
      have ho : o < 0 ∨ 1099511627776 < o := by omega
      clear h
      go_enter Try.func18, Try.ntmps18
      go_wp2_with fail
      refine (mayBe_yes t' (by omega) _).mono ?_
      rintro e w1 ⟨rfl, rfl⟩
      go_wp2_with fail
      refine (mayBe_yes v' (by omega) _).mono ?_
      rintro e w1 ⟨rfl, rfl⟩
      go_wp2_with fail
      refine (mayBe_no o ho _).mono ?_
      rintro e w1 ⟨rfl, rfl⟩
      go_wp2
      go_ret
      exact ⟨rfl, hb0⟩
    · have hv' : v < 0 ∨ 1099511627776 < v := by omega
      clear h
      go_enter Try.func18, Try.ntmps18
      go_wp2_with fail
      refine (mayBe_yes t' (by omega) _).mono ?_
      rintro e w1 ⟨rfl, rfl⟩
      go_wp2_with fail
      refine (mayBe_no v hv' _).mono ?_
      rintro e w1 ⟨rfl, rfl⟩
      go_wp2
      go_ret
      exact ⟨rfl, hb0⟩
  · have ht' : t < 0 ∨ 1099511627776 < t := by omega
    clear h
    go_enter Try.func18, Try.ntmps18
    go_wp2_with fail
    refine (mayBe_no t ht' _).mono ?_
    rintro e w1 ⟨rfl, rfl⟩
    go_wp2
    go_ret
    exact ⟨rfl, hb0⟩

section
variable {S : Nat → Prop}
set_option maxRecDepth 100000 in
set_option maxHeartbeats 4000000 in
theorem set_j (B D : Nat) (nf nc sf sc : List UInt8) (t v o t' v' o' : Nat) (st : St) (w : World) (h : Jd S w B D nf nc sf sc t v o st) (hS : ∀ k, w.heap.size ≤ k → S k) (ht : t' ≤ 1099511627776) (hv : v' ≤ 1099511627776) (ho : o' ≤ 1099511627776) :
    Calls Try.prog 18 #[.pointer (some ⟨B, 0, none⟩), .agg #[.int .i64 t', .int .i64 v', .int .i64 o']] w fun e w' => e = .returned (.int .i64 0) ∧ Jd S w' B D nf (fr (encH t' v' o')) sf sc t' v' o' st ∧ Fr S w w' := by
  obtain ⟨T, rv, hj, hd, hT, hSB, hSr⟩ := h.begin
  have hb0 : Below w.heap.size w (w.alloc (.cells #[.int .i64 t', .int .i64 v', .int .i64 o'] 43)) := below_new w _
  have h0 : (w.alloc (.cells #[.int .i64 t', .int .i64 v', .int .i64 o'] 43)).cell? ⟨w.heap.size, 0, none⟩ = some (.int .i64 t') := by simp
  have h1 : (w.alloc (.cells #[.int .i64 t', .int .i64 v', .int .i64 o'] 43)).cell? ⟨w.heap.size, 1, none⟩ = some (.int .i64 v') := by simp
  have h2 : (w.alloc (.cells #[.int .i64 t', .int .i64 v', .int .i64 o'] 43)).cell? ⟨w.heap.size, 2, none⟩ = some (.int .i64 o') := by simp
  have hlt : w.heap.size < (w.alloc (.cells #[.int .i64 t', .int .i64 v', .int .i64 o'] 43)).heap.size := by simp
  have c0 := (hj.later hb0).c0
  have hbl : B < (w.alloc (.cells #[.int .i64 t', .int .i64 v', .int .i64 o'] 43)).heap.size := Nat.lt_trans hj.lt hlt
  have hBN : ¬ B = w.heap.size := by have := hj.lt; omega
  have hNB : ¬ w.heap.size = B := by have := hj.lt; omega
  have Hj := hide hj
  have Hd := hide hd
  have HT := hide hT
  have HB0 := hide hb0
  have Hfit := hide (encH_fits ht hv ho).1
  have hmf : ∀ (fn : Fn) (first cap : Array Value) (w : World), (Instr.makeFunc fn first cap).run Try.prog w = .ok (.func fn first cap) w := fun _ _ _ _ => rfl
  clear hj hd hT hb0 h
  go_enter Try.func18, Try.ntmps18
  go_wp2_with fail
  generalize w.alloc (.cells #[.int .i64 t', .int .i64 v', .int .i64 o'] 43) = W at *
  refine (mayBe_yes t' ht _).mono ?_
  rintro e w1 ⟨rfl, rfl⟩
  go_wp2_with fail
  refine (mayBe_yes v' hv _).mono ?_
  rintro e w1 ⟨rfl, rfl⟩
  go_wp2_with fail
  refine (mayBe_yes o' ho _).mono ?_
  rintro e w1 ⟨rfl, rfl⟩
  go_wp2_with fail
  go_region_held (fun w' => w'.cell? ⟨B, 0, none⟩ = some (.pointer (some ⟨D, 0, none⟩)) ∧ w'.cell? ⟨w.heap.size, 0, none⟩ = some (.int .i64 t') ∧ w'.cell? ⟨w.heap.size, 1, none⟩ = some (.int .i64 v') ∧ w'.cell? ⟨w.heap.size, 2, none⟩ = some (.int .i64 o')) (first | (refine ⟨?_, ?_, ?_, ?_⟩ <;> assumption) | go_keep)
    (first | (go_at_call 57; refine (hbytes_any t' v' o' _ ht hv ho).mono ?_; rintro e w1 ⟨r1, rfl, ho1, hb1⟩; have k0 := (hb1.cell (p := ⟨w.heap.size, 0, none⟩) hlt).trans h0; have k1 := (hb1.cell (p := ⟨w.heap.size, 1, none⟩) hlt).trans h1; have k2 := (hb1.cell (p := ⟨w.heap.size, 2, none⟩) hlt).trans h2; have kb := (hb1.cell (p := ⟨B, 0, none⟩) hbl).trans c0; have hz1 := hb1.size; have HB1 := hide ((unhide HB0).drew.trans (hb1.mono (Nat.le_of_lt hlt))); have HO1 := hide ho1; clear hb1 ho1) | (go_at_call 56; refine (framed_set (T := fun k => T k ∨ w1.heap.size ≤ k) D nf nc sf sc _ r1 _ (Dk.mono ((unhide Hd).later (unhide HB1)) (fun k _ e => .inl e)) (fun k hk => .inr hk) (unhide HO1).sl (unhide Hfit)).mono ?_; rintro e w2 ⟨rfl, hd2, hf2⟩; obtain ⟨j2, m2, z2⟩ := keep_mid (unhide HT) (unhide Hj) (unhide HB1) (Nat.lt_of_lt_of_le hlt hz1) hf2; have e0 := (m2 0).trans k0; have e1 := (m2 1).trans k1; have e2 := (m2 2).trans k2; have eb := j2.c0; have f1 := j2.c1; have f2 := j2.c2; have f3 := j2.c3; have y1 := j2.fz 1; have y2 := j2.fz 2; have y3 := j2.fz 3; have HJ2 := hide j2; have HD2 := hide hd2; have HF2 := hide hf2; clear j2 m2 hd2 hf2))
  all_goals go_wp2
  all_goals go_ret
  all_goals exact ⟨rfl, keep_end hS hSB hSr (unhide HT) (unhide Hj) (unhide HB1) (unhide HD2) (unhide HF2) (Below.refl _ _) ((unhide HJ2).put123 t' v' o') ((((Mov.refl B rv w2).set 1 _).set 2 _).set 3 _)⟩
end

end Go.Proofs.Yteanjnkfoddfmaa

namespace Go.Proofs.Yteanjnkfoddfmaa
open Go.RowKit
set_option linter.unusedVariables false

set_option maxRecDepth 100000 in
theorem or_any (g n : Nat) (xs : List Int) (hn : xs.length = n) (w : World) (hx : ∀ j (hj : j < xs.length), w.cell? ⟨g, j, none⟩ = some (.int .i64 xs[j])) (hl : n ≤ 100) :
    Calls Try.prog 41 #[.slice (some ⟨g, 0, none⟩) n n] w fun e w' => ∃ r, e = .returned (.int .i64 r) ∧ (r = 0 ↔ ∀ x ∈ xs, x = 0) ∧ w' = w := by
  subst hn
  have Hx := hide hx
  clear hx
  go_enter Try.func41, Try.ntmps41
  go_wp2
  go_loop [5, 8] (fun _ i => ∃ k : Nat, i = .int .i64 k ∧ k ≤ xs.length ∧ Hid (∀ j (hj : j < xs.length), j < k → xs[j] = 0)) (fun _ i => xs.length - (intOf i).toNat)
  case atStart => exact ⟨0, rfl, Nat.zero_le _, fun j _ h => absurd h (by omega)⟩
  case round =>
    obtain ⟨k, rfl, hk, hz⟩ := hrel
    by_cases hkl : k < xs.length
    · have hI : decide ((k : Int) < (xs.length : Int)) = true := by simpa using hkl
      have hc := unhide Hx k hkl
      generalize hX : xs[k] = x at *
      have HX := hide hX
      clear hX
      by_cases h0 : x = 0
      · subst h0
        go_wp2
        go_round
        case rel =>
          refine ⟨k + 1, by go_num, hkl, fun j hj hjk => ?_⟩
          by_cases e : j = k
          · subst e; exact unhide HX
          · exact unhide hz j hj (by omega)
        case measure => simp [intOf]; omega
      · have h1 : (x == 0) = false := by simpa using h0
        go_wp2
        go_ret
        refine ⟨x, rfl, ⟨fun e => absurd e h0, fun h => ?_⟩, rfl⟩
        rw [← unhide HX]
        exact h _ (List.getElem_mem hkl)
    · have hI : decide ((k : Int) < (xs.length : Int)) = false := by simpa using hkl
      go_wp2
      go_ret
      refine ⟨0, rfl, ⟨fun _ x hx => ?_, fun _ => rfl⟩, rfl⟩
      obtain ⟨j, hj, rfl⟩ := List.getElem_of_mem hx
      exact unhide hz j hj (by omega)

/-- The hard numbers that a cell's bytes are. -/
def hdOf (l : List UInt8) : Option (Nat × Nat × Nat) :=
  if l = [] then some (0, 0, 0) else
  match whole l with
  | none => none
  | some x =>
    if (rdN x 1099511627776).2.1 = 0 ∧ (rdN (rdN x 1099511627776).2.2 1099511627776).2.1 = 0 ∧ (rdN (rdN (rdN x 1099511627776).2.2 1099511627776).2.2 1099511627776).2.1 = 0 ∧ (rdN (rdN (rdN x 1099511627776).2.2 1099511627776).2.2 1099511627776).2.2 = [] then
      some ((rdN x 1099511627776).1, (rdN (rdN x 1099511627776).2.2 1099511627776).1, (rdN (rdN (rdN x 1099511627776).2.2 1099511627776).2.2 1099511627776).1) else none

theorem hdOf_enc {t v o : Nat} (ht : t ≤ 1099511627776) (hv : v ≤ 1099511627776) (ho : o ≤ 1099511627776) : hdOf (fr (encH t v o)) = some (t, v, o) := by
  have hne : fr (encH t v o) ≠ [] := fun e => by have := fr_length (encH t v o); rw [e] at this; simp at this; omega
  have e1 : rdN (encH t v o) 1099511627776 = (t, 0, enc v ++ enc o) := by
    unfold encH; rw [List.append_assoc]; exact rdN_enc t _ _ (by omega) (by omega)
  have e2 : rdN (enc v ++ enc o) 1099511627776 = (v, 0, enc o) := rdN_enc v _ _ (by omega) (by omega)
  have e3 : rdN (enc o) 1099511627776 = (o, 0, []) := by
    have := rdN_enc o [] 1099511627776 (by omega) (by omega)
    rwa [List.append_nil] at this
  unfold hdOf
  rw [if_neg hne, whole_fr (encH_fits ht hv ho).1]
  simp [e1, e2, e3]

theorem rdN_len (l : List UInt8) (m : Int) : (rdN l m).2.2.length ≤ l.length := by
  rcases rdN_one l m with ⟨_, h, _⟩ | ⟨_, h, _⟩
  · rw [h]; exact Nat.le_refl _
  · have := congrArg List.length h
    rw [List.length_append] at this
    omega
theorem rdN_err (l : List UInt8) (m : Int) : (rdN l m).2.1 = 0 ∨ (rdN l m).2.1 = 11 := by
  rcases rdN_one l m with ⟨h, _⟩ | ⟨h, _⟩
  · exact .inr h
  · exact .inl h
theorem rdN_max (l : List UInt8) : (rdN l 1099511627776).1 ≤ 1099511627776 := by
  rcases rdN_one l 1099511627776 with ⟨_, _, h⟩ | ⟨_, _, h, _⟩
  · rw [h]; decide
  · omega

end Go.Proofs.Yteanjnkfoddfmaa

namespace Go.Proofs.Yteanjnkfoddfmaa
open Go.RowKit
set_option linter.unusedVariables false

/-- What is answered for a cell's bytes. -/
def Hdd (l : List UInt8) (e : Ending) : Prop :=
  (∃ t v o : Nat, hdOf l = some (t, v, o) ∧ t ≤ 1099511627776 ∧ v ≤ 1099511627776 ∧ o ≤ 1099511627776 ∧ e = .returned (.tuple #[.agg #[.int .i64 t, .int .i64 v, .int .i64 o], .int .i64 0])) ∨ (hdOf l = none ∧ e = .returned (.tuple #[.agg #[.int .i64 0, .int .i64 0, .int .i64 0], .int .i64 71]))

theorem whole_len {l x : List UInt8} (h : whole l = some x) : x.length ≤ l.length := by
  unfold whole at h
  split at h
  · split at h
    · injection h with h; subst h; omega
    · cases h
  · cases h

theorem cells4 (w : World) (a b c d : Int) (t : TypeId) : ∀ j (hj : j < [a, b, c, d].length), (w.alloc (.cells #[.int .i64 a, .int .i64 b, .int .i64 c, .int .i64 d] t)).cell? ⟨w.heap.size, j, none⟩ = some (.int .i64 [a, b, c, d][j]) := by
  intro j hj
  match j, hj with
  | 0, _ => simp
  | 1, _ => simp
  | 2, _ => simp
  | 3, _ => simp

set_option maxRecDepth 100000 in
set_option maxHeartbeats 2000000 in
theorem hardOf_any (v : Value) (l : List UInt8) (w : World) (hs : Sl w v l) (hl : l.length ≤ 1099511627776) :
    Calls Try.prog 39 #[v] w fun e w' => Hdd l e ∧ Below w.heap.size w w' := by
  obtain ⟨ao, c, rfl, hc1, hc2, _⟩ := id hs
  unfold maxLen at hc2
  have hb0 : Below w.heap.size w (w.alloc (.cells #[.int .i64 0, .int .i64 0, .int .i64 0] 43)) := below_new w _
  by_cases h0 : l = []
  · subst h0
    have hd : hdOf [] = some (0, 0, 0) := if_pos rfl
    go_enter Try.func39, Try.ntmps39
    go_wp2
    refine bodyPost_ret (results_h2 (a := .int .i64 0) (b := .int .i64 0) (c := .int .i64 0) Try.results39 rfl rfl (by simp) (by simp) (by simp)) rfl ?_
    exact ⟨.inl ⟨0, 0, 0, hd, by decide, by decide, by decide, rfl⟩, hb0⟩
  · have hp : 0 < l.length := by cases l <;> simp_all
    have hI : ((l.length : Int) == 0) = false := by rw [beq_eq_false_iff_ne]; omega
    have hd0 : hdOf l = match whole l with
      | none => none
      | some x => if (rdN x 1099511627776).2.1 = 0 ∧ (rdN (rdN x 1099511627776).2.2 1099511627776).2.1 = 0 ∧ (rdN (rdN (rdN x 1099511627776).2.2 1099511627776).2.2 1099511627776).2.1 = 0 ∧ (rdN (rdN (rdN x 1099511627776).2.2 1099511627776).2.2 1099511627776).2.2 = [] then
        some ((rdN x 1099511627776).1, (rdN (rdN x 1099511627776).2.2 1099511627776).1, (rdN (rdN (rdN x 1099511627776).2.2 1099511627776).2.2 1099511627776).1) else none := if_neg h0
    have Hd := hide hd0
    have Hs := hide (hs.later hb0)
    have HB0 := hide hb0
    have hlt : w.heap.size < (w.alloc (.cells #[.int .i64 0, .int .i64 0, .int .i64 0] 43)).heap.size := by simp
    have n0 : (w.alloc (.cells #[.int .i64 0, .int .i64 0, .int .i64 0] 43)).cell? ⟨w.heap.size, 0, none⟩ = some (.int .i64 0) := by simp
    have n1 : (w.alloc (.cells #[.int .i64 0, .int .i64 0, .int .i64 0] 43)).cell? ⟨w.heap.size, 1, none⟩ = some (.int .i64 0) := by simp
    have n2 : (w.alloc (.cells #[.int .i64 0, .int .i64 0, .int .i64 0] 43)).cell? ⟨w.heap.size, 2, none⟩ = some (.int .i64 0) := by simp
    have fz : ∀ j, (w.alloc (.cells #[.int .i64 0, .int .i64 0, .int .i64 0] 43)).frozen? ⟨w.heap.size, j, none⟩ = false := fun j => by simp
    clear hd0 h0 hs hb0
    go_enter Try.func39, Try.ntmps39
    go_wp2_with fail
    generalize w.alloc (.cells #[.int .i64 0, .int .i64 0, .int .i64 0] 43) = W at *
    refine (whole_any _ l W (unhide Hs) hl).mono ?_
    rintro e w1 ⟨hw, hb1⟩
    rcases hw with ⟨hwn, rfl⟩ | ⟨r, x, hwn, rfl, hox⟩
    · have k0 := (hb1.cell (p := ⟨w.heap.size, 0, none⟩) hlt).trans n0
      have k1 := (hb1.cell (p := ⟨w.heap.size, 1, none⟩) hlt).trans n1
      have k2 := (hb1.cell (p := ⟨w.heap.size, 2, none⟩) hlt).trans n2
      have f0 := (hb1.frozen (p := ⟨w.heap.size, 0, none⟩) hlt).trans (fz 0)
      have f1 := (hb1.frozen (p := ⟨w.heap.size, 1, none⟩) hlt).trans (fz 1)
      have f2 := (hb1.frozen (p := ⟨w.heap.size, 2, none⟩) hlt).trans (fz 2)
      have HB1 := hide ((unhide HB0).trans (hb1.mono (Nat.le_of_lt hlt)))
      have Hn : Hid (hdOf l = none) := by show _ = _; rw [unhide Hd, hwn]
      clear hb1 hwn fz Hd
      go_wp2
      obtain ⟨d0, d1, d2⟩ := set3 w1 w.heap.size _ _ _ (.int .i64 0) (.int .i64 0) (.int .i64 0) k0 k1 k2
      refine bodyPost_ret (results_h2 Try.results39 rfl rfl d0 d1 d2) rfl ?_
      exact ⟨.inr ⟨unhide Hn, rfl⟩, (((unhide HB1).setCell (Nat.le_refl _) _).setCell (Nat.le_refl _) _).setCell (Nat.le_refl _) _⟩
    · rw [hwn] at Hd
      have hxl : x.length ≤ 1099511627776 := by have := whole_len hwn; omega
      have Hox := hide hox
      have HB1 := hide hb1
      clear hox hwn hb1
      go_wp2_with fail
      refine (open_any r x w1 (unhide Hox).sl hxl).mono ?_
      rintro e w2 ⟨R, rfl, hR, hr2, hb2⟩
      have HB2 := hide ((unhide HB1).trans (hb2.mono (unhide HB1).size))
      have hRW : W.heap.size ≤ R := Nat.le_trans (unhide HB1).size hR
      have Hr2 := hide hr2
      clear hb2 hr2
      go_wp2_with fail
      refine (rnumber_any R x 1099511627776 w2 (unhide Hr2) hxl).mono ?_
      rintro e w3 ⟨rfl, hr3, hy3⟩
      have HB3 := hide ((unhide HB2).trans (hy3.below hRW))
      have hl3 := rdN_len x 1099511627776
      have he3 := rdN_err x 1099511627776
      have hm3 := rdN_max x
      generalize rdN x 1099511627776 = y3 at *
      obtain ⟨t, e1, l3⟩ := y3
      have Hr3 := hide hr3
      clear hr3 hy3
      go_wp2_with fail
      refine (rnumber_any R l3 1099511627776 w3 (unhide Hr3) (by omega)).mono ?_
      rintro e w4 ⟨rfl, hr4, hy4⟩
      have HB4 := hide ((unhide HB3).trans (hy4.below hRW))
      have hl4 := rdN_len l3 1099511627776
      have he4 := rdN_err l3 1099511627776
      have hm4 := rdN_max l3
      generalize rdN l3 1099511627776 = y4 at *
      obtain ⟨vv, e2, l4⟩ := y4
      have Hr4 := hide hr4
      clear hr4 hy4
      go_wp2_with fail
      refine (rnumber_any R l4 1099511627776 w4 (unhide Hr4) (by omega)).mono ?_
      rintro e w5 ⟨rfl, hr5, hy5⟩
      have HB5 := hide ((unhide HB4).trans (hy5.below hRW))
      have hl5 := rdN_len l4 1099511627776
      have he5 := rdN_err l4 1099511627776
      have hm5 := rdN_max l4
      generalize rdN l4 1099511627776 = y5 at *
      obtain ⟨oo, e3, l5⟩ := y5
      have Hr5 := hide hr5
      clear hr5 hy5
      go_wp2_with fail
      refine (end_any R l5 w5 (unhide Hr5) (by omega)).mono ?_
      rintro e w6 ⟨rfl, rfl⟩
      generalize hE4 : (if l5 = [] then (0 : Int) else 11) = e4 at *
      have HE4 := hide hE4
      clear hE4
      have hB6 : Below W.heap.size W (w6.alloc (.cells #[.int .i64 e1, .int .i64 e2, .int .i64 e3, .int .i64 e4] 30)) := (unhide HB5).alloc (unhide HB5).size _
      have k0 := (hB6.cell (p := ⟨w.heap.size, 0, none⟩) hlt).trans n0
      have k1 := (hB6.cell (p := ⟨w.heap.size, 1, none⟩) hlt).trans n1
      have k2 := (hB6.cell (p := ⟨w.heap.size, 2, none⟩) hlt).trans n2
      have f0 := (hB6.frozen (p := ⟨w.heap.size, 0, none⟩) hlt).trans (fz 0)
      have f1 := (hB6.frozen (p := ⟨w.heap.size, 1, none⟩) hlt).trans (fz 1)
      have f2 := (hB6.frozen (p := ⟨w.heap.size, 2, none⟩) hlt).trans (fz 2)
      have HB6 := hide ((unhide HB0).trans (hB6.mono (Nat.le_of_lt hlt)))
      have hcs := cells4 w6 e1 e2 e3 e4 30
      have Hcs := hide hcs
      clear hcs hB6 fz
      go_wp2_with fail
      generalize (w6.alloc (.cells #[.int .i64 e1, .int .i64 e2, .int .i64 e3, .int .i64 e4] 30)) = W6 at *
      refine (or_any w6.heap.size 4 [e1, e2, e3, e4] rfl W6 (unhide Hcs) (by decide)).mono ?_
      rintro e w7 ⟨q, rfl, hq, rfl⟩
      by_cases hq0 : q = 0
      · subst hq0
        have hall := hq.1 rfl
        have a1 : e1 = 0 := hall e1 (by simp)
        have a2 : e2 = 0 := hall e2 (by simp)
        have a3 : e3 = 0 := hall e3 (by simp)
        have a4 : e4 = 0 := hall e4 (by simp)
        have a5 : l5 = [] := by
          have := unhide HE4
          rw [a4] at this
          by_cases e : l5 = []
          · exact e
          · rw [if_neg e] at this; cases this
        have Hn : Hid (hdOf l = some (t, vv, oo)) := by show _ = _; rw [unhide Hd, if_pos ⟨a1, a2, a3, a5⟩]
        clear hall hq a1 a2 a3 a4 a5 HE4 Hd
        go_wp2
        obtain ⟨d0, d1, d2⟩ := set3 w7 w.heap.size _ _ _ (.int .i64 t) (.int .i64 vv) (.int .i64 oo) k0 k1 k2
        refine bodyPost_ret (results_h2 Try.results39 rfl rfl d0 d1 d2) rfl ?_
        exact ⟨.inl ⟨t, vv, oo, unhide Hn, hm3, hm4, hm5, rfl⟩, (((unhide HB6).setCell (Nat.le_refl _) _).setCell (Nat.le_refl _) _).setCell (Nat.le_refl _) _⟩
      · have hq1 : (q == 0) = false := by simpa using hq0
        have Hn : Hid (hdOf l = none) := by
          show _ = _
          rw [unhide Hd, if_neg]
          rintro ⟨a1, a2, a3, a4⟩
          refine hq0 (hq.2 ?_)
          have := unhide HE4
          rw [if_pos a4] at this
          subst a1 a2 a3 this
          simp
        clear hq hq0 HE4 Hd
        go_wp2
        obtain ⟨d0, d1, d2⟩ := set3 w7 w.heap.size _ _ _ (.int .i64 0) (.int .i64 0) (.int .i64 0) k0 k1 k2
        refine bodyPost_ret (results_h2 Try.results39 rfl rfl d0 d1 d2) rfl ?_
        exact ⟨.inr ⟨unhide Hn, rfl⟩, (((unhide HB6).setCell (Nat.le_refl _) _).setCell (Nat.le_refl _) _).setCell (Nat.le_refl _) _⟩

end Go.Proofs.Yteanjnkfoddfmaa
