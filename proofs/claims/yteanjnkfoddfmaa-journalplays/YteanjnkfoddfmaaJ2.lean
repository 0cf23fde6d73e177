/-
  Contracts of a frame that is handed to a disk, and of a change that is appended to the file and done. No law is proved here.
  Contracts of a change that is appended to the file and done. No law is proved here.
  Contracts of a journal's Append, Cut, Rebase, Sync, Hard, Base. No law is proved here.
-/
import Derived.Test.YteanjnkfoddfmaaJ1
import Derived.Deep.RegionHeld
import Derived.Lib.ConvBytes
namespace Go.Proofs.Yteanjnkfoddfmaa
open Go.RowKit
set_option linter.unusedVariables false

section
set_option maxRecDepth 100000
variable {T : Nat → Prop}

theorem framed_app (D : Nat) (nf nc sf sc l : List UInt8) (v : Value) (w : World) (h : Dk T w D nf nc sf sc) (hT : ∀ k, w.heap.size ≤ k → T k) (hv : Sl w v l) (hf : Fits l) (hb : nf.length + (8 + l.length) ≤ 16777216) :
    Calls Try.prog 56 #[v, .func (.func 24) #[.pointer (some ⟨D, 0, none⟩)] #[]] w fun e w' => e = .returned (.int .i64 0) ∧ Dk T w' D (nf ++ fr l) nc sf sc ∧ Fr T w w' := by
  go_enter Try.func56, Try.ntmps56
  go_wp2_with fail
  refine (frame_yes v l w hv hf).mono ?_
  rintro e w1 ⟨r1, rfl, ho1, hb1⟩
  have HO := hide ho1
  have HD := hide (h.later hb1)
  clear ho1 h
  go_wp2_with fail
  refine (append_ok D nf nc sf sc (fr l) r1 w1 (unhide HD) (fun k hk => hT k (Nat.le_trans hb1.size hk)) (unhide HO).sl (by rw [fr_length]; omega)).mono ?_
  rintro e w2 ⟨rfl, hd2, hf2⟩
  have HD2 := hide hd2
  have HF2 := hide hf2
  clear hd2 hf2 HD HO
  go_wp2
  go_ret
  exact ⟨rfl, unhide HD2, (Fr.of hb1).trans (unhide HF2)⟩

theorem framed_set (D : Nat) (nf nc sf sc l : List UInt8) (v : Value) (w : World) (h : Dk T w D nf nc sf sc) (hT : ∀ k, w.heap.size ≤ k → T k) (hv : Sl w v l) (hf : Fits l) :
    Calls Try.prog 56 #[v, .func (.func 30) #[.pointer (some ⟨D, 0, none⟩)] #[]] w fun e w' => e = .returned (.int .i64 0) ∧ Dk T w' D nf (fr l) sf sc ∧ Fr T w w' := by
  go_enter Try.func56, Try.ntmps56
  go_wp2_with fail
  refine (frame_yes v l w hv hf).mono ?_
  rintro e w1 ⟨r1, rfl, ho1, hb1⟩
  have HO := hide ho1
  have HD := hide (h.later hb1)
  clear ho1 h
  go_wp2_with fail
  refine (set_ok D nf nc sf sc (fr l) r1 w1 (unhide HD) (fun k hk => hT k (Nat.le_trans hb1.size hk)) (unhide HO).sl (by rw [fr_length]; have := hf.2; omega)).mono ?_
  rintro e w2 ⟨rfl, hd2, hf2⟩
  have HD2 := hide hd2
  have HF2 := hide hf2
  clear hd2 hf2 HD HO
  go_wp2
  go_ret
  exact ⟨rfl, unhide HD2, (Fr.of hb1).trans (unhide HF2)⟩
end

/-- A journal and its disk. -/
def Jd (S : Nat → Prop) (w : World) (B D : Nat) (nf nc sf sc : List UInt8) (t v o : Nat) (st : St) : Prop :=
  ∃ T rv, Jp w B D t v o st rv ∧ Dk T w D nf nc sf sc ∧ (∀ k, k < w.heap.size → T k → S k ∧ k ≠ B ∧ rv.ownBlock ≠ some k) ∧ S B ∧ (∀ g, rv.ownBlock = some g → S g)

section
variable {S : Nat → Prop} {w w' : World} {B D : Nat} {nf nc sf sc : List UInt8} {t v o : Nat} {st : St}

theorem Jd.frame (h : Jd S w B D nf nc sf sc t v o st) (hs : w.heap.size ≤ w'.heap.size) (hk : ∀ k, k < w.heap.size → S k → w'.heap[k]? = w.heap[k]?) : Jd S w' B D nf nc sf sc t v o st := by
  obtain ⟨T, rv, h1, h2, h3, h4, h5⟩ := h
  have h2' := h2.mono (T := fun k => T k ∧ k < w.heap.size) (fun k hk ht => ⟨ht, hk⟩)
  refine ⟨fun k => T k ∧ k < w.heap.size, rv, h1.frame hs (fun k hlt hx => hk k hlt ?_), h2'.frame hs (fun k hlt hx => hk k hlt (h3 k hlt hx.1).1), fun k hlt hx => h3 k hx.2 hx.1, h4, h5⟩
  rcases hx with rfl | e
  · exact h4
  · exact h5 k e
theorem Jd.later (h : Jd S w B D nf nc sf sc t v o st) (hb : Below w.heap.size w w') : Jd S w' B D nf nc sf sc t v o st := h.frame hb.size fun k hk _ => hb.block k hk
theorem Jd.other (h : Jd S w B D nf nc sf sc t v o st) {T : Nat → Prop} (hf : Fr T w w') (hn : ∀ k, k < w.heap.size → S k → ¬ T k) : Jd S w' B D nf nc sf sc t v o st := h.frame hf.size fun k hk hs => hf.block k hk (hn k hk hs)
theorem Jd.mono (h : Jd S w B D nf nc sf sc t v o st) {S' : Nat → Prop} (hT : ∀ k, k < w.heap.size → S k → S' k) : Jd S' w B D nf nc sf sc t v o st := by
  obtain ⟨T, rv, h1, h2, h3, h4, h5⟩ := h
  exact ⟨T, rv, h1, h2, fun k hk ht => ⟨hT k hk (h3 k hk ht).1, (h3 k hk ht).2⟩, hT B h1.lt h4, fun g hg => hT g (h1.rw.lt g hg) (h5 g hg)⟩
theorem Jd.dk (h : Jd S w B D nf nc sf sc t v o st) : Dk S w D nf nc sf sc := by
  obtain ⟨T, rv, h1, h2, h3, h4, h5⟩ := h
  exact h2.mono fun k hk ht => (h3 k hk ht).1
theorem Jd.jp (h : Jd S w B D nf nc sf sc t v o st) : ∃ rv, Jp w B D t v o st rv := by
  obtain ⟨T, rv, h1, _⟩ := h
  exact ⟨rv, h1⟩
end

end Go.Proofs.Yteanjnkfoddfmaa

namespace Go.Proofs.Yteanjnkfoddfmaa
open Go.RowKit
set_option linter.unusedVariables false

section
variable {S : Nat → Prop}

theorem Jd.begin {w : World} {B D : Nat} {nf nc sf sc : List UInt8} {t v o : Nat} {st : St} (h : Jd S w B D nf nc sf sc t v o st) : ∃ T rv, Jp w B D t v o st rv ∧ Dk T w D nf nc sf sc ∧ (∀ k, T k → k < w.heap.size ∧ S k ∧ k ≠ B ∧ rv.ownBlock ≠ some k) ∧ S B ∧ (∀ g, rv.ownBlock = some g → S g) := by
  obtain ⟨T, rv, h1, h2, h3, h4, h5⟩ := h
  exact ⟨fun k => T k ∧ k < w.heap.size, rv, h1, h2.mono (fun k hk ht => ⟨ht, hk⟩), fun k hk => ⟨hk.2, h3 k hk.2 hk.1⟩, h4, h5⟩

theorem keep_mid {T : Nat → Prop} {w w1 w2 : World} {B D t v o : Nat} {st : St} {rv : Value} (hT : ∀ k, T k → k < w.heap.size ∧ S k ∧ k ≠ B ∧ rv.ownBlock ≠ some k) (hj : Jp w B D t v o st rv) (hb1 : Below w.heap.size w w1) (hN : w.heap.size < w1.heap.size) (hf2 : Fr (fun k => T k ∨ w1.heap.size ≤ k) w1 w2) :
    Jp w2 B D t v o st rv ∧ (∀ j, w2.cell? ⟨w.heap.size, j, none⟩ = w1.cell? ⟨w.heap.size, j, none⟩) ∧ w1.heap.size ≤ w2.heap.size := by
  have hj1 := hj.later hb1
  refine ⟨hj1.other hf2 ?_, fun j => World.cell?_of_block (w := w1) (hf2.block w.heap.size hN ?_), hf2.size⟩
  · intro k hk hx ht
    rcases ht with ht | ht
    · have := hT k ht
      rcases hx with e | e
      · exact this.2.2.1 e
      · exact this.2.2.2 e
    · omega
  · rintro (ht | ht)
    · have := (hT _ ht).1; omega
    · omega

theorem keep_end {T : Nat → Prop} {w w1 w2 w3 w4 : World} {B D t v o t' v' o' : Nat} {st st' : St} {rv rv' : Value} {nf nc sf sc : List UInt8} (hS : ∀ k, w.heap.size ≤ k → S k) (hSB : S B) (hSr : ∀ g, rv.ownBlock = some g → S g) (hT : ∀ k, T k → k < w.heap.size ∧ S k ∧ k ≠ B ∧ rv.ownBlock ≠ some k) (hj : Jp w B D t v o st rv) (hb1 : Below w.heap.size w w1)
    (hd : Dk (fun k => T k ∨ w1.heap.size ≤ k) w2 D nf nc sf sc) (hf2 : Fr (fun k => T k ∨ w1.heap.size ≤ k) w1 w2) (hb3 : Below w2.heap.size w2 w3) (hj4 : Jp w4 B D t' v' o' st' rv') (hm : Mov B rv rv' w3 w4) :
    Jd S w4 B D nf nc sf sc t' v' o' st' ∧ Fr S w w4 := by
  have hlt := hj.lt
  have z1 := hb1.size
  have z2 := hf2.size
  have z3 := hb3.size
  have hrl := fun g hg => hj.rw.lt g hg
  have hd3 := (hd.mono (T := fun k => (T k ∨ w1.heap.size ≤ k) ∧ k < w2.heap.size) (fun k hk ht => ⟨ht, hk⟩)).later hb3
  have hd4 := hd3.other hm.fr (fun k hk hs hx => by
    rcases hs.1 with ht | ht
    · have := hT k ht
      rcases hx with e | e
      · exact this.2.2.1 e
      · exact this.2.2.2 e
    · rcases hx with e | e
      · omega
      · have := hrl k e; omega)
  refine ⟨⟨_, rv', hj4, hd4, fun k hk ht => ⟨?_, ?_, ?_⟩, hSB, fun g hg => ?_⟩, ?_⟩
  · rcases ht.1 with e | e
    · exact (hT k e).2.1
    · exact hS k (by omega)
  · rcases ht.1 with e | e
    · exact (hT k e).2.2.1
    · omega
  · intro e
    rcases hm.nw k e with e1 | e1
    · rcases ht.1 with e2 | e2
      · exact (hT k e2).2.2.2 e1
      · have := hrl k e1; omega
    · have := ht.2; omega
  · rcases hm.nw g hg with e1 | e1
    · exact hSr g e1
    · exact hS g (by omega)
  · have f1 : Fr S w w1 := Fr.of hb1
    have f2 : Fr S w1 w2 := hf2.mono fun k hk ht => by
      rcases ht with e | e
      · exact (hT k e).2.1
      · omega
    have f3 : Fr S w2 w3 := Fr.of hb3
    have f4 : Fr S w3 w4 := hm.fr.mono fun k hk hx => by
      rcases hx with e | e
      · rw [e]; exact hSB
      · exact hSr k e
    exact ((f1.trans f2).trans f3).trans f4

theorem acts_any2 (w : World) : Calls Try.prog 67 #[] w fun e w' => ∃ m, e = .returned (.map (some m)) ∧ Acts w' m ∧ Below w.heap.size w w' := by
  refine (acts_any w).mono ?_
  rintro e w' ⟨rfl, rfl⟩
  exact ⟨_, rfl, Array.getElem?_push_size, below_new w _⟩

theorem Mov.cell {B N : Nat} {v v' : Value} {w w' : World} (h : Mov B v v' w w') (hN : N < w.heap.size) (h1 : N ≠ B) (h2 : v.ownBlock ≠ some N) (j : Nat) : w'.cell? ⟨N, j, none⟩ = w.cell? ⟨N, j, none⟩ :=
  World.cell?_of_block (w := w) (h.fr.block N hN (fun e => e.elim h1 h2))

set_option maxRecDepth 100000 in
set_option maxHeartbeats 4000000 in
theorem keep_add (s : List UInt8) (B D : Nat) (nf nc sf sc : List UInt8) (t v o b : Nat) (d : List UInt8) (L : List (List UInt8)) (w : World) (h : Jd S w B D nf nc sf sc t v o (b, d, L)) (hS : ∀ k, w.heap.size ≤ k → S k) (hs : s.length ≤ 65516) (hl : L.length < 1099511627776) (hb : nf.length + (8 + (Ch.add s).enc.length) ≤ 16777216) :
    Calls Try.prog 51 #[.pointer (some ⟨B, 0, none⟩), .agg #[.int .i64 1, .int .i64 0, .string (bs s)]] w fun e w' => e = .returned (.int .i64 0) ∧ Jd S w' B D (nf ++ fr (Ch.add s).enc) nc sf sc t v o (b, d, L ++ [s]) ∧ Fr S w w' := by
  obtain ⟨T, rv, hj, hd, hT, hSB, hSr⟩ := h.begin
  have hb0 : Below w.heap.size w (w.alloc (.cells #[.int .i64 1, .int .i64 0, .string (bs s)] 93)) := below_new w _
  have h0 : (w.alloc (.cells #[.int .i64 1, .int .i64 0, .string (bs s)] 93)).cell? ⟨w.heap.size, 0, none⟩ = some (.int .i64 1) := by simp
  have h1 : (w.alloc (.cells #[.int .i64 1, .int .i64 0, .string (bs s)] 93)).cell? ⟨w.heap.size, 1, none⟩ = some (.int .i64 0) := by simp
  have h2 : (w.alloc (.cells #[.int .i64 1, .int .i64 0, .string (bs s)] 93)).cell? ⟨w.heap.size, 2, none⟩ = some (.string (bs s)) := by simp
  have hlt : w.heap.size < (w.alloc (.cells #[.int .i64 1, .int .i64 0, .string (bs s)] 93)).heap.size := by simp
  have c0 := (hj.later hb0).c0
  have hbl : B < (w.alloc (.cells #[.int .i64 1, .int .i64 0, .string (bs s)] 93)).heap.size := Nat.lt_trans hj.lt hlt
  have Hj := hide hj
  have Hd := hide hd
  have HT := hide hT
  have HB0 := hide hb0
  have Hfit := hide ((Ch.add s).fits ⟨Nat.zero_le _, hs⟩)
  have hmf : ∀ (fn : Fn) (first cap : Array Value) (w : World), (Instr.makeFunc fn first cap).run Try.prog w = .ok (.func fn first cap) w := fun _ _ _ _ => rfl
  clear hj hd hT hb0 h
  go_enter Try.func51, Try.ntmps51
  go_wp2_with fail
  generalize w.alloc (.cells #[.int .i64 1, .int .i64 0, .string (bs s)] 93) = W at *
  go_region_held (fun w' => w'.cell? ⟨B, 0, none⟩ = some (.pointer (some ⟨D, 0, none⟩)) ∧ w'.cell? ⟨w.heap.size, 0, none⟩ = some (.int .i64 1) ∧ w'.cell? ⟨w.heap.size, 1, none⟩ = some (.int .i64 0) ∧ w'.cell? ⟨w.heap.size, 2, none⟩ = some (.string (bs s))) (first | (refine ⟨?_, ?_, ?_, ?_⟩ <;> assumption) | go_keep)
    (first | (go_at_call 73; refine (bytes_add s _ hs).mono ?_; rintro e w1 ⟨r1, rfl, ho1, hb1⟩; have k0 := (hb1.cell (p := ⟨w.heap.size, 0, none⟩) hlt).trans h0; have k1 := (hb1.cell (p := ⟨w.heap.size, 1, none⟩) hlt).trans h1; have k2 := (hb1.cell (p := ⟨w.heap.size, 2, none⟩) hlt).trans h2; have kb := (hb1.cell (p := ⟨B, 0, none⟩) hbl).trans c0; have hz1 := hb1.size; have HB1 := hide ((unhide HB0).drew.trans (hb1.mono (Nat.le_of_lt hlt))); have HO1 := hide ho1; clear hb1 ho1) | (go_at_call 56; (refine (framed_app (T := fun k => T k ∨ w1.heap.size ≤ k) D nf nc sf sc _ r1 _ (Dk.mono ((unhide Hd).later (unhide HB1)) (fun k _ e => .inl e)) (fun k hk => .inr hk) (unhide HO1).sl (unhide Hfit) hb).mono ?_); rintro e w2 ⟨rfl, hd2, hf2⟩; obtain ⟨j2, m2, z2⟩ := keep_mid (unhide HT) (unhide Hj) (unhide HB1) (Nat.lt_of_lt_of_le hlt hz1) hf2; have e0 := (m2 0).trans k0; have e1 := (m2 1).trans k1; have e2 := (m2 2).trans k2; have eb := j2.c0; have zn := Nat.lt_of_lt_of_le (Nat.lt_of_lt_of_le hlt hz1) z2; have HJ2 := hide j2; have HD2 := hide hd2; have HF2 := hide hf2; clear j2 m2 hd2 hf2))
  all_goals go_wp2_with fail
  all_goals go_region_held (fun w' => w'.cell? ⟨w.heap.size, 0, none⟩ = some (.int .i64 1) ∧ w'.cell? ⟨w.heap.size, 1, none⟩ = some (.int .i64 0) ∧ w'.cell? ⟨w.heap.size, 2, none⟩ = some (.string (bs s))) (first | (refine ⟨?_, ?_, ?_⟩ <;> assumption) | go_keep) (first | (go_at_call 67; (refine (acts_any2 _).mono ?_); rintro e w3 ⟨m3, rfl, hac, hb3⟩; have g0 := (hb3.cell (p := ⟨w.heap.size, 0, none⟩) zn).trans e0; have g1 := (hb3.cell (p := ⟨w.heap.size, 1, none⟩) zn).trans e1; have g2 := (hb3.cell (p := ⟨w.heap.size, 2, none⟩) zn).trans e2; have hlk := look1 _ _ hac; have HB3 := hide (Below.drew (Below.refl w2.heap.size w2) |>.trans hb3); have zn3 := Nat.lt_of_lt_of_le zn hb3.size; clear hb3 hac) | (go_at_call 83; (refine (addRecord_any B D t v o b d s L rv 1 0 _ ((unhide HJ2).later (unhide HB3)) hl).mono ?_); rintro e w4 ⟨rfl, rv', hj4, hm4⟩; have hmc := hm4.cell (N := w.heap.size) zn3 (fun e => by have := (unhide Hj).lt; omega) (fun e => by have := (unhide Hj).rw.lt _ e; omega); have q0 := (hmc 0).trans g0; have q1 := (hmc 1).trans g1; have q2 := (hmc 2).trans g2; have HJ4 := hide hj4; have HM4 := hide hm4; clear hmc hj4 hm4))
  all_goals go_wp2
  all_goals go_ret
  all_goals exact ⟨rfl, keep_end hS hSB hSr (unhide HT) (unhide Hj) (unhide HB1) (unhide HD2) (unhide HF2) (unhide HB3) (unhide HJ4) (unhide HM4)⟩

set_option maxRecDepth 100000 in
set_option maxHeartbeats 4000000 in
theorem keep_first (n : Nat) (B D : Nat) (nf nc sf sc : List UInt8) (t v o b : Nat) (d : List UInt8) (L : List (List UInt8)) (w : World) (h : Jd S w B D nf nc sf sc t v o (b, d, L)) (hS : ∀ k, w.heap.size ≤ k → S k) (hn : n ≤ L.length) (hn2 : n ≤ 1099511627776) (hb : nf.length + (8 + (Ch.first n).enc.length) ≤ 16777216) :
    Calls Try.prog 51 #[.pointer (some ⟨B, 0, none⟩), .agg #[.int .i64 2, .int .i64 n, .string (bs [])]] w fun e w' => e = .returned (.int .i64 0) ∧ Jd S w' B D (nf ++ fr (Ch.first n).enc) nc sf sc t v o (b, d, L.take n) ∧ Fr S w w' := by
  obtain ⟨T, rv, hj, hd, hT, hSB, hSr⟩ := h.begin
  have hb0 : Below w.heap.size w (w.alloc (.cells #[.int .i64 2, .int .i64 n, .string (bs [])] 93)) := below_new w _
  have h0 : (w.alloc (.cells #[.int .i64 2, .int .i64 n, .string (bs [])] 93)).cell? ⟨w.heap.size, 0, none⟩ = some (.int .i64 2) := by simp
  have h1 : (w.alloc (.cells #[.int .i64 2, .int .i64 n, .string (bs [])] 93)).cell? ⟨w.heap.size, 1, none⟩ = some (.int .i64 n) := by simp
  have h2 : (w.alloc (.cells #[.int .i64 2, .int .i64 n, .string (bs [])] 93)).cell? ⟨w.heap.size, 2, none⟩ = some (.string (bs [])) := by simp
  have hlt : w.heap.size < (w.alloc (.cells #[.int .i64 2, .int .i64 n, .string (bs [])] 93)).heap.size := by simp
  have c0 := (hj.later hb0).c0
  have hbl : B < (w.alloc (.cells #[.int .i64 2, .int .i64 n, .string (bs [])] 93)).heap.size := Nat.lt_trans hj.lt hlt
  have Hj := hide hj
  have Hd := hide hd
  have HT := hide hT
  have HB0 := hide hb0
  have Hfit := hide ((Ch.first n).fits ⟨hn2, Nat.zero_le _⟩)
  have hmf : ∀ (fn : Fn) (first cap : Array Value) (w : World), (Instr.makeFunc fn first cap).run Try.prog w = .ok (.func fn first cap) w := fun _ _ _ _ => rfl
  clear hj hd hT hb0 h
  go_enter Try.func51, Try.ntmps51
  go_wp2_with fail
  generalize w.alloc (.cells #[.int .i64 2, .int .i64 n, .string (bs [])] 93) = W at *
  go_region_held (fun w' => w'.cell? ⟨B, 0, none⟩ = some (.pointer (some ⟨D, 0, none⟩)) ∧ w'.cell? ⟨w.heap.size, 0, none⟩ = some (.int .i64 2) ∧ w'.cell? ⟨w.heap.size, 1, none⟩ = some (.int .i64 n) ∧ w'.cell? ⟨w.heap.size, 2, none⟩ = some (.string (bs []))) (first | (refine ⟨?_, ?_, ?_, ?_⟩ <;> assumption) | go_keep)
    (first | (go_at_call 73; refine (bytes_first n _ hn2).mono ?_; rintro e w1 ⟨r1, rfl, ho1, hb1⟩; have k0 := (hb1.cell (p := ⟨w.heap.size, 0, none⟩) hlt).trans h0; have k1 := (hb1.cell (p := ⟨w.heap.size, 1, none⟩) hlt).trans h1; have k2 := (hb1.cell (p := ⟨w.heap.size, 2, none⟩) hlt).trans h2; have kb := (hb1.cell (p := ⟨B, 0, none⟩) hbl).trans c0; have hz1 := hb1.size; have HB1 := hide ((unhide HB0).drew.trans (hb1.mono (Nat.le_of_lt hlt))); have HO1 := hide ho1; clear hb1 ho1) | (go_at_call 56; (refine (framed_app (T := fun k => T k ∨ w1.heap.size ≤ k) D nf nc sf sc _ r1 _ (Dk.mono ((unhide Hd).later (unhide HB1)) (fun k _ e => .inl e)) (fun k hk => .inr hk) (unhide HO1).sl (unhide Hfit) hb).mono ?_); rintro e w2 ⟨rfl, hd2, hf2⟩; obtain ⟨j2, m2, z2⟩ := keep_mid (unhide HT) (unhide Hj) (unhide HB1) (Nat.lt_of_lt_of_le hlt hz1) hf2; have e0 := (m2 0).trans k0; have e1 := (m2 1).trans k1; have e2 := (m2 2).trans k2; have eb := j2.c0; have zn := Nat.lt_of_lt_of_le (Nat.lt_of_lt_of_le hlt hz1) z2; have HJ2 := hide j2; have HD2 := hide hd2; have HF2 := hide hf2; clear j2 m2 hd2 hf2))
  all_goals go_wp2_with fail
  all_goals go_region_held (fun w' => w'.cell? ⟨w.heap.size, 0, none⟩ = some (.int .i64 2) ∧ w'.cell? ⟨w.heap.size, 1, none⟩ = some (.int .i64 n) ∧ w'.cell? ⟨w.heap.size, 2, none⟩ = some (.string (bs []))) (first | (refine ⟨?_, ?_, ?_⟩ <;> assumption) | go_keep) (first | (go_at_call 67; (refine (acts_any2 _).mono ?_); rintro e w3 ⟨m3, rfl, hac, hb3⟩; have g0 := (hb3.cell (p := ⟨w.heap.size, 0, none⟩) zn).trans e0; have g1 := (hb3.cell (p := ⟨w.heap.size, 1, none⟩) zn).trans e1; have g2 := (hb3.cell (p := ⟨w.heap.size, 2, none⟩) zn).trans e2; have hlk := look2 _ _ hac; have HB3 := hide (Below.drew (Below.refl w2.heap.size w2) |>.trans hb3); have zn3 := Nat.lt_of_lt_of_le zn hb3.size; clear hb3 hac) | (go_at_call 84; (refine (keepFirst_yes B D t v o b d L rv 2 n (bs []) _ ((unhide HJ2).later (unhide HB3)) hn).mono ?_); rintro e w4 ⟨rfl, rv', hj4, hm4⟩; have hmc := hm4.cell (N := w.heap.size) zn3 (fun e => by have := (unhide Hj).lt; omega) (fun e => by have := (unhide Hj).rw.lt _ e; omega); have q0 := (hmc 0).trans g0; have q1 := (hmc 1).trans g1; have q2 := (hmc 2).trans g2; have HJ4 := hide hj4; have HM4 := hide hm4; clear hmc hj4 hm4))
  all_goals go_wp2
  all_goals go_ret
  all_goals exact ⟨rfl, keep_end hS hSB hSr (unhide HT) (unhide Hj) (unhide HB1) (unhide HD2) (unhide HF2) (unhide HB3) (unhide HJ4) (unhide HM4)⟩

set_option maxRecDepth 100000 in
set_option maxHeartbeats 4000000 in
theorem keep_lay (n : Nat) (s : List UInt8) (B D : Nat) (nf nc sf sc : List UInt8) (t v o b : Nat) (d : List UInt8) (L : List (List UInt8)) (w : World) (h : Jd S w B D nf nc sf sc t v o (b, d, L)) (hS : ∀ k, w.heap.size ≤ k → S k) (hn : n ≤ 1099511627776) (hs : s.length ≤ 65516) (hb : nf.length + (8 + (Ch.lay n s).enc.length) ≤ 16777216) :
    Calls Try.prog 51 #[.pointer (some ⟨B, 0, none⟩), .agg #[.int .i64 3, .int .i64 n, .string (bs s)]] w fun e w' => e = .returned (.int .i64 0) ∧ Jd S w' B D (nf ++ fr (Ch.lay n s).enc) nc sf sc t v o (n, s, L.drop (goneN b n L.length)) ∧ Fr S w w' := by
  obtain ⟨T, rv, hj, hd, hT, hSB, hSr⟩ := h.begin
  have hb0 : Below w.heap.size w (w.alloc (.cells #[.int .i64 3, .int .i64 n, .string (bs s)] 93)) := below_new w _
  have h0 : (w.alloc (.cells #[.int .i64 3, .int .i64 n, .string (bs s)] 93)).cell? ⟨w.heap.size, 0, none⟩ = some (.int .i64 3) := by simp
  have h1 : (w.alloc (.cells #[.int .i64 3, .int .i64 n, .string (bs s)] 93)).cell? ⟨w.heap.size, 1, none⟩ = some (.int .i64 n) := by simp
  have h2 : (w.alloc (.cells #[.int .i64 3, .int .i64 n, .string (bs s)] 93)).cell? ⟨w.heap.size, 2, none⟩ = some (.string (bs s)) := by simp
  have hlt : w.heap.size < (w.alloc (.cells #[.int .i64 3, .int .i64 n, .string (bs s)] 93)).heap.size := by simp
  have c0 := (hj.later hb0).c0
  have hbl : B < (w.alloc (.cells #[.int .i64 3, .int .i64 n, .string (bs s)] 93)).heap.size := Nat.lt_trans hj.lt hlt
  have Hj := hide hj
  have Hd := hide hd
  have HT := hide hT
  have HB0 := hide hb0
  have Hfit := hide ((Ch.lay n s).fits ⟨hn, hs⟩)
  have hmf : ∀ (fn : Fn) (first cap : Array Value) (w : World), (Instr.makeFunc fn first cap).run Try.prog w = .ok (.func fn first cap) w := fun _ _ _ _ => rfl
  clear hj hd hT hb0 h
  go_enter Try.func51, Try.ntmps51
  go_wp2_with fail
  generalize w.alloc (.cells #[.int .i64 3, .int .i64 n, .string (bs s)] 93) = W at *
  go_region_held (fun w' => w'.cell? ⟨B, 0, none⟩ = some (.pointer (some ⟨D, 0, none⟩)) ∧ w'.cell? ⟨w.heap.size, 0, none⟩ = some (.int .i64 3) ∧ w'.cell? ⟨w.heap.size, 1, none⟩ = some (.int .i64 n) ∧ w'.cell? ⟨w.heap.size, 2, none⟩ = some (.string (bs s))) (first | (refine ⟨?_, ?_, ?_, ?_⟩ <;> assumption) | go_keep)
    (first | (go_at_call 73; refine (bytes_lay n s _ hn hs).mono ?_; rintro e w1 ⟨r1, rfl, ho1, hb1⟩; have k0 := (hb1.cell (p := ⟨w.heap.size, 0, none⟩) hlt).trans h0; have k1 := (hb1.cell (p := ⟨w.heap.size, 1, none⟩) hlt).trans h1; have k2 := (hb1.cell (p := ⟨w.heap.size, 2, none⟩) hlt).trans h2; have kb := (hb1.cell (p := ⟨B, 0, none⟩) hbl).trans c0; have hz1 := hb1.size; have HB1 := hide ((unhide HB0).drew.trans (hb1.mono (Nat.le_of_lt hlt))); have HO1 := hide ho1; clear hb1 ho1) | (go_at_call 56; (refine (framed_app (T := fun k => T k ∨ w1.heap.size ≤ k) D nf nc sf sc _ r1 _ (Dk.mono ((unhide Hd).later (unhide HB1)) (fun k _ e => .inl e)) (fun k hk => .inr hk) (unhide HO1).sl (unhide Hfit) hb).mono ?_); rintro e w2 ⟨rfl, hd2, hf2⟩; obtain ⟨j2, m2, z2⟩ := keep_mid (unhide HT) (unhide Hj) (unhide HB1) (Nat.lt_of_lt_of_le hlt hz1) hf2; have e0 := (m2 0).trans k0; have e1 := (m2 1).trans k1; have e2 := (m2 2).trans k2; have eb := j2.c0; have zn := Nat.lt_of_lt_of_le (Nat.lt_of_lt_of_le hlt hz1) z2; have HJ2 := hide j2; have HD2 := hide hd2; have HF2 := hide hf2; clear j2 m2 hd2 hf2))
  all_goals go_wp2_with fail
  all_goals go_region_held (fun w' => w'.cell? ⟨w.heap.size, 0, none⟩ = some (.int .i64 3) ∧ w'.cell? ⟨w.heap.size, 1, none⟩ = some (.int .i64 n) ∧ w'.cell? ⟨w.heap.size, 2, none⟩ = some (.string (bs s))) (first | (refine ⟨?_, ?_, ?_⟩ <;> assumption) | go_keep) (first | (go_at_call 67; (refine (acts_any2 _).mono ?_); rintro e w3 ⟨m3, rfl, hac, hb3⟩; have g0 := (hb3.cell (p := ⟨w.heap.size, 0, none⟩) zn).trans e0; have g1 := (hb3.cell (p := ⟨w.heap.size, 1, none⟩) zn).trans e1; have g2 := (hb3.cell (p := ⟨w.heap.size, 2, none⟩) zn).trans e2; have hlk := look3 _ _ hac; have HB3 := hide (Below.drew (Below.refl w2.heap.size w2) |>.trans hb3); have zn3 := Nat.lt_of_lt_of_le zn hb3.size; clear hb3 hac) | (go_at_call 85; (refine (layBase_any B D t v o b d s L rv 3 n _ ((unhide HJ2).later (unhide HB3)) hn).mono ?_); rintro e w4 ⟨rfl, rv', hj4, hm4⟩; have hmc := hm4.cell (N := w.heap.size) zn3 (fun e => by have := (unhide Hj).lt; omega) (fun e => by have := (unhide Hj).rw.lt _ e; omega); have q0 := (hmc 0).trans g0; have q1 := (hmc 1).trans g1; have q2 := (hmc 2).trans g2; have HJ4 := hide hj4; have HM4 := hide hm4; clear hmc hj4 hm4))
  all_goals go_wp2
  all_goals go_ret
  all_goals exact ⟨rfl, keep_end hS hSB hSr (unhide HT) (unhide Hj) (unhide HB1) (unhide HD2) (unhide HF2) (unhide HB3) (unhide HJ4) (unhide HM4)⟩

end

end Go.Proofs.Yteanjnkfoddfmaa

namespace Go.Proofs.Yteanjnkfoddfmaa
open Go.RowKit
set_option linter.unusedVariables false

section
set_option maxRecDepth 100000
variable {S : Nat → Prop}

theorem Jd.drewN {w : World} {B D : Nat} {nf nc sf sc : List UInt8} {t v o : Nat} {st : St} (h : Jd S w B D nf nc sf sc t v o st) (q : Nat) : Jd S (w.drewN q) B D nf nc sf sc t v o st := h.later (belowN (Below.refl _ _) q)
theorem Fr.drewN (w : World) (q : Nat) : Fr S w (w.drewN q) := Fr.of (belowN (Below.refl _ _) q)

theorem append_j (B D : Nat) (nf nc sf sc : List UInt8) (t v o b : Nat) (d l : List UInt8) (L : List (List UInt8)) (x : Value) (w : World) (h : Jd S w B D nf nc sf sc t v o (b, d, L)) (hS : ∀ k, w.heap.size ≤ k → S k) (hx : Sl w x l) (hs : l.length ≤ 65516) (hl : L.length < 1099511627776) (hb : nf.length + (8 + (Ch.add l).enc.length) ≤ 16777216) :
    Calls Try.prog 12 #[.pointer (some ⟨B, 0, none⟩), x] w fun e w' => e = .returned (.int .i64 0) ∧ Jd S w' B D (nf ++ fr (Ch.add l).enc) nc sf sc t v o (b, d, L ++ [l]) ∧ Fr S w w' := by
  have hcv := conv_sl w x l hx
  obtain ⟨ao, c, rfl, hc1, hc2, _⟩ := id hx
  have hI : decide ((65516 : Int) < l.length) = false := by simp; omega
  clear hx
  unfold maxLen at hc2
  have H := hide h
  clear h
  go_enter Try.func12, Try.ntmps12
  go_wp2_with fail
  refine (keep_add l B D nf nc sf sc t v o b d L w (unhide H) hS hs hl hb).mono ?_
  rintro e w1 ⟨rfl, h1, h2⟩
  have H1 := hide h1
  have H2 := hide h2
  clear h1 h2
  go_wp2
  go_ret
  exact ⟨rfl, unhide H1, unhide H2⟩

theorem cut_j (B D : Nat) (nf nc sf sc : List UInt8) (t v o b : Nat) (d : List UInt8) (L : List (List UInt8)) (n : Nat) (w : World) (h : Jd S w B D nf nc sf sc t v o (b, d, L)) (hS : ∀ k, w.heap.size ≤ k → S k) (h1 : b ≤ n) (h2 : n ≤ b + L.length) (hb : nf.length + (8 + (Ch.first (n - b)).enc.length) ≤ 16777216) :
    Calls Try.prog 14 #[.pointer (some ⟨B, 0, none⟩), .int .i64 n] w fun e w' => e = .returned (.int .i64 0) ∧ Jd S w' B D (nf ++ fr (Ch.first (n - b)).enc) nc sf sc t v o (b, d, L.take (n - b)) ∧ Fr S w w' := by
  obtain ⟨rv, hj⟩ := h.jp
  have c4 := hj.c4
  have hbb : b ≤ 1099511627776 := hj.hb
  have hll : L.length ≤ 1099511627776 := hj.hl
  have d1 : decide ((n : Int) < b) = false := by simp; omega
  have d2 : decide ((b : Int) + (L.length : Int) < n) = false := by simp; omega
  have he : (n : Int) - (b : Int) = ((n - b : Nat) : Int) := by omega
  have hle : n - b ≤ L.length := by omega
  generalize hg : n - b = g at *
  have H := hide h
  have Hj := hide hj
  clear h hj hg
  go_enter Try.func14, Try.ntmps14
  go_wp2_with fail
  refine (last_any B D t v o b d L rv w (unhide Hj)).mono ?_
  rintro e w1 ⟨rfl, q, rfl⟩
  go_wp2_with fail
  refine (keep_first g B D nf nc sf sc t v o b d L (w.drewN q) ((unhide H).drewN q) hS hle (by omega) hb).mono ?_
  rintro e w1 ⟨rfl, h3, h4⟩
  have H1 := hide h3
  have H2 := hide h4
  clear h3 h4
  go_wp2
  go_ret
  exact ⟨rfl, unhide H1, (Fr.drewN w q).trans (unhide H2)⟩

theorem cut_j_no (B D : Nat) (t v o b : Nat) (d : List UInt8) (L : List (List UInt8)) (n : Int) (rv : Value) (w : World) (hj : Jp w B D t v o (b, d, L) rv) (h1 : n < b ∨ b + L.length < n) :
    Calls Try.prog 14 #[.pointer (some ⟨B, 0, none⟩), .int .i64 n] w fun e w' => e = .returned (.int .i64 71) ∧ Below w.heap.size w w' := by
  have c4 := hj.c4
  have hbb : b ≤ 1099511627776 := hj.hb
  have hll : L.length ≤ 1099511627776 := hj.hl
  have Hj := hide hj
  clear hj
  by_cases h2 : n < b
  · have d1 : decide (n < (b : Int)) = true := by simpa using h2
    clear h1
    go_enter Try.func14, Try.ntmps14
    go_wp2
    go_ret
    exact ⟨rfl, Below.refl _ _⟩
  · have d1 : decide (n < (b : Int)) = false := by simpa using h2
    have d2 : decide ((b : Int) + (L.length : Int) < n) = true := by simp; omega
    clear h1
    go_enter Try.func14, Try.ntmps14
    go_wp2_with fail
    refine (last_any B D t v o b d L rv w (unhide Hj)).mono ?_
    rintro e w1 ⟨rfl, q, rfl⟩
    go_wp2
    go_ret
    exact ⟨rfl, belowN (Below.refl _ _) q⟩

theorem mayBe_any (n : Int) (w : World) : Calls Try.prog 55 #[.int .i64 n] w fun e w' => e = .returned (.bool (decide (0 ≤ n) && decide (n ≤ 1099511627776))) ∧ w' = w := by
  by_cases h : 0 ≤ n
  · have d1 : decide (0 ≤ n) = true := by simpa using h
    go_enter Try.func55, Try.ntmps55
    go_wp2
    go_ret
    exact ⟨by simp [d1], rfl⟩
  · have d1 : decide (0 ≤ n) = false := by simpa using h
    go_enter Try.func55, Try.ntmps55
    go_wp2
    go_ret
    exact ⟨by simp, rfl⟩

theorem mayBe_yes (n : Nat) (hn : n ≤ 1099511627776) (w : World) : Calls Try.prog 55 #[.int .i64 n] w fun e w' => e = .returned (.bool true) ∧ w' = w := by
  refine (mayBe_any n w).mono ?_
  rintro e w' ⟨rfl, rfl⟩
  refine ⟨ret_bool ?_, rfl⟩
  simp; omega
theorem mayBe_no (n : Int) (hn : n < 0 ∨ 1099511627776 < n) (w : World) : Calls Try.prog 55 #[.int .i64 n] w fun e w' => e = .returned (.bool false) ∧ w' = w := by
  refine (mayBe_any n w).mono ?_
  rintro e w' ⟨rfl, rfl⟩
  refine ⟨ret_bool ?_, rfl⟩
  simp; omega

theorem rebase_j (B D : Nat) (nf nc sf sc : List UInt8) (t v o b : Nat) (d l : List UInt8) (L : List (List UInt8)) (n : Nat) (x : Value) (w : World) (h : Jd S w B D nf nc sf sc t v o (b, d, L)) (hS : ∀ k, w.heap.size ≤ k → S k) (hx : Sl w x l) (hs : l.length ≤ 65516) (hn : n ≤ 1099511627776) (hb : nf.length + (8 + (Ch.lay n l).enc.length) ≤ 16777216) :
    Calls Try.prog 16 #[.pointer (some ⟨B, 0, none⟩), .int .i64 n, x] w fun e w' => e = .returned (.int .i64 0) ∧ Jd S w' B D (nf ++ fr (Ch.lay n l).enc) nc sf sc t v o (n, l, L.drop (goneN b n L.length)) ∧ Fr S w w' := by
  have hcv := conv_sl w x l hx
  obtain ⟨ao, c, rfl, hc1, hc2, _⟩ := id hx
  have hI : decide ((65516 : Int) < l.length) = false := by simp; omega
  clear hx
  unfold maxLen at hc2
  have H := hide h
  clear h
  go_enter Try.func16, Try.ntmps16
  go_wp2_with fail
  refine (mayBe_yes n hn w).mono ?_
  rintro e w1 ⟨rfl, rfl⟩
  go_wp2_with fail
  refine (keep_lay n l B D nf nc sf sc t v o b d L _ (unhide H) hS hn hs hb).mono ?_
  rintro e w1 ⟨rfl, h1, h2⟩
  have H1 := hide h1
  have H2 := hide h2
  clear h1 h2
  go_wp2
  go_ret
  exact ⟨rfl, unhide H1, unhide H2⟩

theorem rebase_j_no (B : Nat) (n : Int) (x : Value) (w : World) (hn : n < 0 ∨ 1099511627776 < n) :
    Calls Try.prog 16 #[.pointer (some ⟨B, 0, none⟩), .int .i64 n, x] w fun e w' => e = .returned (.int .i64 71) ∧ w' = w := by
  go_enter Try.func16, Try.ntmps16
  go_wp2_with fail
  refine (mayBe_no n hn w).mono ?_
  rintro e w1 ⟨rfl, rfl⟩
  go_wp2
  go_ret
  exact ⟨rfl, rfl⟩

theorem sync_j (B D : Nat) (nf nc sf sc : List UInt8) (t v o : Nat) (st : St) (w : World) (h : Jd S w B D nf nc sf sc t v o st) :
    Calls Try.prog 21 #[.pointer (some ⟨B, 0, none⟩)] w fun e w' => e = .returned (.int .i64 0) ∧ Jd S w' B D nf nc nf nc t v o st ∧ Fr S w w' := by
  obtain ⟨T, rv, hj, hd, hT, hSB, hSr⟩ := h.begin
  have c0 := hj.c0
  have Hj := hide hj
  have Hd := hide hd
  have HT := hide hT
  clear hj hd hT h
  go_enter Try.func21, Try.ntmps21
  go_wp2_with fail
  refine (sync_ok D nf nc sf sc w (unhide Hd)).mono ?_
  rintro e w1 ⟨rfl, h1, h2⟩
  have H1 := hide h1
  have H2 := hide h2
  clear h1 h2
  go_wp2
  go_ret
  refine ⟨rfl, ⟨T, rv, (unhide Hj).other (unhide H2) (fun k _ hx ht => ?_), unhide H1, fun k _ ht => (unhide HT k ht).2, hSB, hSr⟩, (unhide H2).mono (fun k _ ht => (unhide HT k ht).2.1)⟩
  have := unhide HT k ht
  rcases hx with e | e
  · exact this.2.2.1 e
  · exact this.2.2.2 e

theorem results_h1 {fn : Func} {k : Nat} (hf : fn.results = #[.cell k 43]) {tmps : Array Value} {w : World} {B : Nat} {a b c : Value} (hk : tmps[k]? = some (.pointer (some ⟨B, 0, none⟩)))
    (h0 : w.cell? ⟨B, 0, none⟩ = some a) (h1 : w.cell? ⟨B, 1, none⟩ = some b) (h2 : w.cell? ⟨B, 2, none⟩ = some c) : (results fn tmps).run Try.prog w = .ok (.agg #[a, b, c]) w := by
  simp [results, hf, go_sem, h0, h1, h2, hk]
theorem results_h2 {fn : Func} {k u : Nat} (hf : fn.results = #[.cell k 43, .tmp u]) {tmps : Array Value} {w : World} {B : Nat} {a b c e : Value} (hk : tmps[k]? = some (.pointer (some ⟨B, 0, none⟩))) (hu : tmps[u]? = some e)
    (h0 : w.cell? ⟨B, 0, none⟩ = some a) (h1 : w.cell? ⟨B, 1, none⟩ = some b) (h2 : w.cell? ⟨B, 2, none⟩ = some c) : (results fn tmps).run Try.prog w = .ok (.tuple #[.agg #[a, b, c], e]) w := by
  simp [results, hf, go_sem, h0, h1, h2, hk, hu]
theorem results_c2 {fn : Func} {k u : Nat} (hf : fn.results = #[.cell k 93, .tmp u]) {tmps : Array Value} {w : World} {B : Nat} {a b c e : Value} (hk : tmps[k]? = some (.pointer (some ⟨B, 0, none⟩))) (hu : tmps[u]? = some e)
    (h0 : w.cell? ⟨B, 0, none⟩ = some a) (h1 : w.cell? ⟨B, 1, none⟩ = some b) (h2 : w.cell? ⟨B, 2, none⟩ = some c) : (results fn tmps).run Try.prog w = .ok (.tuple #[.agg #[a, b, c], e]) w := by
  simp [results, hf, go_sem, h0, h1, h2, hk, hu]

theorem set3 (w : World) (B : Nat) (x0 y0 z0 x y z : Value) (h0 : w.cell? ⟨B, 0, none⟩ = some x0) (h1 : w.cell? ⟨B, 1, none⟩ = some y0) (h2 : w.cell? ⟨B, 2, none⟩ = some z0) :
    (((w.setCell ⟨B, 0, none⟩ x).setCell ⟨B, 1, none⟩ y).setCell ⟨B, 2, none⟩ z).cell? ⟨B, 0, none⟩ = some x ∧ (((w.setCell ⟨B, 0, none⟩ x).setCell ⟨B, 1, none⟩ y).setCell ⟨B, 2, none⟩ z).cell? ⟨B, 1, none⟩ = some y ∧ (((w.setCell ⟨B, 0, none⟩ x).setCell ⟨B, 1, none⟩ y).setCell ⟨B, 2, none⟩ z).cell? ⟨B, 2, none⟩ = some z := by
  have a0 : (w.setCell ⟨B, 0, none⟩ x).cell? ⟨B, 0, none⟩ = some x := World.cell?_setCell_same w _ _ h0
  have a1 : (w.setCell ⟨B, 0, none⟩ x).cell? ⟨B, 1, none⟩ = some y0 := (World.cell?_setCell_other w _ _ _ (by simp)).trans h1
  have a2 : (w.setCell ⟨B, 0, none⟩ x).cell? ⟨B, 2, none⟩ = some z0 := (World.cell?_setCell_other w _ _ _ (by simp)).trans h2
  have b0 : ((w.setCell ⟨B, 0, none⟩ x).setCell ⟨B, 1, none⟩ y).cell? ⟨B, 0, none⟩ = some x := (World.cell?_setCell_other _ _ _ _ (by simp)).trans a0
  have b1 : ((w.setCell ⟨B, 0, none⟩ x).setCell ⟨B, 1, none⟩ y).cell? ⟨B, 1, none⟩ = some y := World.cell?_setCell_same _ _ _ a1
  have b2 : ((w.setCell ⟨B, 0, none⟩ x).setCell ⟨B, 1, none⟩ y).cell? ⟨B, 2, none⟩ = some z0 := (World.cell?_setCell_other _ _ _ _ (by simp)).trans a2
  exact ⟨(World.cell?_setCell_other _ _ _ _ (by simp)).trans b0, (World.cell?_setCell_other _ _ _ _ (by simp)).trans b1, World.cell?_setCell_same _ _ _ b2⟩

theorem hard_any (B D t v o : Nat) (st : St) (rv : Value) (w : World) (h : Jp w B D t v o st rv) :
    Calls Try.prog 33 #[.pointer (some ⟨B, 0, none⟩)] w fun e w' => e = .returned (.agg #[.int .i64 t, .int .i64 v, .int .i64 o]) ∧ Below w.heap.size w w' := by
  have hb0 : Below w.heap.size w (w.alloc (.cells #[.int .i64 0, .int .i64 0, .int .i64 0] 43)) := below_new w _
  have c1 := (h.later hb0).c1
  have c2 := (h.later hb0).c2
  have c3 := (h.later hb0).c3
  clear h
  go_enter Try.func33, Try.ntmps33
  go_wp2
  refine bodyPost_ret (results_h1 (a := .int .i64 t) (b := .int .i64 v) (c := .int .i64 o) Try.results33 rfl (by simp) (by simp) (by simp)) rfl ?_
  exact ⟨rfl, below_new _ _⟩

end

end Go.Proofs.Yteanjnkfoddfmaa
