/-
  What a crash leaves of a file that the journal's own changes have made: the changes up to some moment since the last Sync. Of no program. No law is proved here.
  A journal beside what the law JournalOutlives keeps of it: a row of what it had, and hard numbers. No law is proved here.
-/
import Derived.Test.YteanjnkfoddfmaaJ7
namespace Go.Proofs.Yteanjnkfoddfmaa
open Go.RowKit
set_option linter.unusedVariables false

theorem total_append (a b : List (List UInt8)) : total (a ++ b) = total a + total b := by simp [total]

theorem cut_in : ∀ (rs : List (List UInt8)) (k : Nat), 0 < k → k ≤ total rs → ∃ p x q n, rs = p ++ x :: q ∧ k = total p + n ∧ 0 < n ∧ n ≤ 8 + x.length
  | [], k, h0, h => by simp [total] at h; omega
  | x :: rs, k, h0, h => by
    by_cases hx : k ≤ 8 + x.length
    · exact ⟨[], x, rs, k, rfl, by simp [total], h0, hx⟩
    · rw [total_cons] at h
      obtain ⟨p, y, q, n, rfl, h2, h3, h4⟩ := cut_in rs (k - (8 + x.length)) (by omega) (by omega)
      exact ⟨x :: p, y, q, n, rfl, by rw [total_cons]; omega, h3, h4⟩

theorem cut_out (rs : List (List UInt8)) (k : Nat) (h : k ≤ total rs) : ∃ p q n, rs = p ++ q ∧ k = total p + n ∧ (n = 0 ∨ ∃ x q', q = x :: q' ∧ n < 8 + x.length) := by
  rcases Nat.eq_zero_or_pos k with h0 | h0
  · exact ⟨[], rs, 0, rfl, by simp [total, h0], .inl rfl⟩
  · obtain ⟨p, x, q, n, rfl, h2, h3, h4⟩ := cut_in rs k h0 h
    by_cases hn : n < 8 + x.length
    · exact ⟨p, x :: q, n, rfl, h2, .inr ⟨x, q, rfl, hn⟩⟩
    · exact ⟨p ++ [x], q, 0, by simp, by rw [total_snoc]; omega, .inl rfl⟩

theorem frs_take (p q : List (List UInt8)) (n : Nat) : (frs (p ++ q)).take (total p + n) = frs p ++ (frs q).take n := by
  rw [frs_append, ← frs_length, List.take_length_add_append]

theorem frs_take_one (x : List UInt8) (q : List (List UInt8)) (n : Nat) (h : n ≤ 8 + x.length) : (frs (x :: q)).take n = (fr x).take n := by
  rw [frs_cons, List.take_append_of_le_length (by rw [fr_length]; exact h)]

theorem flp_append (a t : List UInt8) (h : 0 < t.length) : flp (a ++ t) = a ++ flp t := by
  unfold flp
  have e : (a ++ t).length - 1 = a.length + (t.length - 1) := by rw [List.length_append]; omega
  rw [e, List.set_append_right _ _ (by omega), show a.length + (t.length - 1) - a.length = t.length - 1 by omega]
  congr 3
  simp only [List.getD_eq_getElem?_getD]
  rw [List.getElem?_append_right (by omega), show a.length + (t.length - 1) - a.length = t.length - 1 by omega]

theorem crc_flp {x : List UInt8} (h : 0 < x.length) : crc (flp x) ≠ crc x := by
  have hk : x.length - 1 < x.length := by omega
  have e : flp x = x.set (x.length - 1) (x[x.length - 1] ^^^ UInt8.ofNat (2 ^ 0)) := by
    unfold flp
    rw [List.getD_eq_getElem?_getD, List.getElem?_eq_getElem hk]
    rfl
  rw [e]
  refine crc_turned (by rw [List.length_set]) 1 (8 * (x.length - 1)) (by decide) (by decide) (by omega) ?_
  rw [num_set x (x.length - 1) 0 hk (by decide)]
  simp

theorem fr_take8 (x : List UInt8) (n : Nat) (h : 8 ≤ n) : (fr x).take n = four x.length ++ (four (crc x) ++ x.take (n - 8)) := by
  obtain ⟨k, rfl⟩ : ∃ k, n = 4 + (4 + k) := ⟨n - 8, by omega⟩
  unfold fr
  rw [show 4 + (4 + k) = (four x.length).length + (4 + k) from rfl, List.take_length_add_append, show 4 + k = (four (crc x)).length + k from rfl, List.take_length_add_append]
  congr 3
  simp [four]
  omega

/-- A frame, or its beginning, whose last byte is turned is none. -/
theorem fst_flp {x : List UInt8} (hx : Fits x) {n : Nat} (h0 : 0 < n) (h1 : n ≤ 8 + x.length) : fst (flp ((fr x).take n)) = none := by
  have hl : ((fr x).take n).length = n := by rw [List.length_take, fr_length]; omega
  by_cases h8 : n ≤ 8
  · exact fst_short (by rw [flp_length, hl]; exact h8)
  · rw [fr_take8 x n (by omega), flp_append _ _ (by simp [four]), flp_append _ _ (by rw [List.length_take]; have := hx.1; omega)]
    by_cases hn : n = 8 + x.length
    · have e : x.take (n - 8) = x := List.take_of_length_le (by omega)
      rw [e]
      have := fst_bad (x := x) (y := flp x) (flp_length x) (crc_flp hx.1) hx.2 []
      rwa [List.append_nil] at this
    · have hl2 : (four x.length ++ (four (crc x) ++ flp (x.take (n - 8)))).length = n := by
        simp only [List.length_append, flp_length, List.length_take, four, List.length_cons, List.length_nil]
        omega
      unfold fst
      rw [of4_four (by have := hx.2; omega), hl2, if_neg]
      rintro ⟨-, -, -, h5, -⟩
      omega

/-- What a crash leaves is scanned as the safe records, and some first ones of those behind them. -/
theorem left_scans (rs0 rs1 : List (List UInt8)) (h : ∀ x ∈ rs0 ++ rs1, Fits x) (keep : Int) (torn : Bool) : ∃ p, p <+: rs1 ∧ Scans (left (frs rs0) (frs (rs0 ++ rs1)) keep torn) (rs0 ++ p) := by
  rw [frs_append]
  obtain ⟨k, hk, hL⟩ := left_safe (frs rs0) (frs rs1) keep torn
  rw [frs_length] at hk
  rcases hL with ⟨hL, -⟩ | ⟨-, h0, hL⟩
  · obtain ⟨p, q, n, rfl, rfl, hn⟩ := cut_out rs1 k hk
    refine ⟨p, List.prefix_append p q, ?_⟩
    rw [hL, frs_take, ← List.append_assoc, ← frs_append]
    refine Scans.frames _ (fun x hx => h x ?_) ?_
    · rcases List.mem_append.1 hx with e | e
      · simp [e]
      · simp [e]
    · rcases hn with rfl | ⟨x, q', rfl, hn⟩
      · exact fst_short (by simp)
      · rw [frs_take_one x q' n (by omega)]
        exact fst_cut (h x (by simp)).2 hn
  · obtain ⟨p, x, q, n, rfl, rfl, hn0, hn1⟩ := cut_in rs1 k h0 hk
    refine ⟨p, List.prefix_append p _, ?_⟩
    rw [hL, frs_take, frs_take_one x q n hn1, ← List.append_assoc, ← frs_append, flp_append _ _ (by rw [List.length_take, fr_length]; omega)]
    refine Scans.frames _ (fun y hy => h y ?_) (fst_flp (h x (by simp)) hn0 hn1)
    rcases List.mem_append.1 hy with e | e
    · simp [e]
    · simp [e]

/-- The safe file, the file, what the journal had since the last Sync, what it has. -/
def Past (sf nf : List UInt8) (sts : List St) (st : St) : Prop :=
  ∃ rs0 rs1, sf = frs rs0 ∧ nf = frs (rs0 ++ rs1) ∧ (∀ x ∈ rs0 ++ rs1, Fits x) ∧ runs (rs0 ++ rs1) (0, [], []) = some st ∧ ∀ p, p <+: rs1 → ∃ s, s ∈ sts ∧ runs (rs0 ++ p) (0, [], []) = some s

theorem Past.nil : Past [] [] [(0, [], [])] (0, [], []) :=
  ⟨[], [], rfl, rfl, fun x hx => by simp at hx, rfl, fun p hp => ⟨(0, [], []), by simp, by rw [List.prefix_nil.1 hp]; rfl⟩⟩

theorem Past.mono {sf nf : List UInt8} {sts sts' : List St} {st : St} (h : Past sf nf sts st) (hs : ∀ s ∈ sts, s ∈ sts') : Past sf nf sts' st := by
  obtain ⟨rs0, rs1, h1, h2, h3, h4, h5⟩ := h
  refine ⟨rs0, rs1, h1, h2, h3, h4, fun p hp => ?_⟩
  obtain ⟨s, k1, k2⟩ := h5 p hp
  exact ⟨s, hs s k1, k2⟩

theorem Past.stay {sf nf : List UInt8} {sts : List St} {st : St} (h : Past sf nf sts st) : Past sf nf (sts ++ [st]) st := h.mono fun s hs => by simp [hs]

theorem Past.snoc {sf nf : List UInt8} {sts : List St} {st st' : St} (h : Past sf nf sts st) {c : Ch} (hc : c.Good) (hg : c.go st = some st') : Past sf (nf ++ fr c.enc) (sts ++ [st']) st' := by
  obtain ⟨rs0, rs1, h1, rfl, h3, h4, h5⟩ := h
  have hr : runs (rs0 ++ (rs1 ++ [c.enc])) (0, [], []) = some st' := by
    rw [← List.append_assoc, runs_snoc, h4]
    show one c.enc st = some st'
    rw [one_some (chOf_enc c hc)]
    exact hg
  refine ⟨rs0, rs1 ++ [c.enc], h1, by rw [← List.append_assoc, frs_snoc], fun x hx => ?_, hr, fun p hp => ?_⟩
  · rw [← List.append_assoc] at hx
    rcases List.mem_append.1 hx with e | e
    · exact h3 x e
    · simp at e; subst e; exact c.fits hc
  · rcases List.prefix_concat_iff.1 hp with rfl | hp
    · exact ⟨st', by simp, hr⟩
    · obtain ⟨s, k1, k2⟩ := h5 p hp
      exact ⟨s, by simp [k1], k2⟩

theorem Past.sync {sf nf : List UInt8} {sts : List St} {st : St} (h : Past sf nf sts st) : Past nf nf [st] st := by
  obtain ⟨rs0, rs1, h1, h2, h3, h4, h5⟩ := h
  refine ⟨rs0 ++ rs1, [], h2, by rw [List.append_nil]; exact h2, by rw [List.append_nil]; exact h3, by rw [List.append_nil]; exact h4, fun p hp => ⟨st, by simp, ?_⟩⟩
  rw [List.prefix_nil.1 hp, List.append_nil]
  exact h4

theorem Past.opens {sf nf : List UInt8} {sts : List St} {st : St} (h : Past sf nf sts st) (keep : Int) (torn : Bool) : ∃ s n, s ∈ sts ∧ Opens (left sf nf keep torn) s n := by
  obtain ⟨rs0, rs1, rfl, rfl, h3, h4, h5⟩ := h
  obtain ⟨p, hp, hs⟩ := left_scans rs0 rs1 h3 keep torn
  obtain ⟨s, k1, k2⟩ := h5 p hp
  exact ⟨s, total (rs0 ++ p), k1, rs0 ++ p, hs, runs_plays _ _ _ k2⟩

end Go.Proofs.Yteanjnkfoddfmaa

namespace Go.Proofs.Yteanjnkfoddfmaa
open Go.RowKit
set_option linter.unusedVariables false

theorem row_kept {B : Nat} {w w' : World} {e : TypeId} {size : Nat} {v : Value} {n : Nat} {xs : List Value} (h : w.ownsRow B e size v n xs) (hs : w.heap.size ≤ w'.heap.size) (hb : ∀ g, v.ownBlock = some g → w'.heap[g]? = w.heap[g]?) : w'.ownsRow B e size v n xs := by
  refine ⟨h.1, ?_⟩
  rcases h.2 with h0 | ⟨g, cap, cur, rfl, h1, hg, rest⟩
  · exact .inl h0
  · exact .inr ⟨g, cap, cur, rfl, h1, (hb g rfl).trans hg, rest⟩

/-- append onto a row of the call's own: where the answer lies. -/
theorem append_row (w : World) (B : Nat) (hB : B ≤ w.heap.size) (t e : TypeId) (i : TypeInfo) (z : Value) (size bytes : Nat) (ht : Try.prog.underlying t = some (.slice e)) (hi : Try.prog.info? e = some i) (hz : i.zero = some z)
    (hsize : i.size = size) (hby : i.bytes = bytes) (hzs : z.cells.size = size) (hsz : 0 < size)
    (v : Value) (n : Nat) (xs : List Value) (h : w.ownsRow B e size v n xs) (a : Addr) (m c : Nat) (hm : 0 < m) (news : List Value) (hl : news.length = m * size) (hc : ∀ j u, news[j]? = some u → w.cell? (a.add j) = some u) (h1 : ∀ u ∈ news, u.oneCell' = true)
    (h63 : n + m ≤ maxLen) (hbytes : (n + m) * bytes ≤ 140737488355328) (ty : TypeId) :
    ∃ v' w', (Builtin.append_ #[t, t] ty #[v, .slice (some a) m c]).run Try.prog w = .ok v' w' ∧ w'.ownsRow B e size v' (n + m) (xs ++ news) ∧ w.grownBy w' v.ownBlock ∧
      (v'.ownBlock = v.ownBlock ∨ ∀ g, v'.ownBlock = some g → w.heap.size ≤ g) := by
  obtain ⟨v', w', hr, h2, h3, _⟩ := run_append_own (P := Try.prog) w B t ty e i z size bytes ht hi hz hsize hby hzs hsz v n xs h a m c news hl hc h1 h63 hbytes hB
  refine ⟨v', w', hr, h2, h3, ?_⟩
  rcases h.2 with ⟨rfl, h0⟩ | ⟨g, cap, cur, rfl, hbg, hg, hnc, hcm, hcs, htake⟩
  · subst h0
    have hx : xs = [] := List.eq_nil_of_length_eq_zero (by have := h.1; simpa using this)
    subst hx
    obtain ⟨v2, w2, hr2, h22, _, _⟩ := run_append_own (P := Try.prog) w w.heap.size t ty e i z size bytes ht hi hz hsize hby hzs hsz (.slice none 0 0) 0 [] (World.ownsRow_nil w _ _ _) a m c news hl hc h1 h63 hbytes (Nat.le_refl _)
    rw [hr] at hr2
    injection hr2 with e1 e2
    subst e1 e2
    exact .inr fun g hg => (World.ownsRow.lt h22 g hg).1
  · by_cases hroom : n + m ≤ cap
    · have hfit : n * i.size + news.length ≤ cur.size := by rw [hsize, hl, hcs, ← Nat.add_mul]; exact Nat.mul_le_mul_right _ hroom
      have hr2 := run_append_room (P := Try.prog) w t ty e i ht hi g n cap cur hg a m c news (by rw [hsize]; exact hl) hc h1 hroom hfit
      rw [hr] at hr2
      injection hr2 with e1 e2
      subst e1
      exact .inl rfl
    · have holds := World.ownsRow.cells h (g := g) rfl
      obtain ⟨v2, w2, hr2, h22, _⟩ := run_append_arg_grows (P := Try.prog) w t ty e i z size bytes ht hi hz hsize hby hzs hsz ⟨g, 0, none⟩ n cap xs h.1 holds a m c news hl hc (by omega) h63 hbytes
      rw [hr] at hr2
      injection hr2 with e1 e2
      subst e1 e2
      exact .inr fun g hg => (World.ownsRow.lt h22 g hg).1

theorem Try.infoWas : (Try.prog.info? 56).map (fun i => (i.zero, i.size, i.bytes)) = some (some (.agg #[.int .i64 0, .string ⟨#[]⟩, .slice none 0 0]), 3, 48) := by kernel_rfl

/-- What a journal had: its state, and the block of its records. -/
abbrev WasR := St × Nat
def WasR.v (r : WasR) : Value := .slice (some ⟨r.2, 0, none⟩) r.1.2.2.length r.1.2.2.length
def WasR.cells (r : WasR) : List Value := [.int .i64 r.1.1, .string (bs r.1.2.1), r.v]
def wasRow (rs : List WasR) : List Value := rs.flatMap WasR.cells

theorem wasRow_length (rs : List WasR) : (wasRow rs).length = rs.length * 3 := by
  induction rs with
  | nil => rfl
  | cons r rs ih => unfold wasRow at *; rw [List.flatMap_cons, List.length_append, ih, List.length_cons]; simp [WasR.cells]; omega

theorem wasRow_get : ∀ (rs : List WasR) (i : Nat) (h : i < rs.length) (j : Nat), j < 3 → (wasRow rs)[i * 3 + j]? = rs[i].cells[j]?
  | r :: rs, 0, _, j, hj => by
    unfold wasRow
    rw [List.flatMap_cons, List.getElem?_append_left (by simp [WasR.cells]; omega)]
    simp
  | r :: rs, i + 1, h, j, hj => by
    have := wasRow_get rs i (by simpa using h) j hj
    unfold wasRow at *
    rw [List.flatMap_cons, List.getElem?_append_right (by simp [WasR.cells]; omega)]
    simp only [List.getElem_cons_succ]
    rw [← this]
    congr 1
    simp [WasR.cells]
    omega

theorem was_one (r : WasR) : ∀ u ∈ wasRow [r], u.oneCell' = true := by
  intro u hu
  simp [wasRow, WasR.cells, WasR.v] at hu
  rcases hu with rfl | rfl | rfl <;> rfl

section
variable {w W W' : World} {P : Nat → Prop} {B D : Nat} {nf nc sf sc : List UInt8} {t v o : Nat} {st : St}

/-- Memory beside it is written, or is new. -/
theorem Side.swap (h : Side w P W B D nf nc sf sc t v o st) {T : Nat → Prop} (hf : Fr T W W') (hT : ∀ k, T k → P k ∧ w.heap.size ≤ k) {P' : Nat → Prop} (hP : ∀ k, P' k → (P k ∨ W.heap.size ≤ k) ∧ k < W'.heap.size) : Side w P' W' B D nf nc sf sc t v o st := by
  obtain ⟨S, h1, h2, h3, h4, h5⟩ := h
  refine ⟨fun k => S k ∧ k < W.heap.size, h1.shrink.other hf (fun k _ hs ht => h3 k (hT k ht).1 hs.1), fun k hk => h2 k hk.1, fun k hk hs => ?_, fun k hk => (hP k hk).2, Fr.bl h5 hf fun k hk => (hT k hk).2⟩
  rcases (hP k hk).1 with e | e
  · exact h3 k e hs.1
  · have := hs.2; omega
end

/-- Three numbers in block H, which may be written. -/
structure Hd3 (W : World) (H : Nat) (a b c : Int) : Prop where
  c0 : W.cell? ⟨H, 0, none⟩ = some (.int .i64 a)
  c1 : W.cell? ⟨H, 1, none⟩ = some (.int .i64 b)
  c2 : W.cell? ⟨H, 2, none⟩ = some (.int .i64 c)
  f : ∀ j, W.frozen? ⟨H, j, none⟩ = false

theorem Hd3.frame {W W' : World} {H : Nat} {a b c : Int} (h : Hd3 W H a b c) (hk : W'.heap[H]? = W.heap[H]?) : Hd3 W' H a b c :=
  ⟨(World.cell?_of_block (w := W) hk).trans h.c0, (World.cell?_of_block (w := W) hk).trans h.c1, (World.cell?_of_block (w := W) hk).trans h.c2, fun j => (World.frozen?_of_block (w := W) hk).trans (h.f j)⟩

/-- The journal, and what the law keeps. -/
structure Ou (w : World) (H B D : Nat) (W : World) (Q : Nat → Prop) (x : Jst) (wv : Value) (rs : List WasR) (a b c : Nat) : Prop where
  side : Side w (fun k => Q k ∨ k = H ∨ wv.ownBlock = some k) W B D x.nf x.nc x.sf x.sc x.t x.v x.o x.st
  row : W.ownsRow w.heap.size 56 3 wv rs.length (wasRow rs)
  each : ∀ r ∈ rs, Bsq Q W r.v r.1.2.2
  hd : Hd3 W H a b c
  hq : ¬ Q H
  hr : wv.ownBlock ≠ some H
  rq : ∀ g, wv.ownBlock = some g → ¬ Q g
  lo : w.heap.size ≤ H

section
variable {w W W' : World} {H B D : Nat} {Q : Nat → Prop} {x : Jst} {wv : Value} {rs : List WasR} {a b c : Nat}

theorem Ou.plt (h : Ou w H B D W Q x wv rs a b c) {k : Nat} (hk : Q k ∨ k = H ∨ wv.ownBlock = some k) : k < W.heap.size := h.side.plt k hk

/-- All that the law keeps is as it was. -/
theorem Ou.side' (h : Ou w H B D W Q x wv rs a b c) {x' : Jst} (hs : Side w (fun k => Q k ∨ k = H ∨ wv.ownBlock = some k) W' B D x'.nf x'.nc x'.sf x'.sc x'.t x'.v x'.o x'.st) (hsz : W.heap.size ≤ W'.heap.size) (hk : Kept (fun k => Q k ∨ k = H ∨ wv.ownBlock = some k) W W') : Ou w H B D W' Q x' wv rs a b c :=
  ⟨hs, row_kept h.row hsz (fun g hg => hk g (.inr (.inr hg))), fun r hr => (h.each r hr).frame fun k hq => hk k (.inl hq), h.hd.frame (hk H (.inr (.inl rfl))), h.hq, h.hr, h.rq, h.lo⟩

theorem Ou.later (h : Ou w H B D W Q x wv rs a b c) (hb : Below W.heap.size W W') : Ou w H B D W' Q x wv rs a b c :=
  h.side' (h.side.later hb) hb.size fun k hk => hb.block k (h.plt hk)

theorem Ou.op {F : Nat} {args : Array Value} {r : Ending} {x' : Jst} (h : Ou w H B D W Q x wv rs a b c)
    (hc : ∀ S, Jd S W B D x.nf x.nc x.sf x.sc x.t x.v x.o x.st → (∀ k, W.heap.size ≤ k → S k) → Calls Try.prog F args W fun e w' => e = r ∧ Jd S w' B D x'.nf x'.nc x'.sf x'.sc x'.t x'.v x'.o x'.st ∧ Fr S W w') :
    Calls Try.prog F args W fun e w' => e = r ∧ Ou w H B D w' Q x' wv rs a b c ∧ Kept Q W w' := by
  have hsz : Calls Try.prog F args W fun e w' => (e = r ∧ Side w (fun k => Q k ∨ k = H ∨ wv.ownBlock = some k) w' B D x'.nf x'.nc x'.sf x'.sc x'.t x'.v x'.o x'.st ∧ Kept (fun k => Q k ∨ k = H ∨ wv.ownBlock = some k) W w') ∧ W.heap.size ≤ w'.heap.size := by
    obtain ⟨S, h1, h2, h3, h4, h5⟩ := h.side
    have hj := Jd.ready h1 (Below.refl _ W)
    have hS : ∀ k, (S k ∧ k < W.heap.size) ∨ W.heap.size ≤ k → w.heap.size ≤ k := fun k hk => hk.elim (fun h => h2 k h.1) (fun h => Nat.le_trans h5.size h)
    have hP : ∀ k, (Q k ∨ k = H ∨ wv.ownBlock = some k) → ¬ ((S k ∧ k < W.heap.size) ∨ W.heap.size ≤ k) := fun k hk hs => hs.elim (fun h => h3 k hk h.1) (fun h => by have := h4 k hk; omega)
    refine (hc _ hj (fun k hk => .inr hk)).mono ?_
    rintro e w' ⟨rfl, hj', hf'⟩
    exact ⟨⟨rfl, ⟨_, hj', hS, hP, fun k hk => Nat.lt_of_lt_of_le (h4 k hk) hf'.size, Fr.bl h5 hf' hS⟩, fun k hk => hf'.block k (h4 k hk) (hP k hk)⟩, hf'.size⟩
  refine hsz.mono ?_
  rintro e w' ⟨⟨rfl, hs, hk⟩, hz⟩
  exact ⟨rfl, h.side' hs hz hk, fun k hq => hk k (.inl hq)⟩

/-- What was laid since stays, too. -/
theorem Ou.grow (h : Ou w H B D W Q x wv rs a b c) (hb : Below W.heap.size W W') : Ou w H B D W' (fun k => Q k ∨ (W.heap.size ≤ k ∧ k < W'.heap.size)) x wv rs a b c := by
  have hl := h.later hb
  refine ⟨h.side.swap (T := fun _ => False) ⟨hb.os, hb.tape, hb.output, hb.size, fun k hk _ => hb.block k hk⟩ (fun k hk => hk.elim) (fun k hk => ?_), hl.row, fun r hr => (hl.each r hr).mono fun k hk => .inl hk, hl.hd, fun hk => ?_, h.hr, fun g hg hk => ?_, h.lo⟩
  · rcases hk with (hk | hk) | hk
    · exact ⟨.inl (.inl hk), Nat.lt_of_lt_of_le (h.plt (.inl hk)) hb.size⟩
    · exact ⟨.inr hk.1, hk.2⟩
    · exact ⟨.inl (.inr hk), Nat.lt_of_lt_of_le (h.plt (.inr hk)) hb.size⟩
  · rcases hk with hk | hk
    · exact h.hq hk
    · have := h.plt (.inr (.inl rfl)); omega
  · rcases hk with hk | hk
    · exact h.rq g hg hk
    · have := h.plt (.inr (.inr hg)); omega

/-- Nothing that it had is kept. -/
theorem Ou.empty (h : Ou w H B D W Q x wv rs a b c) : Ou w H B D W Q x (.slice none 0 0) [] a b c :=
  have hs := h.side.mono (Q := fun k => Q k ∨ k = H ∨ (Value.slice none 0 0).ownBlock = some k) (fun k hk => by
    rcases hk with hk | hk | hk
    · exact .inl hk
    · exact .inr (.inl hk)
    · cases hk)
  ⟨hs, World.ownsRow_nil _ _ _ _, fun r hr => by simp at hr, h.hd, h.hq, by simp [Value.ownBlock], fun g hg => (by cases hg), h.lo⟩

theorem Hd3.put {W : World} {H : Nat} {a b c : Int} (h : Hd3 W H a b c) (a' b' c' : Int) : Hd3 (((W.setCell ⟨H, 0, none⟩ (.int .i64 a')).setCell ⟨H, 1, none⟩ (.int .i64 b')).setCell ⟨H, 2, none⟩ (.int .i64 c')) H a' b' c' := by
  obtain ⟨d0, d1, d2⟩ := set3 W H _ _ _ (.int .i64 a') (.int .i64 b') (.int .i64 c') h.c0 h.c1 h.c2
  exact ⟨d0, d1, d2, fun j => by simpa using h.f j⟩

/-- The hard numbers are written. -/
theorem Ou.put (h : Ou w H B D W Q x wv rs a b c) (a' b' c' : Nat) : Ou w H B D (((W.setCell ⟨H, 0, none⟩ (.int .i64 a')).setCell ⟨H, 1, none⟩ (.int .i64 b')).setCell ⟨H, 2, none⟩ (.int .i64 c')) Q x wv rs a' b' c' := by
  have hf : Fr (fun k => k = H) W (((W.setCell ⟨H, 0, none⟩ (.int .i64 a')).setCell ⟨H, 1, none⟩ (.int .i64 b')).setCell ⟨H, 2, none⟩ (.int .i64 c')) :=
    (((Fr.refl (fun k => k = H) W).set (p := ⟨H, 0, none⟩) rfl _).set (p := ⟨H, 1, none⟩) rfl _).set (p := ⟨H, 2, none⟩) rfl _
  refine ⟨h.side.swap hf (fun k hk => ⟨.inr (.inl hk), by subst hk; exact h.lo⟩) (fun k hk => ⟨.inl hk, Nat.lt_of_lt_of_le (h.plt hk) hf.size⟩), row_kept h.row hf.size (fun g hg => hf.block g (h.plt (.inr (.inr hg))) (fun e => h.hr (by rw [hg, e]))), fun r hr => (h.each r hr).frame fun k hq => hf.block k (h.plt (.inl hq)) (fun e => h.hq (by rw [← e]; exact hq)), h.hd.put _ _ _, h.hq, h.hr, h.rq, h.lo⟩

/-- What the journal has is kept, too. -/
theorem Ou.push (h : Ou w H B D W Q x wv rs a b c) (r : WasR) (hr : Bsq Q W r.v r.1.2.2) (hn : rs.length ≤ 1000) (N : Nat) (hN : ∀ j u, (wasRow [r])[j]? = some u → W.cell? ((⟨N, 0, none⟩ : Addr).add j) = some u) (ty : TypeId) :
    ∃ v' W', (Builtin.append_ #[58, 58] ty #[wv, .slice (some ⟨N, 0, none⟩) 1 1]).run Try.prog W = .ok v' W' ∧ Ou w H B D W' Q x v' (rs ++ [r]) a b c := by
  obtain ⟨i0, hi, hz0, hz1, hz2⟩ := info_parts Try.infoWas
  have hwW := h.side.below.size
  obtain ⟨v', W', hrun, h1, h2, h3⟩ := append_row W w.heap.size hwW 58 56 i0 _ 3 48 Try.underlying58 hi hz0 hz1 hz2 rfl (by decide) wv rs.length (wasRow rs) h.row ⟨N, 0, none⟩ 1 1 (by decide) (wasRow [r]) (wasRow_length [r]) hN (was_one r)
    (by unfold maxLen; omega) (by omega) ty
  refine ⟨v', W', hrun, ?_⟩
  have hf : Fr (fun k => wv.ownBlock = some k) W W' := Fr.grown h2 fun k hk => hk
  have hrow : W'.ownsRow w.heap.size 56 3 v' (rs ++ [r]).length (wasRow (rs ++ [r])) := by
    unfold wasRow at *
    rw [List.flatMap_append, List.length_append]
    exact h1
  have hlt := World.ownsRow.lt hrow
  have hQ : ∀ k, Q k → W'.heap[k]? = W.heap[k]? := fun k hk => hf.block k (h.plt (.inl hk)) (fun e => h.rq k e hk)
  have hH : W'.heap[H]? = W.heap[H]? := hf.block H (h.plt (.inr (.inl rfl))) h.hr
  refine ⟨h.side.swap hf (fun k hk => ⟨.inr (.inr hk), (World.ownsRow.lt h.row k hk).1⟩) (fun k hk => ?_), hrow, fun q hq => ?_, h.hd.frame hH, h.hq, fun e => ?_, fun g hg hk => ?_, h.lo⟩
  · rcases hk with hk | hk | hk
    · exact ⟨.inl (.inl hk), Nat.lt_of_lt_of_le (h.plt (.inl hk)) hf.size⟩
    · exact ⟨.inl (.inr (.inl hk)), Nat.lt_of_lt_of_le (h.plt (.inr (.inl hk))) hf.size⟩
    · refine ⟨?_, (hlt k hk).2⟩
      rcases h3 with e | e
      · exact .inl (.inr (.inr (by rw [← e]; exact hk)))
      · exact .inr (e k hk)
  · rcases List.mem_append.1 hq with e | e
    · exact (h.each q e).frame hQ
    · simp at e; subst e; exact hr.frame hQ
  · rcases h3 with k | k
    · exact h.hr (k ▸ e)
    · have := k H e; have := h.plt (.inr (.inl rfl)); omega
  · rcases h3 with k | k
    · exact h.rq g (k ▸ hg) hk
    · have := k g hg; have := h.plt (.inl hk); omega

theorem wpList_push {ops : Array Oper} {rest : List Oper} {o : Oper} {ac : Act} {Qx : Exit → Act → World → Prop} (hgd : o.guard = none) (s y : Operand)
    (ho : o.op = .call { callee := .builtin .append, args := #[s, y], argTypes := #[58, 58] })
    (h : Ou w H B D W Q x wv rs a b c) (r : WasR) (hr : Bsq Q W r.v r.1.2.2) (hn : rs.length ≤ 1000) (N : Nat) (hv : ac.eval s = wv) (hx : ac.eval y = .slice (some ⟨N, 0, none⟩) 1 1) (hN : ∀ j u, (wasRow [r])[j]? = some u → W.cell? ((⟨N, 0, none⟩ : Addr).add j) = some u)
    (hK : ∀ v' W', Ou w H B D W' Q x v' (rs ++ [r]) a b c → wpList Try.prog ops Qx rest (ac.put o.dst v') W') : wpList Try.prog ops Qx (o :: rest) ac W := by
  refine wpList_plain hgd fun K hK' => ?_
  obtain ⟨v', w', hrun, h2⟩ := h.push r hr hn N hN o.type
  unfold Oper.wp execOp
  simp only [ho, resolve, invoke, builtin, Sem.run_bind, Sem.run_pure, Result.andThen_ok, List.map_toArray, List.map_cons, List.map_nil, hv, hx, hrun]
  exact hK' _ _ (hK v' w' h2)
end

end Go.Proofs.Yteanjnkfoddfmaa
