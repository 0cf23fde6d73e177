/-
  A journal's changes, by numbers: their bytes, what they do, what the changes at a file's beginning make. Of no program. No law is proved here.
  A journal as it lies in memory: its seven cells, and its records, a row of texts that may begin behind others; append and clear there. No law is proved here.
  Contracts of what a journal's changes do: addRecord, keepFirst, layBase. No law is proved here.
  Contracts of a journal's Last and layBase. No law is proved here.
  The map of what a journal's changes do: how it is made, and what it has at a kind. No law is proved here.
  Contracts of a change's kinds, of its bytes, of a frame that is handed to a disk. No law is proved here.
-/
import Derived.Test.YteanjnkfoddfmaaL5
import Derived.Lib.SliceRun
import Derived.Deep.RegionHeldLaw
import Derived.Deep.RegionLaw
import Derived.BigQuiet
import Derived.MapKept
namespace Go.Proofs.Yteanjnkfoddfmaa
open Go.RowKit
set_option linter.unusedVariables false

/-- The base's index, its data, the records behind it. -/
abbrev St := Nat × List UInt8 × List (List UInt8)

/-- A change: a record more; only so many first ones; a new base. -/
def Ch : Type := Sum (List UInt8) (Sum Nat (Nat × List UInt8))
def Ch.add (s : List UInt8) : Ch := Sum.inl s
def Ch.first (n : Nat) : Ch := Sum.inr (Sum.inl n)
def Ch.lay (n : Nat) (s : List UInt8) : Ch := Sum.inr (Sum.inr (n, s))
theorem Ch.three (c : Ch) : (∃ s, c = .add s) ∨ (∃ n, c = .first n) ∨ ∃ n s, c = .lay n s := by
  rcases c with s | n | ⟨n, s⟩
  · exact .inl ⟨s, rfl⟩
  · exact .inr (.inl ⟨n, rfl⟩)
  · exact .inr (.inr ⟨n, s, rfl⟩)

def Ch.go : Ch → St → Option St
  | Sum.inl s, (b, d, L) => some (b, d, L ++ [s])
  | Sum.inr (Sum.inl n), (b, d, L) => if n ≤ L.length then some (b, d, L.take n) else none
  | Sum.inr (Sum.inr (n, s)), (b, d, L) => some (n, s, if b ≤ n ∧ n ≤ b + L.length then L.drop (n - b) else [])

def Ch.enc : Ch → List UInt8
  | Sum.inl s => Go.Proofs.Yteanjnkfoddfmaa.enc 1 ++ encT (bs s)
  | Sum.inr (Sum.inl n) => Go.Proofs.Yteanjnkfoddfmaa.enc 2 ++ Go.Proofs.Yteanjnkfoddfmaa.enc n
  | Sum.inr (Sum.inr (n, s)) => (Go.Proofs.Yteanjnkfoddfmaa.enc 3 ++ Go.Proofs.Yteanjnkfoddfmaa.enc n) ++ encT (bs s)

def Ch.kind : Ch → Nat
  | Sum.inl _ => 1
  | Sum.inr (Sum.inl _) => 2
  | Sum.inr (Sum.inr _) => 3
def Ch.num : Ch → Nat
  | Sum.inl _ => 0
  | Sum.inr (Sum.inl n) => n
  | Sum.inr (Sum.inr (n, _)) => n
def Ch.txt : Ch → List UInt8
  | Sum.inl s => s
  | Sum.inr (Sum.inl _) => []
  | Sum.inr (Sum.inr (_, s)) => s

/-- A change that may be: numbers up to 2^40, texts up to 65516. -/
def Ch.Good (c : Ch) : Prop := c.num ≤ 1099511627776 ∧ c.txt.length ≤ 65516

def chOf (r : List UInt8) : Option Ch :=
  if (rdN r 1099511627776).2.1 ≠ 0 then none else
  if (rdN r 1099511627776).1 = 1 then
    if (rdT (rdN r 1099511627776).2.2 65536).2.1 = 0 ∧ (rdT (rdN r 1099511627776).2.2 65536).2.2 = [] then some (.add (rdT (rdN r 1099511627776).2.2 65536).1) else none
  else if (rdN r 1099511627776).1 = 2 then
    if (rdN (rdN r 1099511627776).2.2 1099511627776).2.1 = 0 ∧ (rdN (rdN r 1099511627776).2.2 1099511627776).2.2 = [] then some (.first (rdN (rdN r 1099511627776).2.2 1099511627776).1) else none
  else if (rdN r 1099511627776).1 = 3 then
    if (rdN (rdN r 1099511627776).2.2 1099511627776).2.1 = 0 ∧ (rdT (rdN (rdN r 1099511627776).2.2 1099511627776).2.2 65536).2.1 = 0 ∧ (rdT (rdN (rdN r 1099511627776).2.2 1099511627776).2.2 65536).2.2 = [] then
      some (.lay (rdN (rdN r 1099511627776).2.2 1099511627776).1 (rdT (rdN (rdN r 1099511627776).2.2 1099511627776).2.2 65536).1) else none
  else none

theorem bs_size (s : List UInt8) : (bs s).size = s.length := by show s.toArray.size = _; simp
theorem bs_data (s : List UInt8) : (bs s).data.toList = s := by show s.toArray.toList = s; simp

theorem encT_len (s : List UInt8) (h : s.length ≤ 65536) : (encT (bs s)).length ≤ 3 + s.length := by
  unfold encT
  rw [List.length_append, bs_data, bs_size]
  have := enc_len 2 s.length (by show s.length < 2097152; omega)
  omega

theorem enc_len6 {n : Nat} (h : n ≤ 1099511627776) : (enc n).length ≤ 6 := enc_len 5 n (by show n < 4398046511104; omega)

theorem enc_k1 : enc 1 = [1] := by rw [enc_small (by decide)]; rfl
theorem enc_k2 : enc 2 = [2] := by rw [enc_small (by decide)]; rfl
theorem enc_k3 : enc 3 = [3] := by rw [enc_small (by decide)]; rfl

theorem Ch.enc_len (c : Ch) (h : c.Good) : c.enc.length ≤ 10 + c.txt.length := by
  rcases c.three with ⟨s, rfl⟩ | ⟨n, rfl⟩ | ⟨n, s, rfl⟩
  · have h2 : s.length ≤ 65516 := h.2
    have := encT_len s (by omega)
    show (Go.Proofs.Yteanjnkfoddfmaa.enc 1 ++ encT (bs s)).length ≤ 10 + s.length
    rw [List.length_append, enc_k1]; simp; omega
  · have h1 : n ≤ 1099511627776 := h.1
    have := enc_len6 h1
    show (Go.Proofs.Yteanjnkfoddfmaa.enc 2 ++ Go.Proofs.Yteanjnkfoddfmaa.enc n).length ≤ 10 + 0
    rw [List.length_append, enc_k2]; simp; omega
  · have h1 : n ≤ 1099511627776 := h.1
    have h2 : s.length ≤ 65516 := h.2
    have := enc_len6 h1
    have := encT_len s (by omega)
    show ((Go.Proofs.Yteanjnkfoddfmaa.enc 3 ++ Go.Proofs.Yteanjnkfoddfmaa.enc n) ++ encT (bs s)).length ≤ 10 + s.length
    rw [List.length_append, List.length_append, enc_k3]; simp; omega

theorem Ch.enc_pos (c : Ch) : 1 ≤ c.enc.length := by
  rcases c.three with ⟨s, rfl⟩ | ⟨n, rfl⟩ | ⟨n, s, rfl⟩
  · show 1 ≤ (Go.Proofs.Yteanjnkfoddfmaa.enc 1 ++ encT (bs s)).length; rw [List.length_append, enc_k1]; simp
  · show 1 ≤ (Go.Proofs.Yteanjnkfoddfmaa.enc 2 ++ Go.Proofs.Yteanjnkfoddfmaa.enc n).length; rw [List.length_append, enc_k2]; simp
  · show 1 ≤ ((Go.Proofs.Yteanjnkfoddfmaa.enc 3 ++ Go.Proofs.Yteanjnkfoddfmaa.enc n) ++ encT (bs s)).length; rw [List.length_append, List.length_append, enc_k3]; simp; omega

theorem Ch.fits (c : Ch) (h : c.Good) : Fits c.enc := ⟨c.enc_pos, by have := c.enc_len h; have := h.2; omega⟩

theorem chOf_enc (c : Ch) (h : c.Good) : chOf c.enc = some c := by
  rcases c.three with ⟨s, rfl⟩ | ⟨n, rfl⟩ | ⟨n, s, rfl⟩
  · have h2 : s.length ≤ 65516 := h.2
    have e1 : rdN (Ch.add s).enc 1099511627776 = (1, 0, encT (bs s)) := rdN_enc 1 _ _ (by decide) (by decide)
    have e2 : rdT (encT (bs s)) 65536 = (s, 0, []) := by
      have := rdT_enc (bs s) [] 65536 (by rw [bs_size]; omega) (by rw [bs_size]; omega)
      rw [List.append_nil, bs_data] at this
      exact this
    unfold chOf
    simp [e1, e2]
  · have h1 : n ≤ 1099511627776 := h.1
    have e1 : rdN (Ch.first n).enc 1099511627776 = (2, 0, enc n) := rdN_enc 2 _ _ (by decide) (by decide)
    have e2 : rdN (enc n) 1099511627776 = (n, 0, []) := by
      have := rdN_enc n [] 1099511627776 (by omega) (by omega)
      rwa [List.append_nil] at this
    unfold chOf
    simp [e1, e2]
  · have h1 : n ≤ 1099511627776 := h.1
    have h2 : s.length ≤ 65516 := h.2
    have e1 : rdN (Ch.lay n s).enc 1099511627776 = (3, 0, enc n ++ encT (bs s)) := by
      show rdN ((enc 3 ++ enc n) ++ encT (bs s)) 1099511627776 = _
      rw [List.append_assoc]
      exact rdN_enc 3 _ _ (by decide) (by decide)
    have e2 : rdN (enc n ++ encT (bs s)) 1099511627776 = (n, 0, encT (bs s)) := rdN_enc n _ _ (by omega) (by omega)
    have e3 : rdT (encT (bs s)) 65536 = (s, 0, []) := by
      have := rdT_enc (bs s) [] 65536 (by rw [bs_size]; omega) (by rw [bs_size]; omega)
      rw [List.append_nil, bs_data] at this
      exact this
    unfold chOf
    simp [e1, e2, e3]

/-- One frame's change, done. -/
def one (r : List UInt8) (st : St) : Option St := (chOf r).bind fun c => c.go st

theorem one_some {r : List UInt8} {c : Ch} {st : St} (h : chOf r = some c) : one r st = c.go st := by simp [one, h]
theorem one_none {r : List UInt8} {st : St} (h : chOf r = none) : one r st = none := by simp [one, h]

/-- What the changes at the beginning make, and how many bytes they have. -/
def plays : List (List UInt8) → St → St × Nat
  | [], st => (st, 0)
  | r :: rs, st => match one r st with
    | none => (st, 0)
    | some st' => ((plays rs st').1, 8 + r.length + (plays rs st').2)

theorem plays_none {r : List UInt8} {rs : List (List UInt8)} {st : St} (h : one r st = none) : plays (r :: rs) st = (st, 0) := by simp [plays, h]
theorem plays_some {r : List UInt8} {rs : List (List UInt8)} {st st' : St} (h : one r st = some st') : plays (r :: rs) st = ((plays rs st').1, 8 + r.length + (plays rs st').2) := by simp [plays, h]

theorem plays_le : ∀ (rs : List (List UInt8)) (st : St), (plays rs st).2 ≤ total rs
  | [], _ => Nat.zero_le _
  | r :: rs, st => by
    rw [total_cons]
    cases h : one r st with
    | none => rw [plays_none h]; exact Nat.zero_le _
    | some st' =>
      have := plays_le rs st'
      rw [plays_some h]
      show 8 + r.length + (plays rs st').2 ≤ _
      omega

/-- A change's state is small when what it is done to is. -/
theorem Ch.go_small {c : Ch} {st st' : St} (h : c.go st = some st') (hc : c.num ≤ 1099511627776) (hb : st.1 ≤ 1099511627776) : st'.1 ≤ 1099511627776 ∧ st'.2.2.length ≤ st.2.2.length + 1 := by
  obtain ⟨b, d, L⟩ := st
  rcases c.three with ⟨s, rfl⟩ | ⟨n, rfl⟩ | ⟨n, s, rfl⟩
  · replace h : some (b, d, L ++ [s]) = some st' := h
    simp only [Option.some.injEq] at h
    subst h
    exact ⟨hb, by simp⟩
  · replace h : (if n ≤ L.length then some (b, d, L.take n) else none) = some st' := h
    split at h
    · simp only [Option.some.injEq] at h
      subst h
      exact ⟨hb, by simp; omega⟩
    · cases h
  · replace h : some (n, s, if b ≤ n ∧ n ≤ b + L.length then L.drop (n - b) else []) = some st' := h
    simp only [Option.some.injEq] at h
    subst h
    refine ⟨hc, ?_⟩
    show (if b ≤ n ∧ n ≤ b + L.length then L.drop (n - b) else []).length ≤ L.length + 1
    split <;> simp; omega

theorem chOf_num {r : List UInt8} {c : Ch} (h : chOf r = some c) : c.num ≤ 1099511627776 := by
  have key : ∀ l, ((rdN l 1099511627776).1 : Int) ≤ 1099511627776 := fun l => by
    rcases rdN_one l 1099511627776 with ⟨_, _, h⟩ | ⟨_, _, h, _⟩
    · rw [h]; decide
    · exact h
  unfold chOf at h
  split at h
  · cases h
  split at h
  · split at h
    · cases h; exact Nat.zero_le _
    · cases h
  split at h
  · split at h
    · cases h
      have := key (rdN r 1099511627776).2.2
      show (rdN (rdN r 1099511627776).2.2 1099511627776).1 ≤ _
      omega
    · cases h
  split at h
  · split at h
    · cases h
      have := key (rdN r 1099511627776).2.2
      show (rdN (rdN r 1099511627776).2.2 1099511627776).1 ≤ _
      omega
    · cases h
  · cases h

theorem one_small {r : List UInt8} {st st' : St} (h : one r st = some st') (hb : st.1 ≤ 1099511627776) : st'.1 ≤ 1099511627776 ∧ st'.2.2.length ≤ st.2.2.length + 1 := by
  unfold one at h
  cases hc : chOf r with
  | none => rw [hc] at h; cases h
  | some c =>
    rw [hc] at h
    exact Ch.go_small h (chOf_num hc) hb

theorem plays_small : ∀ (rs : List (List UInt8)) (st : St), st.1 ≤ 1099511627776 → (plays rs st).1.1 ≤ 1099511627776 ∧ (plays rs st).1.2.2.length ≤ st.2.2.length + (plays rs st).2
  | [], st, h => ⟨h, by simp [plays]⟩
  | r :: rs, st, h => by
    cases ho : one r st with
    | none => rw [plays_none ho]; exact ⟨h, by simp⟩
    | some st' =>
      have h1 := one_small ho h
      have h2 := plays_small rs st' h1.1
      rw [plays_some ho]
      refine ⟨h2.1, ?_⟩
      show (plays rs st').1.2.2.length ≤ st.2.2.length + (8 + r.length + (plays rs st').2)
      omega

end Go.Proofs.Yteanjnkfoddfmaa

namespace Go.Proofs.Yteanjnkfoddfmaa
open Go.RowKit
set_option linter.unusedVariables false

/-- A row of texts, which may be written, and behind which there may be room. -/
def Rw (w : World) (v : Value) (L : List (List UInt8)) : Prop :=
  (v = .slice none 0 0 ∧ L = []) ∨ ∃ b o c, v = .slice (some ⟨b, o, none⟩) L.length c ∧ L.length ≤ c ∧ c ≤ maxLen ∧ b < w.heap.size ∧
    (∀ j (hj : j < L.length), w.cell? ⟨b, o + j, none⟩ = some (.string (bs L[j]))) ∧ (∀ j, j < c → (w.cell? ⟨b, o + j, none⟩).isSome = true ∧ w.frozen? ⟨b, o + j, none⟩ = false)

theorem Rw.nil (w : World) : Rw w (.slice none 0 0) [] := .inl ⟨rfl, rfl⟩

theorem Rw.val {w : World} {v : Value} {L : List (List UInt8)} (h : Rw w v L) : ∃ ao c, v = .slice ao L.length c ∧ L.length ≤ c ∧ c ≤ maxLen := by
  rcases h with ⟨rfl, rfl⟩ | ⟨b, o, c, rfl, h1, h2, _⟩
  · exact ⟨none, 0, rfl, Nat.le_refl _, Nat.zero_le _⟩
  · exact ⟨_, c, rfl, h1, h2⟩

theorem Rw.frame {w w' : World} {v : Value} {L : List (List UInt8)} (h : Rw w v L) (hs : w.heap.size ≤ w'.heap.size) (hk : ∀ g, v.ownBlock = some g → g < w.heap.size → w'.heap[g]? = w.heap[g]?) : Rw w' v L := by
  rcases h with ⟨rfl, rfl⟩ | ⟨b, o, c, rfl, h1, h2, h3, h4, h5⟩
  · exact .inl ⟨rfl, rfl⟩
  · have e := hk b rfl h3
    exact .inr ⟨b, o, c, rfl, h1, h2, by omega, fun j hj => (World.cell?_of_block (w := w) e).trans (h4 j hj), fun j hj => ⟨by rw [World.cell?_of_block (w := w) (a := ⟨b, o + j, none⟩) e]; exact (h5 j hj).1, (World.frozen?_of_block (w := w) e).trans (h5 j hj).2⟩⟩

theorem Rw.later {w w' : World} {v : Value} {L : List (List UInt8)} (h : Rw w v L) (hb : Below w.heap.size w w') : Rw w' v L := h.frame hb.size fun g _ hg => hb.block g hg

theorem Rw.lt {w : World} {v : Value} {L : List (List UInt8)} (h : Rw w v L) : ∀ g, v.ownBlock = some g → g < w.heap.size := fun g hg => by
  rcases h with ⟨rfl, rfl⟩ | ⟨b, o, c, rfl, h1, h2, h3, h4, h5⟩
  · cases hg
  · simp only [Value.ownBlock, Option.some.injEq] at hg
    omega

/-- What append answers onto a row of texts. -/
def Addd (w : World) (v : Value) (L : List (List UInt8)) (s : List UInt8) (v' : Value) (w' : World) : Prop :=
  Rw w' v' (L ++ [s]) ∧ Fr (fun k => v.ownBlock = some k) w w' ∧ (∀ g, v'.ownBlock = some g → v.ownBlock = some g ∨ w.heap.size ≤ g) ∧ (∃ ao n c, v' = .slice ao n c)

theorem Try.infoStr : (Try.prog.info? 9).map (fun i => (i.zero, i.size, i.bytes)) = some (some (.string ⟨#[]⟩), 1, 16) := by kernel_rfl

theorem fr_setCells (w : World) (g o : Nat) (vs : List Value) (S : Nat → Prop) (hS : S g) : Fr S w (w.setCells g o vs) := by
  induction vs generalizing w o with
  | nil => exact Fr.refl S w
  | cons x vs ih => exact ((Fr.refl S w).set (p := ⟨g, o, none⟩) hS x).trans (ih _ _)

theorem run_append_rw (w : World) (v : Value) (L : List (List UInt8)) (s : List UInt8) (hv : Rw w v L) (xb : Nat) (hx : w.cell? ⟨xb, 0, none⟩ = some (.string (bs s))) (hlen : L.length ≤ 1099511627776) (ty : TypeId) :
    ∃ v' w', (Builtin.append_ #[75, 75] ty #[v, .slice (some ⟨xb, 0, none⟩) 1 1]).run Try.prog w = .ok v' w' ∧ Addd w v L s v' w' := by
  obtain ⟨i0, hi, hz0, hz1, hz2⟩ := info_parts Try.infoStr
  have hsrc : Src Try.prog 1 75 (.slice (some ⟨xb, 0, none⟩) 1 1) 1 [.string (bs s)] w := Src.ofSlice w Try.underlying75 ⟨xb, 0, none⟩ 1 1 [.string (bs s)] (by simp) (by
    intro j u hu
    cases j with
    | zero => simp at hu; subst hu; rw [Addr.add_zero']; exact hx
    | succ j => simp at hu) (by intro u hu; simp at hu; subst hu; rfl)
  have hsrc' : Src Try.prog i0.size 75 (.slice (some ⟨xb, 0, none⟩) 1 1) 1 [.string (bs s)] w := by rw [hz1]; exact hsrc
  have grow : ∀ ao c, v = .slice ao L.length c → c < L.length + 1 → (Builtin.firstCells i0.size L.length (.slice ao L.length c)).run Try.prog w.drew = .ok (L.map fun l => Value.string (bs l)).toArray w.drew → ∃ v' w', (Builtin.append_ #[75, 75] ty #[v, .slice (some ⟨xb, 0, none⟩) 1 1]).run Try.prog w = .ok v' w' ∧ Addd w v L s v' w' := by
    rintro ao c rfl hc hold
    have hrun := run_append_grow_src (P := Try.prog) w 75 75 ty 9 i0 (.string ⟨#[]⟩) Try.underlying75 hi hz0 ao L.length c (L.map fun l => Value.string (bs l)) hold _ 1 [.string (bs s)] hsrc' hc (by omega) (growslice_fits hc (by rw [hz2]; omega))
    have hge := grownCap_ge w (L.length + 1) c 9
    have hcm := grownCap_le_maxLen w (L.length + 1) c 9 (by unfold maxLen; omega)
    refine ⟨_, _, hrun, .inr ⟨w.heap.size, 0, _, by simp, by simpa using hge, hcm, by simp, ?_, ?_⟩, ?_, ?_, ⟨_, _, _, rfl⟩⟩
    · intro j hj
      have hj' : j < L.length + 1 := by simpa using hj
      rw [Nat.zero_add]
      refine (World.cell?_alloc_new w.drew _ _ j).trans ?_
      rw [Array.getElem?_append_left (by simp; omega), List.getElem?_toArray, show (L.map fun l => Value.string (bs l)) ++ [.string (bs s)] = (L ++ [s]).map (fun l => Value.string (bs l)) by simp, List.getElem?_map, List.getElem?_eq_getElem hj]
      rfl
    · intro j hj
      refine ⟨?_, World.frozen?_alloc_new w.drew _ _ _⟩
      rw [Nat.zero_add, show (w.drew.alloc _).cell? ⟨w.heap.size, j, none⟩ = _ from World.cell?_alloc_new w.drew _ _ j]
      have hcz : (Value.string ⟨#[]⟩).cells.size = 1 := rfl
      rw [Array.getElem?_eq_getElem (by rw [Array.size_append, size_zeroCells, hcz]; simp; omega)]
      rfl
    · exact ⟨rfl, rfl, rfl, by simp, fun k hk _ => Below.heap_alloc w.drew _ k hk⟩
    · intro g hg
      simp only [Value.ownBlock, Option.some.injEq] at hg
      exact .inr (by omega)
  rcases id hv with ⟨rfl, rfl⟩ | ⟨b, o, c, rfl, h1, h2, h3, h4, h5⟩
  · exact grow none 0 rfl (by simp) (by simp [Builtin.firstCells])
  by_cases hroom : L.length + 1 ≤ c
  · have hrun := run_append_room_src (P := Try.prog) w 75 75 ty 9 i0 Try.underlying75 hi b o L.length c _ 1 [.string (bs s)] hsrc' hroom
      (fun j hj => by rw [hz1, Nat.mul_one, Nat.add_assoc]; simp at hj; subst hj; exact (h5 (L.length + 0) (by omega)).1)
      (fun j hj => by rw [hz1, Nat.mul_one, Nat.add_assoc]; simp at hj; subst hj; exact (h5 (L.length + 0) (by omega)).2)
    rw [hz1, Nat.mul_one] at hrun
    refine ⟨_, _, hrun, .inr ⟨b, o, c, by simp, by simpa using hroom, h2, by simpa [World.setCells] using h3, ?_, ?_⟩, fr_setCells _ _ _ _ _ rfl, ?_, ⟨_, _, _, rfl⟩⟩
    · intro j hj
      have hj' : j < L.length + 1 := by simpa using hj
      show (w.setCell ⟨b, o + L.length, none⟩ (.string (bs s))).cell? ⟨b, o + j, none⟩ = _
      by_cases he : j = L.length
      · subst he
        obtain ⟨u, hu⟩ := Option.isSome_iff_exists.1 (h5 L.length (by omega)).1
        rw [World.cell?_setCell_same w _ _ hu]
        simp
      · rw [World.cell?_setCell_other w _ _ _ (by simp), h4 j (by omega)]
        simp [List.getElem_append_left (show j < L.length by omega)]
    · intro j hj
      show ((w.setCell ⟨b, o + L.length, none⟩ (.string (bs s))).cell? ⟨b, o + j, none⟩).isSome = true ∧ (w.setCell ⟨b, o + L.length, none⟩ (.string (bs s))).frozen? ⟨b, o + j, none⟩ = false
      refine ⟨?_, by simpa using (h5 j hj).2⟩
      by_cases he : j = L.length
      · subst he
        obtain ⟨u, hu⟩ := Option.isSome_iff_exists.1 (h5 L.length (by omega)).1
        rw [World.cell?_setCell_same w _ _ hu]
        rfl
      · rw [World.cell?_setCell_other w _ _ _ (by simp)]
        exact (h5 j hj).1
    · intro g hg
      exact .inl hg
  · refine grow _ c rfl (by omega) ?_
    refine run_firstCells_some (P := Try.prog) _ _ _ ⟨b, o, none⟩ _ _ _ (by rw [hz1]; simp) (fun j u hu => ?_)
    rw [List.getElem?_map] at hu
    by_cases hj : j < L.length
    · rw [List.getElem?_eq_getElem hj] at hu
      simp only [Option.map_some, Option.some.injEq] at hu
      subst hu
      rw [Addr.add_lit]
      exact h4 j hj
    · rw [List.getElem?_eq_none (by omega)] at hu
      cases hu

/-- clear of a stretch of a row: only those cells turn. -/
theorem run_clear_at (w : World) (b o m c : Nat) (ty : TypeId) (hc : ∀ j, j < m → (w.cell? ⟨b, o + j, none⟩).isSome = true ∧ w.frozen? ⟨b, o + j, none⟩ = false) :
    ∃ w', (Builtin.clear_ #[75] ty #[.slice (some ⟨b, o, none⟩) m c]).run Try.prog w = .ok (.tuple #[]) w' ∧ Fr (fun k => k = b) w w' ∧ (∀ j, (j < o ∨ o + m ≤ j) → w'.cell? ⟨b, j, none⟩ = w.cell? ⟨b, j, none⟩) ∧
      (∀ j, (w.cell? ⟨b, j, none⟩).isSome = true → (w'.cell? ⟨b, j, none⟩).isSome = true) ∧ (∀ j, w'.frozen? ⟨b, j, none⟩ = w.frozen? ⟨b, j, none⟩) := by
  rcases Nat.eq_zero_or_pos m with h0 | h0
  · subst h0
    refine ⟨w, ?_, Fr.refl _ _, fun _ _ => rfl, fun _ h => h, fun _ => rfl⟩
    simp [Builtin.clear_, run_underlying Try.underlying75]
  · obtain ⟨i0, hi, hz0, hz1, hz2⟩ := info_parts Try.infoStr
    have hv : ∀ w, (zeroValue 9).run Try.prog w = .ok (.string ⟨#[]⟩) w := fun w => by simp [zeroValue, typeInfo, hi, hz0]
    have hr := Lib.run_clear_slice (P := Try.prog) w 75 9 ty (.string ⟨#[]⟩) Try.underlying75 hv rfl rfl b o m c h0 (fun j hj => (hc j hj).1) (fun j hj => (hc j hj).2)
    refine ⟨_, hr, fr_setCells _ _ _ _ _ rfl, fun j hj => ?_, fun j hj => ?_, fun j => World.frozen?_setCells b _ _ _ _⟩
    · exact World.cell?_setCells_out b _ _ _ _ (fun _ _ => by simp; omega)
    · by_cases hin : j < o ∨ o + m ≤ j
      · rw [World.cell?_setCells_out b _ _ _ _ (fun _ _ => by simp; omega)]
        exact hj
      · have := World.cell?_setCells_in b (List.replicate m (Value.string ⟨#[]⟩)) o w (fun i hi => (hc i (by simpa using hi)).1) (j - o) (by simp; omega)
        rw [show o + (j - o) = j by omega] at this
        rw [this]
        rfl

theorem ownBlock_len (ao : Option Addr) (n c m d : Nat) : (Value.slice ao n c).ownBlock = (Value.slice ao m d).ownBlock := by cases ao <;> rfl
theorem ownBlock_drop (ao : Option Addr) (n c m d k : Nat) : (Value.slice (if c = k then ao else ao.map (·.add k)) n d).ownBlock = (Value.slice ao m c).ownBlock := by
  split
  · exact ownBlock_len _ _ _ _ _
  · cases ao with
    | none => rfl
    | some a => show some (a.add k).block = some a.block; rw [Addr.add_block]

theorem clear_tail (w : World) (ao : Option Addr) (c n : Nat) (L : List (List UInt8)) (ty : TypeId) (hv : Rw w (.slice ao L.length c) L) (hn : n ≤ L.length) :
    ∃ w', (Builtin.clear_ #[75] ty #[.slice (if c = n then ao else ao.map (·.add n)) (L.length - n) (c - n)]).run Try.prog w = .ok (.tuple #[]) w' ∧ Rw w' (.slice ao n c) (L.take n) ∧ Fr (fun k => (Value.slice ao L.length c).ownBlock = some k) w w' := by
  rcases id hv with ⟨e, rfl⟩ | ⟨b, o, d, e, h1, h2, h3, h4, h5⟩
  · injection e with e1 e2 e3
    subst e1 e3
    obtain rfl : n = 0 := by simpa using hn
    refine ⟨w, ?_, .inl ⟨rfl, rfl⟩, Fr.refl _ _⟩
    simp [Builtin.clear_, run_underlying Try.underlying75]
  · injection e with e1 e2 e3
    subst e1 e3
    by_cases hcn : c = n
    · obtain rfl : n = L.length := by omega
      refine ⟨w, ?_, ?_, Fr.refl _ _⟩
      · simp [hcn, Builtin.clear_, run_underlying Try.underlying75]
      · rw [List.take_length]; exact hv
    · obtain ⟨w', hr, hf, k1, k2, k3⟩ := run_clear_at w b (o + n) (L.length - n) (c - n) ty (fun j hj => by rw [Nat.add_assoc]; exact h5 (n + j) (by omega))
      refine ⟨w', ?_, .inr ⟨b, o, c, by rw [List.length_take, Nat.min_eq_left hn], by rw [List.length_take]; omega, h2, Nat.lt_of_lt_of_le h3 hf.size, ?_, ?_⟩, hf.mono fun k _ hk => by subst hk; rfl⟩
      · rw [if_neg hcn]
        simpa [Addr.add_lit] using hr
      · intro j hj
        have hj' : j < n := by rw [List.length_take] at hj; omega
        rw [k1 (o + j) (by omega), h4 j (by omega)]
        simp
      · intro j hj
        exact ⟨k2 _ (h5 j hj).1, (k3 _).trans (h5 j hj).2⟩

/-- The first n records are cleared, and the row begins behind them. -/
def Headless (w : World) (ao : Option Addr) (c n : Nat) (L : List (List UInt8)) (w' : World) : Prop := Rw w' (.slice (if c = n then ao else ao.map (·.add n)) (L.length - n) (c - n)) (L.drop n) ∧ Fr (fun k => (Value.slice ao L.length c).ownBlock = some k) w w'

theorem clear_head (w : World) (ao : Option Addr) (c n : Nat) (L : List (List UInt8)) (ty : TypeId) (hv : Rw w (.slice ao L.length c) L) (hn : n ≤ L.length) :
    ∃ w', (Builtin.clear_ #[75] ty #[.slice ao n c]).run Try.prog w = .ok (.tuple #[]) w' ∧ Headless w ao c n L w' := by
  rcases id hv with ⟨e, rfl⟩ | ⟨b, o, d, e, h1, h2, h3, h4, h5⟩
  · injection e with e1 e2 e3
    subst e1 e3
    obtain rfl : n = 0 := by simpa using hn
    refine ⟨w, ?_, .inl ⟨rfl, rfl⟩, Fr.refl _ _⟩
    simp [Builtin.clear_, run_underlying Try.underlying75]
  · injection e with e1 e2 e3
    subst e1 e3
    obtain ⟨w', hr, hf, k1, k2, k3⟩ := run_clear_at w b o n c ty (fun j hj => h5 j (by omega))
    unfold Headless
    refine ⟨w', hr, ?_, hf.mono fun k _ hk => by subst hk; rfl⟩
    by_cases hcn : c = n
    · rw [if_pos hcn]
      refine .inr ⟨b, o, 0, by rw [List.length_drop, hcn, Nat.sub_self], by rw [List.length_drop]; omega, Nat.zero_le _, Nat.lt_of_lt_of_le h3 hf.size, fun j hj => ?_, fun j hj => by omega⟩
      rw [List.length_drop] at hj
      omega
    · rw [if_neg hcn]
      refine .inr ⟨b, o + n, c - n, by rw [List.length_drop, Option.map_some, Addr.add_lit], by rw [List.length_drop]; omega, by omega, Nat.lt_of_lt_of_le h3 hf.size, fun j hj => ?_, fun j hj => ?_⟩
      · rw [List.length_drop] at hj
        rw [Nat.add_assoc, k1 (o + (n + j)) (by omega), h4 (n + j) (by omega)]
        simp
      · rw [Nat.add_assoc]
        exact ⟨k2 _ (h5 (n + j) (by omega)).1, (k3 _).trans (h5 (n + j) (by omega)).2⟩

/-- A journal in block B, on the disk of block D: hard numbers, base, data, records. -/
structure Jp (w : World) (B D : Nat) (t v o : Nat) (st : St) (rv : Value) : Prop where
  c0 : w.cell? ⟨B, 0, none⟩ = some (.pointer (some ⟨D, 0, none⟩))
  c1 : w.cell? ⟨B, 1, none⟩ = some (.int .i64 t)
  c2 : w.cell? ⟨B, 2, none⟩ = some (.int .i64 v)
  c3 : w.cell? ⟨B, 3, none⟩ = some (.int .i64 o)
  c4 : w.cell? ⟨B, 4, none⟩ = some (.int .i64 st.1)
  c5 : w.cell? ⟨B, 5, none⟩ = some (.string (bs st.2.1))
  c6 : w.cell? ⟨B, 6, none⟩ = some rv
  fz : ∀ j, w.frozen? ⟨B, j, none⟩ = false
  rw : Rw w rv st.2.2
  ne : ∀ g, rv.ownBlock = some g → g ≠ B
  hb : st.1 ≤ 1099511627776
  hl : st.2.2.length ≤ 1099511627776

/-- Only the journal's block and its records' row were written; the records lie there, or in new memory. -/
structure Mov (B : Nat) (v v' : Value) (w w' : World) : Prop where
  fr : Fr (fun k => k = B ∨ v.ownBlock = some k) w w'
  nw : ∀ g, v'.ownBlock = some g → v.ownBlock = some g ∨ w.heap.size ≤ g

theorem Mov.refl (B : Nat) (v : Value) (w : World) : Mov B v v w w := ⟨Fr.refl _ _, fun _ h => .inl h⟩
theorem Mov.trans {B : Nat} {v v1 v2 : Value} {w w1 w2 : World} (h : Mov B v v1 w w1) (k : Mov B v1 v2 w1 w2) : Mov B v v2 w w2 := by
  refine ⟨⟨k.fr.os.trans h.fr.os, k.fr.tape.trans h.fr.tape, k.fr.output.trans h.fr.output, Nat.le_trans h.fr.size k.fr.size, fun j hj hn => (k.fr.block j (Nat.lt_of_lt_of_le hj h.fr.size) ?_).trans (h.fr.block j hj hn)⟩, fun g hg => ?_⟩
  · rintro (e | e)
    · exact hn (.inl e)
    · rcases h.nw j e with e | e
      · exact hn (.inr e)
      · omega
  · rcases k.nw g hg with e | e
    · exact h.nw g e
    · exact .inr (Nat.le_trans h.fr.size e)
theorem Mov.later {B : Nat} {v v' : Value} {w w1 w2 : World} (h : Mov B v v' w w1) (hb : Below w1.heap.size w1 w2) : Mov B v v' w w2 := h.trans ⟨Fr.of hb, fun _ hg => .inl hg⟩
theorem Mov.ahead {B : Nat} {v v' : Value} {w0 w w' : World} (hb : Below w0.heap.size w0 w) (h : Mov B v v' w w') : Mov B v v' w0 w' := ⟨(Fr.of hb).trans h.fr, fun g hg => by
  rcases h.nw g hg with e | e
  · exact .inl e
  · exact .inr (Nat.le_trans hb.size e)⟩
theorem Mov.below {B : Nat} {v v' : Value} {w w' : World} (h : Mov B v v' w w') {N : Nat} (hB : N ≤ B) (hv : ∀ g, v.ownBlock = some g → N ≤ g) (hN : N ≤ w.heap.size) : Below N w w' := h.fr.below (fun k hk => by
  rcases hk with rfl | e
  · exact hB
  · exact hv k e) hN

section
variable {w w' : World} {B D t v o : Nat} {st : St} {rv : Value}

theorem Jp.lt (h : Jp w B D t v o st rv) : B < w.heap.size := World.block_lt_of_cell? w _ h.c0

theorem Jp.frame (h : Jp w B D t v o st rv) (hs : w.heap.size ≤ w'.heap.size) (hk : ∀ k, k < w.heap.size → (k = B ∨ rv.ownBlock = some k) → w'.heap[k]? = w.heap[k]?) : Jp w' B D t v o st rv := by
  have hB : w'.heap[B]? = w.heap[B]? := hk B h.lt (.inl rfl)
  have hc : ∀ j, w'.cell? ⟨B, j, none⟩ = w.cell? ⟨B, j, none⟩ := fun j => World.cell?_of_block (w := w) hB
  exact ⟨(hc 0).trans h.c0, (hc 1).trans h.c1, (hc 2).trans h.c2, (hc 3).trans h.c3, (hc 4).trans h.c4, (hc 5).trans h.c5, (hc 6).trans h.c6, fun j => (World.frozen?_of_block (w := w) hB).trans (h.fz j), h.rw.frame hs fun g hg hlt => hk g hlt (.inr hg), h.ne, h.hb, h.hl⟩

theorem Jp.later (h : Jp w B D t v o st rv) (hb : Below w.heap.size w w') : Jp w' B D t v o st rv := h.frame hb.size fun k hk _ => hb.block k hk
theorem Jp.other (h : Jp w B D t v o st rv) {T : Nat → Prop} (hf : Fr T w w') (hn : ∀ k, k < w.heap.size → (k = B ∨ rv.ownBlock = some k) → ¬ T k) : Jp w' B D t v o st rv := h.frame hf.size fun k hk hs => hf.block k hk (hn k hk hs)
end

end Go.Proofs.Yteanjnkfoddfmaa

namespace Go.Proofs.Yteanjnkfoddfmaa
open Go.RowKit
set_option linter.unusedVariables false

theorem Rw.set {w : World} {B : Nat} {v x : Value} {L : List (List UInt8)} (h : Rw w v L) (hn : ∀ g, v.ownBlock = some g → g ≠ B) (j : Nat) : Rw (w.setCell ⟨B, j, none⟩ x) v L :=
  h.frame (by simp [World.setCell]) fun g hg _ => Below.heap_setCell _ _ _ _ (hn g hg)

theorem Rw.drewN {w : World} {v : Value} {L : List (List UInt8)} (h : Rw w v L) (n : Nat) : Rw (w.drewN n) v L := h
theorem Jp.drewN {w : World} {B D t v o : Nat} {st : St} {rv : Value} (h : Jp w B D t v o st rv) (n : Nat) : Jp (w.drewN n) B D t v o st rv := ⟨h.c0, h.c1, h.c2, h.c3, h.c4, h.c5, h.c6, h.fz, h.rw, h.ne, h.hb, h.hl⟩
theorem Jp.drew {w : World} {B D t v o : Nat} {st : St} {rv : Value} (h : Jp w B D t v o st rv) : Jp w.drew B D t v o st rv := ⟨h.c0, h.c1, h.c2, h.c3, h.c4, h.c5, h.c6, h.fz, h.rw, h.ne, h.hb, h.hl⟩
theorem Mov.drew {B : Nat} {v v' : Value} {w w' : World} (h : Mov B v v' w w') : Mov B v v' w w'.drew := ⟨⟨h.fr.os, h.fr.tape, h.fr.output, h.fr.size, h.fr.block⟩, h.nw⟩
theorem Rw.alloc {w : World} {v : Value} {L : List (List UInt8)} (h : Rw w v L) (o : Obj) : Rw (w.alloc o) v L := h.later (below_new w o)

section
variable {w : World} {B D t v o : Nat} {b : Nat} {d : List UInt8} {L : List (List UInt8)} {rv : Value}

theorem Jp.put45 (h : Jp w B D t v o (b, d, L) rv) (n : Nat) (s : List UInt8) (hn : n ≤ 1099511627776) : Jp ((w.setCell ⟨B, 4, none⟩ (.int .i64 n)).setCell ⟨B, 5, none⟩ (.string (bs s))) B D t v o (n, s, L) rv := by
  have h4 : (w.setCell ⟨B, 4, none⟩ (.int .i64 n)).cell? ⟨B, 4, none⟩ = some (.int .i64 n) := World.cell?_setCell_same w _ _ h.c4
  have h5 : (w.setCell ⟨B, 4, none⟩ (.int .i64 n)).cell? ⟨B, 5, none⟩ = some (.string (bs d)) := (World.cell?_setCell_other w _ _ _ (by simp)).trans h.c5
  have ot : ∀ j, j ≠ 4 → j ≠ 5 → ((w.setCell ⟨B, 4, none⟩ (.int .i64 n)).setCell ⟨B, 5, none⟩ (.string (bs s))).cell? ⟨B, j, none⟩ = w.cell? ⟨B, j, none⟩ := fun j h1 h2 => by
    rw [World.cell?_setCell_other _ _ _ _ (fun e => h2 (by injection e with _ e; exact e.symm)), World.cell?_setCell_other _ _ _ _ (fun e => h1 (by injection e with _ e; exact e.symm))]
  exact ⟨(ot 0 (by decide) (by decide)).trans h.c0, (ot 1 (by decide) (by decide)).trans h.c1, (ot 2 (by decide) (by decide)).trans h.c2, (ot 3 (by decide) (by decide)).trans h.c3, (World.cell?_setCell_other _ _ _ _ (by simp)).trans h4, World.cell?_setCell_same _ _ _ h5, (ot 6 (by decide) (by decide)).trans h.c6, fun j => by simpa using h.fz j, (h.rw.set h.ne 4).set h.ne 5, h.ne, hn, h.hl⟩

/-- The records lie anew, all else of the journal is as it was. -/
theorem Jp.newrow (h : Jp w B D t v o (b, d, L) rv) {w1 : World} {rv' : Value} {L' : List (List UInt8)} (hf : Fr (fun k => rv.ownBlock = some k) w w1) (hr : Rw w1 rv' L') (hn : ∀ g, rv'.ownBlock = some g → rv.ownBlock = some g ∨ w.heap.size ≤ g) (hl' : L'.length ≤ 1099511627776) :
    w1.cell? ⟨B, 6, none⟩ = some rv ∧ w1.frozen? ⟨B, 6, none⟩ = false ∧ Jp (w1.setCell ⟨B, 6, none⟩ rv') B D t v o (b, d, L') rv' ∧ Mov B rv rv' w (w1.setCell ⟨B, 6, none⟩ rv') := by
  have hB : w1.heap[B]? = w.heap[B]? := hf.block B h.lt (fun e => h.ne B e rfl)
  have hc : ∀ j, w1.cell? ⟨B, j, none⟩ = w.cell? ⟨B, j, none⟩ := fun j => World.cell?_of_block (w := w) hB
  have hz : ∀ j, w1.frozen? ⟨B, j, none⟩ = false := fun j => (World.frozen?_of_block (w := w) hB).trans (h.fz j)
  have hne : ∀ g, rv'.ownBlock = some g → g ≠ B := fun g hg e => by
    rcases hn g hg with e1 | e1
    · exact h.ne g e1 e
    · have := h.lt; omega
  refine ⟨(hc 6).trans h.c6, hz 6, ?_, ⟨⟨hf.os, hf.tape, hf.output, by simpa [World.setCell] using hf.size, fun k hk hn => ?_⟩, hn⟩⟩
  · exact ⟨(World.cell?_setCell_other _ _ _ _ (by simp)).trans ((hc 0).trans h.c0), (World.cell?_setCell_other _ _ _ _ (by simp)).trans ((hc 1).trans h.c1), (World.cell?_setCell_other _ _ _ _ (by simp)).trans ((hc 2).trans h.c2), (World.cell?_setCell_other _ _ _ _ (by simp)).trans ((hc 3).trans h.c3), (World.cell?_setCell_other _ _ _ _ (by simp)).trans ((hc 4).trans h.c4), (World.cell?_setCell_other _ _ _ _ (by simp)).trans ((hc 5).trans h.c5), World.cell?_setCell_same _ _ _ ((hc 6).trans h.c6), fun j => by simpa using hz j, hr.set hne 6, hne, h.hb, hl'⟩
  · rw [Below.heap_setCell _ _ _ _ (fun e => hn (.inl e))]
    exact hf.block k hk (fun e => hn (.inr e))

theorem Jp.added (h : Jp w B D t v o (b, d, L) rv) {w0 w1 : World} {rv' X : Value} {s : List UInt8} {N : Nat} (hN : w.cell? ⟨N, 2, none⟩ = some X) (hne : ∀ g, rv.ownBlock = some g → g ≠ N) (hb : Below w.heap.size w w0) (hl : L.length < 1099511627776) (hA : Addd w0 rv L s rv' w1) :
    w1.cell? ⟨N, 2, none⟩ = some X ∧ w1.cell? ⟨B, 6, none⟩ = some rv ∧ w1.frozen? ⟨B, 6, none⟩ = false ∧ Jp (w1.setCell ⟨B, 6, none⟩ rv') B D t v o (b, d, L ++ [s]) rv' ∧ Mov B rv rv' w (w1.setCell ⟨B, 6, none⟩ rv') ∧ ∃ ao n c, rv' = .slice ao n c := by
  obtain ⟨a1, a2, a3, a4⟩ := hA
  have hf := (Fr.of hb).trans a2
  have hlt := World.block_lt_of_cell? w _ hN
  obtain ⟨k1, k2, k3, k4⟩ := h.newrow hf a1 (fun g hg => by
    rcases a3 g hg with e | e
    · exact .inl e
    · exact .inr (Nat.le_trans hb.size e)) (by rw [List.length_append]; simp; omega)
  exact ⟨(World.cell?_of_block (w := w) (hf.block N hlt (fun e => hne N e rfl))).trans hN, k1, k2, k3, k4, a4⟩

theorem Jp.cleared (h : Jp w B D t v o (b, d, L) rv) {w1 : World} {rv' : Value} {L' : List (List UInt8)} {N : Nat} (hN : N < w.heap.size) (hne : ∀ g, rv.ownBlock = some g → g ≠ N) (hA : Rw w1 rv' L' ∧ Fr (fun k => rv.ownBlock = some k) w w1) (hn : ∀ g, rv'.ownBlock = some g → rv.ownBlock = some g) (hl' : L'.length ≤ 1099511627776) :
    (∀ j, w1.cell? ⟨N, j, none⟩ = w.cell? ⟨N, j, none⟩) ∧ (∀ j, w1.cell? ⟨B, j, none⟩ = w.cell? ⟨B, j, none⟩) ∧ (∀ j, w1.frozen? ⟨B, j, none⟩ = false) ∧ Jp (w1.setCell ⟨B, 6, none⟩ rv') B D t v o (b, d, L') rv' ∧ Mov B rv rv' w (w1.setCell ⟨B, 6, none⟩ rv') := by
  obtain ⟨k1, k2, k3, k4⟩ := h.newrow hA.2 hA.1 (fun g hg => .inl (hn g hg)) hl'
  exact ⟨fun j => World.cell?_of_block (w := w) (hA.2.block N hN (fun e => hne N e rfl)), fun j => World.cell?_of_block (w := w) (hA.2.block B h.lt (fun e => h.ne B e rfl)), fun j => (World.frozen?_of_block (w := w) (hA.2.block B h.lt (fun e => h.ne B e rfl))).trans (h.fz j), k3, k4⟩
end

theorem step_append_rw {ops : Array Oper} {o : Oper} {a : Act} {w : World} {K : Act → World → Prop} {Q : Exit → Act → World → Prop} {E : Prop} (hgd : o.guard = none) (s x : Operand)
    (ho : o.op = .call { callee := .builtin .append, args := #[s, x], argTypes := #[75, 75] })
    (v : Value) (L : List (List UInt8)) (hv : a.eval s = v) (h : Rw w v L) (xb : Nat) (l : List UInt8) (hxv : a.eval x = .slice (some ⟨xb, 0, none⟩) 1 1) (hx : w.cell? ⟨xb, 0, none⟩ = some (.string (bs l)))
    (hlen : L.length ≤ 1099511627776)
    (hK : ∀ v' w', Addd w v L l v' w' → K (a.put o.dst v') w') : if Region.wanted o (yielded ops a.tmps) = true then Oper.wp Try.prog o a w K Q else E := by
  have hw : Region.wanted o (yielded ops a.tmps) = true := by simp [Region.wanted, hgd]
  rw [if_pos hw]
  obtain ⟨v', w', hr, h2⟩ := run_append_rw w v L l h xb hx hlen o.type
  unfold Oper.wp execOp
  simp only [ho, resolve, invoke, builtin, Sem.run_bind, Sem.run_pure, Result.andThen_ok, List.map_toArray, List.map_cons, List.map_nil, hv, hxv, hr]
  exact hK v' w' h2

set_option maxRecDepth 100000 in
set_option maxHeartbeats 1000000 in
theorem addRecord_any (B D t v o b : Nat) (d s : List UInt8) (L : List (List UInt8)) (rv : Value) (k n : Int) (w : World) (h : Jp w B D t v o (b, d, L) rv) (hl : L.length < 1099511627776) :
    Calls Try.prog 83 #[.pointer (some ⟨B, 0, none⟩), .agg #[.int .i64 k, .int .i64 n, .string (bs s)]] w fun e w' => e = .returned (.bool true) ∧ ∃ rv', Jp w' B D t v o (b, d, L ++ [s]) rv' ∧ Mov B rv rv' w w' := by
  obtain ⟨ao, c, rfl, hc1, hc2⟩ := h.rw.val
  have hb0 : Below w.heap.size w (w.alloc (.cells #[.int .i64 k, .int .i64 n, .string (bs s)] 93)) := below_new w _
  have h0 := h.later hb0
  have c6 := h0.c6
  have fz := h0.fz 6
  have hlt := h.lt
  have hN : (w.alloc (.cells #[.int .i64 k, .int .i64 n, .string (bs s)] 93)).cell? ⟨w.heap.size, 2, none⟩ = some (.string (bs s)) := by simp
  have HR := hide h0.rw
  have H0 := hide h0
  have HB := hide hb0
  have Hne : Hid (∀ g, (Value.slice ao L.length c).ownBlock = some g → g ≠ w.heap.size) := fun g hg e => by have := h.rw.lt g hg; omega
  have hS : w.heap.size < (w.alloc (.cells #[.int .i64 k, .int .i64 n, .string (bs s)] 93)).heap.size := by simp
  clear h0 hb0 h
  go_enter Try.func83, Try.ntmps83
  go_wp2_with fail
  generalize w.alloc (.cells #[.int .i64 k, .int .i64 n, .string (bs s)] 93) = W at *
  generalize hX : bs s = X at *
  have HX := hide hX
  clear hX
  have c6a : ∀ ob : Obj, (W.alloc ob).cell? ⟨B, 6, none⟩ = some (.slice ao L.length c) := fun ob => Lib.cell?_alloc_some ob c6
  go_region_law ((refine step_append_rw rfl (.tmp 9) (.tmp 12) rfl _ L rfl ((unhide HR).alloc _) _ s rfl (by rw [unhide HX]; simp) (Nat.le_of_lt hl) ?_; intro v' w1 hA; obtain ⟨a5, a6, a7, a8, a9, ao', n', c', rfl⟩ := (unhide H0).added hN (unhide Hne) (Below.drew (below_new _ _)) hl hA; have A8 := hide a8; have A9 := hide a9; clear a8 a9 hA))
  all_goals go_wp2
  all_goals go_ret
  all_goals exact ⟨rfl, _, unhide A8, (unhide A9).ahead (unhide HB)⟩

theorem step_clear {ops : Array Oper} {o : Oper} {a : Act} {w : World} {K : Act → World → Prop} {Q : Exit → Act → World → Prop} {E : Prop} (hgd : o.guard = none) (s : Operand)
    (ho : o.op = .call { callee := .builtin .clear, args := #[s], argTypes := #[75] }) (x : Value) (hv : a.eval s = x) {R : World → Prop} (hr : ∃ w', (Builtin.clear_ #[75] o.type #[x]).run Try.prog w = .ok (.tuple #[]) w' ∧ R w')
    (hK : ∀ w', R w' → K (a.put o.dst (.tuple #[])) w') : if Region.wanted o (yielded ops a.tmps) = true then Oper.wp Try.prog o a w K Q else E := by
  have hw : Region.wanted o (yielded ops a.tmps) = true := by simp [Region.wanted, hgd]
  rw [if_pos hw]
  obtain ⟨w', hr, h2⟩ := hr
  unfold Oper.wp execOp
  simp only [ho, resolve, invoke, builtin, Sem.run_bind, Sem.run_pure, Result.andThen_ok, List.map_toArray, List.map_cons, List.map_nil, hv, hr]
  exact hK w' h2

set_option maxRecDepth 100000 in
set_option maxHeartbeats 1000000 in
theorem keepFirst_no (B D t v o b : Nat) (d : List UInt8) (L : List (List UInt8)) (rv : Value) (k : Int) (n : Nat) (s : ByteArray) (w : World) (h : Jp w B D t v o (b, d, L) rv) (hn : L.length < n) :
    Calls Try.prog 84 #[.pointer (some ⟨B, 0, none⟩), .agg #[.int .i64 k, .int .i64 n, .string s]] w fun e w' => e = .returned (.bool false) ∧ Below w.heap.size w w' := by
  obtain ⟨ao, c, rfl, hc1, hc2⟩ := h.rw.val
  have hb0 : Below w.heap.size w (w.alloc (.cells #[.int .i64 k, .int .i64 n, .string s] 93)) := below_new w _
  have c6 := (h.later hb0).c6
  have hN : (w.alloc (.cells #[.int .i64 k, .int .i64 n, .string s] 93)).cell? ⟨w.heap.size, 1, none⟩ = some (.int .i64 n) := by simp
  have HB := hide hb0
  have hd : decide ((L.length : Int) < n) = true := by simp; omega
  clear hb0 h
  go_enter Try.func84, Try.ntmps84
  go_wp2_with fail
  generalize w.alloc (.cells #[.int .i64 k, .int .i64 n, .string s] 93) = W at *
  go_quiet (fail)
  go_wp2
  go_ret
  exact ⟨rfl, by exact belowN (unhide HB) _⟩

set_option maxRecDepth 100000 in
set_option maxHeartbeats 1000000 in
theorem keepFirst_yes (B D t v o b : Nat) (d : List UInt8) (L : List (List UInt8)) (rv : Value) (k : Int) (n : Nat) (s : ByteArray) (w : World) (h : Jp w B D t v o (b, d, L) rv) (hn : n ≤ L.length) :
    Calls Try.prog 84 #[.pointer (some ⟨B, 0, none⟩), .agg #[.int .i64 k, .int .i64 n, .string s]] w fun e w' => e = .returned (.bool true) ∧ ∃ rv', Jp w' B D t v o (b, d, L.take n) rv' ∧ Mov B rv rv' w w' := by
  obtain ⟨ao, c, rfl, hc1, hc2⟩ := h.rw.val
  have hb0 : Below w.heap.size w (w.alloc (.cells #[.int .i64 k, .int .i64 n, .string s] 93)) := below_new w _
  have h0 := h.later hb0
  have c6 := h0.c6
  have fz := h0.fz 6
  have hN : (w.alloc (.cells #[.int .i64 k, .int .i64 n, .string s] 93)).cell? ⟨w.heap.size, 1, none⟩ = some (.int .i64 n) := by simp
  have HB := hide hb0
  have hd : decide ((L.length : Int) < n) = false := by simp; omega
  have Hne : Hid (∀ g, (Value.slice ao L.length c).ownBlock = some g → g ≠ w.heap.size) := fun g hg e => by have := h.rw.lt g hg; omega
  have hlt : (L.take n).length ≤ 1099511627776 := by have : L.length ≤ 1099511627776 := h.hl; rw [List.length_take]; omega
  have HR := hide h0.rw
  have H0 := hide h0
  have hlN : w.heap.size < (w.alloc (.cells #[.int .i64 k, .int .i64 n, .string s] 93)).heap.size := by simp
  unfold maxLen at hc2
  clear hb0 h h0
  go_enter Try.func84, Try.ntmps84
  go_wp2_with fail
  generalize w.alloc (.cells #[.int .i64 k, .int .i64 n, .string s] 93) = W at *
  go_quiet (fail)
  go_wp2_with fail
  go_region_law ((refine step_clear rfl (.tmp 19) rfl (.slice (if c = n then ao else ao.map (·.add n)) (L.length - n) (c - n)) rfl (clear_tail _ ao c n L _ ((unhide HR).drewN _) hn) ?_; intro w1 hA; obtain ⟨a1, a2, a3, a4, a5⟩ := ((unhide H0).drewN _).cleared (N := w.heap.size) hlN (unhide Hne) (rv' := .slice ao n c) hA (fun g hg => (ownBlock_len _ _ _ _ _).trans hg) hlt; have a6 := (a2 6).trans c6; have a8 := a3 6; have a7 := (a1 1).trans hN; have A4 := hide a4; have A5 := hide a5; clear a1 a2 a3 a4 a5 hA))
  all_goals go_wp2_with fail
  all_goals go_region
  all_goals go_wp2
  all_goals go_ret
  all_goals first | exact ⟨rfl, _, (unhide A4).drew, ((unhide A5).ahead (belowN (unhide HB) _)).drew⟩ | (have e : c = n := (by assumption); subst e; exact ⟨rfl, _, (unhide A4).drew, ((unhide A5).ahead (belowN (unhide HB) _)).drew⟩)

end Go.Proofs.Yteanjnkfoddfmaa

namespace Go.Proofs.Yteanjnkfoddfmaa
open Go.RowKit
set_option linter.unusedVariables false

theorem wpList_clear {ops : Array Oper} {rest : List Oper} {o : Oper} {a : Act} {Q : Exit → Act → World → Prop} (w : World) (hgd : o.guard = none) (s : Operand)
    (ho : o.op = .call { callee := .builtin .clear, args := #[s], argTypes := #[75] }) (x : Value) (hv : a.eval s = x) {R : World → Prop} (hr : ∃ w', (Builtin.clear_ #[75] o.type #[x]).run Try.prog w = .ok (.tuple #[]) w' ∧ R w')
    (hK : ∀ w', R w' → wpList Try.prog ops Q rest (a.put o.dst (.tuple #[])) w') : wpList Try.prog ops Q (o :: rest) a w := by
  refine wpList_plain hgd fun K hK' => ?_
  obtain ⟨w', hr, h2⟩ := hr
  unfold Oper.wp execOp
  simp only [ho, resolve, invoke, builtin, Sem.run_bind, Sem.run_pure, Result.andThen_ok, List.map_toArray, List.map_cons, List.map_nil, hv, hr]
  exact hK' _ _ (hK w' h2)

theorem Mov.set {B : Nat} {v v' : Value} {w w' : World} (h : Mov B v v' w w') (j : Nat) (x : Value) : Mov B v v' w (w'.setCell ⟨B, j, none⟩ x) := ⟨h.fr.set (.inl rfl) x, h.nw⟩

/-- Where a base is laid, so many records are gone. -/
def goneN (b n l : Nat) : Nat := if b ≤ n ∧ n ≤ b + l then n - b else l
theorem goneN_le (b n l : Nat) : goneN b n l ≤ l := by unfold goneN; split <;> omega
theorem goneN_drop (b n : Nat) (L : List (List UInt8)) : L.drop (goneN b n L.length) = if b ≤ n ∧ n ≤ b + L.length then L.drop (n - b) else [] := by
  unfold goneN
  split
  · rfl
  · simp

set_option maxRecDepth 100000 in
set_option maxHeartbeats 1000000 in
theorem last_any (B D t v o b : Nat) (d : List UInt8) (L : List (List UInt8)) (rv : Value) (w : World) (h : Jp w B D t v o (b, d, L) rv) :
    Calls Try.prog 37 #[.pointer (some ⟨B, 0, none⟩)] w fun e w' => e = .returned (.int .i64 ((b + L.length : Nat) : Int)) ∧ ∃ q, w' = w.drewN q := by
  obtain ⟨ao, c, rfl, hc1, hc2⟩ := h.rw.val
  have c4 := h.c4
  have c6 := h.c6
  have hb : b ≤ 1099511627776 := h.hb
  have hl : L.length ≤ 1099511627776 := h.hl
  unfold maxLen at hc2
  clear h
  go_enter Try.func37, Try.ntmps37
  go_wp2_with fail
  go_quiet (fail)
  go_wp2
  go_ret
  exact ⟨by simp, _, rfl⟩

set_option maxRecDepth 100000 in
set_option maxHeartbeats 2000000 in
theorem layBase_any (B D t v o b : Nat) (d s : List UInt8) (L : List (List UInt8)) (rv : Value) (k : Int) (n : Nat) (w : World) (h : Jp w B D t v o (b, d, L) rv) (hn : n ≤ 1099511627776) :
    Calls Try.prog 85 #[.pointer (some ⟨B, 0, none⟩), .agg #[.int .i64 k, .int .i64 n, .string (bs s)]] w fun e w' => e = .returned (.bool true) ∧ ∃ rv', Jp w' B D t v o (n, s, L.drop (goneN b n L.length)) rv' ∧ Mov B rv rv' w w' := by
  obtain ⟨ao, c, rfl, hc1, hc2⟩ := h.rw.val
  have hb0 : Below w.heap.size w (w.alloc (.cells #[.int .i64 k, .int .i64 n, .string (bs s)] 93)) := below_new w _
  have h0 := h.later hb0
  have c4 := h0.c4
  have c6 := h0.c6
  have c5 := h0.c5
  have hb : b ≤ 1099511627776 := h.hb
  have hl : L.length ≤ 1099511627776 := h.hl
  have hN1 : (w.alloc (.cells #[.int .i64 k, .int .i64 n, .string (bs s)] 93)).cell? ⟨w.heap.size, 1, none⟩ = some (.int .i64 n) := by simp
  have hN2 : (w.alloc (.cells #[.int .i64 k, .int .i64 n, .string (bs s)] 93)).cell? ⟨w.heap.size, 2, none⟩ = some (.string (bs s)) := by simp
  have HB := hide hb0
  have hBN : ¬ B = w.heap.size := by have := h.lt; omega
  have hNB : ¬ w.heap.size = B := by have := h.lt; omega
  have Hne : Hid (∀ g, (Value.slice ao L.length c).ownBlock = some g → g ≠ w.heap.size) := fun g hg e => by have := h.rw.lt g hg; omega
  have hlN : w.heap.size < (w.alloc (.cells #[.int .i64 k, .int .i64 n, .string (bs s)] 93)).heap.size := by simp
  have HR := hide h0.rw
  have H0 := hide h0
  unfold maxLen at hc2
  clear hb0 h h0
  go_enter Try.func85, Try.ntmps85
  go_wp2_with fail
  generalize w.alloc (.cells #[.int .i64 k, .int .i64 n, .string (bs s)] 93) = W at *
  by_cases h1 : b ≤ n
  · have d1 : decide ((b : Int) ≤ n) = true := by simpa using h1
    by_cases h2 : n ≤ b + L.length
    · have d2 : decide ((n : Int) ≤ (b : Int) + (L.length : Int)) = true := by simp; omega
      have hg : goneN b n L.length = n - b := if_pos ⟨h1, h2⟩
      have he : (n : Int) - (b : Int) = ((n - b : Nat) : Int) := by omega
      have hle : n - b ≤ L.length := by omega
      generalize n - b = g at *
      have Hg := hide hg
      clear hg
      go_quiet ((go_at_call 37; exact Calls.quiet_of (last_any B D t v o b d L _ _ ((unhide H0).drewN _))))
      go_wp2_with fail
      go_quiet (fail)
      by_cases hcg : c = g
      · subst hcg
        go_wp2_with (refine wpList_clear _ rfl (.tmp 37) rfl (.slice ao c c) rfl (clear_head _ ao c c L _ ((unhide HR).drewN _) hle) ?_)
        intro w1 hA
        obtain ⟨a1, a2, a3, a4, a5⟩ := ((unhide H0).drewN _).cleared (N := w.heap.size) hlN (unhide Hne) hA (fun g hg => (ownBlock_drop _ _ _ _ _ _).symm.trans hg) (by rw [List.length_drop]; omega)
        have b4 := (a2 4).trans c4
        have b5 := (a2 5).trans c5
        have b6 := (a2 6).trans c6
        have n1 := (a1 1).trans hN1
        have n2 := (a1 2).trans hN2
        have z4 := a3 4
        have z5 := a3 5
        have z6 := a3 6
        rw [if_pos rfl, Nat.sub_self, Nat.sub_eq_zero_of_le hc1] at a4 a5
        have a6 := a4.put45 n s hn
        have A5 := hide a5
        have A6 := hide a6
        clear a1 a2 a3 a4 a5 a6 hA
        go_wp2_with fail
        go_region
        all_goals go_wp2
        all_goals go_ret
        all_goals rw [unhide Hg]
        all_goals exact ⟨rfl, _, (unhide A6).drew, ((((unhide A5).set 4 _).set 5 _).ahead (belowN (unhide HB) _)).drew⟩
      · skip
        go_wp2_with (refine wpList_clear _ rfl (.tmp 37) rfl (.slice ao g c) rfl (clear_head _ ao c g L _ ((unhide HR).drewN _) hle) ?_)
        intro w1 hA
        obtain ⟨a1, a2, a3, a4, a5⟩ := ((unhide H0).drewN _).cleared (N := w.heap.size) hlN (unhide Hne) hA (fun g hg => (ownBlock_drop _ _ _ _ _ _).symm.trans hg) (by rw [List.length_drop]; omega)
        have b4 := (a2 4).trans c4
        have b5 := (a2 5).trans c5
        have b6 := (a2 6).trans c6
        have n1 := (a1 1).trans hN1
        have n2 := (a1 2).trans hN2
        have z4 := a3 4
        have z5 := a3 5
        have z6 := a3 6
        rw [if_neg hcg] at a4 a5
        have a6 := a4.put45 n s hn
        have A5 := hide a5
        have A6 := hide a6
        clear a1 a2 a3 a4 a5 a6 hA
        go_wp2_with fail
        go_region
        all_goals go_wp2
        all_goals go_ret
        all_goals rw [unhide Hg]
        all_goals exact ⟨rfl, _, (unhide A6).drew, ((((unhide A5).set 4 _).set 5 _).ahead (belowN (unhide HB) _)).drew⟩
    · have d2 : decide ((n : Int) ≤ (b : Int) + (L.length : Int)) = false := by simp; omega
      have hg : goneN b n L.length = L.length := if_neg (fun e => h2 e.2)
      have hle : L.length ≤ L.length := Nat.le_refl _
      have Hg := hide hg
      clear hg
      go_quiet ((go_at_call 37; exact Calls.quiet_of (last_any B D t v o b d L _ _ ((unhide H0).drewN _))))
      by_cases hcg : c = L.length
      · subst hcg
        go_wp2_with (refine wpList_clear _ rfl (.tmp 37) rfl (.slice ao L.length L.length) rfl (clear_head _ ao L.length L.length L _ ((unhide HR).drewN _) hle) ?_)
        intro w1 hA
        obtain ⟨a1, a2, a3, a4, a5⟩ := ((unhide H0).drewN _).cleared (N := w.heap.size) hlN (unhide Hne) hA (fun g hg => (ownBlock_drop _ _ _ _ _ _).symm.trans hg) (by rw [List.length_drop]; omega)
        have b4 := (a2 4).trans c4
        have b5 := (a2 5).trans c5
        have b6 := (a2 6).trans c6
        have n1 := (a1 1).trans hN1
        have n2 := (a1 2).trans hN2
        have z4 := a3 4
        have z5 := a3 5
        have z6 := a3 6
        rw [if_pos rfl, Nat.sub_self] at a4 a5
        have a6 := a4.put45 n s hn
        have A5 := hide a5
        have A6 := hide a6
        clear a1 a2 a3 a4 a5 a6 hA
        go_wp2_with fail
        go_region
        all_goals go_wp2
        all_goals go_ret
        all_goals rw [unhide Hg]
        all_goals exact ⟨rfl, _, (unhide A6).drew, ((((unhide A5).set 4 _).set 5 _).ahead (belowN (unhide HB) _)).drew⟩
      · skip
        go_wp2_with (refine wpList_clear _ rfl (.tmp 37) rfl (.slice ao L.length c) rfl (clear_head _ ao c L.length L _ ((unhide HR).drewN _) hle) ?_)
        intro w1 hA
        obtain ⟨a1, a2, a3, a4, a5⟩ := ((unhide H0).drewN _).cleared (N := w.heap.size) hlN (unhide Hne) hA (fun g hg => (ownBlock_drop _ _ _ _ _ _).symm.trans hg) (by rw [List.length_drop]; omega)
        have b4 := (a2 4).trans c4
        have b5 := (a2 5).trans c5
        have b6 := (a2 6).trans c6
        have n1 := (a1 1).trans hN1
        have n2 := (a1 2).trans hN2
        have z4 := a3 4
        have z5 := a3 5
        have z6 := a3 6
        rw [if_neg hcg, Nat.sub_self] at a4 a5
        have a6 := a4.put45 n s hn
        have A5 := hide a5
        have A6 := hide a6
        clear a1 a2 a3 a4 a5 a6 hA
        go_wp2_with fail
        go_region
        all_goals go_wp2
        all_goals go_ret
        all_goals rw [unhide Hg]
        all_goals exact ⟨rfl, _, (unhide A6).drew, ((((unhide A5).set 4 _).set 5 _).ahead (belowN (unhide HB) _)).drew⟩
  · have d1 : decide ((b : Int) ≤ n) = false := by simpa using h1
    have hg : goneN b n L.length = L.length := if_neg (fun e => h1 e.1)
    have hle : L.length ≤ L.length := Nat.le_refl _
    have Hg := hide hg
    clear hg
    go_quiet (fail)
    by_cases hcg : c = L.length
    · subst hcg
      go_wp2_with (refine wpList_clear _ rfl (.tmp 37) rfl (.slice ao L.length L.length) rfl (clear_head _ ao L.length L.length L _ ((unhide HR).drewN _) hle) ?_)
      intro w1 hA
      obtain ⟨a1, a2, a3, a4, a5⟩ := ((unhide H0).drewN _).cleared (N := w.heap.size) hlN (unhide Hne) hA (fun g hg => (ownBlock_drop _ _ _ _ _ _).symm.trans hg) (by rw [List.length_drop]; omega)
      have b4 := (a2 4).trans c4
      have b5 := (a2 5).trans c5
      have b6 := (a2 6).trans c6
      have n1 := (a1 1).trans hN1
      have n2 := (a1 2).trans hN2
      have z4 := a3 4
      have z5 := a3 5
      have z6 := a3 6
      rw [if_pos rfl, Nat.sub_self] at a4 a5
      have a6 := a4.put45 n s hn
      have A5 := hide a5
      have A6 := hide a6
      clear a1 a2 a3 a4 a5 a6 hA
      go_wp2_with fail
      go_region
      all_goals go_wp2
      all_goals go_ret
      all_goals rw [unhide Hg]
      all_goals exact ⟨rfl, _, (unhide A6).drew, ((((unhide A5).set 4 _).set 5 _).ahead (belowN (unhide HB) _)).drew⟩
    · skip
      go_wp2_with (refine wpList_clear _ rfl (.tmp 37) rfl (.slice ao L.length c) rfl (clear_head _ ao c L.length L _ ((unhide HR).drewN _) hle) ?_)
      intro w1 hA
      obtain ⟨a1, a2, a3, a4, a5⟩ := ((unhide H0).drewN _).cleared (N := w.heap.size) hlN (unhide Hne) hA (fun g hg => (ownBlock_drop _ _ _ _ _ _).symm.trans hg) (by rw [List.length_drop]; omega)
      have b4 := (a2 4).trans c4
      have b5 := (a2 5).trans c5
      have b6 := (a2 6).trans c6
      have n1 := (a1 1).trans hN1
      have n2 := (a1 2).trans hN2
      have z4 := a3 4
      have z5 := a3 5
      have z6 := a3 6
      rw [if_neg hcg, Nat.sub_self] at a4 a5
      have a6 := a4.put45 n s hn
      have A5 := hide a5
      have A6 := hide a6
      clear a1 a2 a3 a4 a5 a6 hA
      go_wp2_with fail
      go_region
      all_goals go_wp2
      all_goals go_ret
      all_goals rw [unhide Hg]
      all_goals exact ⟨rfl, _, (unhide A6).drew, ((((unhide A5).set 4 _).set 5 _).ahead (belowN (unhide HB) _)).drew⟩

end Go.Proofs.Yteanjnkfoddfmaa

namespace Go.Proofs.Yteanjnkfoddfmaa
open Go.RowKit
set_option linter.unusedVariables false

def actsEs : Array MapEntry := #[⟨.int .i64 1, .func (.func 83) #[] #[], 0⟩, ⟨.int .i64 2, .func (.func 84) #[] #[], 1⟩, ⟨.int .i64 3, .func (.func 85) #[] #[], 2⟩]

/-- The map of acts lies in block m. -/
def Acts (w : World) (m : Nat) : Prop := w.heap[m]? = some (.map actsEs 3)

theorem Acts.later {w w' : World} {m : Nat} (h : Acts w m) (hb : Below w.heap.size w w') : Acts w' m := by
  have hlt : m < w.heap.size := by
    rcases Nat.lt_or_ge m w.heap.size with h' | h'
    · exact h'
    · rw [Acts, Array.getElem?_eq_none h'] at h; cases h
  exact (hb.block m hlt).trans h

theorem Acts.lt {w : World} {m : Nat} (h : Acts w m) : m < w.heap.size := by
  rcases Nat.lt_or_ge m w.heap.size with h' | h'
  · exact h'
  · rw [Acts, Array.getElem?_eq_none h'] at h; cases h

theorem Acts.frame {w w' : World} {m : Nat} (h : Acts w m) (hk : w'.heap[m]? = w.heap[m]?) : Acts w' m := hk.trans h

theorem upd_alloc (w : World) (es : Array MapEntry) (clock : Nat) (k : Int) (v : Value) (hk : Instr.findNow (.int .i64) (.int .i64 k) es.toList 0 = some none) :
    (Instr.mapUpdate 105 (.map (some w.heap.size)) (.int .i64 k) v).run Try.prog (w.alloc (.map es clock)) = .ok () (w.alloc (.map (es.push ⟨.int .i64 k, v, clock⟩) (clock + 1))) := by
  have hb : (w.alloc (.map es clock)).heap[w.heap.size]? = some (.map es clock) := by show (w.heap.push _)[w.heap.size]? = _; exact Array.getElem?_push_size
  have e : ({ (w.alloc (.map es clock)) with heap := (w.alloc (.map es clock)).heap.setIfInBounds w.heap.size (.map (es.push ⟨.int .i64 k, v, clock⟩) (clock + 1)) } : World) = w.alloc (.map (es.push ⟨.int .i64 k, v, clock⟩) (clock + 1)) := by
    have hh : (w.heap.push (.map es clock)).setIfInBounds w.heap.size (.map (es.push ⟨.int .i64 k, v, clock⟩) (clock + 1)) = w.heap.push (.map (es.push ⟨.int .i64 k, v, clock⟩) (clock + 1)) := by
      apply Array.ext_getElem?
      intro i
      simp only [Array.getElem?_setIfInBounds, Array.getElem?_push, Array.size_push]
      split
      · rename_i hi; subst hi; simp
      · rename_i hi; rw [if_neg (fun e => hi e.symm), if_neg (fun e => hi e.symm)]
    show World.mk ((w.heap.push (.map es clock)).setIfInBounds w.heap.size (.map (es.push ⟨.int .i64 k, v, clock⟩) (clock + 1))) w.tape w.drawn w.os w.output = _
    rw [hh]
    rfl
  simp only [Instr.mapUpdate, Sem.run_bind, run_underlying Try.underlying105, MapKept.run_getObj_map hb, MapKept.run_checkKey (d := .int .i64) Try.underlying91 (k := .int .i64 k) rfl, MapKept.run_findKey Try.underlying91 hk, MapKept.run_setObj_map _ hb, Result.andThen_ok, e]

theorem look1 (w : World) (m : Nat) (h : Acts w m) : (Instr.lookup 105 (.map (some m)) (.int .i64 1) false).run Try.prog w = .ok (.func (.func 83) #[] #[]) w := by
  have h' : w.heap[m]? = some (.map actsEs 3) := h
  simp only [Instr.lookup, Sem.run_bind, run_underlying Try.underlying105, MapKept.run_getObj_map h', MapKept.run_checkKey (d := .int .i64) Try.underlying91 (k := .int .i64 1) rfl, MapKept.run_findKey (l := actsEs.toList) (a := some (0, (.func (.func 83) #[] #[]))) (k := .int .i64 1) Try.underlying91 rfl, Result.andThen_ok, Sem.run_pure]
  rfl

theorem look2 (w : World) (m : Nat) (h : Acts w m) : (Instr.lookup 105 (.map (some m)) (.int .i64 2) false).run Try.prog w = .ok (.func (.func 84) #[] #[]) w := by
  have h' : w.heap[m]? = some (.map actsEs 3) := h
  simp only [Instr.lookup, Sem.run_bind, run_underlying Try.underlying105, MapKept.run_getObj_map h', MapKept.run_checkKey (d := .int .i64) Try.underlying91 (k := .int .i64 2) rfl, MapKept.run_findKey (l := actsEs.toList) (a := some (1, (.func (.func 84) #[] #[]))) (k := .int .i64 2) Try.underlying91 rfl, Result.andThen_ok, Sem.run_pure]
  rfl

theorem look3 (w : World) (m : Nat) (h : Acts w m) : (Instr.lookup 105 (.map (some m)) (.int .i64 3) false).run Try.prog w = .ok (.func (.func 85) #[] #[]) w := by
  have h' : w.heap[m]? = some (.map actsEs 3) := h
  simp only [Instr.lookup, Sem.run_bind, run_underlying Try.underlying105, MapKept.run_getObj_map h', MapKept.run_checkKey (d := .int .i64) Try.underlying91 (k := .int .i64 3) rfl, MapKept.run_findKey (l := actsEs.toList) (a := some (2, (.func (.func 85) #[] #[]))) (k := .int .i64 3) Try.underlying91 rfl, Result.andThen_ok, Sem.run_pure]
  rfl

theorem look1ok (w : World) (m : Nat) (h : Acts w m) : (Instr.lookup 105 (.map (some m)) (.int .i64 1) true).run Try.prog w = .ok (.tuple #[.func (.func 83) #[] #[], .bool true]) w := by
  have h' : w.heap[m]? = some (.map actsEs 3) := h
  simp only [Instr.lookup, Sem.run_bind, run_underlying Try.underlying105, MapKept.run_getObj_map h', MapKept.run_checkKey (d := .int .i64) Try.underlying91 (k := .int .i64 1) rfl, MapKept.run_findKey (l := actsEs.toList) (a := some (0, (.func (.func 83) #[] #[]))) (k := .int .i64 1) Try.underlying91 rfl, Result.andThen_ok, Sem.run_pure]
  rfl

theorem look2ok (w : World) (m : Nat) (h : Acts w m) : (Instr.lookup 105 (.map (some m)) (.int .i64 2) true).run Try.prog w = .ok (.tuple #[.func (.func 84) #[] #[], .bool true]) w := by
  have h' : w.heap[m]? = some (.map actsEs 3) := h
  simp only [Instr.lookup, Sem.run_bind, run_underlying Try.underlying105, MapKept.run_getObj_map h', MapKept.run_checkKey (d := .int .i64) Try.underlying91 (k := .int .i64 2) rfl, MapKept.run_findKey (l := actsEs.toList) (a := some (1, (.func (.func 84) #[] #[]))) (k := .int .i64 2) Try.underlying91 rfl, Result.andThen_ok, Sem.run_pure]
  rfl

theorem look3ok (w : World) (m : Nat) (h : Acts w m) : (Instr.lookup 105 (.map (some m)) (.int .i64 3) true).run Try.prog w = .ok (.tuple #[.func (.func 85) #[] #[], .bool true]) w := by
  have h' : w.heap[m]? = some (.map actsEs 3) := h
  simp only [Instr.lookup, Sem.run_bind, run_underlying Try.underlying105, MapKept.run_getObj_map h', MapKept.run_checkKey (d := .int .i64) Try.underlying91 (k := .int .i64 3) rfl, MapKept.run_findKey (l := actsEs.toList) (a := some (2, (.func (.func 85) #[] #[]))) (k := .int .i64 3) Try.underlying91 rfl, Result.andThen_ok, Sem.run_pure]
  rfl

theorem look_no (w : World) (m : Nat) (k : Int) (h : Acts w m) (h1 : k ≠ 1) (h2 : k ≠ 2) (h3 : k ≠ 3) : ∃ z, (Instr.lookup 105 (.map (some m)) (.int .i64 k) true).run Try.prog w = .ok (.tuple #[z, .bool false]) w := by
  have h' : w.heap[m]? = some (.map actsEs 3) := h
  have hf : Instr.findNow (.int .i64) (.int .i64 k) actsEs.toList 0 = some none := by
    have e1 : (k == 1) = false := by simpa using h1
    have e2 : (k == 2) = false := by simpa using h2
    have e3 : (k == 3) = false := by simpa using h3
    simp [actsEs, Instr.findNow, Instr.sameNow, e1, e2, e3]
  have hi : (Try.prog.info? 109).map (fun i => i.zero) = some (some .nilFunc) := by kernel_rfl
  have hz : ∀ w, (zeroValue 109).run Try.prog w = .ok .nilFunc w := fun w => by
    cases hj : Try.prog.info? 109 with
    | none => rw [hj] at hi; cases hi
    | some i =>
      rw [hj] at hi
      simp only [Option.map_some, Option.some.injEq] at hi
      simp [zeroValue, typeInfo, hj, hi]
  refine ⟨.nilFunc, ?_⟩
  simp only [Instr.lookup, Sem.run_bind, run_underlying Try.underlying105, MapKept.run_getObj_map h', MapKept.run_checkKey (d := .int .i64) Try.underlying91 (k := .int .i64 k) rfl, MapKept.run_findKey Try.underlying91 hf, hz, Result.andThen_ok, Sem.run_pure]
  rfl

set_option maxRecDepth 100000 in
theorem acts_any (w : World) : Calls Try.prog 67 #[] w fun e w' => e = .returned (.map (some w.heap.size)) ∧ w' = w.alloc (.map actsEs 3) := by
  have hmm := @run_makeMap Try.prog
  have u1 := upd_alloc w #[] 0 1 (.func (.func 83) #[] #[]) rfl
  have u2 := upd_alloc w #[⟨.int .i64 1, .func (.func 83) #[] #[], 0⟩] 1 2 (.func (.func 84) #[] #[]) rfl
  have u3 := upd_alloc w #[⟨.int .i64 1, .func (.func 83) #[] #[], 0⟩, ⟨.int .i64 2, .func (.func 84) #[] #[], 1⟩] 2 3 (.func (.func 85) #[] #[]) rfl
  simp only [List.push_toArray, List.nil_append, List.cons_append] at u1 u2 u3
  go_enter Try.func67, Try.ntmps67
  go_wp2
  go_ret
  exact ⟨rfl, rfl⟩

end Go.Proofs.Yteanjnkfoddfmaa

namespace Go.Proofs.Yteanjnkfoddfmaa
open Go.RowKit
set_option linter.unusedVariables false

section
set_option maxRecDepth 100000
theorem hasNumber_any (k : Nat) (w : World) : Calls Try.prog 86 #[.int .i64 k] w fun e w' => e = .returned (.bool (k == 2 || k == 3)) ∧ w' = w := by
  have h2 : ((k : Int) == 2) = (k == 2) := by rw [Bool.eq_iff_iff]; simp; omega
  have h3 : ((k : Int) == 3) = (k == 3) := by rw [Bool.eq_iff_iff]; simp; omega
  rw [← h2, ← h3]
  clear h2 h3
  generalize (k : Int) = K at *
  by_cases e2 : K = 2
  · subst e2
    go_enter Try.func86, Try.ntmps86
    go_wp2
    go_ret
    exact ⟨rfl, rfl⟩
  · have e2' : (K == 2) = false := by simpa using e2
    go_enter Try.func86, Try.ntmps86
    go_wp2
    go_ret
    exact ⟨by simp [e2], rfl⟩

theorem hasText_any (k : Nat) (w : World) : Calls Try.prog 87 #[.int .i64 k] w fun e w' => e = .returned (.bool (k == 1 || k == 3)) ∧ w' = w := by
  have h2 : ((k : Int) == 1) = (k == 1) := by rw [Bool.eq_iff_iff]; simp; omega
  have h3 : ((k : Int) == 3) = (k == 3) := by rw [Bool.eq_iff_iff]; simp; omega
  rw [← h2, ← h3]
  clear h2 h3
  generalize (k : Int) = K at *
  by_cases e2 : K = 1
  · subst e2
    go_enter Try.func87, Try.ntmps87
    go_wp2
    go_ret
    exact ⟨rfl, rfl⟩
  · have e2' : (K == 1) = false := by simpa using e2
    go_enter Try.func87, Try.ntmps87
    go_wp2
    go_ret
    exact ⟨by simp [e2], rfl⟩

end

set_option maxRecDepth 100000 in
theorem bytes_add (s : List UInt8) (w : World) (hs : s.length ≤ 65516) : Calls Try.prog 73 #[.agg #[.int .i64 1, .int .i64 0, .string (bs s)]] w fun e w' => ∃ r, e = .returned r ∧ Own w.heap.size w' r (Ch.add s).enc ∧ Below w.heap.size w w' := by
  have hb0 : Below w.heap.size w (w.alloc (.cells #[.int .i64 1, .int .i64 0, .string (bs s)] 93)) := below_new w _
  have h0 : (w.alloc (.cells #[.int .i64 1, .int .i64 0, .string (bs s)] 93)).cell? ⟨w.heap.size, 0, none⟩ = some (.int .i64 1) := by simp
  have h1 : (w.alloc (.cells #[.int .i64 1, .int .i64 0, .string (bs s)] 93)).cell? ⟨w.heap.size, 1, none⟩ = some (.int .i64 0) := by simp
  have h2 : (w.alloc (.cells #[.int .i64 1, .int .i64 0, .string (bs s)] 93)).cell? ⟨w.heap.size, 2, none⟩ = some (.string (bs s)) := by simp
  have hlt : w.heap.size < (w.alloc (.cells #[.int .i64 1, .int .i64 0, .string (bs s)] 93)).heap.size := by simp
  go_enter Try.func73, Try.ntmps73
  go_wp2_with fail
  generalize w.alloc (.cells #[.int .i64 1, .int .i64 0, .string (bs s)] 93) = W at *
  refine (number_any (.slice none 0 0) [] 1 W (Sl.nil _) (by simp) (by decide)).mono ?_
  rintro e w1 ⟨r1, rfl, ho1, hb1⟩
  have k0 := (hb1.cell (p := ⟨w.heap.size, 0, none⟩) hlt).trans h0
  have k1 := (hb1.cell (p := ⟨w.heap.size, 1, none⟩) hlt).trans h1
  have k2 := (hb1.cell (p := ⟨w.heap.size, 2, none⟩) hlt).trans h2
  have hz := hb1.size
  clear h0 h1 h2
  go_wp2_with fail
  refine (hasNumber_any 1 _).mono ?_
  rintro e w2 ⟨rfl, rfl⟩
  go_wp2_with fail
  refine (hasText_any 1 _).mono ?_
  rintro e w2 ⟨rfl, rfl⟩
  go_wp2_with fail
  refine (text_any _ _ (bs s) _ ho1.sl (by rw [List.nil_append]; exact Nat.le_trans (enc_len9 (by decide)) (by decide)) (by rw [bs_size]; omega)).mono ?_
  rintro e w3 ⟨r3, rfl, ho3, hb3⟩
  go_wp2
  go_ret
  exact ⟨_, rfl, Own.mono ho3 (by omega), (hb0.trans (hb1.mono (by omega))).trans (hb3.mono (by omega))⟩

set_option maxRecDepth 100000 in
theorem bytes_first (n : Nat) (w : World) (hn : n ≤ 1099511627776) : Calls Try.prog 73 #[.agg #[.int .i64 2, .int .i64 n, .string (bs [])]] w fun e w' => ∃ r, e = .returned r ∧ Own w.heap.size w' r (Ch.first n).enc ∧ Below w.heap.size w w' := by
  have hb0 : Below w.heap.size w (w.alloc (.cells #[.int .i64 2, .int .i64 n, .string (bs [])] 93)) := below_new w _
  have h0 : (w.alloc (.cells #[.int .i64 2, .int .i64 n, .string (bs [])] 93)).cell? ⟨w.heap.size, 0, none⟩ = some (.int .i64 2) := by simp
  have h1 : (w.alloc (.cells #[.int .i64 2, .int .i64 n, .string (bs [])] 93)).cell? ⟨w.heap.size, 1, none⟩ = some (.int .i64 n) := by simp
  have h2 : (w.alloc (.cells #[.int .i64 2, .int .i64 n, .string (bs [])] 93)).cell? ⟨w.heap.size, 2, none⟩ = some (.string (bs [])) := by simp
  have hlt : w.heap.size < (w.alloc (.cells #[.int .i64 2, .int .i64 n, .string (bs [])] 93)).heap.size := by simp
  go_enter Try.func73, Try.ntmps73
  go_wp2_with fail
  generalize w.alloc (.cells #[.int .i64 2, .int .i64 n, .string (bs [])] 93) = W at *
  refine (number_any (.slice none 0 0) [] 2 W (Sl.nil _) (by simp) (by decide)).mono ?_
  rintro e w1 ⟨r1, rfl, ho1, hb1⟩
  have k0 := (hb1.cell (p := ⟨w.heap.size, 0, none⟩) hlt).trans h0
  have k1 := (hb1.cell (p := ⟨w.heap.size, 1, none⟩) hlt).trans h1
  have k2 := (hb1.cell (p := ⟨w.heap.size, 2, none⟩) hlt).trans h2
  have hz := hb1.size
  clear h0 h1 h2
  go_wp2_with fail
  refine (hasNumber_any 2 _).mono ?_
  rintro e w2 ⟨rfl, rfl⟩
  go_wp2_with fail
  refine (number_any _ _ n _ ho1.sl (by rw [List.nil_append]; exact Nat.le_trans (enc_len9 (by decide)) (by decide)) (by omega)).mono ?_
  rintro e w3 ⟨r3, rfl, ho3, hb3⟩
  have m0 := (hb3.cell (p := ⟨w.heap.size, 0, none⟩) (by show w.heap.size < _; omega)).trans k0
  clear k0 k1 k2
  go_wp2_with fail
  refine (hasText_any 2 _).mono ?_
  rintro e w2 ⟨rfl, rfl⟩
  go_wp2
  go_ret
  exact ⟨_, rfl, Own.mono ho3 (by omega), (hb0.trans (hb1.mono (by omega))).trans (hb3.mono (by omega))⟩

set_option maxRecDepth 100000 in
theorem bytes_lay (n : Nat) (s : List UInt8) (w : World) (hn : n ≤ 1099511627776) (hs : s.length ≤ 65516) : Calls Try.prog 73 #[.agg #[.int .i64 3, .int .i64 n, .string (bs s)]] w fun e w' => ∃ r, e = .returned r ∧ Own w.heap.size w' r (Ch.lay n s).enc ∧ Below w.heap.size w w' := by
  have hb0 : Below w.heap.size w (w.alloc (.cells #[.int .i64 3, .int .i64 n, .string (bs s)] 93)) := below_new w _
  have h0 : (w.alloc (.cells #[.int .i64 3, .int .i64 n, .string (bs s)] 93)).cell? ⟨w.heap.size, 0, none⟩ = some (.int .i64 3) := by simp
  have h1 : (w.alloc (.cells #[.int .i64 3, .int .i64 n, .string (bs s)] 93)).cell? ⟨w.heap.size, 1, none⟩ = some (.int .i64 n) := by simp
  have h2 : (w.alloc (.cells #[.int .i64 3, .int .i64 n, .string (bs s)] 93)).cell? ⟨w.heap.size, 2, none⟩ = some (.string (bs s)) := by simp
  have hlt : w.heap.size < (w.alloc (.cells #[.int .i64 3, .int .i64 n, .string (bs s)] 93)).heap.size := by simp
  go_enter Try.func73, Try.ntmps73
  go_wp2_with fail
  generalize w.alloc (.cells #[.int .i64 3, .int .i64 n, .string (bs s)] 93) = W at *
  refine (number_any (.slice none 0 0) [] 3 W (Sl.nil _) (by simp) (by decide)).mono ?_
  rintro e w1 ⟨r1, rfl, ho1, hb1⟩
  have k0 := (hb1.cell (p := ⟨w.heap.size, 0, none⟩) hlt).trans h0
  have k1 := (hb1.cell (p := ⟨w.heap.size, 1, none⟩) hlt).trans h1
  have k2 := (hb1.cell (p := ⟨w.heap.size, 2, none⟩) hlt).trans h2
  have hz := hb1.size
  clear h0 h1 h2
  go_wp2_with fail
  refine (hasNumber_any 3 _).mono ?_
  rintro e w2 ⟨rfl, rfl⟩
  go_wp2_with fail
  refine (number_any _ _ n _ ho1.sl (by rw [List.nil_append]; exact Nat.le_trans (enc_len9 (by decide)) (by decide)) (by omega)).mono ?_
  rintro e w3 ⟨r3, rfl, ho3, hb3⟩
  have m0 := (hb3.cell (p := ⟨w.heap.size, 0, none⟩) (by show w.heap.size < _; omega)).trans k0
  have m2 := (hb3.cell (p := ⟨w.heap.size, 2, none⟩) (by show w.heap.size < _; omega)).trans k2
  have hz3 := hb3.size
  clear k0 k1 k2
  go_wp2_with fail
  refine (hasText_any 3 _).mono ?_
  rintro e w2 ⟨rfl, rfl⟩
  go_wp2_with fail
  refine (text_any _ _ (bs s) _ ho3.sl (by rw [List.nil_append, List.length_append]; have := enc_len9 (v := (3 : Int).toNat) (by decide); have := enc_len9 (v := (n : Int).toNat) (by omega); omega) (by rw [bs_size]; omega)).mono ?_
  rintro e w4 ⟨r4, rfl, ho4, hb4⟩
  go_wp2
  go_ret
  exact ⟨_, rfl, Own.mono ho4 (by omega), ((hb0.trans (hb1.mono (by omega))).trans (hb3.mono (by omega))).trans (hb4.mono (by omega))⟩

end Go.Proofs.Yteanjnkfoddfmaa
