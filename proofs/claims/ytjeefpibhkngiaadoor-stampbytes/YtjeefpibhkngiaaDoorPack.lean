/-
  Contracts of package pack's functions over this translation: what each call answers and does to memory. No law is proved here; it is a text that the proofs of layer 1 share.
-/
import Derived.Test.YtjeefpibhkngiaaDoorRows
import Derived.Test.YtjeefpibhkngiaaDoorBase
namespace Go.Proofs.YtjeefpibhkngiaaDoor
open Go.RowKit
set_option linter.unusedVariables false

theorem Tryd.infoByte : (Tryd.prog.info? 5).map (fun i => (i.zero, i.size, i.bytes)) = some (some (.int .u8 0), 1, 1) := by kernel_rfl

/-- A slice without room behind it. -/
def Full (w : World) (v : Value) (l : List UInt8) : Prop :=
  ∃ ao, v = .slice ao l.length l.length ∧ (ao = none → l = []) ∧ ∀ a, ao = some a → ∀ j u, (bc l)[j]? = some u → w.cell? (a.add j) = some u

/-- A slice without room, or a row of the call's own. -/
def Onb (B : Nat) (w : World) (v : Value) (l : List UInt8) : Prop := Full w v l ∨ Own B w v l

theorem Onb.alloc {B : Nat} {w : World} {v : Value} {l : List UInt8} (h : Onb B w v l) (o : Obj) : Onb B (w.alloc o) v l := by
  rcases h with ⟨ao, h1, h2, h3⟩ | h
  · refine .inl ⟨ao, h1, h2, fun a ha j u hu => ?_⟩
    have hc := h3 a ha j u hu
    rw [World.cell?_of_block (w := w) (Below.heap_alloc w o _ (World.block_lt_of_cell? w _ hc))]
    exact hc
  · exact .inr (World.ownsRow.alloc h o)

theorem wpList_append_onb {ops : Array Oper} {rest : List Oper} {o : Oper} {a : Act} {Q : Exit → Act → World → Prop} (w : World) (hgd : o.guard = none) (s x : Operand)
    (ho : o.op = .call { callee := .builtin .append, args := #[s, x], argTypes := #[35, 35] })
    (B : Nat) (hB : B ≤ w.heap.size) (v : Value) (l : List UInt8) (hv : a.eval s = v) (h : Onb B w v l)
    (ad : Addr) (c : Nat) (news : List UInt8) (m : Nat) (hm : news.length = m) (hx : a.eval x = .slice (some ad) m c) (hc : ∀ j u, (bc news)[j]? = some u → w.cell? (ad.add j) = some u)
    (hpos : 0 < m) (hlen : l.length + m ≤ 70368744177664)
    (hK : ∀ v' w', Own B w' v' (l ++ news) → Below B w w' → wpList Tryd.prog ops Q rest (a.put o.dst v') w') : wpList Tryd.prog ops Q (o :: rest) a w := by
  obtain ⟨i0, hi, hz0, hz1, hz2⟩ := info_parts Tryd.infoByte
  subst hm
  rcases h with ⟨ao, rfl, h2, h3⟩ | h
  · refine wpList_append_grows w hgd s x 35 ho 5 i0 (.int .u8 0) 1 1 Tryd.underlying35 hi hz0 hz1 hz2 rfl (by decide) ao l.length l.length (bc l) hv (fun e => by rw [h2 e]; simp) (by simp [bc_length]) h3
      ad news.length c (bc news) hx (by simp [bc_length]) hc (bc_one _) (by omega) (by unfold maxLen; omega) (by omega) fun v' w' ho' hg => hK v' w' ?_ ?_
    · have : Own w.heap.size w' v' (l ++ news) := by unfold Own; rw [bc_append, List.length_append]; exact ho'
      exact this.mono hB
    · exact (Below.refl B w).grown hg hB (fun k hk => by cases hk)
  · refine wpList_append_own w hgd s x 35 ho B 5 i0 (.int .u8 0) 1 1 Tryd.underlying35 hi hz0 hz1 hz2 rfl (by decide) v l.length (bc l) hv h
      ad news.length c (bc news) hx (by simp [bc_length]) hc (bc_one _) (by unfold maxLen; omega) (by omega) hB fun v' w' ho' hg _ => hK v' w' ?_ ?_
    · unfold Own; rw [bc_append, List.length_append]; exact ho'
    · exact (Below.refl B w).grown hg hB (fun k hk => (World.ownsRow.lt h k hk).1)

/-- One byte in a block of its own. -/
theorem cell_new1 (w : World) (b : UInt8) (n : Int) (hb : (b.toNat : Int) = n) : ∀ j u, (bc [b])[j]? = some u → (w.alloc (.cells #[.int .u8 n] 5)).cell? ((⟨w.heap.size, 0, none⟩ : Addr).add j) = some u := by
  intro j u hu
  match j, hu with
  | 0, hu =>
    simp [bc] at hu
    subst hu
    rw [hb]
    simp [Addr.add]
  | j + 1, hu => simp [bc] at hu

/-- The bytes of a number. -/
def enc (v : Nat) : List UInt8 :=
  if h : v < 128 then [UInt8.ofNat v] else UInt8.ofNat (v % 128 + 128) :: enc (v / 128)

theorem enc_small {v : Nat} (h : v < 128) : enc v = [UInt8.ofNat v] := by rw [enc, dif_pos h]
theorem enc_pos (v : Nat) : 0 < (enc v).length := by rw [enc]; split <;> simp
theorem enc_big {v : Nat} (h : 128 ≤ v) : enc v = UInt8.ofNat (v % 128 + 128) :: enc (v / 128) := by rw [enc, dif_neg (by omega)]

theorem enc_len : ∀ (k v : Nat), v < 128 ^ (k + 1) → (enc v).length ≤ k + 1
  | 0, v, h => by rw [enc_small (by simpa using h)]; simp
  | k + 1, v, h => by
    by_cases hx : v < 128
    · rw [enc_small hx]; simp
    · rw [enc_big (by omega), List.length_cons]
      have := enc_len k (v / 128) (by rw [Nat.pow_succ] at h; exact Nat.div_lt_of_lt_mul (by rw [Nat.mul_comm]; exact h))
      omega

/-- A number takes at most nine bytes. -/
theorem enc_len9 {v : Nat} (h : v ≤ 9223372036854775807) : (enc v).length ≤ 9 := enc_len 8 v (Nat.lt_of_le_of_lt h (by decide))

end Go.Proofs.YtjeefpibhkngiaaDoor
