/-
  Contracts of the document's own answers for stamps' texts: figures, Digits, Text. No law is proved here.
-/
import Derived.Test.YtjeefpibhkngiaaDoorTxtMath
namespace Go.Proofs.YtjeefpibhkngiaaDoor
open Go.RowKit
set_option linter.unusedVariables false

theorem dd_step {u : Nat} (h : 10 ≤ u) : Lib.decDigits u = Lib.decDigits (u / 10) ++ [UInt8.ofNat (48 + u % 10)] := by
  rw [Lib.decDigits, dif_neg (by omega)]

theorem digit_fin : ∀ d : Fin 10, ((⟨#[48, 49, 50, 51, 52, 53, 54, 55, 56, 57]⟩ : ByteArray).extract d.val (d.val + 1)).data.toList = [UInt8.ofNat (48 + d.val)] := by decide +kernel

theorem digit_add (d : Nat) (h : d < 10) (r : List UInt8) : (⟨#[48, 49, 50, 51, 52, 53, 54, 55, 56, 57]⟩ : ByteArray).extract d (d + 1) ++ (⟨r.toArray⟩ : ByteArray) = ⟨(UInt8.ofNat (48 + d) :: r).toArray⟩ := by
  have e := digit_fin ⟨d, h⟩
  simp only at e
  apply ByteArray.ext
  apply Array.toList_inj.1
  rw [ByteArray.data_append, Array.toList_append, e]
  rfl

/-- Whether a string is empty, as a number. -/
def strZ (v : Value) : Nat := match v with
  | .string s => if s.size = 0 then 1 else 0
  | _ => 0

theorem strZ_nil : strZ (.string ⟨([] : List UInt8).toArray⟩) = 1 := rfl
theorem strZ_cons (c : UInt8) (r : List UInt8) : strZ (.string ⟨(c :: r).toArray⟩) = 0 := by
  unfold strZ
  simp only
  rw [if_neg]
  intro h
  simp [ByteArray.size] at h

set_option maxRecDepth 100000 in
set_option maxHeartbeats 1000000 in
theorem figures_any (u : Nat) (hu : u < 18446744073709551616) (w : World) : Calls Tryd.prog 43 #[.int .u64 u] w fun e w' => e = .returned (.string ⟨(Lib.decDigits u).toArray⟩) ∧ w' = w := by
  have hlen := Lib.nDigits_le20 u hu
  rw [← Lib.decDigits_length] at hlen
  have last : ∀ (x : Nat) (c : UInt8) (r : List UInt8), x < 10 → Lib.decDigits u = Lib.decDigits x ++ r → c = UInt8.ofNat (48 + x % 10) → c :: r = Lib.decDigits u := fun x c r hx h hc => by
    rw [h, Lib.decDigits_one hx, hc, Nat.mod_eq_of_lt hx]; rfl
  have more : ∀ (x : Nat) (c : UInt8) (r : List UInt8), 10 ≤ x → Lib.decDigits u = Lib.decDigits x ++ r → c = UInt8.ofNat (48 + x % 10) → Lib.decDigits u = Lib.decDigits (x / 10) ++ c :: r := fun x c r hx h hc => by
    rw [h, dd_step hx, hc, List.append_assoc]; rfl
  have Hlast := hide last
  have Hmore := hide more
  clear last more
  go_enter Tryd.func43, Tryd.ntmps43
  go_wp2
  go_loop [0, 3] (fun n s => ∃ (x : Nat) (r : List UInt8), n = .int .u64 x ∧ s = .string ⟨r.toArray⟩ ∧ x ≤ u ∧ r.length ≤ 20 ∧ ((Hid (r = []) ∧ Hid (x = u)) ∨ (0 < r.length ∧ Hid (x = 0) ∧ Hid (r = Lib.decDigits u)) ∨ (0 < r.length ∧ 0 < x ∧ Hid (Lib.decDigits u = Lib.decDigits x ++ r)))) (fun n s => 2 * (intOf n).toNat + strZ s)
  case atStart => exact ⟨u, [], rfl, rfl, Nat.le_refl _, Nat.zero_le _, .inl ⟨rfl, rfl⟩⟩
  case round =>
    obtain ⟨x, r, rfl, rfl, hx, hr, hcase⟩ := hrel
    obtain ⟨c, hc⟩ : ∃ c, Hid (c = UInt8.ofNat (48 + x % 10)) := ⟨_, rfl⟩
    have hstep : Hid (∀ h : Lib.decDigits u = Lib.decDigits x ++ r, (0 < (c :: r).length ∧ Hid (x / 10 = 0) ∧ Hid (c :: r = Lib.decDigits u)) ∨ (0 < (c :: r).length ∧ 0 < x / 10 ∧ Hid (Lib.decDigits u = Lib.decDigits (x / 10) ++ (c :: r)))) := fun h => by
      by_cases h10 : x < 10
      · exact .inl ⟨by simp, by show x / 10 = 0; omega, unhide Hlast x c r h10 h (unhide hc)⟩
      · exact .inr ⟨by simp, by omega, unhide Hmore x c r (by omega) h (unhide hc)⟩
    have hsl : Hid (Lib.decDigits u = Lib.decDigits x ++ r → (c :: r).length ≤ 20) := fun h => by
      have h1 : 0 < (Lib.decDigits x).length := dd_pos x
      have h2 := hlen
      rw [h, List.length_append] at h2
      simp only [List.length_cons]
      omega
    have hda := digit_add (x % 10) (Nat.mod_lt _ (by decide)) r
    rw [← unhide hc] at hda
    have Hda := hide hda
    clear hda
    rcases hcase with ⟨h1, h2⟩ | ⟨h1, h2, h3⟩ | ⟨h1, h2, h3⟩
    · have e : Lib.decDigits u = Lib.decDigits x ++ r := by rw [unhide h1, unhide h2, List.append_nil]
      have S := unhide hstep e
      have L := unhide hsl e
      have h1' := unhide h1
      subst h1'
      clear hstep hsl e
      go_wp2
      go_round
      case rel => exact ⟨x / 10, [c], by go_num, by rw [unhide Hda], by omega, L, .inr S⟩
      case measure => rw [unhide Hda, strZ_nil, strZ_cons]; simp [intOf]; omega
    · have h2' := unhide h2
      subst h2'
      have hne : ¬ r = [] := fun e => by rw [e] at h1; simp at h1
      have hne2 : r.isEmpty = false := by cases r <;> simp_all
      clear hstep hsl Hda
      go_wp2
      go_ret
      exact ⟨by rw [← unhide h3]; rfl, rfl⟩
    · have S := unhide hstep (unhide h3)
      have L := unhide hsl (unhide h3)
      have hne : ¬ r = [] := fun e => by rw [e] at h1; simp at h1
      clear hstep hsl
      go_wp2
      go_round
      case rel => exact ⟨x / 10, c :: r, by go_num, by rw [unhide Hda], by omega, L, .inr S⟩
      case measure => rw [unhide Hda, strZ_cons]; simp [intOf]; omega

set_option maxRecDepth 100000 in
set_option maxHeartbeats 1000000 in
theorem digits_any (n : Int) (h0 : -9223372036854775808 ≤ n) (h1 : n ≤ 9223372036854775807) (w : World) : Calls Tryd.prog 35 #[.int .i64 n] w fun e w' => e = .returned (.string ⟨(Lib.itoa n).toArray⟩) ∧ w' = w := by
  by_cases hn : n < 0
  · obtain ⟨u, hu⟩ : ∃ u : Nat, n = -(u : Int) := ⟨n.natAbs, by omega⟩
    have hfig := figures_any u (by omega) w
    have hlen := Lib.nDigits_le20 u (by omega)
    rw [← Lib.decDigits_length] at hlen
    have hA := run_string_add_lists (P := Tryd.prog) w [45] (Lib.decDigits u) (by decide) (by omega)
    have hi : Lib.itoa n = 45 :: Lib.decDigits u := by rw [hu]; exact Lib.itoa_neg u (by omega)
    rw [hi]
    have hx : (-(n + 1)) % 18446744073709551616 = -(n + 1) := by omega
    have hy : -(n + 1) + 1 = (u : Int) := by omega
    have Hu := hide hu
    clear hu hi
    go_enter Tryd.func35, Tryd.ntmps35
    go_wp2_with fail
    refine hfig.mono ?_
    rintro e w1 ⟨rfl, rfl⟩
    go_wp2
    go_ret
    exact ⟨rfl, rfl⟩
  · obtain ⟨u, rfl⟩ : ∃ u : Nat, n = (u : Int) := ⟨n.toNat, by omega⟩
    have hfig := figures_any u (by omega) w
    rw [Lib.itoa_nonneg]
    go_enter Tryd.func35, Tryd.ntmps35
    go_wp2_with fail
    refine hfig.mono ?_
    rintro e w1 ⟨rfl, rfl⟩
    go_wp2
    go_ret
    exact ⟨rfl, rfl⟩

set_option maxRecDepth 100000 in
set_option maxHeartbeats 1000000 in
theorem reftext_any (a b : Int) (a0 : -9223372036854775808 ≤ a) (a1 : a ≤ 9223372036854775807) (b0 : -9223372036854775808 ≤ b) (b1 : b ≤ 9223372036854775807) (w : World) :
    Calls Tryd.prog 22 #[(.agg #[.int .i64 a, .int .i64 b])] w fun e w' => e = .returned (.string ⟨(txt a b).toArray⟩) ∧ Below w.heap.size w w' := by
  go_enter Tryd.func22, Tryd.ntmps22
  go_wp2_with fail
  have hB : Below w.heap.size w (w.alloc (.cells #[.int .i64 a, .int .i64 b] 23)) := (Below.refl _ _).alloc (Nat.le_refl _) _
  have c0 : (w.alloc (.cells #[.int .i64 a, .int .i64 b] 23)).cell? ⟨w.heap.size, 0, none⟩ = some (.int .i64 a) := by simp
  have c1 : (w.alloc (.cells #[.int .i64 a, .int .i64 b] 23)).cell? ⟨w.heap.size, 1, none⟩ = some (.int .i64 b) := by simp
  have hla := Lib.itoa_length_le a a0 a1
  have hlb := Lib.itoa_length_le b b0 b1
  have hA : ∀ w, (Op.stringOp .add ⟨(Lib.itoa a).toArray⟩ ⟨#[46]⟩).run Tryd.prog w = .ok (.string ⟨(Lib.itoa a ++ [46]).toArray⟩) w := fun w => run_string_add_lists w _ [46] (by omega) (by decide)
  have hC : ∀ w, (Op.stringOp .add ⟨(Lib.itoa a ++ [46]).toArray⟩ ⟨(Lib.itoa b).toArray⟩).run Tryd.prog w = .ok (.string ⟨(Lib.itoa a ++ [46] ++ Lib.itoa b).toArray⟩) w := fun w => run_string_add_lists w _ _ (by rw [List.length_append]; simp; omega) (by omega)
  have e : Lib.itoa a ++ [46] ++ Lib.itoa b = txt a b := by simp [txt]
  rw [e] at hC
  clear e hla hlb
  generalize Lib.itoa a ++ [46] = xa at *
  have HB := hide hB
  clear hB
  generalize (w.alloc (.cells #[.int .i64 a, .int .i64 b] 23)) = w1 at *
  have k0 : ∀ i : Later w1, i.val.cell? ⟨w.heap.size, 0, none⟩ = some (.int .i64 a) := fun i => i.cell c0
  have k1 : ∀ i : Later w1, i.val.cell? ⟨w.heap.size, 1, none⟩ = some (.int .i64 b) := fun i => i.cell c1
  have inst : Nonempty (Later w1) := ⟨⟨w1, Below.refl _ _⟩⟩
  clear c0 c1
  refine wp_region_later (by kernel_rfl) (by kernel_rfl) ?_
  repeat (first | go_big_quiet_step ((go_at_call 35; exact calls_later ((digits_any _ (by assumption) (by assumption) _).mono fun e w2 h => ⟨h.1, h.2 ▸ Below.refl _ _⟩))) | quiet_step ((go_at_call 35; exact calls_later ((digits_any _ (by assumption) (by assumption) _).mono fun e w2 h => ⟨h.1, h.2 ▸ Below.refl _ _⟩))))
  refine wpQuiet_nil ?_
  intro w' hw'
  obtain ⟨i, rfl⟩ := hw'
  go_wp2
  go_ret
  exact ⟨rfl, (unhide HB).trans (i.below.mono (unhide HB).size)⟩

end Go.Proofs.YtjeefpibhkngiaaDoor
