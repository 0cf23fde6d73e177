/-
  Contracts of Key: the program's and the document's. No law is proved here.
-/
import Derived.Test.YtejceloahonelaaBase
namespace Go.Proofs.Ytejceloahonelaa
open Go.RowKit
set_option linter.unusedVariables false

/-- Is a byte a letter a to z? -/
def letB (b : UInt8) : Bool := decide (97 ≤ b.toNat) && decide (b.toNat ≤ 122)
/-- Is a text a key? -/
def keyB (s : ByteArray) : Bool := decide (1 ≤ s.size) && decide (s.size ≤ 8) && s.toList.all letB

theorem size_toList (s : ByteArray) : s.toList.length = s.size := by rw [ByteArray.toList_eq]; rfl

theorem keyB_short {s : ByteArray} (h : s.size < 1) : keyB s = false := by
  unfold keyB; rw [decide_eq_false (by omega)]; rfl
theorem keyB_long {s : ByteArray} (h : 8 < s.size) : keyB s = false := by
  unfold keyB; rw [decide_eq_false (p := s.size ≤ 8) (by omega), Bool.and_false]; rfl

/-- The first k bytes are letters. -/
def Lets (s : ByteArray) (k : Nat) : Prop := ∀ b ∈ s.toList.take k, letB b = true

theorem get_toList (s : ByteArray) (k : Nat) (h : k < s.size) (h' : k < s.toList.length) : s.toList[k] = s[k] := by
  have : ∀ l : List UInt8, l = s.data.toList → ∀ h : k < l.length, l[k] = s[k] := by rintro l rfl h; rfl
  exact this _ (ByteArray.toList_eq s) _

theorem Lets.start (s : ByteArray) : Lets s 0 := by intro b hb; simp at hb
theorem Lets.step {s : ByteArray} {k : Nat} (hl : Lets s k) (h : k < s.size) (h1 : 97 ≤ s[k].toNat) (h2 : s[k].toNat ≤ 122) : Lets s (k + 1) := by
  have hk : k < s.toList.length := by rw [size_toList]; exact h
  intro b hb
  rw [List.take_succ_eq_append_getElem hk, List.mem_append] at hb
  rcases hb with hb | hb
  · exact hl b hb
  · rw [List.mem_singleton] at hb
    rw [hb, get_toList s k h hk]
    unfold letB
    rw [decide_eq_true h1, decide_eq_true h2]; rfl
theorem Lets.all {s : ByteArray} {k : Nat} (hl : Lets s k) (h : s.size ≤ k) : s.toList.all letB = true := by
  rw [List.all_eq_true]
  intro b hb
  exact hl b (by rw [List.take_of_length_le (by rw [size_toList]; exact h)]; exact hb)
theorem lets_not {s : ByteArray} {k : Nat} (h : k < s.size) (h1 : s[k].toNat < 97 ∨ 122 < s[k].toNat) : s.toList.all letB = false := by
  have hk : k < s.toList.length := by rw [size_toList]; exact h
  rw [List.all_eq_false]
  refine ⟨s.toList[k], List.getElem_mem hk, ?_⟩
  rw [get_toList s k h hk]
  unfold letB
  rcases h1 with h1 | h1
  · rw [decide_eq_false (by omega)]; simp
  · rw [decide_eq_false (p := s[k].toNat ≤ 122) (by omega)]; simp
theorem keyB_not {s : ByteArray} (h : s.toList.all letB = false) : keyB s = false := by unfold keyB; rw [h, Bool.and_false]
theorem keyB_yes {s : ByteArray} (h : s.toList.all letB = true) (h1 : 1 ≤ s.size) (h8 : s.size ≤ 8) : keyB s = true := by
  unfold keyB; rw [h, decide_eq_true h1, decide_eq_true h8]; rfl

set_option maxRecDepth 100000 in
theorem key_any (s : ByteArray) (w : World) : Calls Try.prog 13 #[.string s] w fun e w' => e = .returned (.bool (keyB s)) ∧ w' = w := by
  by_cases h0 : s.size < 1
  · have Hk := hide (keyB_short h0)
    go_enter Try.func13, Try.ntmps13
    go_wp2
    go_ret
    rw [unhide Hk]
    exact ⟨rfl, rfl⟩
  · by_cases h8 : 8 < s.size
    · have Hk := hide (keyB_long h8)
      go_enter Try.func13, Try.ntmps13
      go_wp2
      go_ret
      rw [unhide Hk]
      exact ⟨rfl, rfl⟩
    · go_enter Try.func13, Try.ntmps13
      go_wp2
      go_loop [14] (fun i => ∃ k : Nat, i = .int .i64 k ∧ k ≤ s.size ∧ Hid (Lets s k)) (fun i => s.size - (intOf i).toNat)
      case atStart => exact ⟨0, rfl, by omega, Lets.start s⟩
      case round =>
        obtain ⟨k, rfl, hk, Hl⟩ := hrel
        by_cases hlt : k < s.size
        · have H1 : Hid (s[k].toNat < 97 ∨ 122 < s[k].toNat → s.toList.all letB = false) := lets_not hlt
          have H2 : Hid (97 ≤ s[k].toNat → s[k].toNat ≤ 122 → Lets s (k + 1)) := fun a b => (unhide Hl).step hlt a b
          obtain ⟨cn, hcn⟩ : ∃ cn, s[k].toNat = cn := ⟨_, rfl⟩
          rw [hcn] at H1 H2
          by_cases h97 : cn < 97
          · go_wp2
            go_ret
            rw [keyB_not (unhide H1 (.inl h97))]
            exact ⟨rfl, rfl⟩
          · by_cases h122 : 122 < cn
            · go_wp2
              go_ret
              rw [keyB_not (unhide H1 (.inr h122))]
              exact ⟨rfl, rfl⟩
            · go_wp2
              go_round
              case rel => exact ⟨k + 1, by go_num, by omega, unhide H2 (by omega) (by omega)⟩
              case measure => simp [intOf]; omega
        · go_wp2
          go_ret
          rw [keyB_yes ((unhide Hl).all (by omega)) (by omega) (by omega)]
          exact ⟨rfl, rfl⟩

set_option maxRecDepth 100000 in
theorem refKey_any (s : ByteArray) (w : World) (hs : s.size ≤ 9223372036854775807) : Calls Try.prog 14 #[.string s] w fun e w' => e = .returned (.bool (keyB s)) ∧ w' = w := by
  go_enter Try.func14, Try.ntmps14
  go_wp2
  go_loop [3] (fun i => ∃ k : Nat, i = .int .i64 k ∧ k ≤ s.size ∧ Hid (Lets s k)) (fun i => s.size - (intOf i).toNat)
  case atStart => exact ⟨0, rfl, by omega, Lets.start s⟩
  case round =>
    obtain ⟨k, rfl, hk, Hl⟩ := hrel
    by_cases hlt : k < s.size
    · have H1 : Hid (s[k].toNat < 97 ∨ 122 < s[k].toNat → s.toList.all letB = false) := lets_not hlt
      have H2 : Hid (97 ≤ s[k].toNat → s[k].toNat ≤ 122 → Lets s (k + 1)) := fun a b => (unhide Hl).step hlt a b
      obtain ⟨cn, hcn⟩ : ∃ cn, s[k].toNat = cn := ⟨_, rfl⟩
      rw [hcn] at H1 H2
      by_cases h97 : cn < 97
      · go_wp2
        go_ret
        rw [keyB_not (unhide H1 (.inl h97))]
        exact ⟨rfl, rfl⟩
      · by_cases h122 : 122 < cn
        · go_wp2
          go_ret
          rw [keyB_not (unhide H1 (.inr h122))]
          exact ⟨rfl, rfl⟩
        · go_wp2
          go_round
          case rel => exact ⟨k + 1, by go_num, by omega, unhide H2 (by omega) (by omega)⟩
          case measure => simp [intOf]; omega
    · have Ha := hide ((unhide Hl).all (by omega))
      by_cases h0 : s.size < 1
      · have Hk := hide (keyB_short h0)
        go_wp2
        go_ret
        rw [unhide Hk]
        exact ⟨rfl, rfl⟩
      · by_cases h8 : 8 < s.size
        · have Hk := hide (keyB_long h8)
          go_wp2
          go_ret
          rw [unhide Hk]
          refine ⟨?_, rfl⟩
          show Ending.returned (Value.bool (decide ((s.size : Int) ≤ 8))) = _
          rw [decide_eq_false (by omega)]
        · have Hk := hide (keyB_yes (unhide Ha) (by omega) (by omega))
          go_wp2
          go_ret
          rw [unhide Hk]
          refine ⟨?_, rfl⟩
          show Ending.returned (Value.bool (decide ((s.size : Int) ≤ 8))) = _
          rw [decide_eq_true (by omega)]

end Go.Proofs.Ytejceloahonelaa
