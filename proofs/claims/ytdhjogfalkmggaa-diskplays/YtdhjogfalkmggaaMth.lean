/-
  What two files have in common, and what a crash leaves of a file: over lists. Of no program.
-/
import Derived.Test.YtdhjogfalkmggaaDk
namespace Go.Proofs.Ytdhjogfalkmggaa

/-- How many first bytes two have in common. -/
def cmn : List UInt8 → List UInt8 → Nat
  | a :: xs, b :: ys => if a = b then cmn xs ys + 1 else 0
  | _, _ => 0

theorem cmn_left : ∀ (a b : List UInt8), cmn a b ≤ a.length
  | [], _ => by simp [cmn]
  | _ :: _, [] => by simp [cmn]
  | a :: xs, b :: ys => by
    unfold cmn
    have := cmn_left xs ys
    split <;> simp <;> omega

theorem cmn_right : ∀ (a b : List UInt8), cmn a b ≤ b.length
  | [], _ => by simp [cmn]
  | _ :: _, [] => by simp [cmn]
  | a :: xs, b :: ys => by
    unfold cmn
    have := cmn_right xs ys
    split <;> simp <;> omega

/-- The first k bytes are alike, and then one of the two ends, or they differ. -/
theorem cmn_eq : ∀ (a b : List UInt8) (k : Nat), (∀ i, i < k → a[i]? = b[i]?) → k ≤ a.length → k ≤ b.length → (k = a.length ∨ k = b.length ∨ a[k]? ≠ b[k]?) → cmn a b = k
  | [], b, k, _, h1, _, _ => by simp at h1; subst h1; simp [cmn]
  | _ :: _, [], k, _, _, h2, _ => by simp at h2; subst h2; simp [cmn]
  | a :: xs, b :: ys, 0, _, _, _, h => by
    unfold cmn
    rcases h with h | h | h
    · simp at h
    · simp at h
    · simp at h; rw [if_neg h]
  | a :: xs, b :: ys, k + 1, hk, h1, h2, h => by
    have h0 := hk 0 (by omega)
    simp at h0
    subst h0
    unfold cmn
    rw [if_pos rfl, cmn_eq xs ys k (fun i hi => by have := hk (i + 1) (by omega); simpa using this) (by simpa using h1) (by simpa using h2) (by simpa using h)]

theorem cmn_take : ∀ (a b : List UInt8), a.take (cmn a b) = b.take (cmn a b)
  | [], b => by simp [cmn]
  | _ :: _, [] => by simp [cmn]
  | a :: xs, b :: ys => by
    unfold cmn
    split
    · rename_i h; subst h; simp [cmn_take xs ys]
    · simp

theorem cmn_pre (a b : List UInt8) : cmn a (a ++ b) = a.length :=
  cmn_eq _ _ _ (fun i hi => by rw [List.getElem?_append_left hi]) (Nat.le_refl _) (by simp) (.inl rfl)

theorem cmn_self (a : List UInt8) : cmn a a = a.length := by
  have := cmn_pre a []
  rwa [List.append_nil] at this

/-- The last byte with its lowest bit turned. -/
def flp (l : List UInt8) : List UInt8 := l.set (l.length - 1) (l.getD (l.length - 1) 0 ^^^ 1)

theorem flp_length (l : List UInt8) : (flp l).length = l.length := by simp [flp]

/-- How many bytes behind those in common are kept. -/
def more (sf nf : List UInt8) (keep : Int) : Nat := min keep.toNat (nf.length - cmn sf nf)

/-- The file that a crash leaves. -/
def left (sf nf : List UInt8) (keep : Int) (torn : Bool) : List UInt8 :=
  if keep < 1 then sf else if torn = true ∧ 0 < more sf nf keep then flp (nf.take (cmn sf nf + more sf nf keep)) else nf.take (cmn sf nf + more sf nf keep)

theorem left_length (sf nf : List UInt8) (keep : Int) (torn : Bool) (n : Nat) (h1 : sf.length ≤ n) (h2 : nf.length ≤ n) : (left sf nf keep torn).length ≤ n := by
  unfold left
  split
  · exact h1
  · split
    · rw [flp_length, List.length_take]; omega
    · rw [List.length_take]; omega

theorem left_self (l : List UInt8) (keep : Int) (torn : Bool) : left l l keep torn = l := by
  unfold left
  have hm : more l l keep = 0 := by unfold more; rw [cmn_self]; omega
  rw [hm, cmn_self]
  simp

/-- The file that a crash leaves of one that was appended to. -/
theorem left_safe (sf r : List UInt8) (keep : Int) (torn : Bool) : ∃ k, k ≤ r.length ∧ ((left sf (sf ++ r) keep torn = sf ++ r.take k ∧ (torn = true → k = 0)) ∨ (torn = true ∧ 0 < k ∧ left sf (sf ++ r) keep torn = flp (sf ++ r.take k))) := by
  unfold left
  by_cases h : keep < 1
  · rw [if_pos h]
    exact ⟨0, Nat.zero_le _, .inl ⟨by simp, fun _ => rfl⟩⟩
  · rw [if_neg h, cmn_pre]
    refine ⟨more sf (sf ++ r) keep, by unfold more; rw [cmn_pre, List.length_append]; omega, ?_⟩
    have e : (sf ++ r).take (sf.length + more sf (sf ++ r) keep) = sf ++ r.take (more sf (sf ++ r) keep) := by
      rw [List.take_append, List.take_of_length_le (by omega)]
      congr 2
      omega
    rw [e]
    by_cases ht : torn = true ∧ 0 < more sf (sf ++ r) keep
    · rw [if_pos ht]
      exact .inr ⟨ht.1, ht.2, rfl⟩
    · rw [if_neg ht]
      exact .inl ⟨rfl, fun h => by have : ¬ 0 < more sf (sf ++ r) keep := fun k => ht ⟨h, k⟩; omega⟩

end Go.Proofs.Ytdhjogfalkmggaa
