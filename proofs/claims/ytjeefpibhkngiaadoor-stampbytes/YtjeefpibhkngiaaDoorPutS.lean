/-
  Contract of stamp.Put. No law is proved here.
-/
import Derived.Test.YtjeefpibhkngiaaDoorReader
import Derived.Test.YtjeefpibhkngiaaDoorCmp
namespace Go.Proofs.YtjeefpibhkngiaaDoor
open Go.RowKit
set_option linter.unusedVariables false

/-- A stamp's bytes. -/
def encS (a b : Int) : List UInt8 := enc a.toNat ++ enc b.toNat

set_option maxRecDepth 100000 in
set_option maxHeartbeats 1000000 in
theorem put_stp (v : Value) (l : List UInt8) (a b : Int) (w : World) (hs : Sl w v l) (hl : l.length ≤ 1000000) (ha : a ≤ 9223372036854775807) (hb : b ≤ 9223372036854775807) :
    Calls Tryd.prog 28 #[v, .agg #[.int .i64 a, .int .i64 b]] w fun e w' => ∃ r, e = .returned r ∧ Own w.heap.size w' r (l ++ encS a b) ∧ Below w.heap.size w w' := by
  have hv : ∃ ao n c, v = .slice ao n c := by obtain ⟨ao, c, rfl, _⟩ := hs; exact ⟨_, _, _, rfl⟩
  obtain ⟨ao, n, c, rfl⟩ := hv
  have h9 := enc_len9 (v := a.toNat) (by omega)
  have hB : Below w.heap.size w (w.alloc (.cells #[.int .i64 a, .int .i64 b] 23)).drew := ((Below.refl _ _).alloc (Nat.le_refl _) _).drew
  have hs1 := hs.below hB (Nat.le_refl _)
  have hA : At (w.alloc (.cells #[.int .i64 a, .int .i64 b] 23)).drew w.heap.size a b := (At.new w a b _).below (Below.refl _ _).drew (Nat.le_refl _)
  go_enter Tryd.func28, Tryd.ntmps28
  go_wp2_with fail
  go_region_held (fun w' => w'.cell? ⟨w.heap.size, 0, none⟩ = some (.int .i64 a) ∧ w'.cell? ⟨w.heap.size, 1, none⟩ = some (.int .i64 b)) (go_keep)
    (first | (go_at_call_of 39 (Value.int IntKind.i64 a); refine (number_any _ l a _ hs1 (by omega) ha).mono ?_; rintro e w1 ⟨r1, rfl, ho1, hb1⟩; have k0 := (hA.below hb1 (Nat.le_refl _)).c0; have k1 := (hA.below hb1 (Nat.le_refl _)).c1) | (go_at_call_of 39 (Value.int IntKind.i64 b); refine (number_any _ _ b _ (Own.sl (by assumption)) ?_ hb).mono ?_; (rw [List.length_append]; omega); rintro e w2 ⟨r2, rfl, ho2, hb2⟩; have k2 := (At.below ⟨k0, k1⟩ hb2 (Nat.le_refl _)).c0; have k3 := (At.below ⟨k0, k1⟩ hb2 (Nat.le_refl _)).c1))
  go_wp2
  go_ret
  have hz1 := hb1.size
  have hz0 := hB.size
  refine ⟨_, rfl, ?_, (hB.trans (hb1.mono hz0)).trans (hb2.mono (by omega))⟩
  have h2 : Own w.heap.size w2 r2 (l ++ enc a.toNat ++ enc b.toNat) := Own.mono ho2 (by omega)
  unfold encS
  rw [← List.append_assoc]
  exact h2

end Go.Proofs.YtjeefpibhkngiaaDoor
