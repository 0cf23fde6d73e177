/-
  Contract of the document's own answer for a stamp's bytes. No law is proved here.
-/
import Derived.Test.YtjeefpibhkngiaaDoorRefPut
import Derived.Test.YtjeefpibhkngiaaDoorConv
import Derived.Deep.RegionHeldLaw
namespace Go.Proofs.YtjeefpibhkngiaaDoor
open Go.RowKit
set_option linter.unusedVariables false

theorem step_append_sl {ops : Array Oper} {o : Oper} {a : Act} {w : World} {K : Act → World → Prop} {Q : Exit → Act → World → Prop} {E : Prop} (hgd : o.guard = none) (s x : Operand)
    (ho : o.op = .call { callee := .builtin .append, args := #[s, x], argTypes := #[35, 35] })
    (B : Nat) (hB : B ≤ w.heap.size) (v : Value) (l : List UInt8) (hv : a.eval s = v) (h : Own B w v l) (xv : Value) (news : List UInt8) (hxv : a.eval x = xv) (hx : Sl w xv news)
    (hlen : l.length + news.length ≤ 70368744177664)
    (hK : ∀ v' w', Own B w' v' (l ++ news) → w.grownBy w' v.ownBlock → K (a.put o.dst v') w') : if Region.wanted o (yielded ops a.tmps) = true then Oper.wp Tryd.prog o a w K Q else E := by
  have hw : Region.wanted o (yielded ops a.tmps) = true := by simp [Region.wanted, hgd]
  rw [if_pos hw]
  obtain ⟨v', w', hr, h2, h3⟩ := run_append_sl w B hB v xv l news h hx hlen o.type
  unfold Oper.wp execOp
  simp only [ho, resolve, invoke, builtin, Sem.run_bind, Sem.run_pure, Result.andThen_ok, List.map_toArray, List.map_cons, List.map_nil, hv, hxv, hr]
  exact hK v' w' h2 h3

theorem own_below {B C : Nat} {w w' : World} {v : Value} {l : List UInt8} (h : Own B w v l) (hb : Below C w w') (hC : w.heap.size ≤ C) : Own B w' v l := by
  refine ⟨h.1, ?_⟩
  rcases h.2 with h0 | ⟨g, cap, cur, rfl, h1, hg, rest⟩
  · exact .inl h0
  · exact .inr ⟨g, cap, cur, rfl, h1, by rw [hb.block g (Nat.lt_of_lt_of_le (Array.getElem?_eq_some_iff.1 hg).1 hC)]; exact hg, rest⟩

set_option maxRecDepth 100000 in
set_option maxHeartbeats 1000000 in
theorem refbytes_any (a b : Int) (w : World) (ha : a ≤ 9223372036854775807) (hb : b ≤ 9223372036854775807) :
    Calls Tryd.prog 29 #[.agg #[.int .i64 a, .int .i64 b]] w fun e w' => ∃ r, e = .returned r ∧ Own w.heap.size w' r (encS a b) ∧ Below w.heap.size w w' := by
  have h9 := enc_len9 (v := a.toNat) (by omega)
  have h9b := enc_len9 (v := b.toNat) (by omega)
  have hB : Below w.heap.size w (w.alloc (.cells #[.int .i64 a, .int .i64 b] 23)).drew := ((Below.refl _ _).alloc (Nat.le_refl _) _).drew
  have hA : At (w.alloc (.cells #[.int .i64 a, .int .i64 b] 23)).drew w.heap.size a b := (At.new w a b _).below (Below.refl _ _).drew (Nat.le_refl _)
  have hz0 := hB.size
  go_enter Tryd.func29, Tryd.ntmps29
  go_wp2_with fail
  go_region_held_law (fun w' => w'.cell? ⟨w.heap.size, 0, none⟩ = some (.int .i64 a) ∧ w'.cell? ⟨w.heap.size, 1, none⟩ = some (.int .i64 b)) (go_keep)
    (first | (go_at_call_of 40 (Value.int IntKind.i64 a); refine (refnumber_any a _ ha).mono ?_; rintro e w1 ⟨r1, rfl, ho1, hb1⟩; have k0 := (hA.below hb1 (Nat.le_refl _)).c0; have k1 := (hA.below hb1 (Nat.le_refl _)).c1; have hz1 := hb1.size) | (go_at_call_of 40 (Value.int IntKind.i64 b); refine (refnumber_any b _ hb).mono ?_; rintro e w2 ⟨r2, rfl, ho2, hb2⟩; have k2 := (At.below ⟨k0, k1⟩ hb2 (Nat.le_refl _)).c0; have k3 := (At.below ⟨k0, k1⟩ hb2 (Nat.le_refl _)).c1; have hz2 := hb2.size; have ho3 := own_below ho1 hb2 (Nat.le_refl _)) | (refine step_append_sl rfl (.tmp 5) (.tmp 8) rfl _ (Nat.le_trans hz1 hz2) r1 _ rfl ho3 r2 _ rfl ho2.sl (by omega) ?_; intro v4 w4 ho4 hg4; have hb4 := (Below.refl _ w2).grown hg4 (Nat.le_trans hz1 hz2) (fun k hk => (World.ownsRow.lt ho3 k hk).1); have k4 := (hb4.cell (p := ⟨w.heap.size, 0, none⟩) (by simp)).trans k2; have k5 := (hb4.cell (p := ⟨w.heap.size, 1, none⟩) (by simp)).trans k3))
  go_wp2
  go_ret
  refine ⟨v4, by simp, Own.mono ho4 hz0, ?_⟩
  exact ((hB.trans (hb1.mono hz0)).trans (hb2.mono (Nat.le_trans hz0 hz1))).trans (hb4.mono hz0)

end Go.Proofs.YtjeefpibhkngiaaDoor
