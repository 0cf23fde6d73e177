/-
  seal.frames: what its loop's body is handed.
-/
import Derived.Test.YteacolahbnilnaaFrame
import Derived.RangeFuncNested
import Derived.RangeFuncBound
import Derived.RangeFuncCalls
import Derived.RangeFuncLeaves
import Derived.RangeFuncBox
import Derived.Shelf.Abstract
import Derived.Shelf.RegionOpen
import Derived.OwnWalkIn
import Derived.TacticsInMore
import Derived.LoopNIn
import Derived.LoopIn
import Derived.Maps.AppendAt
namespace Go.Proofs.Yteacolahbnilnaa
open Go.RowKit Go.Shelf
set_option linter.unusedVariables false

attribute [local go_sem] Oper.semAt_some

/-- A stretch of memory that holds bytes. -/
def Piece (w0 : World) : Type := { p : Value × List UInt8 // Sl w0 p.1 p.2 ∧ p.2.length ≤ 65536 }

theorem grown_drewN (w : World) (n : Nat) (row : Option Nat) : w.grownBy (w.drewN n) row := ⟨rfl, rfl, rfl, Nat.le_refl _, fun _ _ _ => rfl⟩

theorem Sl.rest {w : World} {ao : Option Addr} {n c : Nat} {l : List UInt8} (h : Sl w (.slice ao n c) l) (k : Nat) (hk : k ≤ l.length) :
    ∃ v, v = Value.slice (if c = k then ao else ao.map (·.add (k * 1))) (n - k) (c - k) ∧ Sl w v (l.drop k) := ⟨_, rfl, h.drop k hk⟩

set_option maxRecDepth 100000 in
set_option maxHeartbeats 2000000 in
theorem frames1_in (n : Nat) (hn : 1 ≤ n) (l Bn : Nat) (w0 : World) (v : Value) (bs : List UInt8) (rs : List (List UInt8)) (hbs : bs.length ≤ 1099511627776) (hv : Sl w0 v bs) (hsc : Scans bs rs) (J Jx : List (Piece w0) → World → Prop) (W : World)
    (hJ : AbidesFrom W.heap.size J) (hB : Below w0.heap.size w0 W)
    (hY : ∀ pre x W1, J pre W1 → pre.length < rs.length → YieldAt Fence.wide (n - 1) Try.prog l #[x.1.1] W1 fun e W' =>
      (e = .returned (.bool true) ∧ J (pre ++ [x]) W' ∧ Below w0.heap.size W1 W') ∨ (e = .returned (.bool false) ∧ Jx (pre ++ [x]) W'))
    (hBn : W.cell? ⟨Bn, 0, none⟩ = some v) (h0 : J [] W) :
    CallsIn Fence.wide n Try.prog 25 #[.func (.yield l) #[] #[], .pointer (some ⟨Bn, 0, none⟩)] W fun e W' => (∃ v, e = .returned v) ∧
      ((∃ ys, ys.map (fun p : Piece w0 => p.1.2) = rs ∧ J ys W') ∨ (∃ pre, True ∧ Jx pre W')) := by
  refine callsIn_of_wp Try.func25 rfl trivial ?_ rfl
  simp only [Try.ntmps25, List.size_toArray, List.length_cons, List.length_nil, Nat.reduceAdd, Nat.reduceSub, Array.replicate_succ, Array.replicate_zero, List.push_toArray, List.append_toArray, List.nil_append, List.cons_append]
  have hvs : ∃ ao c, v = .slice ao bs.length c := by obtain ⟨ao, c, rfl, _⟩ := hv; exact ⟨_, _, rfl⟩
  obtain ⟨ao, c, rfl⟩ := hvs
  gi_wp2
  gi_loopw [3] (fun p wr => ∃ (pre : List (Piece w0)) (rest : List (List UInt8)) (lr : List UInt8) (ao : Option Addr) (c : Nat), p = .slice ao lr.length c ∧ Sl w0 p lr ∧ lr.length ≤ 1099511627776 ∧ Hid (Scans lr rest ∧ rs = pre.map (fun p => p.1.2) ++ rest) ∧ J pre wr ∧ Below w0.heap.size w0 wr)
    (fun p wr => match p with | .slice _ n _ => n | _ => 0)
  case atStart => exact ⟨[], rs, bs, ao, c, rfl, hv, hbs, ⟨hsc, rfl⟩, h0, hB⟩
  case round =>
    obtain ⟨pre, rest, lr, ao, c, rfl, hs, hlr, Hsc, hJs, hBr⟩ := hrel
    have hsr := hs.below hBr (Nat.le_refl _)
    gi_wp2_with (refine ⟨trivial, ?_⟩; gi_at_call 24; refine (callsIn_wide.2 (first_any _ lr _ hsr hlr)).mono ?_)
    rintro e w' ⟨⟨hno, rfl⟩ | ⟨rv, x, hx, rfl, hsx0⟩, q, rfl⟩
    · have e0 : rest = [] := by
        cases rest with
        | nil => rfl
        | cons x r => have := Hsc.out.1.1; rw [hno] at this; cases this
      subst e0
      have hR : rs = pre.map (fun p : Piece w0 => p.1.2) := by rw [Hsc.out.2, List.append_nil]
      have hJq : J pre (wr.drewN q) := hJ pre _ _ none hJs (grown_drewN wr q none) (fun r e => by cases e)
      have HR := hide hR
      clear hR hno hsr
      gi_wp2
      all_goals
        refine ⟨fun _ h => (by cases h), ?_⟩
        gi_wp2
        refine bodyPost_ret (results_none rfl _ _ _) rfl ?_
        exact ⟨⟨_, rfl⟩, .inl ⟨pre, (unhide HR).symm, hJq⟩⟩
    · have hfs1 := (fst_some hx).1
      have hfs3 := (fst_some hx).2.2.1
      obtain ⟨r, hr⟩ : ∃ r, rest = x :: r := by
        cases rest with
        | nil => have := Hsc.out.1; rw [Scans, hx] at this; cases this
        | cons y r => have := Hsc.out.1.1; rw [hx] at this; cases this; exact ⟨r, rfl⟩
      subst hr
      have hsx := hsx0 _ hs
      obtain ⟨xo, xc, rfl, _⟩ := id hsx
      obtain ⟨pc, hpc⟩ : ∃ pc : Piece w0, pc.1 = (.slice xo x.length xc, x) := ⟨⟨(.slice xo x.length xc, x), hsx, hfs3⟩, rfl⟩
      have hJq : J pre (wr.drewN q) := hJ pre _ _ none hJs (grown_drewN wr q none) (fun r e => by cases e)
      have hlt : pre.length < rs.length := by rw [Hsc.out.2]; simp
      obtain ⟨fn, tmps, assign, body, hy, hR⟩ := hY pre pc (wr.drewN q) hJq hlt
      rw [hpc] at hy
      dsimp only at hy
      obtain ⟨lb, lo, rfl⟩ := hs.addr (by omega)
      have hcap : lr.length ≤ c ∧ c ≤ maxLen := by obtain ⟨_, _, e, k1, k2, _⟩ := hs; injection e with e1 e2 e3; subst e3; exact ⟨k1, k2⟩
      obtain ⟨hc1, hc2⟩ := hcap
      unfold maxLen at hc2
      have hdr := hs.drop (8 + x.length) hfs1
      have Hdr := hide hdr
      have Hx := hide hx
      clear hx hdr hsx0 hsr hsx
      gi_wp2
      refine hR.mono ?_
      rintro e W3 (⟨rfl, hJ3, hk3⟩ | ⟨rfl, hJx3⟩)
      · gi_wp2
        go_roundw
        case rel =>
          have e : (Option.map (fun y : Addr => y.add ((8 + x.length) * 1)) (some ⟨lb, lo, none⟩)) = some ⟨lb, lo + (8 + x.length), none⟩ := by simp [Addr.add]
          have hS := unhide Hdr
          rw [e] at hS
          refine ⟨pre ++ [pc], r, lr.drop (8 + x.length), _, _, by rw [List.length_drop], hS, by rw [List.length_drop]; omega, ⟨Hsc.out.1.2, ?_⟩, hJ3, hBr.trans ((belowN (Below.refl _ wr) q).trans hk3)⟩
          rw [Hsc.out.2]
          simp [hpc]
        case measure => simp; omega
      · gi_wp2
        refine bodyPost_ret (results_none rfl _ _ _) rfl ?_
        exact ⟨⟨_, rfl⟩, .inr ⟨_, trivial, hJx3⟩⟩

set_option maxRecDepth 100000 in
set_option maxHeartbeats 1000000 in
theorem frames_in (n : Nat) (ao : Option Addr) (len c : Nat) (w : World) :
    CallsIn Fence.wide n Try.prog 21 #[.slice ao len c] w fun e w' => e = .returned (.func (.func 25) #[] #[.pointer (some ⟨w.heap.size, 0, none⟩)]) ∧ w' = w.alloc (.cells #[.slice ao len c] 22) := by
  refine callsIn_of_wp Try.func21 rfl trivial ?_ rfl
  simp only [Try.ntmps21, List.size_toArray, List.length_cons, List.length_nil, Nat.reduceAdd, Nat.reduceSub, Array.replicate_succ, Array.replicate_zero, List.push_toArray, List.append_toArray, List.nil_append, List.cons_append]
  gi_wp2
  go_ret
  exact ⟨rfl, rfl⟩

theorem frames_stops (n : Nat) (hn : 1 ≤ n) (Bn : Nat) (w0 : World) (v : Value) (bs : List UInt8) (rs : List (List UInt8)) (hbs : bs.length ≤ 1099511627776) (hv : Sl w0 v bs) (hsc : Scans bs rs) (w : World) (hB : Below w0.heap.size w0 w) (hBn : Bn < w.heap.size) (hc : w.cell? ⟨Bn, 0, none⟩ = some v) :
    SeqStopsK Fence.wide n Try.prog 25 #[.pointer (some ⟨Bn, 0, none⟩)] (fun x : Piece w0 => #[x.1.1]) (Below w0.heap.size) (fun ys => ys.map (fun p => p.1.2) = rs) (fun _ => True) rs.length w := fun l J Jx W hW hJ _ hY h0 =>
  frames1_in n hn l Bn w0 v bs rs hbs hv hsc J Jx W hJ (hB.trans (hW.mono hB.size)) hY ((hW.cell (p := ⟨Bn, 0, none⟩) hBn).trans hc) h0

end Go.Proofs.Yteacolahbnilnaa
