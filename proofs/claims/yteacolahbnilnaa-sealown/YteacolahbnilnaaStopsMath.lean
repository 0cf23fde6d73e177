/-
  Frames one of whose records' bits is turned: those ahead of it are scanned. And rows of numbers of the call's own.
-/
import Derived.Test.YteacolahbnilnaaTurn
namespace Go.Proofs.Yteacolahbnilnaa
open Go.RowKit
set_option linter.unusedVariables false

theorem Try.infoInt : (Try.prog.info? 3).map (fun i => (i.zero, i.size, i.bytes)) = some (some (.int .i64 0), 1, 8) := by kernel_rfl

/-- What one row holds stays while another one, of another type, grows. -/
theorem kept_alloc {W w' : World} {o : Obj} {b1 b2 s1 s2 n1 n2 : Nat} {e1 e2 : TypeId} {v1 v2 : Value} {x1 x2 : List Value} (h1 : W.ownsRow b1 e1 s1 v1 n1 x1) (h2 : W.ownsRow b2 e2 s2 v2 n2 x2) (hg : (W.alloc o).grownBy w' v2.ownBlock) (hne : e1 ≠ e2) : w'.ownsRow b1 e1 s1 v1 n1 x1 :=
  (h1.alloc o).kept hg (rows_apart (h1.alloc o) (h2.alloc o) hne)

theorem row_form {w : World} {base size n : Nat} {e : TypeId} {v : Value} {xs : List Value} (h : w.ownsRow base e size v n xs) (hn : 0 < n) : ∃ g cap, v = .slice (some ⟨g, 0, none⟩) n cap := by
  rcases h.2 with ⟨_, h0⟩ | ⟨g, cap, _, hv, _⟩
  · omega
  · exact ⟨g, cap, hv⟩

/-- Where each frame ends. -/
def ends (ds : List (List UInt8)) : List Value := (List.range ds.length).map fun i => Value.int .i64 (total (ds.take (i + 1)) : Int)

theorem ends_length (ds : List (List UInt8)) : (ends ds).length = ds.length := by simp [ends]

theorem ends_snoc (ds : List (List UInt8)) (x : List UInt8) : ends (ds ++ [x]) = ends ds ++ [.int .i64 (total (ds ++ [x]) : Int)] := by
  unfold ends
  rw [List.length_append, List.length_singleton, List.range_succ, List.map_append]
  congr 1
  · apply List.map_congr_left
    intro i hi
    rw [List.mem_range] at hi
    rw [List.take_append_of_le_length (by omega)]
  · simp only [List.map_cons, List.map_nil]
    rw [List.take_of_length_le (by simp)]

theorem ends_get (ds : List (List UInt8)) (t : Nat) (h : t < ds.length) (h0 : 0 < t) : (ends ds)[t - 1]? = some (.int .i64 (total (ds.take t) : Int)) := by
  unfold ends
  rw [List.getElem?_map, List.getElem?_range (by omega)]
  simp only [Option.map_some]
  rw [show t - 1 + 1 = t by omega]

theorem split_at (ds : List (List UInt8)) (t : Nat) (h : t < ds.length) : ds = ds.take t ++ (ds[t] :: ds.drop (t + 1)) := by
  rw [← List.drop_eq_getElem_cons h, List.take_append_drop]

theorem total_append (r s : List (List UInt8)) : total (r ++ s) = total r + total s := by simp [total]

/-- The place of a bit of the record at t. -/
theorem stops_scan (ds : List (List UInt8)) (t m : Nat) (h : t < ds.length) (hF : ∀ x ∈ ds, Fits x ∧ x.length ≤ 500) (hm : m < 8 * ds[t].length) (j b : Nat) (hj : j = total (ds.take t) + 8 + m / 8) (hb : b = m % 8) (hjl : j < (frs ds).length) :
    Scans ((frs ds).set j ((frs ds)[j] ^^^ UInt8.ofNat (2 ^ b))) (ds.take t) := by
  subst hj hb
  obtain ⟨x, hx⟩ : ∃ x, x = ds[t] := ⟨_, rfl⟩
  rw [← hx] at hm
  have hsp : frs ds = frs (ds.take t) ++ (tf x x ++ frs (ds.drop (t + 1))) := by
    conv => lhs; rw [split_at ds t h, frs_append, frs_cons, ← hx]
    rfl
  have hl := frs_length (ds.take t)
  have hmi : m / 8 < x.length := by omega
  have hget : (frs ds)[total (ds.take t) + 8 + m / 8] = x[m / 8] := by
    apply Option.some.inj
    rw [← List.getElem?_eq_getElem hjl, ← List.getElem?_eq_getElem hmi, hsp, List.getElem?_append_right (by omega), hl]
    rw [List.getElem?_append_left (by rw [tf_length]; omega), show total (ds.take t) + 8 + m / 8 - total (ds.take t) = 8 + m / 8 by omega, tf_get]
  rw [hget]
  have hset : (frs ds).set (total (ds.take t) + 8 + m / 8) (x[m / 8] ^^^ UInt8.ofNat (2 ^ (m % 8))) = frs (ds.take t) ++ (tf x (x.set (m / 8) (x[m / 8] ^^^ UInt8.ofNat (2 ^ (m % 8)))) ++ frs (ds.drop (t + 1))) := by
    rw [hsp, List.set_append_right _ _ (by omega), hl, show total (ds.take t) + 8 + m / 8 - total (ds.take t) = 8 + m / 8 by omega]
    rw [List.set_append_left _ _ (by rw [tf_length]; omega), tf_set]
  rw [hset]
  have hxm : x ∈ ds := by rw [hx]; exact List.getElem_mem _
  refine Scans.frames _ (fun y hy => (hF y (List.mem_of_mem_take hy)).1) ?_
  have hcrc : crc (x.set (m / 8) (x[m / 8] ^^^ UInt8.ofNat (2 ^ (m % 8)))) ≠ crc x := by
    refine crc_turned (by rw [List.length_set]) 1 m (by decide) (by decide) (by omega) ?_
    rw [num_set x (m / 8) (m % 8) hmi (by omega), Nat.mul_one, show 8 * (m / 8) + m % 8 = m by omega]
  have := fst_bad (x := x) (by rw [List.length_set]) hcrc (hF x hxm).1.2 (frs (ds.drop (t + 1)))
  unfold tf
  rw [List.append_assoc, List.append_assoc]
  exact this

end Go.Proofs.Yteacolahbnilnaa
