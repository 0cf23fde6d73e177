/-
  Contracts of disk's copied, of bytes.Equal, and of disk's common. No law is proved here.
-/
import Derived.Test.YtdhjogfalkmggaaMth
import Derived.Laws.CopyOwn
import Derived.BigQuiet
namespace Go.Proofs.Ytdhjogfalkmggaa
open Go.RowKit
set_option linter.unusedVariables false

section
set_option maxRecDepth 100000

theorem rep_bc (n : Nat) : (madeCells (Value.int .u8 0).cells (n * 1)).toList = List.replicate n (Value.int .u8 0) := by
  rw [Nat.mul_one]
  exact toList_madeCells_one _ _

theorem copied_any (v : Value) (l : List UInt8) (w : World) (hs : Sl w v l) (hl : l.length ≤ 1099511627776) :
    Calls Try.prog 25 #[v] w fun e w' => e = .returned (.slice (some ⟨w.heap.size, 0, none⟩) l.length l.length) ∧ Own w.heap.size w' (.slice (some ⟨w.heap.size, 0, none⟩) l.length l.length) l ∧ Below w.heap.size w w' := by
  obtain ⟨i0, hi, hz0, hz1, hz2⟩ := info_parts Try.infoByte
  have Hs := hide hs
  obtain ⟨ao, c, rfl, h1, h2, h3, h4⟩ := hs
  unfold maxLen at h2
  clear h3 h4
  obtain ⟨w1, hr, ho, hg⟩ := run_make_full (P := Try.prog) w w.heap.size 26 5 i0 (.int .u8 0) 1 Try.underlying26 hi hz0 hz1 .i64 .i64 l.length (by rw [hz2]; omega) (by unfold maxLen; omega) (Nat.le_refl _)
  have hb1 : Below w.heap.size w w1 := ⟨hg.os, hg.tape, hg.output, hg.size, fun k hk => hg.block k hk (by simp)⟩
  have Hs1 := hide ((unhide Hs).later hb1)
  rw [rep_bc] at ho
  obtain ⟨cur, hcur⟩ : ∃ cur : List Value, Hid (w1.heap[w.heap.size]? = some (.cells cur.toArray 5 (0, 0)) ∧ cur.length = l.length) := by
    rcases ho.2 with ⟨e, _⟩ | ⟨g, cap, cur, e, _, hgg, _, _, hcs, _⟩
    · cases e
    · injection e with e1 e2 e3
      injection e1 with e1
      injection e1 with e1
      subst e1 e3
      exact ⟨cur.toList, by simpa using hgg, by simpa using hcs⟩
  obtain ⟨w2, hr2, hg2, hb2⟩ : ∃ w2, (Builtin.copy_ #[26, 26] 3 #[.slice (some ⟨w.heap.size, 0, none⟩) l.length l.length, .slice ao l.length c]).run Try.prog w1 = .ok (.int .i64 l.length) w2 ∧ Hid (w2.heap[w.heap.size]? = some (.cells (bc l).toArray 5 (0, 0))) ∧ Hid (Below w.heap.size w w2) := by
    by_cases h0 : l = []
    · subst h0
      have e : cur = [] := List.eq_nil_of_length_eq_zero (unhide hcur).2
      subst e
      exact ⟨w1, run_copy_none (P := Try.prog) w1 26 26 3 5 _ ao 0 0 0 c Try.underlying26 (by rw [hi]; simp [hz1]) rfl, hide (unhide hcur).1, hide hb1⟩
    · have hp : 0 < l.length := by cases l <;> simp_all
      obtain ⟨ao', c', e, k1, k2, k3, k4⟩ := id (unhide Hs1)
      injection e with e1 e2 e3
      subst e1
      obtain ⟨b, o, rfl⟩ := (unhide Hs1).addr hp
      have hrun := run_copy_row (P := Try.prog) w1 26 26 3 5 w.heap.size 0 l.length l.length ⟨b, o, none⟩ l.length c cur.toArray 5 (bc l) Try.underlying26 (by rw [hi]; simp [hz1]) (unhide hcur).1 (by rw [bc_length]; simp) (k4 _ rfl) (by rw [bc_length]; simp [(unhide hcur).2]) (bc_one _)
      rw [bc_length] at hrun
      refine ⟨_, hrun, hide ?_, hide (below_setRow hb1 (Nat.le_refl _) _)⟩
      rw [setRow_heap w1 _ _ _ _ _ (unhide hcur).1]
      have ed : List.drop (0 + l.length) cur.toArray.toList = [] := List.drop_eq_nil_of_le (by have := (unhide hcur).2; simp; omega)
      rw [ed]
      simp
  have hb1 := hide hb1
  clear ho hg hb1
  go_enter Try.func25, Try.ntmps25
  go_wp2
  go_ret
  refine ⟨rfl, ?_, unhide hb2⟩
  exact ⟨by simp [bc_length], .inr ⟨w.heap.size, l.length, _, rfl, Nat.le_refl _, unhide hg2, Nat.le_refl _, by unfold maxLen; omega, by simp [bc_length], by simp only [Nat.mul_one]; rw [List.take_of_length_le (by simp [bc_length])]⟩⟩

theorem equal_any (v u : Value) (l m : List UInt8) (w : World) (hs : Sl w v l) (hu : Sl w u m) :
    Calls Try.prog 28 #[v, u] w fun e w' => e = .returned (.bool (l == m)) ∧ Below w.heap.size w w' := by
  have c1 := conv_sl w v l hs
  have c2 := conv_sl w u m hu
  obtain ⟨ao, c, rfl, h1, h2, h3, h4⟩ := hs
  obtain ⟨bo, d, rfl, k1, k2, k3, k4⟩ := hu
  clear h1 h2 h3 h4 k1 k2 k3 k4
  go_enter Try.func28, Try.ntmps28
  go_wp2
  go_ret
  exact ⟨ret_bool (by rw [bs_list, bs_list]), Below.refl _ _⟩

theorem common_any (v u : Value) (l m : List UInt8) (w : World) (hs : Sl w v l) (hu : Sl w u m) (hl : l.length ≤ 1099511627776) (hm : m.length ≤ 1099511627776) :
    Calls Try.prog 29 #[v, u] w fun e w' => e = .returned (.int .i64 (cmn l m)) ∧ Below w.heap.size w w' := by
  have Hs := hide hs
  have Hu := hide hu
  obtain ⟨ao, c, rfl, h1, h2, h3, h4⟩ := hs
  obtain ⟨bo, d, rfl, k1, k2, k3, k4⟩ := hu
  clear h3 h4 k3 k4
  unfold maxLen at h2 k2
  by_cases hlm : m.length < l.length
  all_goals
    go_enter Try.func29, Try.ntmps29
    go_wp2
    go_loopw [13] (fun i wr => ∃ k n : Nat, k ≤ l.length ∧ k ≤ m.length ∧ i = .int .i64 k ∧ wr = w.drewN n ∧ Hid (∀ j, j < k → l[j]? = m[j]?)) (fun i _ => l.length + m.length - (intOf i).toNat)
    case atStart => exact ⟨0, 0, by omega, by omega, rfl, rfl, hide (fun j hj => by omega)⟩
    case round =>
      obtain ⟨k, n, hk1, hk2, rfl, rfl, hE⟩ := hrel
      by_cases hlt : k < l.length ∧ k < m.length
      · obtain ⟨hl1, hl2⟩ := hlt
        obtain ⟨b, o, rfl⟩ := (unhide Hs).addr (by omega)
        obtain ⟨b2, o2, rfl⟩ := (unhide Hu).addr (by omega)
        have hc1 := (unhide Hs).cell k hl1
        have hc2 := (unhide Hu).cell k hl2
        obtain ⟨x, hx⟩ : ∃ x, Hid (l[k] = x) := ⟨l[k], Eq.refl l[k]⟩
        obtain ⟨y, hy⟩ : ∃ y, Hid (m[k] = y) := ⟨m[k], Eq.refl m[k]⟩
        rw [hx.out] at hc1
        rw [hy.out] at hc2
        have hkI : (k : Int) < (l.length : Int) := by omega
        have hkJ : (k : Int) < (m.length : Int) := by omega
        by_cases hxy : x = y
        · have hq : ((x.toNat : Int) == (y.toNat : Int)) = true := by rw [hxy]; simp
          have hE' : Hid (∀ j, j < k + 1 → l[j]? = m[j]?) := by
            intro j hj
            by_cases e : j = k
            · subst e
              rw [List.getElem?_eq_getElem hl1, List.getElem?_eq_getElem hl2, hx.out, hy.out, hxy]
            · exact (unhide hE) j (by omega)
          clear hE hxy
          go_wp2_with fail
          go_quiet (fail)
          go_wp2
          go_roundw
          case rel => exact ⟨k + 1, _, by omega, by omega, by go_num, rfl, hE'⟩
          case measure => simp [intOf]; omega
        · have hq : ((x.toNat : Int) == (y.toNat : Int)) = false := by
            rw [beq_eq_false_iff_ne]
            intro e
            exact hxy (UInt8.toNat_inj.1 (by omega))
          have hE' : Hid (cmn l m = k) := cmn_eq l m k (unhide hE) (by omega) (by omega) (.inr (.inr (by rw [List.getElem?_eq_getElem hl1, List.getElem?_eq_getElem hl2, hx.out, hy.out]; simpa using hxy)))
          clear hE hxy
          go_wp2_with fail
          go_quiet (fail)
          go_wp2
          go_ret
          exact ⟨by rw [unhide hE']; rfl, below_drewN (below_drewN (Below.refl _ w) n) nq⟩
      · have hE' : Hid (cmn l m = k) := cmn_eq l m k (unhide hE) (by omega) (by omega) (by omega)
        clear hE
        go_wp2
        go_ret
        first | exact ⟨by rw [unhide hE', (by omega : k = m.length)]; rfl, below_drewN (Below.refl _ w) n⟩ | exact ⟨by rw [unhide hE', (by omega : k = l.length)]; rfl, below_drewN (Below.refl _ w) n⟩
end

end Go.Proofs.Ytdhjogfalkmggaa
