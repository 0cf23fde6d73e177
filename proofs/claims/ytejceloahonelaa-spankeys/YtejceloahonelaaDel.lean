/-
  The contract of slices.DeleteFunc over the closure of Keys. No law is proved here.
-/
import Derived.Test.YtejceloahonelaaLacks
import Derived.Lib.SliceRun
import Derived.Lib.LazyBuf
namespace Go.Proofs.Ytejceloahonelaa
open Go.RowKit Go.Sort
set_option linter.unusedVariables false

theorem holds_below {α : Type} [Inhabited α] {enc : α → Value} {w w' : World} {g o C : Nat} {D : Array α} (h : Holds enc w g o D) (hb : Below C w w') (hg : g < C) : Holds enc w' g o D :=
  fun j hj => ⟨(hb.cell hg).trans (h j hj).1, (hb.frozen hg).trans (h j hj).2⟩

theorem holds_set {w : World} {g : Nat} {D : Array ByteArray} (h : Holds Value.string w g 0 D) (k : Nat) (hk : k < D.size) (x : ByteArray) : Holds Value.string (w.setCell ⟨g, k, none⟩ (.string x)) g 0 (D.setIfInBounds k x) := by
  intro j hj
  have hj' : j < D.size := by simpa using hj
  rw [Nat.zero_add]
  have := h j hj'
  rw [Nat.zero_add] at this
  refine ⟨?_, by simpa using this.2⟩
  by_cases e : j = k
  · subst e; rw [getElem!_set_same D j x hk]; exact World.cell?_setCell_same w _ _ this.1
  · rw [getElem!_set_other D k j x e, World.cell?_setCell_other w _ _ _ (by intro q; injection q with _ q; exact e q.symm)]; exact this.1

theorem below_cells {B b : Nat} {a : World} (hb : B ≤ b) : ∀ (vs : List Value) (o : Nat) (w : World), Below B a w → Below B a (w.setCells b o vs)
  | [], _, _, h => h
  | v :: vs, o, w, h => below_cells hb vs (o + 1) _ (h.setCell hb _)

section
set_option maxRecDepth 100000
set_option maxHeartbeats 1000000

theorem delete_any (g c cap B : Nat) (f t : ByteArray) (D : Array ByteArray) (w : World) (hH : Holds Value.string w g 0 D) (hc : Sp w c f t) (hn : D.size ≤ 9223372036854775807) (hcap : D.size ≤ cap) (hg : g < w.heap.size) (hcB : c < B) (hB : B ≤ g) :
    Calls Try.prog 26 #[.slice (some ⟨g, 0, none⟩) D.size cap, .func (.func 25) #[] #[.pointer (some ⟨c, 0, none⟩)]] w fun e w' =>
      e = .returned (.slice (some ⟨g, 0, none⟩) (D.toList.filter fun x => hasB f t x).length cap) ∧ Holds Value.string w' g 0 (D.toList.filter fun x => hasB f t x).toArray ∧ Below B w w' ∧ g < w'.heap.size := by
  have HH := hide hH
  have Hc := hide hc
  obtain ⟨kp, HK⟩ : ∃ kp : Nat → Bool, Hid (kp = fun j => hasB f t D[j]!) := ⟨_, rfl⟩
  have hfil : (D.toList.filter fun x => hasB f t x) = Lib.keptUpTo kp D D.size := by rw [unhide HK]; exact (Lib.keptUpTo_filter (fun x => hasB f t x) D).symm
  rw [hfil]
  have hix := hide (index_any g c cap f t D w hH hc hn hg)
  clear hH hc hfil
  go_enter Try.func26, Try.ntmps26
  go_wp2_with fail
  refine (unhide hix).mono ?_
  rintro e w1 ⟨i, rfl, hi, hb⟩
  have Hb := hide (hb.mono (Nat.le_trans hB (Nat.le_of_lt hg)))
  have HH1 := hide (holds_below (unhide HH) hb hg)
  have Hc1 := hide ((unhide Hc).later hb)
  have hg1 : g < w1.heap.size := Nat.lt_of_lt_of_le hg hb.size
  clear hb hix
  obtain ⟨hall, hhit⟩ := hi
  rcases hhit with rfl | ⟨k0, rfl, hk0, hno⟩
  · have Hall := hide hall
    clear hall
    go_wp2
    go_ret
    have e3 : Lib.keptUpTo kp D D.size = D.toList := by
      rw [Lib.keptUpTo_all kp D _ (fun j hj => by rw [unhide HK]; exact unhide Hall j (by simp) hj), Lib.range_map_get]
    rw [e3]
    refine ⟨by simp, ?_, unhide Hb, hg1⟩
    simpa using unhide HH1
  · have HI := hide (Lib.KeptInv.start (kp := kp) (d := D) (k0 := k0) (fun j hj => by rw [unhide HK]; exact hall j (.inl (by omega)) (by omega)) (by rw [unhide HK]; exact hno))
    have hne : ((k0 : Int) == -1) = false := beq_eq_false_iff_ne.2 (by omega)
    clear hall hno
    go_wp2
    go_loopw [5, 6] (fun iv jv wr => ∃ (k m : Nat) (Dk : Array ByteArray), iv = .int .i64 k ∧ jv = .int .i64 m ∧ m ≤ D.size ∧ k < m ∧ Hid (Lib.KeptInv kp D m k Dk) ∧ Hid (Holds Value.string wr g 0 Dk) ∧ Hid (Sp wr c f t) ∧ Hid (Below B w wr) ∧ g < wr.heap.size) (fun _ jv _ => D.size - (intOf jv).toNat)
    case atStart => exact ⟨k0, k0 + 1, D, rfl, by go_num, by omega, by omega, HI, HH1, Hc1, Hb, hg1⟩
    case round =>
      obtain ⟨k, m, Dk, rfl, rfl, hm, hkm, HI, Hh, Hs, Hb, hgr⟩ := hrel
      by_cases hlt : m < D.size
      · have hsz := (unhide HI).size
        have hcell : wr.cell? ⟨g, m, none⟩ = some (.string D[m]!) := by
          have := ((unhide Hh) m (by omega)).1
          rw [Nat.zero_add, (unhide HI).high m (by omega)] at this
          exact this
        generalize hx : D[m]! = x at hcell
        have Hx := hide hx
        clear hx
        go_wp2_with fail
        refine (lacks_any c f t x wr (unhide Hs)).mono ?_
        rintro e w2 ⟨rfl, hb⟩
        have Hh2 := hide (holds_below (unhide Hh) hb hgr)
        have Hs2 := hide ((unhide Hs).later hb)
        have Hb2 := hide ((unhide Hb).trans (hb.mono (Nat.le_of_lt (Nat.lt_of_le_of_lt hB hgr))))
        have hg2 : g < w2.heap.size := Nat.lt_of_lt_of_le hgr hb.size
        clear hb hcell
        have hk2 := (unhide Hh2) k (by omega)
        rw [Nat.zero_add] at hk2
        obtain ⟨hkc, hkf⟩ := hk2
        generalize Dk[k]! = old at hkc
        cases hh : hasB f t x
        · go_wp2
          go_roundw
          case rel => exact ⟨k, m + 1, Dk, rfl, by go_num, by omega, by omega, (unhide HI).skip (by rw [unhide HK]; show hasB f t D[m]! = false; rw [unhide Hx]; exact hh), Hh2, Hs2, Hb2, hg2⟩
          case measure => simp [intOf]; omega
        · go_wp2
          go_roundw
          case rel =>
            refine ⟨k + 1, m + 1, Dk.setIfInBounds k x, by go_num, by go_num, by omega, by omega, ?_, holds_set (unhide Hh2) k (by omega) x, (unhide Hs2).other (by show g ≠ c; omega) _, (unhide Hb2).setCell hB _, by simpa [World.setCell] using hg2⟩
            have := (unhide HI).keep hlt (by rw [unhide HK]; show hasB f t D[m]! = true; rw [unhide Hx]; exact hh)
            rw [unhide Hx] at this
            exact this
          case measure => simp [intOf]; omega
      · obtain rfl : m = D.size := by omega
        have hsz := (unhide HI).size
        have hcl : ∀ ty, (Builtin.clear_ #[32] ty #[.slice (some ⟨g, k, none⟩) (D.size - k) (cap - k)]).run Try.prog wr = .ok (.tuple #[]) (wr.setCells g k (List.replicate (D.size - k) (.string ⟨#[]⟩))) :=
          fun ty => Lib.run_clear_slice wr _ _ ty _ Try.underlying32 Try.zeroValue9 rfl rfl g k _ _ (by omega) (fun t ht => by have := ((unhide Hh) (k + t) (by omega)).1; rw [Nat.zero_add] at this; rw [this]; rfl) (fun t ht => by have := ((unhide Hh) (k + t) (by omega)).2; rw [Nat.zero_add] at this; exact this)
        go_wp2
        go_ret
        have hI := unhide HI
        refine ⟨by rw [hI.len]; rfl, ?_, below_cells hB _ _ _ (unhide Hb), Nat.lt_of_lt_of_le hgr (below_cells (B := 0) (a := wr) (Nat.zero_le _) _ _ _ (Below.refl _ _)).size⟩
        intro j hj
        have hj' : j < k := by rw [← hI.len]; simpa using hj
        rw [Nat.zero_add]
        have h0 := (unhide Hh) j (by omega)
        rw [Nat.zero_add] at h0
        refine ⟨?_, by rw [World.frozen?_setCells]; exact h0.2⟩
        rw [World.cell?_setCells_out g _ _ _ _ (fun _ _ => .inl hj'), h0.1]
        have hl := hI.low j hj'
        rw [show (Lib.keptUpTo kp D D.size).toArray[j]! = Dk[j]! from ?_]
        rw [getElem!_def, List.getElem?_toArray, hl]

end

end Go.Proofs.Ytejceloahonelaa
