/-
  wampumref02.Scan, Whole: what they answer.
-/
import Derived.Test.YteacolahbnilnaaRefFirst
namespace Go.Proofs.Yteacolahbnilnaa
open Go.RowKit
set_option linter.unusedVariables false

/-- What the document's Whole answers. -/
def RefWholed (w : World) (l : List UInt8) (e : Ending) : Prop :=
  (whole l = none ∧ e = .returned (.tuple #[.slice none 0 0, .int .i64 21])) ∨ ∃ r x, whole l = some x ∧ e = .returned (.tuple #[r, .int .i64 0]) ∧ Sl w r x

set_option maxRecDepth 100000 in
set_option maxHeartbeats 1000000 in
theorem refwhole_any (v : Value) (l : List UInt8) (w : World) (hs : Sl w v l) (hl : l.length ≤ 1099511627776) :
    Calls Try.prog 14 #[v] w fun e w' => RefWholed w l e ∧ ∃ n, w' = w.drewN n := by
  have hv : ∃ ao c, v = .slice ao l.length c ∧ l.length ≤ c ∧ c ≤ maxLen := by obtain ⟨ao, c, rfl, h1, h2, _⟩ := hs; exact ⟨_, _, rfl, h1, h2⟩
  obtain ⟨ao, c, rfl, h1, h2⟩ := hv
  unfold maxLen at h2
  have Hs : Hid (Sl w (.slice ao l.length c) l) := hs
  clear hs
  go_enter Try.func14, Try.ntmps14
  go_wp2_with fail
  refine (reffirst_any _ l _ Hs.out hl).mono ?_
  rintro e w' ⟨⟨hn, rv, rfl⟩ | ⟨rv, x, hx, rfl, hsx0⟩, q, rfl⟩
  · go_wp2
    go_ret2
    exact ⟨.inl ⟨by unfold whole; rw [hn], rfl⟩, q, rfl⟩
  · have hsx := hsx0 _ Hs.out
    clear hsx0
    obtain ⟨xo, xc, rfl, hx1, hx2, _⟩ := id hsx
    have hfa := (fst_some hx).1
    have hfb := (fst_some hx).2.1
    have hfc := (fst_some hx).2.2.1
    have Hx := hide hx
    have Hsx := hide hsx
    clear hx hsx
    unfold maxLen at hx2
    by_cases heq : x.length + 8 = l.length
    · have hne : ((x.length : Int) + 8 != (l.length : Int)) = false := by rw [bne_eq_false_iff_eq]; omega
      have Heq := hide heq
      clear heq
      go_wp2
      go_ret2
      exact ⟨.inr ⟨_, _, by unfold whole; rw [Hx.out]; have := Heq.out; simp; omega, rfl, Hsx.out⟩, q, rfl⟩
    · have hne : ((x.length : Int) + 8 != (l.length : Int)) = true := by rw [bne_iff_ne]; omega
      go_wp2
      go_ret2
      exact ⟨.inl ⟨by unfold whole; rw [Hx.out]; simp; omega, rfl⟩, q, rfl⟩

theorem scans_at : ∀ {r : List (List UInt8)} {l : List UInt8} {s : List (List UInt8)}, Scans l (r ++ s) → Scans (l.drop (total r)) s
  | [], l, s, h => by simpa [total] using h
  | x :: r, l, s, h => by
    have := scans_at (r := r) h.2
    rw [total_cons, ← List.drop_drop]
    exact this

/-- What is found at the loop's head: nothing more, or a record. -/
def Found (w : World) (isv xv : Value) (rest : List (List UInt8)) : Prop :=
  (isv = .bool false ∧ rest = []) ∨ ∃ ao c x r, isv = .bool true ∧ xv = .slice ao x.length c ∧ rest = x :: r ∧ Sl w xv x ∧ x.length ≤ 65536

theorem found_of {a : Value} {w : World} {l : List UInt8} {rest : List (List UInt8)} {e : Ending} (h : RefBegins a l e) (hs : Sl w a l) (hsc : Scans l rest) : ∃ xv isv, e = .returned (.tuple #[xv, isv]) ∧ Found w isv xv rest := by
  rcases h with ⟨hn, v, rfl⟩ | ⟨v, x, hx, rfl, hv⟩
  · refine ⟨v, .bool false, rfl, .inl ⟨rfl, ?_⟩⟩
    cases rest with
    | nil => rfl
    | cons y r => have := hsc.1; rw [hn] at this; cases this
  · cases rest with
    | nil => have : fst l = none := hsc; rw [hx] at this; cases this
    | cons y r =>
      have := hsc.1
      rw [hx] at this
      cases this
      have hsx := hv _ hs
      obtain ⟨ao, c, rfl, _⟩ := id hsx
      exact ⟨_, .bool true, rfl, .inr ⟨ao, c, x, r, rfl, rfl, rfl, hsx, (fst_some hx).2.2.1⟩⟩

set_option maxRecDepth 100000 in
set_option maxHeartbeats 2000000 in
theorem refscan_any (v : Value) (l : List UInt8) (rs : List (List UInt8)) (w : World) (hs : Sl w v l) (hl : l.length ≤ 1099511627776) (hsc : Scans l rs) :
    Calls Try.prog 12 #[v] w fun e w' => ∃ r, e = .returned (.tuple #[r, .int .i64 (total rs)]) ∧ Held w w' r rs ∧ Below w.heap.size w w' := by
  have hv : ∃ ao c, v = .slice ao l.length c ∧ l.length ≤ c ∧ c ≤ maxLen := by obtain ⟨ao, c, rfl, h1, h2, _⟩ := hs; exact ⟨_, _, rfl, h1, h2⟩
  obtain ⟨ao, c, rfl, h1, h2⟩ := hv
  unfold maxLen at h2
  obtain ⟨i0, hi, hz0, hz1, hz2⟩ := info_parts Try.infoBytes
  have Hs : Hid (Sl w (.slice ao l.length c) l) := hs
  have Hsc := hide hsc
  clear hs hsc
  go_enter Try.func12, Try.ntmps12
  go_wp2_with fail
  refine (reffirst_any _ l _ Hs.out hl).mono ?_
  rintro e w' ⟨hbg, q, rfl⟩
  obtain ⟨xv, isv, rfl, hF⟩ := found_of hbg Hs.out Hsc.out
  have HF := hide hF
  clear hbg hF
  go_wp2
  go_loopw [4, 5, 6, 7] (fun ov nv xv isv wr => ∃ (pre rest : List (List UInt8)), Hid (rs = pre ++ rest ∧ Found w isv xv rest) ∧ nv = .int .i64 (total pre) ∧ Hid (Held w wr ov pre ∧ Below w.heap.size w wr)) (fun _ nv _ _ _ => l.length + 1 - (intOf nv).toNat)
  case atStart => exact ⟨[], rs, ⟨rfl, unhide HF⟩, rfl, ⟨⟨[], World.ownsRow_nil _ _ _ _, fun i u x hu => by simp at hu⟩, belowN (Below.refl _ _) q⟩⟩
  case round =>
    obtain ⟨pre, rest, Hr, rfl, Hh⟩ := hrel
    obtain ⟨hrs, hfd⟩ := Hr.out
    rcases hfd with ⟨rfl, rfl⟩ | ⟨xo, xc, x, r, rfl, rfl, rfl, hsx, hxl⟩
    · rw [List.append_nil] at hrs
      subst hrs
      go_wp2
      go_ret2
      exact ⟨_, rfl, Hh.out.1, Hh.out.2⟩
    · obtain ⟨hH, hB⟩ := Hh.out
      obtain ⟨vs, hrow, hrec⟩ := hH
      have hz := hB.size
      have hscr : Scans (l.drop (total pre)) (x :: r) := scans_at (by rw [← hrs]; exact Hsc.out)
      have hscr2 : Scans (l.drop (total (pre ++ [x]))) r := by rw [total_snoc, ← List.drop_drop]; exact hscr.2
      have htot : total pre + 8 + x.length ≤ l.length := by
        have := (fst_some hscr.1).1
        rw [List.length_drop] at this
        have h0 := (fst_some hscr.1).2.1
        omega
      have hcnt : pre.length ≤ l.length := by
        have := Hsc.out.count_le
        rw [hrs, List.length_append] at this
        omega
      have Hrec := hide hrec
      have Hsx := hide hsx
      have HB := hide hB
      have Hsc2 := hide hscr2
      have Hrs := hide hrs
      obtain ⟨tn, htn⟩ : ∃ tn, Hid (total pre = tn) := ⟨_, hide rfl⟩
      rw [htn.out] at htot ⊢
      clear hrec hsx hB hscr hscr2 hrs Hr Hh
      go_wp2_with (at_builtin; refine wpList_append_own _ rfl (.tmp 21) (.tmp 23) 27 rfl w.heap.size 22 i0 (.slice none 0 0) 1 24 Try.underlying27 hi hz0 hz1 hz2 rfl (by decide) _ _ _ rfl (hrow.alloc _) ⟨wr.heap.size, 0, none⟩ 1 1 [.slice xo x.length xc] rfl rfl (cell_one_new _ _ _) (by simp [Value.oneCell']) ?h3 ?h4 ?h5 ?_)
      case h3 => unfold maxLen; omega
      case h4 => omega
      case h5 => simp; omega
      intro dv' w4 ho4 hg4 _
      have R2 : Held w w4 dv' (pre ++ [x]) := held_snoc hrow (unhide Hrec) Hsx.out ho4
      have R3 : Below w.heap.size w w4 := (HB.out.alloc hz _).grown hg4 (by simp; omega) (fun k hk => (World.ownsRow.lt hrow k hk).1)
      obtain ⟨lb, lo, rfl⟩ := Hs.out.addr (by omega)
      have hsl := (Hs.out.drop (tn + 8 + x.length) htot)
      have hld : (l.drop (tn + 8 + x.length)).length ≤ 1099511627776 := by rw [List.length_drop]; omega
      have H2 := hide R2
      have H3 := hide R3
      clear ho4 hg4 hrow R2 R3
      have hrs2 : rs = (pre ++ [x]) ++ r := by rw [Hrs.out]; simp
      have htn2 : total (pre ++ [x]) = tn + 8 + x.length := by rw [total_snoc, htn.out]; omega
      have hsc2 := Hsc2.out
      rw [htn2] at hsc2
      have Hsc3 := hide hsc2
      have Hrs2 := hide hrs2
      have Htn2 := hide htn2
      clear hsc2 hrs2 htn2
      by_cases hcc : c = tn + 8 + x.length
      · rw [if_pos hcc, show c - (tn + 8 + x.length) = 0 by omega] at hsl
        have hcc1 : c ≤ tn + 8 + x.length := by omega
        have hcc2 : tn + 8 + x.length ≤ c := by omega
        clear hcc
        have hsl4 := hsl.below H3.out (Nat.le_refl _)
        have Hsl := hide hsl
        clear hsl
        go_wp2_with fail
        refine (reffirst_any _ _ _ hsl4 hld).mono ?_
        rintro e w5 ⟨hbg, q5, rfl⟩
        obtain ⟨xv5, isv5, rfl, hF5⟩ := found_of hbg Hsl.out Hsc3.out
        have HF5 := hide hF5
        clear hbg hF5 hsl4
        go_wp2
        go_roundw
        case rel => exact ⟨pre ++ [x], r, ⟨unhide Hrs2, unhide HF5⟩, by rw [Htn2.out]; go_num, ⟨(unhide H2).drewN q5, belowN (unhide H3) q5⟩⟩
        case measure => simp [intOf]; omega
      · rw [if_neg hcc] at hsl
        have e : (Option.map (fun y : Addr => y.add ((tn + 8 + x.length) * 1)) (some ⟨lb, lo, none⟩)) = some ⟨lb, lo + (tn + 8 + x.length), none⟩ := by simp [Addr.add]
        rw [e] at hsl
        have hsl4 := hsl.below H3.out (Nat.le_refl _)
        have Hsl := hide hsl
        clear hsl e
        go_wp2_with fail
        refine (reffirst_any _ _ _ hsl4 hld).mono ?_
        rintro e w5 ⟨hbg, q5, rfl⟩
        obtain ⟨xv5, isv5, rfl, hF5⟩ := found_of hbg Hsl.out Hsc3.out
        have HF5 := hide hF5
        clear hbg hF5 hsl4
        go_wp2
        go_roundw
        case rel => exact ⟨pre ++ [x], r, ⟨unhide Hrs2, unhide HF5⟩, by rw [Htn2.out]; go_num, ⟨(unhide H2).drewN q5, belowN (unhide H3) q5⟩⟩
        case measure => simp [intOf]; omega

end Go.Proofs.Yteacolahbnilnaa
