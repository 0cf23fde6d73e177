/-
  Contracts of slices.Equal over versions, version.Same, the document's Same. No law is proved here.
-/
import Derived.Test.YtcahmnpoajnmpaaVs3
namespace Go.Proofs.Ytcahmnpoajnmpaa
open Go.RowKit
set_option linter.unusedVariables false

theorem Vs.split {w : World} {ao : Option Addr} {c : Nat} {vs : List Ver} (h : Vs w ao c vs) : vs = [] ∨ ∃ b o, ao = some ⟨b, o, none⟩ ∧ b < w.heap.size ∧ ∀ i (h : i < vs.length), VAt w b (o + i * 5) vs[i] := by
  match vs, h with
  | [], _ => exact .inl rfl
  | v :: r, h =>
    right
    obtain ⟨b, o, e, hv⟩ := h.each 0 (by simp)
    refine ⟨b, o, e, hv.lt, fun i hi => ?_⟩
    obtain ⟨b', o', e', hv'⟩ := h.each i hi
    rw [e] at e'
    injection e' with e'
    injection e' with h1 h2
    subst h1 h2
    exact hv'

section
set_option maxRecDepth 100000
set_option maxHeartbeats 1000000

theorem equal_any (ao bo : Option Addr) (c d : Nat) (us vs : List Ver) (w : World) (hu : Vs w ao c us) (hv : Vs w bo d vs) :
    Calls Try.prog 35 #[.slice ao us.length c, .slice bo vs.length d] w fun e w' => e = .returned (.bool (sameVs us vs)) ∧ Below w.heap.size w w' := by
  have l1 := hu.len
  have l2 := hv.len
  simp only [maxLen] at l1 l2
  by_cases hl : us.length = vs.length
  · rcases hu.split with rfl | ⟨b, o, rfl, hb, hu'⟩
    · have e : vs = [] := List.eq_nil_of_length_eq_zero (by simpa using hl.symm)
      subst e
      go_enter Try.func35, Try.ntmps35
      go_wp2
      go_loopw [13] (fun i wr => i = .int .i64 0 ∧ Hid (wr = w)) (fun i _ => 0)
      case atStart => exact ⟨rfl, rfl⟩
      case round =>
        obtain ⟨rfl, H⟩ := hrel
        go_wp2
        go_ret
        rw [unhide H]
        exact ⟨rfl, Below.refl _ _⟩
    · rcases hv.split with rfl | ⟨b', o', rfl, hb', hv'⟩
      · have e : us = [] := List.eq_nil_of_length_eq_zero (by simpa using hl)
        subst e
        go_enter Try.func35, Try.ntmps35
        go_wp2
        go_loopw [13] (fun i wr => i = .int .i64 0 ∧ Hid (wr = w)) (fun i _ => 0)
        case atStart => exact ⟨rfl, rfl⟩
        case round =>
          obtain ⟨rfl, H⟩ := hrel
          go_wp2
          go_ret
          rw [unhide H]
          exact ⟨rfl, Below.refl _ _⟩
      · have Hu := hide hu'
        have Hv := hide hv'
        obtain ⟨R, HR⟩ : ∃ R, Hid (sameVs us vs = R) := ⟨_, rfl⟩
        rw [unhide HR]
        rw [← hl]
        obtain ⟨n, hn⟩ : ∃ n, us.length = n := ⟨_, rfl⟩
        have Hn := hide (And.intro hn (hl.symm.trans hn))
        rw [hn] at l1 ⊢
        clear hl hu hv hu' hv' l2 hn
        go_enter Try.func35, Try.ntmps35
        go_wp2
        go_loopw [13] (fun i wr => ∃ k : Nat, i = .int .i64 k ∧ k ≤ n ∧ Hid (∀ j (h1 : j < us.length) (h2 : j < vs.length), j < k → sameV us[j] vs[j] = true) ∧ Hid (Below w.heap.size w wr)) (fun i _ => n - (intOf i).toNat)
        case atStart => exact ⟨0, rfl, by omega, (fun j _ _ h => absurd h (Nat.not_lt_zero _)), Below.refl _ _⟩
        case round =>
          obtain ⟨k, rfl, hk, Ha, Hb⟩ := hrel
          by_cases hlt : k < n
          · have h1 : k < us.length := by have := (unhide Hn).1; omega
            have h2 : k < vs.length := by have := (unhide Hn).2; omega
            have x := (unhide Hu k h1).block ((unhide Hb).block _ hb)
            have y := (unhide Hv k h2).block ((unhide Hb).block _ hb')
            have Hx := hide (And.intro h1 h2)
            obtain ⟨u, hu0⟩ : ∃ u, us[k] = u := ⟨_, rfl⟩
            obtain ⟨v, hv0⟩ : ∃ v, vs[k] = v := ⟨_, rfl⟩
            rw [hu0] at x
            rw [hv0] at y
            have Hs := hide (And.intro hu0 hv0)
            obtain ⟨x0, x1, x2, x3, x4⟩ := x
            obtain ⟨y0, y1, y2, y3, y4⟩ := y
            clear hu0 hv0
            have q := neqV u v
            cases hq : sameV u v
            · rw [hq] at q
              have Hq := hide hq
              clear hq
              go_wp2_with fail
              go_quiet (fail)
              go_wp2
              go_ret
              refine ⟨?_, bdn (unhide Hb) _⟩
              obtain ⟨e1, e2⟩ := unhide Hs
              rw [← unhide HR, sameVs_not k h1 h2 (by rw [e1, e2]; exact unhide Hq)]
              rfl
            · rw [hq] at q
              have Hq := hide hq
              clear hq
              go_wp2_with fail
              go_quiet (fail)
              go_wp2
              go_roundw
              case rel =>
                refine ⟨k + 1, by go_num, by omega, (fun j a b hj => ?_), bdn (unhide Hb) _⟩
                by_cases e : j = k
                · subst e
                  obtain ⟨e1, e2⟩ := unhide Hs
                  rw [e1, e2]; exact unhide Hq
                · exact unhide Ha j a b (by omega)
              case measure => simp [intOf]; omega
          · go_wp2
            go_ret
            refine ⟨?_, unhide Hb⟩
            obtain ⟨e1, e2⟩ := unhide Hn
            rw [← unhide HR, sameVs_all (e1.trans e2.symm) (fun j a b => unhide Ha j a b (by omega))]
            rfl
  · have e : sameVs us vs = false := sameVs_len hl
    rw [e]
    have hl' : ((us.length : Int) == (vs.length : Int)) = false := by rw [beq_eq_false_iff_ne]; omega
    clear hl e
    go_enter Try.func35, Try.ntmps35
    go_wp2
    go_ret
    exact ⟨rfl, Below.refl _ _⟩

theorem same_any (ao bo : Option Addr) (c d : Nat) (us vs : List Ver) (o p : Bool) (i j : Itn) (w : World) (hu : Vs w ao c us) (hv : Vs w bo d vs) :
    Calls Try.prog 14 #[(.agg #[.slice ao us.length c, .bool o, .int .i64 i.txn.id, .int .i64 i.txn.ep, .string i.txn.anchor, .int .i64 i.txn.start.1, .int .i64 i.txn.start.2, .int .i64 i.seq, .int .i64 i.at_.1, .int .i64 i.at_.2, .string i.val, .bool i.gone]), (.agg #[.slice bo vs.length d, .bool p, .int .i64 j.txn.id, .int .i64 j.txn.ep, .string j.txn.anchor, .int .i64 j.txn.start.1, .int .i64 j.txn.start.2, .int .i64 j.seq, .int .i64 j.at_.1, .int .i64 j.at_.2, .string j.val, .bool j.gone])] w fun e w' => e = .returned (.bool (sameC ⟨us, o, i⟩ ⟨vs, p, j⟩)) ∧ Below w.heap.size w w' := by
  have hE := fun w' (hb : Below w.heap.size w w') => equal_any ao bo c d us vs w' (hu.later hb) (hv.later hb)
  have q := eqlI i j
  unfold sameC
  simp only
  generalize sameVs us vs = R at *
  generalize us.length = m at *
  generalize vs.length = n at *
  clear hu hv
  cases o <;> cases p
  case false.true =>
    go_enter Try.func14, Try.ntmps14
    go_wp2
    go_ret
    exact ⟨rfl, ((Below.refl _ _).alloc (Nat.le_refl _) _).alloc (by simp) _⟩
  case true.false =>
    go_enter Try.func14, Try.ntmps14
    go_wp2
    go_ret
    exact ⟨rfl, ((Below.refl _ _).alloc (Nat.le_refl _) _).alloc (by simp) _⟩
  all_goals
    cases hs : sameI i j
    · rw [hs] at q
      clear hs
      go_enter Try.func14, Try.ntmps14
      go_wp2
      go_ret
      exact ⟨rfl, ((Below.refl _ _).alloc (Nat.le_refl _) _).alloc (by simp) _⟩
    · rw [hs] at q
      clear hs
      go_enter Try.func14, Try.ntmps14
      go_wp2_with fail
      refine (hE _ (((Below.refl _ _).alloc (Nat.le_refl _) _).alloc (by simp) _)).mono ?_
      rintro e w1 ⟨rfl, hb⟩
      have H := hide hb
      clear hb
      go_wp2
      go_ret
      exact ⟨rfl, (((Below.refl _ _).alloc (Nat.le_refl _) _).alloc (by simp) _).trans ((unhide H).mono (by simp; omega))⟩

theorem refsame_any (ao bo : Option Addr) (c d : Nat) (us vs : List Ver) (o p : Bool) (i j : Itn) (w : World) (hu : Vs w ao c us) (hv : Vs w bo d vs) :
    Calls Try.prog 15 #[(.agg #[.slice ao us.length c, .bool o, .int .i64 i.txn.id, .int .i64 i.txn.ep, .string i.txn.anchor, .int .i64 i.txn.start.1, .int .i64 i.txn.start.2, .int .i64 i.seq, .int .i64 i.at_.1, .int .i64 i.at_.2, .string i.val, .bool i.gone]), (.agg #[.slice bo vs.length d, .bool p, .int .i64 j.txn.id, .int .i64 j.txn.ep, .string j.txn.anchor, .int .i64 j.txn.start.1, .int .i64 j.txn.start.2, .int .i64 j.seq, .int .i64 j.at_.1, .int .i64 j.at_.2, .string j.val, .bool j.gone])] w fun e w' => e = .returned (.bool (sameC ⟨us, o, i⟩ ⟨vs, p, j⟩)) ∧ Below w.heap.size w w' := by
  have l1 := hu.len
  have l2 := hv.len
  simp only [maxLen] at l1 l2
  have q := neqI i j
  unfold sameC
  simp only
  have main : ∀ z, (z = (o == p && sameI i j && sameVs us vs)) → Calls Try.prog 15 #[(.agg #[.slice ao us.length c, .bool o, .int .i64 i.txn.id, .int .i64 i.txn.ep, .string i.txn.anchor, .int .i64 i.txn.start.1, .int .i64 i.txn.start.2, .int .i64 i.seq, .int .i64 i.at_.1, .int .i64 i.at_.2, .string i.val, .bool i.gone]), (.agg #[.slice bo vs.length d, .bool p, .int .i64 j.txn.id, .int .i64 j.txn.ep, .string j.txn.anchor, .int .i64 j.txn.start.1, .int .i64 j.txn.start.2, .int .i64 j.seq, .int .i64 j.at_.1, .int .i64 j.at_.2, .string j.val, .bool j.gone])] w fun e w' => e = .returned (.bool z) ∧ Below w.heap.size w w' := by
    intro z hz
    by_cases hop : o = p
    case neg =>
      have e : z = false := by rw [hz, show (o == p) = false by simp [hop]]; rfl
      subst e
      generalize us.length = m at *
      generalize vs.length = n at *
      clear hz hu hv
      cases o <;> cases p
      case false.false => exact absurd rfl hop
      case true.true => exact absurd rfl hop
      all_goals
        go_enter Try.func15, Try.ntmps15
        go_wp2
        go_ret
        exact ⟨rfl, ((Below.refl _ _).alloc (Nat.le_refl _) _).alloc (by simp) _⟩
    case pos =>
    subst hop
    have hoo : (o != o) = false := by simp
    cases hs : sameI i j
    · have e : z = false := by rw [hz, hs]; simp
      subst e
      rw [hs] at q
      clear hs hz
      generalize us.length = m at *
      generalize vs.length = n at *
      clear hu hv
      cases o
      all_goals
        go_enter Try.func15, Try.ntmps15
        go_wp2
        go_ret
        exact ⟨rfl, ((Below.refl _ _).alloc (Nat.le_refl _) _).alloc (by simp) _⟩
    rw [hs] at q
    rw [hs, show (o == o) = true by simp] at hz
    simp only [Bool.true_and] at hz
    clear hs
    by_cases hl : us.length = vs.length
    case neg =>
      have e : z = false := by rw [hz]; exact sameVs_len hl
      subst e
      have hl' : ((us.length : Int) == (vs.length : Int)) = false := by rw [beq_eq_false_iff_ne]; omega
      clear hl hz
      generalize us.length = m at *
      generalize vs.length = n at *
      clear hu hv
      cases o
      all_goals
        go_enter Try.func15, Try.ntmps15
        go_wp2
        go_ret
        exact ⟨rfl, ((Below.refl _ _).alloc (Nat.le_refl _) _).alloc (by simp) _⟩
    case pos =>
    have HR := hide hz
    obtain ⟨n, hn⟩ : ∃ n, us.length = n := ⟨_, rfl⟩
    have Hn := hide (And.intro hn (hl.symm.trans hn))
    rw [← hl]
    rw [hn] at l1 ⊢
    have Hu := hide hu
    have Hv := hide hv
    have B0 := Blk.new w #[.slice ao n c, .bool o, .int .i64 i.txn.id, .int .i64 i.txn.ep, .string i.txn.anchor, .int .i64 i.txn.start.1, .int .i64 i.txn.start.2, .int .i64 i.seq, .int .i64 i.at_.1, .int .i64 i.at_.2, .string i.val, .bool i.gone] 30
    have B1 := Blk.new (w.alloc (.cells #[.slice ao n c, .bool o, .int .i64 i.txn.id, .int .i64 i.txn.ep, .string i.txn.anchor, .int .i64 i.txn.start.1, .int .i64 i.txn.start.2, .int .i64 i.seq, .int .i64 i.at_.1, .int .i64 i.at_.2, .string i.val, .bool i.gone] 30)) #[.slice bo n d, .bool o, .int .i64 j.txn.id, .int .i64 j.txn.ep, .string j.txn.anchor, .int .i64 j.txn.start.1, .int .i64 j.txn.start.2, .int .i64 j.seq, .int .i64 j.at_.1, .int .i64 j.at_.2, .string j.val, .bool j.gone] 30
    replace B0 := B0.alloc (.cells #[.slice bo n d, .bool o, .int .i64 j.txn.id, .int .i64 j.txn.ep, .string j.txn.anchor, .int .i64 j.txn.start.1, .int .i64 j.txn.start.2, .int .i64 j.seq, .int .i64 j.at_.1, .int .i64 j.at_.2, .string j.val, .bool j.gone] 30)
    rw [show (w.alloc (.cells #[.slice ao n c, .bool o, .int .i64 i.txn.id, .int .i64 i.txn.ep, .string i.txn.anchor, .int .i64 i.txn.start.1, .int .i64 i.txn.start.2, .int .i64 i.seq, .int .i64 i.at_.1, .int .i64 i.at_.2, .string i.val, .bool i.gone] 30)).heap.size = w.heap.size + 1 by simp] at B1
    have Hw := hide (And.intro B0 B1)
    have HW : Hid (Below w.heap.size w ((w.alloc (.cells #[.slice ao n c, .bool o, .int .i64 i.txn.id, .int .i64 i.txn.ep, .string i.txn.anchor, .int .i64 i.txn.start.1, .int .i64 i.txn.start.2, .int .i64 i.seq, .int .i64 i.at_.1, .int .i64 i.at_.2, .string i.val, .bool i.gone] 30)).alloc (.cells #[.slice bo n d, .bool o, .int .i64 j.txn.id, .int .i64 j.txn.ep, .string j.txn.anchor, .int .i64 j.txn.start.1, .int .i64 j.txn.start.2, .int .i64 j.seq, .int .i64 j.at_.1, .int .i64 j.at_.2, .string j.val, .bool j.gone] 30))) := hide (((Below.refl _ _).alloc (Nat.le_refl _) _).alloc (by simp) _)
    clear hl hu hv l2 hn hz B0 B1
    go_enter Try.func15, Try.ntmps15
    cases o
    all_goals
      go_wp2
      generalize ((w.alloc _).alloc _) = W at *
      go_loopw [5] (fun u wr => ∃ k : Nat, u = .int .i64 k ∧ k ≤ n ∧ Hid (∀ j (h1 : j < us.length) (h2 : j < vs.length), j < k → sameV us[j] vs[j] = true) ∧ Hid (Below W.heap.size W wr)) (fun u _ => n - (intOf u).toNat)
      case atStart => exact ⟨0, rfl, by omega, (fun j _ _ h => absurd h (Nat.not_lt_zero _)), Below.refl _ _⟩
      case round =>
        obtain ⟨k, rfl, hk, Ha, Hb⟩ := hrel
        have b0 := (unhide Hw).1.later (unhide Hb)
        have b1 := (unhide Hw).2.later (unhide Hb)
        have x0 := b0.c 0
        have y0 := b1.c 0
        simp at x0 y0
        clear b0 b1
        by_cases hlt : k < n
        · have h1 : k < us.length := by have := (unhide Hn).1; omega
          have h2 : k < vs.length := by have := (unhide Hn).2; omega
          have A := (unhide Hu).each k h1
          have C := (unhide Hv).each k h2
          obtain ⟨b, o, ea, x⟩ := A
          obtain ⟨b', o', eb, y⟩ := C
          have HWW := unhide HW
          have lx : b < W.heap.size := Nat.lt_of_lt_of_le x.lt HWW.size
          have ly : b' < W.heap.size := Nat.lt_of_lt_of_le y.lt HWW.size
          replace x := (x.block (HWW.block _ x.lt)).block ((unhide Hb).block _ lx)
          replace y := (y.block (HWW.block _ y.lt)).block ((unhide Hb).block _ ly)
          rw [ea] at x0
          rw [eb] at y0
          clear ea eb HWW lx ly
          obtain ⟨u, hu0⟩ : ∃ u, us[k] = u := ⟨_, rfl⟩
          obtain ⟨v, hv0⟩ : ∃ v, vs[k] = v := ⟨_, rfl⟩
          rw [hu0] at x
          rw [hv0] at y
          have Hs := hide (And.intro hu0 hv0)
          obtain ⟨x1, x2, x3, x4, x5⟩ := x
          obtain ⟨y1, y2, y3, y4, y5⟩ := y
          clear hu0 hv0
          have qv := neqV u v
          cases hq : sameV u v
          · rw [hq] at qv
            have Hq := hide hq
            clear hq
            go_wp2_with fail
            go_quiet (fail)
            go_wp2
            go_ret
            refine ⟨?_, (unhide HW).trans ((bdn (unhide Hb) _).mono (unhide HW).size)⟩
            obtain ⟨e1, e2⟩ := unhide Hs
            rw [unhide HR, sameVs_not k h1 h2 (by rw [e1, e2]; exact unhide Hq)]
            rfl
          · rw [hq] at qv
            have Hq := hide hq
            clear hq
            go_wp2_with fail
            go_quiet (fail)
            go_wp2
            go_roundw
            case rel =>
              refine ⟨k + 1, by go_num, by omega, (fun j a b hj => ?_), bdn (unhide Hb) _⟩
              by_cases e : j = k
              · subst e
                obtain ⟨e1, e2⟩ := unhide Hs
                rw [e1, e2]; exact unhide Hq
              · exact unhide Ha j a b (by omega)
            case measure => simp [intOf]; omega
        · go_wp2
          go_ret
          refine ⟨?_, (unhide HW).trans ((unhide Hb).mono (unhide HW).size)⟩
          obtain ⟨e1, e2⟩ := unhide Hn
          rw [unhide HR, sameVs_all (e1.trans e2.symm) (fun j a b => unhide Ha j a b (by omega))]
          rfl
  exact main _ rfl
end

end Go.Proofs.Ytcahmnpoajnmpaa
