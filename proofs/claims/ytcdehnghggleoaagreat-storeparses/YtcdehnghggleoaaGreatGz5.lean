/-
  Vs7, Vs8: one behind the other. No law is proved here.
-/
import Derived.Test.YtcdehnghggleoaaGreatGz4
/-
  Contracts of sort.Search over version's closure, version.notAbove, version.inTheWay. No law is proved here.
-/
namespace Go.Proofs.YtcdehnghggleoaaGreat
open Go.RowKit
set_option linter.unusedVariables false

/-- Where a search ends. -/
structure Cut (vs : List Ver) (s : Stp) (k : Nat) : Prop where
  le : k ≤ vs.length
  below : ∀ j (h : j < vs.length), j + 1 = k → ltB s vs[j].at_ = false
  above : ∀ h : k < vs.length, ltB s vs[k].at_ = true

/-- The library's search: where it ends. -/
def bsr (p : Nat → Bool) : Nat → Nat → Nat → Nat
  | 0, lo, _ => lo
  | f + 1, lo, hi => if lo < hi then (if p ((lo + hi) / 2) = true then bsr p f lo ((lo + hi) / 2) else bsr p f ((lo + hi) / 2 + 1) hi) else lo
/-- Whether the version at a place is above a stamp. -/
def pv (vs : List Ver) (s : Stp) (j : Nat) : Bool := match vs[j]? with | some v => ltB s v.at_ | none => true
theorem pv_at {vs : List Ver} {s : Stp} {j : Nat} (h : j < vs.length) : pv vs s j = ltB s vs[j].at_ := by
  unfold pv
  rw [List.getElem?_eq_getElem h]
def srch (vs : List Ver) (s : Stp) : Nat := bsr (pv vs s) vs.length 0 vs.length

theorem bsr_done (p : Nat → Bool) (f lo : Nat) : bsr p f lo lo = lo := by
  cases f
  · rfl
  · rw [bsr, if_neg (Nat.lt_irrefl _)]
theorem bsr_up {p : Nat → Bool} {f lo hi : Nat} (h : lo < hi) (hp : p ((lo + hi) / 2) = false) : bsr p (f + 1) lo hi = bsr p f ((lo + hi) / 2 + 1) hi := by
  rw [bsr, if_pos h, if_neg (by rw [hp]; simp)]
theorem bsr_down {p : Nat → Bool} {f lo hi : Nat} (h : lo < hi) (hp : p ((lo + hi) / 2) = true) : bsr p (f + 1) lo hi = bsr p f lo ((lo + hi) / 2) := by
  rw [bsr, if_pos h, if_pos hp]
theorem bsr_cut (vs : List Ver) (s : Stp) : ∀ f lo hi, hi - lo ≤ f → lo ≤ hi → hi ≤ vs.length → (∀ j (h : j < vs.length), j + 1 = lo → ltB s vs[j].at_ = false) → (∀ h : hi < vs.length, ltB s vs[hi].at_ = true) → Cut vs s (bsr (pv vs s) f lo hi)
  | 0, lo, hi, h1, h2, h3, h4, h5 => by
    obtain rfl : lo = hi := by omega
    exact ⟨h3, h4, h5⟩
  | f + 1, lo, hi, h1, h2, h3, h4, h5 => by
    by_cases h : lo < hi
    · have hm : (lo + hi) / 2 < vs.length := by omega
      cases hp : pv vs s ((lo + hi) / 2)
      · rw [bsr_up h hp]
        refine bsr_cut vs s f _ _ (by omega) (by omega) h3 (fun j hj e => ?_) h5
        obtain rfl : j = (lo + hi) / 2 := by omega
        rw [← pv_at hm]; exact hp
      · rw [bsr_down h hp]
        refine bsr_cut vs s f _ _ (by omega) (by omega) (by omega) h4 (fun h => ?_)
        rw [← pv_at hm]; exact hp
    · obtain rfl : lo = hi := by omega
      rw [bsr_done]
      exact ⟨h3, h4, h5⟩
theorem srch_cut (vs : List Ver) (s : Stp) : Cut vs s (srch vs s) := bsr_cut vs s _ _ _ (by omega) (by omega) (by omega) (fun j h e => by omega) (fun h => by omega)

theorem cut_cnt {vs : List Ver} {s : Stp} {k : Nat} (hr : riseB vs = true) (h : Cut vs s k) : k = cntV vs s := by
  have hle := cntV_le vs s
  by_cases h1 : k < vs.length
  · have h2 := rise_cnt vs s hr k h1
    have h3 : upB vs[k].at_ s = false := by unfold upB; rw [h.above h1]; rfl
    rw [h3] at h2
    have h4 : ¬ k < cntV vs s := fun e => by have := h2.1 e; cases this
    rcases Nat.eq_zero_or_pos k with h0 | h0
    · omega
    · have h5 := rise_cnt vs s hr (k - 1) (by omega)
      have h6 : upB vs[k - 1].at_ s = true := by unfold upB; rw [h.below (k - 1) (by omega) (by omega)]; rfl
      have := h5.2 h6
      omega
  · have := h.le
    rcases Nat.eq_zero_or_pos k with h0 | h0
    · omega
    · have h5 := rise_cnt vs s hr (k - 1) (by omega)
      have h6 : upB vs[k - 1].at_ s = true := by unfold upB; rw [h.below (k - 1) (by omega) (by omega)]; rfl
      have := h5.2 h6
      omega

theorem srch_cnt {vs : List Ver} (s : Stp) (hr : riseB vs = true) : srch vs s = cntV vs s := cut_cnt hr (srch_cut vs s)
theorem srch_le (vs : List Ver) (s : Stp) : srch vs s ≤ vs.length := (srch_cut vs s).le

section
set_option maxRecDepth 100000
set_option maxHeartbeats 1000000

theorem nac_any (S C b o n c k : Nat) (s : Stp) (p : Bool) (i : Itn) (v : Ver) (w : World) (hS : Blk w S [.int .i64 s.1, .int .i64 s.2]) (hC : Blk w C [.slice (some ⟨b, o, none⟩) n c, .bool p, .int .i64 i.txn.id, .int .i64 i.txn.ep, .string i.txn.anchor, .int .i64 i.txn.start.1, .int .i64 i.txn.start.2, .int .i64 i.seq, .int .i64 i.at_.1, .int .i64 i.at_.2, .string i.val, .bool i.gone]) (hk : k < n) (hv : VAt w b (o + k * 5) v) :
    Calls Tryz.prog 106 #[.int .i64 k, .pointer (some ⟨S, 0, none⟩), .pointer (some ⟨C, 0, none⟩)] w fun e w' => e = .returned (.bool (ltB s v.at_)) ∧ Below w.heap.size w w' := by
  have hL := fun w => less_any s.1 s.2 v.at_.1 v.at_.2 w
  rw [less_eq] at hL
  have k0 := fun i : Later w => i.cell (hS.c 0)
  have k1 := fun i : Later w => i.cell (hS.c 1)
  have k2 := fun i : Later w => i.cell (hC.c 0)
  have k3 := fun i : Later w => i.cell hv.c0
  have k4 := fun i : Later w => i.cell hv.c1
  have ii : Nonempty (Later w) := ⟨⟨w, Below.refl _ _⟩⟩
  clear hS hC hv
  go_enter Tryz.func106, Tryz.ntmps106
  go_wp2_with fail
  refine wp_region_later (by kernel_rfl) (by kernel_rfl) ?_
  repeat (first
    | go_big_quiet_step ((go_at_call 81; exact calls_later (hL _)))
    | quiet_step (fail))
  refine wpQuiet_nil ?_
  intro w' hw'
  obtain ⟨⟨W2, hb2⟩, rfl⟩ := hw'
  go_wp2
  go_ret
  exact ⟨rfl, hb2⟩

theorem search_any (S C c : Nat) (ao : Option Addr) (vs : List Ver) (s : Stp) (p : Bool) (i : Itn) (w : World) (hS : Blk w S [.int .i64 s.1, .int .i64 s.2]) (hC : Blk w C [.slice ao vs.length c, .bool p, .int .i64 i.txn.id, .int .i64 i.txn.ep, .string i.txn.anchor, .int .i64 i.txn.start.1, .int .i64 i.txn.start.2, .int .i64 i.seq, .int .i64 i.at_.1, .int .i64 i.at_.2, .string i.val, .bool i.gone]) (hv : Vs w ao c vs) (hlim : vs.length ≤ 2932031007400) :
    Calls Tryz.prog 105 #[.int .i64 vs.length, .func (.func 106) #[] #[.pointer (some ⟨S, 0, none⟩), .pointer (some ⟨C, 0, none⟩)]] w fun e w' => e = .returned (.int .i64 (srch vs s : Nat)) ∧ Below w.heap.size w w' := by
  have HS := hide hS
  have HC := hide hC
  have Hv := hide hv
  obtain ⟨n, hn⟩ : ∃ n, vs.length = n := ⟨_, rfl⟩
  have Hn := hide hn
  obtain ⟨R, hR⟩ : ∃ R, srch vs s = R := ⟨_, rfl⟩
  rw [hR]
  unfold srch at hR
  rw [hn] at hlim hR ⊢
  have HR := hide hR
  clear hS hC hv hn hR
  go_enter Tryz.func105, Tryz.ntmps105
  go_wp2
  go_loopw [5, 6] (fun s5 s6 wr => ∃ lo hi : Nat, s5 = .int .i64 lo ∧ s6 = .int .i64 hi ∧ lo ≤ hi ∧ hi ≤ n ∧ Hid (∃ f, hi - lo ≤ f ∧ bsr (pv vs s) f lo hi = R) ∧ Hid (Below w.heap.size w wr))
    (fun s5 s6 _ => (intOf s6).toNat - (intOf s5).toNat)
  case atStart => exact ⟨0, n, rfl, rfl, by omega, by omega, ⟨n, by omega, unhide HR⟩, Below.refl _ _⟩
  case round =>
    obtain ⟨lo, hi, rfl, rfl, hle, hin, H1, Hb⟩ := hrel
    by_cases hlt : lo < hi
    · have hm : (lo + hi) / 2 < n := by omega
      have hm' : (lo + hi) / 2 < vs.length := by rw [unhide Hn]; exact hm
      obtain ⟨b, o, rfl, x⟩ := (unhide Hv).each ((lo + hi) / 2) hm'
      obtain ⟨v, hv0⟩ : ∃ v, vs[(lo + hi) / 2] = v := ⟨_, rfl⟩
      rw [hv0] at x
      have Hx := hide (show pv vs s ((lo + hi) / 2) = ltB s v.at_ by rw [pv_at hm', hv0])
      have hC := (unhide HC).later (unhide Hb)
      rw [unhide Hn] at hC
      have hc := nac_any S C b o n c ((lo + hi) / 2) s p i v wr ((unhide HS).later (unhide Hb)) hC hm (x.block ((unhide Hb).block _ x.lt))
      rw [show (((lo + hi) / 2 : Nat) : Int) = ((lo : Int) + (hi : Int)) / 2 by omega] at hc
      have Hc := hide hc
      clear hc hC x hv0
      cases hq : ltB s v.at_
      · have Hq := hide hq
        rw [hq] at Hc
        clear hq
        go_wp2_with fail
        refine (unhide Hc).mono ?_
        rintro e w1 ⟨rfl, hb1⟩
        have HB1 := hide ((unhide Hb).trans (hb1.mono (unhide Hb).size))
        clear hb1
        go_wp2
        go_roundw
        case rel =>
          refine ⟨(lo + hi) / 2 + 1, hi, by rw [show (((lo + hi) / 2 + 1 : Nat) : Int) = ((lo : Int) + (hi : Int)) / 2 + 1 by omega], rfl, by omega, hin, ?_, unhide HB1⟩
          obtain ⟨f, hf, e⟩ := unhide H1
          obtain ⟨f', rfl⟩ : ∃ f', f = f' + 1 := ⟨f - 1, by omega⟩
          exact ⟨f', by omega, by rw [← bsr_up hlt (by rw [unhide Hx]; exact unhide Hq)]; exact e⟩
        case measure => simp [intOf]; omega
      · have Hq := hide hq
        rw [hq] at Hc
        clear hq
        go_wp2_with fail
        refine (unhide Hc).mono ?_
        rintro e w1 ⟨rfl, hb1⟩
        have HB1 := hide ((unhide Hb).trans (hb1.mono (unhide Hb).size))
        clear hb1
        go_wp2
        go_roundw
        case rel =>
          refine ⟨lo, (lo + hi) / 2, rfl, by rw [show (((lo + hi) / 2 : Nat) : Int) = ((lo : Int) + (hi : Int)) / 2 by omega], by omega, by omega, ?_, unhide HB1⟩
          obtain ⟨f, hf, e⟩ := unhide H1
          obtain ⟨f', rfl⟩ : ∃ f', f = f' + 1 := ⟨f - 1, by omega⟩
          exact ⟨f', by omega, by rw [← bsr_down hlt (by rw [unhide Hx]; exact unhide Hq)]; exact e⟩
        case measure => simp [intOf]; omega
    · obtain rfl : lo = hi := by omega
      go_wp2
      go_ret
      obtain ⟨f, hf, e⟩ := unhide H1
      rw [bsr_done] at e
      subst e
      exact ⟨rfl, unhide Hb⟩

theorem notabove_any (ao : Option Addr) (c : Nat) (vs : List Ver) (p : Bool) (i : Itn) (s : Stp) (w : World) (hv : Vs w ao c vs) (hlim : vs.length ≤ 2932031007400) :
    Calls Tryz.prog 80 #[(.agg #[.slice ao vs.length c, .bool p, .int .i64 i.txn.id, .int .i64 i.txn.ep, .string i.txn.anchor, .int .i64 i.txn.start.1, .int .i64 i.txn.start.2, .int .i64 i.seq, .int .i64 i.at_.1, .int .i64 i.at_.2, .string i.val, .bool i.gone]), (.agg #[.int .i64 s.1, .int .i64 s.2])] w fun e w' => e = .returned (.int .i64 (srch vs s : Nat)) ∧ Below w.heap.size w w' := by
  have hmf : ∀ (fn : Fn) (first cap : Array Value) (w : World), (Instr.makeFunc fn first cap).run Tryz.prog w = .ok (.func fn first cap) w := fun _ _ _ _ => rfl
  have C := Blk.new w #[.slice ao vs.length c, .bool p, .int .i64 i.txn.id, .int .i64 i.txn.ep, .string i.txn.anchor, .int .i64 i.txn.start.1, .int .i64 i.txn.start.2, .int .i64 i.seq, .int .i64 i.at_.1, .int .i64 i.at_.2, .string i.val, .bool i.gone] 61
  have S := Blk.new (w.alloc (.cells #[.slice ao vs.length c, .bool p, .int .i64 i.txn.id, .int .i64 i.txn.ep, .string i.txn.anchor, .int .i64 i.txn.start.1, .int .i64 i.txn.start.2, .int .i64 i.seq, .int .i64 i.at_.1, .int .i64 i.at_.2, .string i.val, .bool i.gone] 61)) #[.int .i64 s.1, .int .i64 s.2] 36
  replace C := C.alloc (.cells #[.int .i64 s.1, .int .i64 s.2] 36)
  rw [show (w.alloc (.cells #[.slice ao vs.length c, .bool p, .int .i64 i.txn.id, .int .i64 i.txn.ep, .string i.txn.anchor, .int .i64 i.txn.start.1, .int .i64 i.txn.start.2, .int .i64 i.seq, .int .i64 i.at_.1, .int .i64 i.at_.2, .string i.val, .bool i.gone] 61)).heap.size = w.heap.size + 1 by simp] at S
  have hB : Below w.heap.size w ((w.alloc (.cells #[.slice ao vs.length c, .bool p, .int .i64 i.txn.id, .int .i64 i.txn.ep, .string i.txn.anchor, .int .i64 i.txn.start.1, .int .i64 i.txn.start.2, .int .i64 i.seq, .int .i64 i.at_.1, .int .i64 i.at_.2, .string i.val, .bool i.gone] 61)).alloc (.cells #[.int .i64 s.1, .int .i64 s.2] 36)) := ((Below.refl _ _).alloc (Nat.le_refl _) _).alloc (by simp) _
  have hc := search_any _ _ c ao vs s p i _ S C (hv.later hB) hlim
  have Hc := hide hc
  have HB := hide hB
  generalize srch vs s = R at *
  generalize vs.length = n at *
  clear C S hB hc hv
  go_enter Tryz.func80, Tryz.ntmps80
  go_wp2_with fail
  refine (unhide Hc).mono ?_
  rintro e w1 ⟨rfl, hb1⟩
  have H1 := hide hb1
  clear hb1
  go_wp2
  go_ret
  exact ⟨rfl, (unhide HB).trans ((unhide H1).mono (unhide HB).size)⟩

/-- Whose intent is in the way, up to a stamp. -/
def wayC (o : Bool) (i : Itn) (id : Int) (t : Stp) : Met × Int := if o = true ∧ i.txn.id ≠ id ∧ upB i.at_ t = true then (i.txn, 81) else (Met.zero, 0)

theorem way_any (ao : Option Addr) (n c : Nat) (o : Bool) (i : Itn) (id : Int) (t : Stp) (w : World) :
    Calls Tryz.prog 79 #[(.agg #[.slice ao n c, .bool o, .int .i64 i.txn.id, .int .i64 i.txn.ep, .string i.txn.anchor, .int .i64 i.txn.start.1, .int .i64 i.txn.start.2, .int .i64 i.seq, .int .i64 i.at_.1, .int .i64 i.at_.2, .string i.val, .bool i.gone]), .int .i64 id, (.agg #[.int .i64 t.1, .int .i64 t.2])] w fun e w' => e = .returned (.tuple #[(.agg #[.int .i64 (wayC o i id t).1.id, .int .i64 (wayC o i id t).1.ep, .string (wayC o i id t).1.anchor, .int .i64 (wayC o i id t).1.start.1, .int .i64 (wayC o i id t).1.start.2]), .int .i64 (wayC o i id t).2]) ∧ Below w.heap.size w w' := by
  have hO := fun w => isothers_any ao n c o i id w
  have hL := fun w => less_any t.1 t.2 i.at_.1 i.at_.2 w
  rw [less_eq] at hL
  have e : wayC o i id t = if (o && decide (i.txn.id ≠ id)) = true ∧ ltB t i.at_ = false then (i.txn, 81) else (Met.zero, 0) := by
    unfold wayC upB
    cases o <;> simp
  generalize wayC o i id t = R at *
  generalize (o && decide (i.txn.id ≠ id)) = P at *
  generalize ltB t i.at_ = z at *
  have HR := hide e
  clear e
  have hB := ((Below.refl w.heap.size w).alloc (Nat.le_refl _) (.cells #[.slice ao n c, .bool o, .int .i64 i.txn.id, .int .i64 i.txn.ep, .string i.txn.anchor, .int .i64 i.txn.start.1, .int .i64 i.txn.start.2, .int .i64 i.seq, .int .i64 i.at_.1, .int .i64 i.at_.2, .string i.val, .bool i.gone] 61)).alloc (by simp) (.cells #[.int .i64 t.1, .int .i64 t.2] 36) |>.alloc (by simp; omega) (.cells #[.int .i64 0, .int .i64 0, .string ⟨#[]⟩, .int .i64 0, .int .i64 0] 38)
  have C := ((Blk.new w #[.slice ao n c, .bool o, .int .i64 i.txn.id, .int .i64 i.txn.ep, .string i.txn.anchor, .int .i64 i.txn.start.1, .int .i64 i.txn.start.2, .int .i64 i.seq, .int .i64 i.at_.1, .int .i64 i.at_.2, .string i.val, .bool i.gone] 61).alloc (.cells #[.int .i64 t.1, .int .i64 t.2] 36)).alloc (.cells #[.int .i64 0, .int .i64 0, .string ⟨#[]⟩, .int .i64 0, .int .i64 0] 38)
  have S := (Blk.new (w.alloc (.cells #[.slice ao n c, .bool o, .int .i64 i.txn.id, .int .i64 i.txn.ep, .string i.txn.anchor, .int .i64 i.txn.start.1, .int .i64 i.txn.start.2, .int .i64 i.seq, .int .i64 i.at_.1, .int .i64 i.at_.2, .string i.val, .bool i.gone] 61)) #[.int .i64 t.1, .int .i64 t.2] 36).alloc (.cells #[.int .i64 0, .int .i64 0, .string ⟨#[]⟩, .int .i64 0, .int .i64 0] 38)
  have M := Blk.new ((w.alloc (.cells #[.slice ao n c, .bool o, .int .i64 i.txn.id, .int .i64 i.txn.ep, .string i.txn.anchor, .int .i64 i.txn.start.1, .int .i64 i.txn.start.2, .int .i64 i.seq, .int .i64 i.at_.1, .int .i64 i.at_.2, .string i.val, .bool i.gone] 61)).alloc (.cells #[.int .i64 t.1, .int .i64 t.2] 36)) #[.int .i64 0, .int .i64 0, .string ⟨#[]⟩, .int .i64 0, .int .i64 0] 38
  rw [show (w.alloc (.cells #[.slice ao n c, .bool o, .int .i64 i.txn.id, .int .i64 i.txn.ep, .string i.txn.anchor, .int .i64 i.txn.start.1, .int .i64 i.txn.start.2, .int .i64 i.seq, .int .i64 i.at_.1, .int .i64 i.at_.2, .string i.val, .bool i.gone] 61)).heap.size = w.heap.size + 1 by simp] at S
  rw [show ((w.alloc (.cells #[.slice ao n c, .bool o, .int .i64 i.txn.id, .int .i64 i.txn.ep, .string i.txn.anchor, .int .i64 i.txn.start.1, .int .i64 i.txn.start.2, .int .i64 i.seq, .int .i64 i.at_.1, .int .i64 i.at_.2, .string i.val, .bool i.gone] 61)).alloc (.cells #[.int .i64 t.1, .int .i64 t.2] 36)).heap.size = w.heap.size + 1 + 1 by simp] at M
  go_enter Tryz.func79, Tryz.ntmps79
  go_wp2_with fail
  generalize ((w.alloc _).alloc _).alloc _ = W at *
  refine (hO _).mono ?_
  rintro e w1 ⟨rfl, hb1⟩
  replace C := C.later hb1
  replace S := S.later hb1
  replace M := M.later hb1
  have HB := hide (hB.trans (hb1.mono hB.size))
  clear hb1 hB hO
  have C_0 := C.c 0; have C_1 := C.c 1; have C_2 := C.c 2; have C_3 := C.c 3; have C_4 := C.c 4; have C_5 := C.c 5; have C_6 := C.c 6; have C_7 := C.c 7; have C_8 := C.c 8; have C_9 := C.c 9; have C_10 := C.c 10; have C_11 := C.c 11; simp only [List.getElem?_cons_zero, List.getElem?_cons_succ] at C_0 C_1 C_2 C_3 C_4 C_5 C_6 C_7 C_8 C_9 C_10 C_11
  have S_0 := S.c 0; have S_1 := S.c 1; simp only [List.getElem?_cons_zero, List.getElem?_cons_succ] at S_0 S_1
  have M_0 := M.c 0; have M_1 := M.c 1; have M_2 := M.c 2; have M_3 := M.c 3; have M_4 := M.c 4; simp only [List.getElem?_cons_zero, List.getElem?_cons_succ] at M_0 M_1 M_2 M_3 M_4
  have Mf := M.f
  cases P
  · obtain rfl : R = (Met.zero, 0) := by rw [unhide HR]; simp
    clear hL
    go_wp2
    exact bodyPost_ret (results_me Tryz.results79 Met.zero rfl rfl (M.all [.int .i64 Met.zero.id, .int .i64 Met.zero.ep, .string Met.zero.anchor, .int .i64 Met.zero.start.1, .int .i64 Met.zero.start.2] rfl)) rfl ⟨rfl, below_setAll (by omega) [.int .i64 Met.zero.id, .int .i64 Met.zero.ep, .string Met.zero.anchor, .int .i64 Met.zero.start.1, .int .i64 Met.zero.start.2] 0 (unhide HB)⟩
  · go_wp2_with fail
    refine (hL _).mono ?_
    rintro e w2 ⟨rfl, hb2⟩
    replace C := C.later hb2
    replace M := M.later hb2
    have HB2 := hide ((unhide HB).trans (hb2.mono (unhide HB).size))
    clear hb2 C_0 C_1 C_2 C_3 C_4 C_5 C_6 C_7 C_8 C_9 C_10 C_11 M_0 M_1 M_2 M_3 M_4 S_0 S_1 Mf
    have C_0 := C.c 0; have C_1 := C.c 1; have C_2 := C.c 2; have C_3 := C.c 3; have C_4 := C.c 4; have C_5 := C.c 5; have C_6 := C.c 6; have C_7 := C.c 7; have C_8 := C.c 8; have C_9 := C.c 9; have C_10 := C.c 10; have C_11 := C.c 11; simp only [List.getElem?_cons_zero, List.getElem?_cons_succ] at C_0 C_1 C_2 C_3 C_4 C_5 C_6 C_7 C_8 C_9 C_10 C_11
    have M_0 := M.c 0; have M_1 := M.c 1; have M_2 := M.c 2; have M_3 := M.c 3; have M_4 := M.c 4; simp only [List.getElem?_cons_zero, List.getElem?_cons_succ] at M_0 M_1 M_2 M_3 M_4
    have Mf := M.f
    cases z
    · obtain rfl : R = (i.txn, 81) := by rw [unhide HR]; simp
      go_wp2
      exact bodyPost_ret (results_me Tryz.results79 i.txn rfl rfl (M.all [.int .i64 i.txn.id, .int .i64 i.txn.ep, .string i.txn.anchor, .int .i64 i.txn.start.1, .int .i64 i.txn.start.2] rfl)) rfl ⟨rfl, below_setAll (by omega) [.int .i64 i.txn.id, .int .i64 i.txn.ep, .string i.txn.anchor, .int .i64 i.txn.start.1, .int .i64 i.txn.start.2] 0 (unhide HB2)⟩
    · obtain rfl : R = (Met.zero, 0) := by rw [unhide HR]; simp
      go_wp2
      exact bodyPost_ret (results_me Tryz.results79 Met.zero rfl rfl (M.all [.int .i64 Met.zero.id, .int .i64 Met.zero.ep, .string Met.zero.anchor, .int .i64 Met.zero.start.1, .int .i64 Met.zero.start.2] rfl)) rfl ⟨rfl, below_setAll (by omega) [.int .i64 Met.zero.id, .int .i64 Met.zero.ep, .string Met.zero.anchor, .int .i64 Met.zero.start.1, .int .i64 Met.zero.start.2] 0 (unhide HB2)⟩
end

end Go.Proofs.YtcdehnghggleoaaGreat

/-
  Contracts of version.Refresh, version.Query. No law is proved here.
-/
namespace Go.Proofs.YtcdehnghggleoaaGreat
open Go.RowKit
set_option linter.unusedVariables false

/-- What Refresh answers. -/
def refR (vs : List Ver) (o : Bool) (i : Itn) (id : Int) (f t : Stp) : Met × Int :=
  if (wayC o i id t).2 = 0 then (if srch vs f < srch vs t then (Met.zero, 221) else (Met.zero, 0)) else wayC o i id t

theorem cnt_any {vs : List Ver} (hr : riseB vs = true) (f t : Stp) : (vs.any fun v => !upB v.at_ f && upB v.at_ t) = true ↔ cntV vs f < cntV vs t := by
  rw [List.any_eq_true]
  constructor
  · rintro ⟨v, hv, h⟩
    obtain ⟨i, hi, rfl⟩ := List.getElem_of_mem hv
    simp only [Bool.and_eq_true, Bool.not_eq_true'] at h
    have h1 := rise_cnt vs f hr i hi
    have h2 := rise_cnt vs t hr i hi
    have h3 : ¬ i < cntV vs f := fun e => by have := h1.1 e; rw [h.1] at this; cases this
    have := h2.2 h.2
    omega
  · intro h
    have hl := cntV_le vs t
    refine ⟨vs[cntV vs f]'(by omega), List.getElem_mem _, ?_⟩
    have h1 := rise_cnt vs f hr (cntV vs f) (by omega)
    have h2 := rise_cnt vs t hr (cntV vs f) (by omega)
    have h3 : upB (vs[cntV vs f]'(by omega)).at_ f = false := by
      cases hh : upB (vs[cntV vs f]'(by omega)).at_ f
      · rfl
      · have := h1.2 hh; omega
    rw [h3, h2.1 h]
    rfl

theorem refR_right {vs : List Ver} (hr : riseB vs = true) (o : Bool) (i : Itn) (id : Int) (f t : Stp) : refR vs o i id f t = refreshC ⟨vs, o, i⟩ id f t := by
  unfold refR refreshC wayC
  rw [srch_cnt f hr, srch_cnt t hr]
  simp only
  by_cases h : o = true ∧ i.txn.id ≠ id ∧ upB i.at_ t = true
  · rw [if_pos h, if_neg (by simp)]
    rw [if_pos h]
  · rw [if_neg h, if_pos rfl, if_neg h]
    by_cases h2 : cntV vs f < cntV vs t
    · rw [if_pos h2, if_pos ((cnt_any hr f t).2 h2)]
    · rw [if_neg h2, if_neg (fun e => h2 ((cnt_any hr f t).1 e))]

section
set_option maxRecDepth 100000
set_option maxHeartbeats 1000000

end

end Go.Proofs.YtcdehnghggleoaaGreat
