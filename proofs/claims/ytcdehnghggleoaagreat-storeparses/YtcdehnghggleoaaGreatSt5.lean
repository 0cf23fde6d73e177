/-
  The iterator over a store's keys. No law is proved here.
-/
import Derived.Test.YtcdehnghggleoaaGreatSt4
import Derived.Shelf.Abstract
import Derived.Shelf.RegionOpen
import Derived.WalkKit
import Derived.OwnWalkIn
import Derived.TacticsInMore
import Derived.LoopNIn
import Derived.LoopIn
namespace Go.Proofs.YtcdehnghggleoaaGreat
open Go.RowKit Go.Maps
set_option linter.unusedVariables false

/-- The entries at these keys. -/
def atKeys (l : List Ent) (ks : List ByteArray) : List Ent := ks.filterMap (getE l)

theorem atKeys_span {l : List Ent} (hr : riseE l) (f t : ByteArray) : atKeys l ((inE f t l).map (·.key)) = inE f t l := by
  unfold atKeys
  rw [List.filterMap_map]
  have : ∀ m : List Ent, (∀ e ∈ m, e ∈ l) → m.filterMap (getE l ∘ fun e => e.key) = m := by
    intro m
    induction m with
    | nil => intro _; rfl
    | cons e r ih =>
      intro h
      rw [List.filterMap_cons]
      simp only [Function.comp_def, getE_mem hr (h e (by simp))] at ih ⊢
      rw [ih (fun x hx => h x (by simp [hx]))]
  exact this _ (fun e he => (List.mem_filter.1 he).1)

theorem atKeys_one {l : List Ent} (hr : riseE l) (hk : ∀ e ∈ l, S5.keyB e.key = true) (f : ByteArray) (hf : S5.rightB f S5.emp = true) : atKeys l [f] = inE f S5.emp l := by
  have hh : ∀ e ∈ l, S5.hasB f S5.emp e.key = true ↔ e.key = f := fun e he => by
    rw [S5.has_iff]
    unfold S5.H
    have h1 : S5.K f := ((S5.right_iff f S5.emp).1 hf).1
    constructor
    · rintro ⟨_, _, ⟨_, q⟩ | ⟨q, _⟩⟩
      · exact q
      · exact absurd rfl q
    · intro q
      exact ⟨h1, hk e he, .inl ⟨rfl, q⟩⟩
  unfold atKeys inE
  cases hg : getE l f with
  | none =>
    rw [List.filterMap_cons, hg]
    simp only [List.filterMap_nil]
    symm
    rw [List.filter_eq_nil_iff]
    intro e he q
    exact getE_none hg e he ((hh e he).1 q)
  | some x =>
    rw [List.filterMap_cons, hg]
    simp only [List.filterMap_nil]
    obtain ⟨h1, h2⟩ := getE_some hg
    refine rise_ext (List.pairwise_singleton _ _) (rise_inE hr f S5.emp) fun z => ?_
    rw [List.mem_singleton, List.mem_filter]
    constructor
    · rintro rfl
      exact ⟨h1, (hh z h1).2 h2⟩
    · rintro ⟨hz, hq⟩
      exact key_inj hr hz h1 (((hh z hz).1 hq).trans h2.symm)

theorem take_step {l : List Ent} (ks : List ByteArray) (i : Nat) (h : i < ks.length) : atKeys l (ks.take (i + 1)) = atKeys l (ks.take i) ++ (match getE l ks[i] with | some e => [e] | none => []) := by
  unfold atKeys
  rw [List.take_succ_eq_append_getElem h, List.filterMap_append]
  cases hg : getE l ks[i] with
  | none => simp [hg]
  | some e => simp [hg]
theorem take_prefix {l : List Ent} (ks : List ByteArray) (i : Nat) : atKeys l (ks.take i) <+: atKeys l ks := by
  unfold atKeys
  refine ⟨(ks.drop i).filterMap (getE l), ?_⟩
  rw [← List.filterMap_append, List.take_append_drop]

section
set_option maxRecDepth 100000
set_option maxHeartbeats 4000000
abbrev lbIn (Bx Bs : Nat) : Array Value := #[.pointer (some ⟨Bx, 0, none⟩), .pointer (some ⟨Bs, 0, none⟩)]

/-- What lies still for the iterator. -/
structure Still (w0 W : World) (a b : Nat) (l : List Ent) (f t : ByteArray) (Bx Bs : Nat) : Prop where
  sto : Sto W a b l
  bel : Below w0.heap.size w0 W
  x : W.heap[Bx]? = some (.cells #[.string f, .string t] 47 (0, 0))
  s : W.heap[Bs]? = some (.cells #[.pointer (some ⟨a, 0, none⟩)] 24 (0, 0))

theorem Still.later {w0 W W' : World} {a b : Nat} {l : List Ent} {f t : ByteArray} {Bx Bs : Nat} (h : Still w0 W a b l f t Bx Bs) (hb : Below W.heap.size W W') : Still w0 W' a b l f t Bx Bs :=
  ⟨h.sto.later hb, h.bel.trans (hb.mono h.bel.size), (hb.block Bx (Array.getElem?_eq_some_iff.1 h.x).1).trans h.x, (hb.block Bs (Array.getElem?_eq_some_iff.1 h.s).1).trans h.s⟩

theorem in1_in (n : Nat) (hn : 1 ≤ n) (a b : Nat) (l : List Ent) (f t : ByteArray) (hright : S5.rightB f t = true) (lp Bx Bs B1 Bp : Nat) (w0 : World) (h0 : Sto w0 a b l) (J Jx : List {e : Ent // e ∈ l} → World → Prop)
    (W : World) (hJ : AbidesFrom W.heap.size J)
    (hY : ∀ pre x W1, J pre W1 → pre.length < l.length → YieldAt Fence.wide (n - 1) Tryz.prog lp #[.string x.1.key, x.1.v] W1 fun e W' =>
      (e = .returned (.bool true) ∧ J (pre ++ [x]) W' ∧ Turn w0.heap.size B1 Bp true W1 W') ∨ (e = .returned (.bool false) ∧ Jx (pre ++ [x]) W'))
    (hS : Still w0 W a b l f t Bx Bs) (hB0 : w0.heap.size ≤ B1) (hBx : B1 ≤ Bx) (hBs : B1 ≤ Bs) (hBp : Bp < B1) (hrow : ∀ i n c, W.cell? ⟨Bp, 0, none⟩ ≠ some (.slice (some ⟨i, 0, none⟩) n c)) (hj0 : J [] W) :
    CallsIn Fence.wide n Tryz.prog 73 (#[.func (.yield lp) #[] #[]] ++ lbIn Bx Bs) W fun e W' => (∃ v, e = .returned v) ∧
      ((∃ xs : List {e : Ent // e ∈ l}, xs.map (·.1) = inE f t l ∧ J xs W') ∨ (∃ pre : List {e : Ent // e ∈ l}, pre.map (·.1) <+: inE f t l ∧ Jx pre W')) := by
  have hx0 : W.cell? ⟨Bx, 0, none⟩ = some (.string f) := by simp [World.cell?, hS.x]
  have hx1 : W.cell? ⟨Bx, 1, none⟩ = some (.string t) := by simp [World.cell?, hS.x]
  have hs0 : W.cell? ⟨Bs, 0, none⟩ = some (.pointer (some ⟨a, 0, none⟩)) := by simp [World.cell?, hS.s]
  have e0' : (t.toList == []) = S5.eqB t S5.emp := by unfold S5.eqB; rw [S5.emp_toList]
  have e1' : (t.toList == (ByteArray.mk #[]).toList) = S5.eqB t S5.emp := rfl
  have hlx : Bx < W.heap.size := (Array.getElem?_eq_some_iff.1 hS.x).1
  have hls : Bs < W.heap.size := (Array.getElem?_eq_some_iff.1 hS.s).1
  have hya0 := fun o => (World.cell?_alloc_lt W o ⟨Bx, 0, none⟩ hlx).trans hx0
  have hya1 := fun o => (World.cell?_alloc_lt W o ⟨Bx, 1, none⟩ hlx).trans hx1
  have hsa0 := fun o => (World.cell?_alloc_lt W o ⟨Bs, 0, none⟩ hls).trans hs0
  have HS := hide hS
  have HY := hide hY
  have HJ := hide hJ
  have Hj0 := hide hj0
  have H0 := hide h0
  clear hS hY hJ hj0 h0
  generalize hz : S5.eqB t S5.emp = z at *
  refine callsIn_of_wp Tryz.func73 rfl trivial ?_ rfl
  simp only [Tryz.ntmps73, lbIn, List.size_toArray, List.length_cons, List.length_nil, Nat.reduceAdd, Nat.reduceSub, Array.replicate_succ, Array.replicate_zero, List.push_toArray, List.append_toArray, List.nil_append, List.cons_append]
  cases z
  · gi_upto_region 2 with fail
    have hb1 : Below W.heap.size W (W.alloc (.cells #[.string f] 9)) := (Below.refl _ _).alloc (Nat.le_refl _) _
    have HS1 := hide ((unhide HS).later hb1)
    have Hj1 : Hid (J [] (W.alloc (.cells #[.string f] 9))) := (unhide HJ) [] W _ none (unhide Hj0) (World.grownBy_alloc _ _ none) (fun r e => (by cases e))
    have hc1 := (unhide HS1).sto.cell
    have hx2 := hya0 (.cells #[.string f] 9)
    have hx3 := hya1 (.cells #[.string f] 9)
    have hs2 := hsa0 (.cells #[.string f] 9)
    generalize W.alloc (.cells #[.string f] 9) = W1 at *
    clear hya0 hya1 hsa0 hx0 hx1 hs0
    have hlx1 := World.block_lt_of_cell? W1 _ hx2
    have hls1 := World.block_lt_of_cell? W1 _ hs2
    have hla1 := World.block_lt_of_cell? W1 _ hc1
    obtain ⟨Ks, hKs⟩ : ∃ Ks, (inE f t l).map (·.key) = Ks := ⟨_, rfl⟩
    have HKs := hide hKs
    clear hKs
    have HC := hide (collect_any a b l W1.drew ((unhide HS1).sto.later ((Below.refl _ _).drew)))
    refine wpIn_wide.2 ?_
    go_region_held (fun w' => w'.cell? ⟨Bx, 0, none⟩ = some (.string f) ∧ w'.cell? ⟨Bx, 1, none⟩ = some (.string t) ∧ w'.cell? ⟨Bs, 0, none⟩ = some (.pointer (some ⟨a, 0, none⟩)) ∧ w'.cell? ⟨a, 0, none⟩ = some (.map (some b))) (go_keep) (first | (go_at_call 62; refine (mkeys_any b _).mono ?_; rintro e w2 ⟨rfl, rfl⟩) | (go_at_call 75; refine (unhide HC).mono ?_; rintro e w3 ⟨ao, c, ks, rfl, hk, hkl, hst, hb3⟩; have y0 := (hb3.cell (p := ⟨Bx, 0, none⟩) hlx1).trans hx2; have y1 := (hb3.cell (p := ⟨Bx, 1, none⟩) hlx1).trans hx3; have y2 := (hb3.cell (p := ⟨Bs, 0, none⟩) hls1).trans hs2; have y3 := (hb3.cell (p := ⟨a, 0, none⟩) hla1).trans hc1; have HK := hide hk; have HT := hide hst; have HB3 := hide hb3; clear hk hst hb3) | (go_at_call 74; have hq := S5.keys_any f t ao c ks w3 (unhide HT) (by omega); rw [unhide HK, unhide HKs] at hq; refine hq.mono ?_; rintro e w4 ⟨ao4, c4, rfl, hst4, hnew, hb4⟩; have z0 := (hb4.cell (p := ⟨Bx, 0, none⟩) (World.block_lt_of_cell? w3 _ y0)).trans y0; have z1 := (hb4.cell (p := ⟨Bx, 1, none⟩) (World.block_lt_of_cell? w3 _ y1)).trans y1; have z2 := (hb4.cell (p := ⟨Bs, 0, none⟩) (World.block_lt_of_cell? w3 _ y2)).trans y2; have z3 := (hb4.cell (p := ⟨a, 0, none⟩) (World.block_lt_of_cell? w3 _ y3)).trans y3; have HT4 := hide hst4; have HB4 := hide hb4; have HNw := hide hnew; clear hst4 hb4 hq hnew))
    have hbb : Below W1.heap.size W1 w4 := ((Below.refl _ W1).drew.trans ((unhide HB3).mono (Nat.le_refl _))).trans ((unhide HB4).mono (unhide HB3).size)
    have HSx := hide ((unhide HS1).later hbb)
    have HL : Hid (J [] w4) := (unhide HJ) [] W1 w4 none (unhide Hj1) ⟨hbb.os, hbb.tape, hbb.output, hbb.size, fun i hi _ => hbb.block i hi⟩ (fun r e => (by cases e))
    have hbw : Below W.heap.size W w4 := hb1.trans (hbb.mono hb1.size)
    have HNx : Hid (NotRow Bp w4 Bx ∧ NotRow Bp w4 Bs ∧ ∀ g o, ao4 = some ⟨g, o, none⟩ → 0 < Ks.length → B1 ≤ g ∧ NotRow Bp w4 g) := by
      have hbp : Bp < W.heap.size := by omega
      exact ⟨NotRow.below (hrow Bx) hbw hbp, NotRow.below (hrow Bs) hbw hbp, fun g o e h => ⟨by have := (unhide HNw) g o e h; have h1 := (unhide HB3).size; have h2 : W1.drew.heap.size = W1.heap.size := rfl; omega, NotRow.below (hrow g) hbw hbp⟩⟩
    have HTx := HT4
    have Hks : Hid (∀ x ∈ Ks, x.size ≤ 1000) := by
      rw [← unhide HKs]
      intro x hx
      obtain ⟨e, he, rfl⟩ := List.mem_map.1 hx
      have := key_le ((unhide HS1).sto.keys e (List.mem_filter.1 he).1)
      omega
    have HE : Hid (atKeys l Ks = inE f t l) := by
      rw [← unhide HKs]
      exact atKeys_span (unhide HS1).sto.rise f t
    obtain ⟨m, hm⟩ : ∃ m, Ks.length = m := ⟨_, rfl⟩
    have Hm := hide hm
    have hm6 : m ≤ 1000000 := by
      rw [← hm, ← unhide HKs, List.length_map]
      have h1 := (unhide HS1).sto.len
      have h2 : (inE f t l).length ≤ l.length := List.length_filter_le _ _
      omega
    rw [hm]
    clear hm HKs HT4 HS1 Hj1 HC HK HT HB3 HB4 hc1 hx2 hx3 hs2 y0 y1 y2 y3 z0 z1 z2 z3 hb1 hbb hbw
    clear HS Hj0
    gi_wp2
    gi_loopw [25] (fun i wr => ∃ (k : Nat) (pre : List {e : Ent // e ∈ l}), i = .int .i64 k ∧ k ≤ m ∧ Hid (pre.map (·.1) = atKeys l (Ks.take k)) ∧ Hid (J pre wr) ∧ Hid (Still w0 wr a b l f t Bx Bs) ∧ Hid (S5.StrsAt wr ao4 Ks) ∧ Hid (NotRow Bp wr Bx ∧ NotRow Bp wr Bs ∧ ∀ g o, ao4 = some ⟨g, o, none⟩ → 0 < Ks.length → B1 ≤ g ∧ NotRow Bp wr g)) (fun i _ => m - (intOf i).toNat)
    case atStart => exact ⟨0, [], rfl, Nat.zero_le _, by rfl, HL, HSx, HTx, HNx⟩
    case round =>
      clear HL HSx HTx HNx
      obtain ⟨k, pre, rfl, hk, Hp, Hj, HSr, HTr, HNr⟩ := hrel
      by_cases hlt : k < m
      · have hkl : k < Ks.length := by rw [unhide Hm]; exact hlt
        obtain ⟨g, o, hg, hcs⟩ := (unhide HTr) (by omega)
        have hck := hcs k hkl
        have hpos : 0 < m := by omega
        have hbpl : Bp < wr.heap.size := by have := (Array.getElem?_eq_some_iff.1 (unhide HSr).x).1; omega
        have hWl : W.heap.size ≤ W.heap.size := Nat.le_refl _
        obtain ⟨ky, hky⟩ : ∃ ky, Ks[k] = ky := ⟨_, rfl⟩
        rw [hky] at hck
        clear hcs
        have hks : ky.size ≤ 1000 := by rw [← hky]; exact (unhide Hks) _ (List.getElem_mem hkl)
        have hst := take_step (l := l) Ks k hkl
        rw [hky] at hst
        have Hky := hide hky
        subst hg
        have ha0 := (unhide HSr).sto.cell
        have hs0 : wr.cell? ⟨Bs, 0, none⟩ = some (.pointer (some ⟨a, 0, none⟩)) := by simp [World.cell?, (unhide HSr).s]
        cases hge : getE l ky with
        | none =>
          have hlk := look_miss (unhide HSr).sto hks hge
          rw [hge, List.append_nil] at hst
          have Hst := hide hst
          have hBw : Below wr.heap.size wr (wr.alloc (.cells #[.slice none 0 0, .bool false, .int .i64 0, .int .i64 0, .string ⟨#[]⟩, .int .i64 0, .int .i64 0, .int .i64 0, .int .i64 0, .int .i64 0, .string ⟨#[]⟩, .bool false] 61)) := (Below.refl _ _).alloc (Nat.le_refl _) _
          have HSn := hide ((unhide HSr).later hBw)
          have Hjn : Hid (J pre (wr.alloc (.cells #[.slice none 0 0, .bool false, .int .i64 0, .int .i64 0, .string ⟨#[]⟩, .int .i64 0, .int .i64 0, .int .i64 0, .int .i64 0, .int .i64 0, .string ⟨#[]⟩, .bool false] 61))) := (unhide HJ) pre wr _ none (unhide Hj) (World.grownBy_alloc _ _ none) (fun r e => (by cases e))
          have HTn := hide ((unhide HTr).later hBw)
          have HNn : Hid (NotRow Bp (wr.alloc (.cells #[.slice none 0 0, .bool false, .int .i64 0, .int .i64 0, .string ⟨#[]⟩, .int .i64 0, .int .i64 0, .int .i64 0, .int .i64 0, .int .i64 0, .string ⟨#[]⟩, .bool false] 61)) Bx ∧ NotRow Bp (wr.alloc (.cells #[.slice none 0 0, .bool false, .int .i64 0, .int .i64 0, .string ⟨#[]⟩, .int .i64 0, .int .i64 0, .int .i64 0, .int .i64 0, .int .i64 0, .string ⟨#[]⟩, .bool false] 61)) Bs ∧ ∀ g' o', (some ⟨g, o, none⟩ : Option Addr) = some ⟨g', o', none⟩ → 0 < Ks.length → B1 ≤ g' ∧ NotRow Bp (wr.alloc (.cells #[.slice none 0 0, .bool false, .int .i64 0, .int .i64 0, .string ⟨#[]⟩, .int .i64 0, .int .i64 0, .int .i64 0, .int .i64 0, .int .i64 0, .string ⟨#[]⟩, .bool false] 61)) g') :=
            ⟨NotRow.below (unhide HNr).1 hBw hbpl, NotRow.below (unhide HNr).2.1 hBw hbpl, fun g' o' e h => ⟨((unhide HNr).2.2 g' o' e h).1, NotRow.below ((unhide HNr).2.2 g' o' e h).2 hBw hbpl⟩⟩
          have C := Blk.new wr #[.slice none 0 0, .bool false, .int .i64 0, .int .i64 0, .string ⟨#[]⟩, .int .i64 0, .int .i64 0, .int .i64 0, .int .i64 0, .int .i64 0, .string ⟨#[]⟩, .bool false] 61
          have hB : Below wr.heap.size wr (wr.alloc (.cells #[.slice none 0 0, .bool false, .int .i64 0, .int .i64 0, .string ⟨#[]⟩, .int .i64 0, .int .i64 0, .int .i64 0, .int .i64 0, .int .i64 0, .string ⟨#[]⟩, .bool false] 61)) := (Below.refl wr.heap.size wr).alloc (Nat.le_refl _) _
          have C_0 := C.c 0; have C_1 := C.c 1; have C_2 := C.c 2; have C_3 := C.c 3; have C_4 := C.c 4; have C_5 := C.c 5; have C_6 := C.c 6; have C_7 := C.c 7; have C_8 := C.c 8; have C_9 := C.c 9; have C_10 := C.c 10; have C_11 := C.c 11; simp only [List.getElem?_cons_zero, List.getElem?_cons_succ] at C_0 C_1 C_2 C_3 C_4 C_5 C_6 C_7 C_8 C_9 C_10 C_11
          have Cf := C.f
          clear hst hky hge hBw hB HSr Hj HTr HNr
          gi_wp2
          refine ⟨fun _ h => (by cases h), ?_⟩
          gi_wp2
          go_roundw
          case rel =>
            exact ⟨k + 1, pre, by go_num, by omega, (by unfold Hid; rw [unhide Hst]; exact unhide Hp), Hjn, HSn, HTn, HNn⟩
          case measure => simp [intOf]; omega
        | some e =>
          obtain ⟨he, hek⟩ := getE_some hge
          have hlk := look_hit (unhide HSr).sto he
          rw [hek] at hlk
          rw [hge] at hst
          have Hst := hide hst
          have hpl : pre.length < l.length := by
            have h1 := congrArg List.length (unhide Hp)
            have h2 := (take_prefix (l := l) Ks (k + 1)).length_le
            have h3 := congrArg List.length hst
            rw [unhide HE] at h2
            have h4 : (inE f t l).length ≤ l.length := List.length_filter_le _ _
            simp only [List.length_map, List.length_append, List.length_cons, List.length_nil] at h1 h3
            omega
          have hy := (unhide HY) pre ⟨e, he⟩
          obtain ⟨y, hy0⟩ : ∃ y : {e : Ent // e ∈ l}, y = ⟨e, he⟩ := ⟨_, rfl⟩
          rw [← hy0] at hy
          have hst2 : Hid ((pre ++ [y]).map (·.1) = atKeys l (Ks.take (k + 1))) := by
            unfold Hid
            rw [hst, hy0, List.map_append, unhide Hp]; rfl
          have hyk : y.1.key = ky := by rw [hy0]; exact hek
          have hyv : y.1.v = e.v := by rw [hy0]
          simp only [hyk, hyv] at hy
          clear hy0 hst hyk hyv he
          obtain ⟨key, ao, cap, vs, q, i⟩ := e
          simp only [Ent.v, chV] at hlk hy
          obtain ⟨nv, hnv⟩ : ∃ nv, vs.length = nv := ⟨_, rfl⟩
          simp only [hnv] at hlk hy
          clear hnv hek hge hky
          have C := Blk.new wr #[.slice ao nv cap, .bool q, .int .i64 i.txn.id, .int .i64 i.txn.ep, .string i.txn.anchor, .int .i64 i.txn.start.1, .int .i64 i.txn.start.2, .int .i64 i.seq, .int .i64 i.at_.1, .int .i64 i.at_.2, .string i.val, .bool i.gone] 61
          have hB : Below wr.heap.size wr (wr.alloc (.cells #[.slice ao nv cap, .bool q, .int .i64 i.txn.id, .int .i64 i.txn.ep, .string i.txn.anchor, .int .i64 i.txn.start.1, .int .i64 i.txn.start.2, .int .i64 i.seq, .int .i64 i.at_.1, .int .i64 i.at_.2, .string i.val, .bool i.gone] 61)) := (Below.refl wr.heap.size wr).alloc (Nat.le_refl _) _
          have HSn := hide ((unhide HSr).later hB)
          have Hjn : Hid (J pre (wr.alloc (.cells #[.slice ao nv cap, .bool q, .int .i64 i.txn.id, .int .i64 i.txn.ep, .string i.txn.anchor, .int .i64 i.txn.start.1, .int .i64 i.txn.start.2, .int .i64 i.seq, .int .i64 i.at_.1, .int .i64 i.at_.2, .string i.val, .bool i.gone] 61))) := (unhide HJ) pre wr _ none (unhide Hj) (World.grownBy_alloc _ _ none) (fun r e => (by cases e))
          have HTn := hide ((unhide HTr).later hB)
          have HNn : Hid (NotRow Bp (wr.alloc (.cells #[.slice ao nv cap, .bool q, .int .i64 i.txn.id, .int .i64 i.txn.ep, .string i.txn.anchor, .int .i64 i.txn.start.1, .int .i64 i.txn.start.2, .int .i64 i.seq, .int .i64 i.at_.1, .int .i64 i.at_.2, .string i.val, .bool i.gone] 61)) Bx ∧ NotRow Bp (wr.alloc (.cells #[.slice ao nv cap, .bool q, .int .i64 i.txn.id, .int .i64 i.txn.ep, .string i.txn.anchor, .int .i64 i.txn.start.1, .int .i64 i.txn.start.2, .int .i64 i.seq, .int .i64 i.at_.1, .int .i64 i.at_.2, .string i.val, .bool i.gone] 61)) Bs ∧ ∀ g' o', (some ⟨g, o, none⟩ : Option Addr) = some ⟨g', o', none⟩ → 0 < Ks.length → B1 ≤ g' ∧ NotRow Bp (wr.alloc (.cells #[.slice ao nv cap, .bool q, .int .i64 i.txn.id, .int .i64 i.txn.ep, .string i.txn.anchor, .int .i64 i.txn.start.1, .int .i64 i.txn.start.2, .int .i64 i.seq, .int .i64 i.at_.1, .int .i64 i.at_.2, .string i.val, .bool i.gone] 61)) g') :=
            ⟨NotRow.below (unhide HNr).1 hB hbpl, NotRow.below (unhide HNr).2.1 hB hbpl, fun g' o' e h => ⟨((unhide HNr).2.2 g' o' e h).1, NotRow.below ((unhide HNr).2.2 g' o' e h).2 hB hbpl⟩⟩
          gi_upto_region 7 with fail
          generalize wr.alloc _ = W5 at *
          have C_0 := C.c 0; have C_1 := C.c 1; have C_2 := C.c 2; have C_3 := C.c 3; have C_4 := C.c 4; have C_5 := C.c 5; have C_6 := C.c 6; have C_7 := C.c 7; have C_8 := C.c 8; have C_9 := C.c 9; have C_10 := C.c 10; have C_11 := C.c 11; simp only [List.getElem?_cons_zero, List.getElem?_cons_succ] at C_0 C_1 C_2 C_3 C_4 C_5 C_6 C_7 C_8 C_9 C_10 C_11
          clear hlk ha0 hs0
          obtain ⟨fn, tmps, assign, body, hyr, hR⟩ := hy W5 (unhide Hjn) hpl
          have HR := hide hR
          clear hR hy
          gi_wp2
          refine (unhide HR).mono ?_
          rintro e5 W6 (⟨rfl, hj6, ht6⟩ | ⟨rfl, hj6⟩)
          · have Hj6 := hide hj6
            have hn1 := (unhide HNn).1
            have hn2 := (unhide HNn).2.1
            have hn3 := (unhide HNn).2.2 g o rfl (by omega)
            have q1 := ht6.cells (unhide HSn).x hBx hn1
            have q2 := ht6.cells (unhide HSn).s hBs hn2
            have HS6 : Hid (Still w0 W6 a b l f t Bx Bs) := by
              have hb0 : Below w0.heap.size w0 W6 := (unhide HSn).bel.trans ht6.below
              exact ⟨(unhide H0).below hb0 (Nat.le_refl _), hb0, q1.1, q2.1⟩
            have HT6 : Hid (S5.StrsAt W6 (some ⟨g, o, none⟩) Ks) := fun h0 => by
              obtain ⟨g', o', e', hc'⟩ := (unhide HTn) h0
              cases e'
              exact ⟨g, o, rfl, fun j hj => ht6.cell (hc' j hj) hn3.1 hn3.2⟩
            have HN6 : Hid (NotRow Bp W6 Bx ∧ NotRow Bp W6 Bs ∧ ∀ g' o', (some ⟨g, o, none⟩ : Option Addr) = some ⟨g', o', none⟩ → 0 < Ks.length → B1 ≤ g' ∧ NotRow Bp W6 g') := by
              refine ⟨q1.2, q2.2, fun g' o' e' h' => ?_⟩
              cases e'
              refine ⟨hn3.1, ?_⟩
              obtain ⟨g', o', e', hc'⟩ := (unhide HTn) h'
              cases e'
              obtain ⟨u, hu, huc⟩ := cells_of_cell (hc' k (by omega))
              exact (ht6.high _ u hu hn3.1 hn3.2).2
            clear hj6 ht6 hn1 hn2 hn3 q1 q2 HR Hjn HSn HTn HNn
            gi_wp2
            go_roundw
            case rel => exact ⟨k + 1, pre ++ [y], by go_num, by omega, hst2, Hj6, HS6, HT6, HN6⟩
            case measure => simp [intOf]; omega
          · have Hj6 := hide hj6
            clear hj6 HR Hjn HSn HTn HNn
            gi_wp2
            refine bodyPost_ret (results_none rfl _ _ _) rfl ?_
            refine ⟨⟨_, rfl⟩, .inr ⟨pre ++ [y], ?_, unhide Hj6⟩⟩
            rw [unhide hst2, ← unhide HE]
            exact take_prefix Ks (k + 1)
      · obtain rfl : k = m := by omega
        gi_wp2
        go_end0
        refine ⟨⟨_, rfl⟩, .inl ⟨pre, ?_, unhide Hj⟩⟩
        have hp := unhide Hp
        rw [List.take_of_length_le (by rw [unhide Hm]; exact Nat.le_refl _), unhide HE] at hp
        exact hp
  · have hb1 : Below W.heap.size W (W.alloc (.cells #[.string f] 9)) := (Below.refl _ _).alloc (Nat.le_refl _) _
    have HSx := hide ((unhide HS).later hb1)
    have HL : Hid (J [] (W.alloc (.cells #[.string f] 9))) := (unhide HJ) [] W _ none (unhide Hj0) (World.grownBy_alloc _ _ none) (fun r e => (by cases e))
    have ht : t = S5.emp := (S5.eqB_iff _ _).1 hz
    obtain ⟨Ks, hKs⟩ : ∃ Ks, [f] = Ks := ⟨_, rfl⟩
    obtain ⟨ao4, hao⟩ : ∃ ao4 : Option Addr, some ⟨W.heap.size, 0, none⟩ = ao4 := ⟨_, rfl⟩
    obtain ⟨m, hm⟩ : ∃ m, Ks.length = m := ⟨_, rfl⟩
    have Hm := hide hm
    have hm1 : 1 = m := by rw [← hm, ← hKs]; rfl
    have hm6 : m ≤ 1000000 := by omega
    have hkf : S5.keyB f = true := ((S5.right_iff f t).1 hright).1
    have Hks : Hid (∀ x ∈ Ks, x.size ≤ 1000) := by
      rw [← hKs]
      intro x hx
      obtain rfl : x = f := by simpa using hx
      have := key_le hkf
      omega
    have HE : Hid (atKeys l Ks = inE f t l) := by
      rw [← hKs, ht]
      exact atKeys_one (unhide H0).rise (unhide H0).keys f (by rw [← ht]; exact hright)
    have HTx : Hid (S5.StrsAt (W.alloc (.cells #[.string f] 9)) ao4 Ks) := by
      rw [← hKs, ← hao]
      intro _
      refine ⟨W.heap.size, 0, rfl, fun j hj => ?_⟩
      obtain rfl : j = 0 := by simp at hj; omega
      simp
    have HNx : Hid (NotRow Bp (W.alloc (.cells #[.string f] 9)) Bx ∧ NotRow Bp (W.alloc (.cells #[.string f] 9)) Bs ∧ ∀ g o, ao4 = some ⟨g, o, none⟩ → 0 < Ks.length → B1 ≤ g ∧ NotRow Bp (W.alloc (.cells #[.string f] 9)) g) := by
      have hbp : Bp < W.heap.size := by omega
      refine ⟨NotRow.below (hrow Bx) hb1 hbp, NotRow.below (hrow Bs) hb1 hbp, fun g o e _ => ⟨?_, NotRow.below (hrow g) hb1 hbp⟩⟩
      rw [← hao] at e
      cases e
      omega
    have e2 : t.toList.isEmpty = true := by rw [ht, S5.emp_toList]; rfl
    clear hm hKs ht
    subst hm1
    gi_upto_region 3 with fail
    generalize hX : W.alloc _ = X at *
    clear hX hao
    clear HS Hj0 hb1 hya0 hya1 hsa0 hx0 hx1 hs0 e0' e1' hz e2
    gi_wp2
    gi_loopw [25] (fun i wr => ∃ (k : Nat) (pre : List {e : Ent // e ∈ l}), i = .int .i64 k ∧ k ≤ 1 ∧ Hid (pre.map (·.1) = atKeys l (Ks.take k)) ∧ Hid (J pre wr) ∧ Hid (Still w0 wr a b l f t Bx Bs) ∧ Hid (S5.StrsAt wr ao4 Ks) ∧ Hid (NotRow Bp wr Bx ∧ NotRow Bp wr Bs ∧ ∀ g o, ao4 = some ⟨g, o, none⟩ → 0 < Ks.length → B1 ≤ g ∧ NotRow Bp wr g)) (fun i _ => 1 - (intOf i).toNat)
    case atStart => exact ⟨0, [], rfl, Nat.zero_le _, by rfl, HL, HSx, HTx, HNx⟩
    case round =>
      clear HL HSx HTx HNx
      obtain ⟨k, pre, rfl, hk, Hp, Hj, HSr, HTr, HNr⟩ := hrel
      by_cases hlt : k < 1
      · have hkl : k < Ks.length := by rw [unhide Hm]; exact hlt
        obtain ⟨g, o, hg, hcs⟩ := (unhide HTr) (by omega)
        have hck := hcs k hkl
        have hpos : 0 < 1 := by omega
        have hbpl : Bp < wr.heap.size := by have := (Array.getElem?_eq_some_iff.1 (unhide HSr).x).1; omega
        have hWl : W.heap.size ≤ W.heap.size := Nat.le_refl _
        obtain ⟨ky, hky⟩ : ∃ ky, Ks[k] = ky := ⟨_, rfl⟩
        rw [hky] at hck
        clear hcs
        have hks : ky.size ≤ 1000 := by rw [← hky]; exact (unhide Hks) _ (List.getElem_mem hkl)
        have hst := take_step (l := l) Ks k hkl
        rw [hky] at hst
        have Hky := hide hky
        subst hg
        have ha0 := (unhide HSr).sto.cell
        have hs0 : wr.cell? ⟨Bs, 0, none⟩ = some (.pointer (some ⟨a, 0, none⟩)) := by simp [World.cell?, (unhide HSr).s]
        cases hge : getE l ky with
        | none =>
          have hlk := look_miss (unhide HSr).sto hks hge
          rw [hge, List.append_nil] at hst
          have Hst := hide hst
          have hBw : Below wr.heap.size wr (wr.alloc (.cells #[.slice none 0 0, .bool false, .int .i64 0, .int .i64 0, .string ⟨#[]⟩, .int .i64 0, .int .i64 0, .int .i64 0, .int .i64 0, .int .i64 0, .string ⟨#[]⟩, .bool false] 61)) := (Below.refl _ _).alloc (Nat.le_refl _) _
          have HSn := hide ((unhide HSr).later hBw)
          have Hjn : Hid (J pre (wr.alloc (.cells #[.slice none 0 0, .bool false, .int .i64 0, .int .i64 0, .string ⟨#[]⟩, .int .i64 0, .int .i64 0, .int .i64 0, .int .i64 0, .int .i64 0, .string ⟨#[]⟩, .bool false] 61))) := (unhide HJ) pre wr _ none (unhide Hj) (World.grownBy_alloc _ _ none) (fun r e => (by cases e))
          have HTn := hide ((unhide HTr).later hBw)
          have HNn : Hid (NotRow Bp (wr.alloc (.cells #[.slice none 0 0, .bool false, .int .i64 0, .int .i64 0, .string ⟨#[]⟩, .int .i64 0, .int .i64 0, .int .i64 0, .int .i64 0, .int .i64 0, .string ⟨#[]⟩, .bool false] 61)) Bx ∧ NotRow Bp (wr.alloc (.cells #[.slice none 0 0, .bool false, .int .i64 0, .int .i64 0, .string ⟨#[]⟩, .int .i64 0, .int .i64 0, .int .i64 0, .int .i64 0, .int .i64 0, .string ⟨#[]⟩, .bool false] 61)) Bs ∧ ∀ g' o', (some ⟨g, o, none⟩ : Option Addr) = some ⟨g', o', none⟩ → 0 < Ks.length → B1 ≤ g' ∧ NotRow Bp (wr.alloc (.cells #[.slice none 0 0, .bool false, .int .i64 0, .int .i64 0, .string ⟨#[]⟩, .int .i64 0, .int .i64 0, .int .i64 0, .int .i64 0, .int .i64 0, .string ⟨#[]⟩, .bool false] 61)) g') :=
            ⟨NotRow.below (unhide HNr).1 hBw hbpl, NotRow.below (unhide HNr).2.1 hBw hbpl, fun g' o' e h => ⟨((unhide HNr).2.2 g' o' e h).1, NotRow.below ((unhide HNr).2.2 g' o' e h).2 hBw hbpl⟩⟩
          have C := Blk.new wr #[.slice none 0 0, .bool false, .int .i64 0, .int .i64 0, .string ⟨#[]⟩, .int .i64 0, .int .i64 0, .int .i64 0, .int .i64 0, .int .i64 0, .string ⟨#[]⟩, .bool false] 61
          have hB : Below wr.heap.size wr (wr.alloc (.cells #[.slice none 0 0, .bool false, .int .i64 0, .int .i64 0, .string ⟨#[]⟩, .int .i64 0, .int .i64 0, .int .i64 0, .int .i64 0, .int .i64 0, .string ⟨#[]⟩, .bool false] 61)) := (Below.refl wr.heap.size wr).alloc (Nat.le_refl _) _
          have C_0 := C.c 0; have C_1 := C.c 1; have C_2 := C.c 2; have C_3 := C.c 3; have C_4 := C.c 4; have C_5 := C.c 5; have C_6 := C.c 6; have C_7 := C.c 7; have C_8 := C.c 8; have C_9 := C.c 9; have C_10 := C.c 10; have C_11 := C.c 11; simp only [List.getElem?_cons_zero, List.getElem?_cons_succ] at C_0 C_1 C_2 C_3 C_4 C_5 C_6 C_7 C_8 C_9 C_10 C_11
          have Cf := C.f
          clear hst hky hge hBw hB HSr Hj HTr HNr
          gi_wp2
          refine ⟨fun _ h => (by cases h), ?_⟩
          gi_wp2
          go_roundw
          case rel =>
            exact ⟨k + 1, pre, by go_num, by omega, (by unfold Hid; rw [unhide Hst]; exact unhide Hp), Hjn, HSn, HTn, HNn⟩
          case measure => simp [intOf]; omega
        | some e =>
          obtain ⟨he, hek⟩ := getE_some hge
          have hlk := look_hit (unhide HSr).sto he
          rw [hek] at hlk
          rw [hge] at hst
          have Hst := hide hst
          have hpl : pre.length < l.length := by
            have h1 := congrArg List.length (unhide Hp)
            have h2 := (take_prefix (l := l) Ks (k + 1)).length_le
            have h3 := congrArg List.length hst
            rw [unhide HE] at h2
            have h4 : (inE f t l).length ≤ l.length := List.length_filter_le _ _
            simp only [List.length_map, List.length_append, List.length_cons, List.length_nil] at h1 h3
            omega
          have hy := (unhide HY) pre ⟨e, he⟩
          obtain ⟨y, hy0⟩ : ∃ y : {e : Ent // e ∈ l}, y = ⟨e, he⟩ := ⟨_, rfl⟩
          rw [← hy0] at hy
          have hst2 : Hid ((pre ++ [y]).map (·.1) = atKeys l (Ks.take (k + 1))) := by
            unfold Hid
            rw [hst, hy0, List.map_append, unhide Hp]; rfl
          have hyk : y.1.key = ky := by rw [hy0]; exact hek
          have hyv : y.1.v = e.v := by rw [hy0]
          simp only [hyk, hyv] at hy
          clear hy0 hst hyk hyv he
          obtain ⟨key, ao, cap, vs, q, i⟩ := e
          simp only [Ent.v, chV] at hlk hy
          obtain ⟨nv, hnv⟩ : ∃ nv, vs.length = nv := ⟨_, rfl⟩
          simp only [hnv] at hlk hy
          clear hnv hek hge hky
          have C := Blk.new wr #[.slice ao nv cap, .bool q, .int .i64 i.txn.id, .int .i64 i.txn.ep, .string i.txn.anchor, .int .i64 i.txn.start.1, .int .i64 i.txn.start.2, .int .i64 i.seq, .int .i64 i.at_.1, .int .i64 i.at_.2, .string i.val, .bool i.gone] 61
          have hB : Below wr.heap.size wr (wr.alloc (.cells #[.slice ao nv cap, .bool q, .int .i64 i.txn.id, .int .i64 i.txn.ep, .string i.txn.anchor, .int .i64 i.txn.start.1, .int .i64 i.txn.start.2, .int .i64 i.seq, .int .i64 i.at_.1, .int .i64 i.at_.2, .string i.val, .bool i.gone] 61)) := (Below.refl wr.heap.size wr).alloc (Nat.le_refl _) _
          have HSn := hide ((unhide HSr).later hB)
          have Hjn : Hid (J pre (wr.alloc (.cells #[.slice ao nv cap, .bool q, .int .i64 i.txn.id, .int .i64 i.txn.ep, .string i.txn.anchor, .int .i64 i.txn.start.1, .int .i64 i.txn.start.2, .int .i64 i.seq, .int .i64 i.at_.1, .int .i64 i.at_.2, .string i.val, .bool i.gone] 61))) := (unhide HJ) pre wr _ none (unhide Hj) (World.grownBy_alloc _ _ none) (fun r e => (by cases e))
          have HTn := hide ((unhide HTr).later hB)
          have HNn : Hid (NotRow Bp (wr.alloc (.cells #[.slice ao nv cap, .bool q, .int .i64 i.txn.id, .int .i64 i.txn.ep, .string i.txn.anchor, .int .i64 i.txn.start.1, .int .i64 i.txn.start.2, .int .i64 i.seq, .int .i64 i.at_.1, .int .i64 i.at_.2, .string i.val, .bool i.gone] 61)) Bx ∧ NotRow Bp (wr.alloc (.cells #[.slice ao nv cap, .bool q, .int .i64 i.txn.id, .int .i64 i.txn.ep, .string i.txn.anchor, .int .i64 i.txn.start.1, .int .i64 i.txn.start.2, .int .i64 i.seq, .int .i64 i.at_.1, .int .i64 i.at_.2, .string i.val, .bool i.gone] 61)) Bs ∧ ∀ g' o', (some ⟨g, o, none⟩ : Option Addr) = some ⟨g', o', none⟩ → 0 < Ks.length → B1 ≤ g' ∧ NotRow Bp (wr.alloc (.cells #[.slice ao nv cap, .bool q, .int .i64 i.txn.id, .int .i64 i.txn.ep, .string i.txn.anchor, .int .i64 i.txn.start.1, .int .i64 i.txn.start.2, .int .i64 i.seq, .int .i64 i.at_.1, .int .i64 i.at_.2, .string i.val, .bool i.gone] 61)) g') :=
            ⟨NotRow.below (unhide HNr).1 hB hbpl, NotRow.below (unhide HNr).2.1 hB hbpl, fun g' o' e h => ⟨((unhide HNr).2.2 g' o' e h).1, NotRow.below ((unhide HNr).2.2 g' o' e h).2 hB hbpl⟩⟩
          gi_upto_region 7 with fail
          generalize wr.alloc _ = W5 at *
          have C_0 := C.c 0; have C_1 := C.c 1; have C_2 := C.c 2; have C_3 := C.c 3; have C_4 := C.c 4; have C_5 := C.c 5; have C_6 := C.c 6; have C_7 := C.c 7; have C_8 := C.c 8; have C_9 := C.c 9; have C_10 := C.c 10; have C_11 := C.c 11; simp only [List.getElem?_cons_zero, List.getElem?_cons_succ] at C_0 C_1 C_2 C_3 C_4 C_5 C_6 C_7 C_8 C_9 C_10 C_11
          clear hlk ha0 hs0
          obtain ⟨fn, tmps, assign, body, hyr, hR⟩ := hy W5 (unhide Hjn) hpl
          have HR := hide hR
          clear hR hy
          gi_wp2
          refine (unhide HR).mono ?_
          rintro e5 W6 (⟨rfl, hj6, ht6⟩ | ⟨rfl, hj6⟩)
          · have Hj6 := hide hj6
            have hn1 := (unhide HNn).1
            have hn2 := (unhide HNn).2.1
            have hn3 := (unhide HNn).2.2 g o rfl (by omega)
            have q1 := ht6.cells (unhide HSn).x hBx hn1
            have q2 := ht6.cells (unhide HSn).s hBs hn2
            have HS6 : Hid (Still w0 W6 a b l f t Bx Bs) := by
              have hb0 : Below w0.heap.size w0 W6 := (unhide HSn).bel.trans ht6.below
              exact ⟨(unhide H0).below hb0 (Nat.le_refl _), hb0, q1.1, q2.1⟩
            have HT6 : Hid (S5.StrsAt W6 (some ⟨g, o, none⟩) Ks) := fun h0 => by
              obtain ⟨g', o', e', hc'⟩ := (unhide HTn) h0
              cases e'
              exact ⟨g, o, rfl, fun j hj => ht6.cell (hc' j hj) hn3.1 hn3.2⟩
            have HN6 : Hid (NotRow Bp W6 Bx ∧ NotRow Bp W6 Bs ∧ ∀ g' o', (some ⟨g, o, none⟩ : Option Addr) = some ⟨g', o', none⟩ → 0 < Ks.length → B1 ≤ g' ∧ NotRow Bp W6 g') := by
              refine ⟨q1.2, q2.2, fun g' o' e' h' => ?_⟩
              cases e'
              refine ⟨hn3.1, ?_⟩
              obtain ⟨g', o', e', hc'⟩ := (unhide HTn) h'
              cases e'
              obtain ⟨u, hu, huc⟩ := cells_of_cell (hc' k (by omega))
              exact (ht6.high _ u hu hn3.1 hn3.2).2
            clear hj6 ht6 hn1 hn2 hn3 q1 q2 HR Hjn HSn HTn HNn
            gi_wp2
            go_roundw
            case rel => exact ⟨k + 1, pre ++ [y], by go_num, by omega, hst2, Hj6, HS6, HT6, HN6⟩
            case measure => simp [intOf]; omega
          · have Hj6 := hide hj6
            clear hj6 HR Hjn HSn HTn HNn
            gi_wp2
            refine bodyPost_ret (results_none rfl _ _ _) rfl ?_
            refine ⟨⟨_, rfl⟩, .inr ⟨pre ++ [y], ?_, unhide Hj6⟩⟩
            rw [unhide hst2, ← unhide HE]
            exact take_prefix Ks (k + 1)
      · obtain rfl : k = 1 := by omega
        gi_wp2
        go_end0
        refine ⟨⟨_, rfl⟩, .inl ⟨pre, ?_, unhide Hj⟩⟩
        have hp := unhide Hp
        rw [List.take_of_length_le (by rw [unhide Hm]; exact Nat.le_refl _), unhide HE] at hp
        exact hp

theorem in1_stops (n : Nat) (hn : 1 ≤ n) (a b : Nat) (l : List Ent) (f t : ByteArray) (hright : S5.rightB f t = true) (Bx Bs B1 Bp : Nat) (w0 w : World) (h0 : Sto w0 a b l)
    (hS : Still w0 w a b l f t Bx Bs) (hB0 : w0.heap.size ≤ B1) (hBx : B1 ≤ Bx) (hBs : B1 ≤ Bs) (hBp : Bp < B1) (hrow : ∀ i n c, w.cell? ⟨Bp, 0, none⟩ ≠ some (.slice (some ⟨i, 0, none⟩) n c)) :
    SeqStopsK Fence.wide n Tryz.prog 73 (lbIn Bx Bs) (fun x : {e : Ent // e ∈ l} => #[.string x.1.key, x.1.v]) (Turn w0.heap.size B1 Bp true)
      (fun xs => xs.map (·.1) = inE f t l) (fun pre => pre.map (·.1) <+: inE f t l) l.length w := fun lp J Jx W hW hJ _ hY hj0 => by
  have hlt := (Array.getElem?_eq_some_iff.1 hS.x).1
  refine in1_in n hn a b l f t hright lp Bx Bs B1 Bp w0 h0 J Jx W hJ hY (hS.later hW) hB0 hBx hBs hBp (fun i n c => ?_) hj0
  rw [World.cell?_of_block (w := w) (hW.block Bp (by omega))]
  exact hrow i n c
end

end Go.Proofs.YtcdehnghggleoaaGreat
