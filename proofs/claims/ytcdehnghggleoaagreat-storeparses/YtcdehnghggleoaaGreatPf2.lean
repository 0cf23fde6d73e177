/-
  The document's Parse. No law is proved here.
-/
import Derived.Test.YtcdehnghggleoaaGreatGz10
import Derived.Test.YtcdehnghggleoaaGreatPd4
import Derived.Deep.DeepMust
namespace Go.Proofs.YtcdehnghggleoaaGreat
open Go.RowKit Go.Maps
set_option linter.unusedVariables false

theorem Turned_below {M B : Nat} {a b : World} (h : P1.Turned M a b) (hM : B ≤ M) (hB : B ≤ a.heap.size) : Below B a b :=
  ⟨h.os, h.tape, h.output, h.size, fun k hk => h.block k (by omega) (by omega)⟩
theorem Blk.grownR {w w' : World} {B : Nat} {cs : List Value} {row : Option Nat} (h : Blk w B cs) (hg : w.grownBy w' row) (hne : some B ≠ row) : Blk w' B cs := by
  have e := hg.block B h.lt hne
  exact ⟨fun j => (World.cell?_of_block (a := ⟨B, j, none⟩) e).trans (h.c j), fun j => (World.frozen?_of_block (a := ⟨B, j, none⟩) e).trans (h.f j), Nat.lt_of_lt_of_le h.lt hg.size⟩

/-- The document's Parse in memory. -/
structure DP (S M s : Nat) (w W : World) (r : List UInt8) (bad : Bool) (ao : Option Addr) (cap k : Nat) (L : List Ent) : Prop where
  d : Dc S W M r bad
  p : Blk W s [.slice ao k cap]
  v : ROwn (s + 1) W ao cap L
  b : Below S w W
  z : s + 1 ≤ W.heap.size
  q : S ≤ s
theorem DP.read {S M s : Nat} {w W W' : World} {r r' : List UInt8} {bad bad' : Bool} {ao : Option Addr} {cap k : Nat} {L : List Ent} (h : DP S M s w W r bad ao cap k L) (hM : M < s) (hS : S ≤ M) (hd : Dc S W' M r' bad') (ht : P1.Turned M W W') : DP S M s w W' r' bad' ao cap k L :=
  ⟨hd, h.p.turned (by omega) ht, h.v.turned (by omega) ht, h.b.trans (Turned_below ht hS (by have := h.z; omega)), Nat.le_trans h.z ht.size, h.q⟩
theorem DP.later {S M s : Nat} {w W W' : World} {r : List UInt8} {bad : Bool} {ao : Option Addr} {cap k : Nat} {L : List Ent} (h : DP S M s w W r bad ao cap k L) (hb : Below W.heap.size W W') : DP S M s w W' r bad ao cap k L :=
  ⟨h.d.later hb, h.p.later hb, h.v.later hb, h.b.trans (hb.mono (by have := h.z; have := h.q; omega)), Nat.le_trans h.z hb.size, h.q⟩
theorem DP.app {S M s : Nat} {w W W' : World} {r : List UInt8} {bad : Bool} {ao eo : Option Addr} {cap f k : Nat} {L L' : List Ent} (h : DP S M s w W r bad ao cap k L) (hM : M < s) (hS : S ≤ M) (hn : L.length = k) (hg : W.grownBy W' (Value.slice ao k cap).ownBlock) (hv : ROwn (s + 1) W' eo f L') : DP S M s w (W'.setCell ⟨s, 0, none⟩ (.slice eo L'.length f)) r bad eo f L'.length L' := by
  have hlt := fun g (e : (Value.slice ao k cap).ownBlock = some g) => h.v.lt g (by rw [hn]; exact e)
  have p1 := h.p.grownR hg (fun e => by have := (hlt s e.symm).1; omega)
  have p2 := p1.set 0 (by simp) (.slice eo L'.length f)
  have d1 := h.d.grown hg (fun e => by have := (hlt M e.symm).1; omega) (fun g e => by have := (hlt g e).1; omega)
  refine ⟨Dc.other d1 (q := ⟨s, 0, none⟩) (p1.c 0) (fun n e => by cases e) (by show s ≠ M; omega) _, p2, hv.other (q := ⟨s, 0, none⟩) (Nat.lt_succ_self _) _, ?_, ?_, h.q⟩
  · refine (h.b.grown hg (by have := h.z; omega) (fun g e => ?_)).setCell (p := ⟨s, 0, none⟩) (by show S ≤ s; omega) _
    have := (hlt g e).1
    omega
  · have := hg.size
    have := h.z
    simp [World.setCell]
    omega

section
set_option maxRecDepth 100000
set_option maxHeartbeats 4000000

theorem refparse_any (v : Value) (l0 : List UInt8) (w : World) (hs : P1.Sl w v l0) (hl : l0.length ≤ 1000) :
    Calls Tryz.prog 6 #[v] w fun e w' => Below w.heap.size w w' ∧ ((prsS l0 = none ∧ e = .returned (.tuple #[.pointer none, .int .i64 11])) ∨
      ∃ m ao cap L, e = .returned (.tuple #[.pointer (some ⟨m, 0, none⟩), .int .i64 0]) ∧ w'.cell? ⟨m, 0, none⟩ = some (.slice ao L.length cap) ∧ ROwn w.heap.size w' ao cap L ∧ prsS l0 = some (absL L)) := by
  obtain ⟨vo, vc, rfl, _⟩ := id hs
  have HP := hide (dopen_any vo vc l0 w hs (by omega))
  obtain ⟨a1, a2, a3, ha⟩ : ∃ a1 a2 a3, P1.rdN l0 mxN = (a1, a2, a3) := ⟨_, _, _, rfl⟩
  have la1 : a1 ≤ 1099511627776 := by
    have := numP_le 0 l0
    unfold numP at this
    rw [if_pos rfl, ha] at this
    exact this
  have CN := fun w' M h => dn_any w.heap.size M l0 false mxN w' h
  simp only [ha, Bool.false_or] at CN
  have HI0 := hide (KI.start l0 ha)
  clear hs ha
  obtain ⟨bad1, hb1⟩ : ∃ bad1, (a2 != 0) = bad1 := ⟨_, rfl⟩
  simp only [hb1] at CN HI0
  clear hb1
  obtain ⟨vn, hvn⟩ : ∃ vn, l0.length = vn := ⟨_, rfl⟩
  have hlv := hl
  rw [hvn] at HP hl ⊢
  clear hvn
  go_enter Tryz.func6, Tryz.ntmps6
  go_wp2_with fail
  refine (unhide HP).mono ?_
  clear HP
  rintro e w1 ⟨M, rfl, hM, hd, hb1⟩
  have hMs := hd.lt
  have PB := Blk.new w1 #[.slice none 0 0] 74
  have hb2 : Below w1.heap.size w1 (w1.alloc (.cells #[.slice none 0 0] 74)) := (Below.refl _ _).alloc (Nat.le_refl _) _
  have D0 : DP w.heap.size M w1.heap.size w _ l0 false none 0 0 [] := ⟨hd.later hb2, PB, ROwn.zero _ _, hb1.trans (hb2.mono hb1.size), by simp, by omega⟩
  clear hd PB hb1 hb2
  go_wp2_with fail
  generalize w1.alloc _ = w2 at *
  refine (CN w2 M D0.d).mono ?_
  clear CN
  rintro e w3 ⟨rfl, hd, ht⟩
  have D1 := D0.read hMs hM hd ht
  clear D0 hd ht
  go_wp2
  go_loopw [7] (fun vi wr => ∃ (k : Nat) (r : List UInt8) (bad : Bool) (ao : Option Addr) (cap : Nat) (L : List Ent), vi = .int .i64 (k : Int) ∧ DP w.heap.size M w1.heap.size w wr r bad ao cap k L ∧ Hid (KI l0 a1 k r bad L))
    (fun vi _ => a1 - (intOf vi).toNat)
  case atStart => exact ⟨0, a3, bad1, none, 0, [], rfl, D1, HI0⟩
  case round =>
    obtain ⟨k, r, bad, ao, cap, L, rfl, D, HI⟩ := hrel
    have fb := D.d.bad
    by_cases hk : k < a1
    · have hki : (k : Int) < (a1 : Int) := by omega
      cases bad
      · have hki2 := hk
        have HN : Hid (L.length = k) := (unhide HI).1
        have Hlim : Hid (L.length ≤ 1000000) := Nat.le_trans (unhide HI).lim (by omega)
        have CT := fun w' h => dt_any w.heap.size M r false 8 w' h
        have lt := rdT_size r 8
        obtain ⟨t1, t2, t3, ht⟩ : ∃ t1 t2 t3, P1.rdT r 8 = (t1, t2, t3) := ⟨_, _, _, rfl⟩
        simp only [ht] at CT
        rw [ht] at lt
        simp only at lt
        obtain ⟨key, hkey⟩ : ∃ key, (⟨t1.toArray⟩ : ByteArray) = key := ⟨_, rfl⟩
        simp only [hkey] at CT
        have hks : key.size ≤ r.length := by rw [← hkey]; show t1.toArray.size ≤ _; rw [List.size_toArray]; exact lt
        have hrl := D.d.len
        have CK := fun w' => S5.refKey_any key w' (by omega)
        obtain ⟨kb, hkb⟩ : ∃ kb, S5.keyB key = kb := ⟨_, rfl⟩
        simp only [hkb] at CK
        have CC := fun w' h hS => dchain_any w.heap.size M (false || t2 != 0) t3 w' h hS
        have Ht := hide ht
        have Hkey := hide hkey
        have Hkb := hide hkb
        clear ht hkey hkb lt
        go_wp2_with fail
        refine (CT _ D.d).mono ?_
        clear CT
        rintro e w4 ⟨rfl, hd, ht⟩
        have D2 := D.read hMs hM hd ht
        clear D hd ht fb
        go_wp2_with fail
        refine (CK w4).mono ?_
        clear CK
        rintro e w4' ⟨rfl, rfl⟩
        have hz4 := D2.z
        go_wp2_with fail
        refine (CC _ D2.d (by omega)).mono ?_
        clear CC
        rintro e w5 ⟨co, cc, ⟨vs, o, i⟩, ok, r', bad', rfl, hv5, hd, ht, hR⟩
        simp only at hv5 hR ⊢
        have D3 := D2.read hMs hM hd ht
        have hv5 := hv5.mono hz4
        have HR := hide hR
        clear D2 hd ht hR
        obtain ⟨m, hm⟩ : ∃ m, vs.length = m := ⟨_, rfl⟩
        rw [hm]
        have Q := Blk.new w5 #[.slice co m cc, .bool o, .int .i64 i.txn.id, .int .i64 i.txn.ep, .string i.txn.anchor, .int .i64 i.txn.start.1, .int .i64 i.txn.start.2, .int .i64 i.seq, .int .i64 i.at_.1, .int .i64 i.at_.2, .string i.val, .bool i.gone] 61
        have hB : Below w5.heap.size w5 (w5.alloc (.cells #[.slice co m cc, .bool o, .int .i64 i.txn.id, .int .i64 i.txn.ep, .string i.txn.anchor, .int .i64 i.txn.start.1, .int .i64 i.txn.start.2, .int .i64 i.seq, .int .i64 i.at_.1, .int .i64 i.at_.2, .string i.val, .bool i.gone] 61)) := (Below.refl w5.heap.size w5).alloc (Nat.le_refl _) _
        have D6 := D3.later hB
        have HV := hide (hv5.later hB)
        clear D3 hv5 hB
        go_upto_region 10 with fail
        generalize w5.alloc _ = w6 at *
        have HD6 := hide D6
        have HB6 := hide D6.b
        have P6 := D6.p
        have P6_0 := P6.c 0; simp only [List.getElem?_cons_zero] at P6_0
        clear P6
        have HS : Hid (∀ (q : kb = false ∨ ok = false ∨ ∃ (h : 0 < k) (h' : k - 1 < L.length), S5.ltB L[k - 1].key key = false), prsS l0 = none) := fun q => (unhide HI).stop hki2 (unhide Ht) (unhide Hkey) (unhide HR) (by rw [unhide Hkb]; exact q)
        cases kb
        · go_wp2
          go_ret2
          exact ⟨(unhide HB6), .inl ⟨unhide HS (by simp), rfl⟩⟩
        · cases ok
          · go_wp2
            go_ret2
            exact ⟨(unhide HB6), .inl ⟨unhide HS (by simp), rfl⟩⟩
          · by_cases h0 : k = 0
            · have HO : Hid (∀ (h : 0 < k) (h' : k - 1 < L.length), S5.ltB L[k - 1].key key = true) := fun h => absurd h (by omega)
              have h0k : ¬ (0 : Int) < (k : Int) := by omega
              clear D6 P6_0 h0
              go_upto_region 12 with fail
              have E6 := unhide HD6
              have P6 := E6.p
              have P6a := fun o => (P6.alloc o).c 0
              have P6b := P6.c 0
              simp only [List.getElem?_cons_zero] at P6a P6b
              have Q6 := Q
              have Q6_0 := Q6.c 0; have Q6_1 := Q6.c 1; have Q6_2 := Q6.c 2; have Q6_3 := Q6.c 3; have Q6_4 := Q6.c 4; have Q6_5 := Q6.c 5; have Q6_6 := Q6.c 6; have Q6_7 := Q6.c 7; have Q6_8 := Q6.c 8; have Q6_9 := Q6.c 9; have Q6_10 := Q6.c 10; have Q6_11 := Q6.c 11; simp only [List.getElem?_cons_zero, List.getElem?_cons_succ] at Q6_0 Q6_1 Q6_2 Q6_3 Q6_4 Q6_5 Q6_6 Q6_7 Q6_8 Q6_9 Q6_10 Q6_11
              have HR6 := hide (E6.v.later ((Below.refl _ _).alloc (Nat.le_refl _) (.cells #[.string key, .slice co m cc, .bool o, .int .i64 i.txn.id, .int .i64 i.txn.ep, .string i.txn.anchor, .int .i64 i.txn.start.1, .int .i64 i.txn.start.2, .int .i64 i.seq, .int .i64 i.at_.1, .int .i64 i.at_.2, .string i.val, .bool i.gone] 81)).drew)
              have HV6 := hide ((unhide HV).later ((Below.refl _ _).alloc (Nat.le_refl _) (.cells #[.string key, .slice co m cc, .bool o, .int .i64 i.txn.id, .int .i64 i.txn.ep, .string i.txn.anchor, .int .i64 i.txn.start.1, .int .i64 i.txn.start.2, .int .i64 i.seq, .int .i64 i.at_.1, .int .i64 i.at_.2, .string i.val, .bool i.gone] 81)).drew)
              have h1 := one_cells w6 ⟨key, co, cc, ⟨vs, o, i⟩⟩
              simp only [hm] at h1
              have H1 : Hid (∀ j u, (rc ⟨key, co, cc, ⟨vs, o, i⟩⟩)[j]? = some u → (w6.alloc (.cells #[.string key, .slice co m cc, .bool o, .int .i64 i.txn.id, .int .i64 i.txn.ep, .string i.txn.anchor, .int .i64 i.txn.start.1, .int .i64 i.txn.start.2, .int .i64 i.seq, .int .i64 i.at_.1, .int .i64 i.at_.2, .string i.val, .bool i.gone] 81)).drew.cell? ((⟨w6.heap.size, 0, none⟩ : Addr).add j) = some u) := h1
              have Hz : Hid (w1.heap.size + 1 ≤ (w6.alloc (.cells #[.string key, .slice co m cc, .bool o, .int .i64 i.txn.id, .int .i64 i.txn.ep, .string i.txn.anchor, .int .i64 i.txn.start.1, .int .i64 i.txn.start.2, .int .i64 i.seq, .int .i64 i.at_.1, .int .i64 i.at_.2, .string i.val, .bool i.gone] 81)).drew.heap.size) := Nat.le_trans E6.z (by simp)
              have HE6 := hide E6
              have Hm := hide hm
              have HP7 : Hid (∀ w7, ((w6.alloc (.cells #[.string key, .slice co m cc, .bool o, .int .i64 i.txn.id, .int .i64 i.txn.ep, .string i.txn.anchor, .int .i64 i.txn.start.1, .int .i64 i.txn.start.2, .int .i64 i.seq, .int .i64 i.at_.1, .int .i64 i.at_.2, .string i.val, .bool i.gone] 81)).drew).grownBy w7 (Value.slice ao k cap).ownBlock → Blk w7 w1.heap.size [.slice ao k cap]) := fun w7 hg7 => (P6.later ((Below.refl _ _).alloc (Nat.le_refl _) (.cells #[.string key, .slice co m cc, .bool o, .int .i64 i.txn.id, .int .i64 i.txn.ep, .string i.txn.anchor, .int .i64 i.txn.start.1, .int .i64 i.txn.start.2, .int .i64 i.seq, .int .i64 i.at_.1, .int .i64 i.at_.2, .string i.val, .bool i.gone] 81)).drew).grownR hg7 (fun e => by
                have q := ((unhide HR6).lt w1.heap.size (by rw [unhide HN]; exact e.symm)).1
                omega)
              clear h1 E6 P6 Q6 hm
              go_region_law (go_must (refine step_append_r rfl (.tmp 66) (.tmp 70) rfl (w1.heap.size + 1) ao ⟨w6.heap.size, 0, none⟩ cap 1 k (k + 1) L ⟨key, co, cc, ⟨vs, o, i⟩⟩ rfl rfl (unhide Hz) (unhide HN) rfl (unhide HR6) (unhide H1) (unhide HV6) (unhide Hlim) ?_); intro eo f w7 ho7 hg7; have H7 := hide (And.intro ho7 hg7); have P7 := unhide HP7 _ hg7; have P7_0 := P7.c 0; have P7f := P7.f; simp only [List.getElem?_cons_zero] at P7_0; clear ho7 hg7 P7)
              all_goals
                obtain ⟨ho7, hg7⟩ := unhide H7
                have D8 := ((unhide HE6).later ((Below.refl _ _).alloc (Nat.le_refl _) (.cells #[.string key, .slice co m cc, .bool o, .int .i64 i.txn.id, .int .i64 i.txn.ep, .string i.txn.anchor, .int .i64 i.txn.start.1, .int .i64 i.txn.start.2, .int .i64 i.seq, .int .i64 i.at_.1, .int .i64 i.at_.2, .string i.val, .bool i.gone] 81)).drew).app hMs hM (unhide HN) hg7 ho7
                have e8 : (L ++ [(⟨key, co, cc, ⟨vs, o, i⟩⟩ : Ent)]).length = k + 1 := by rw [List.length_append, unhide HN]; rfl
                rw [e8] at D8
                have HD8 := hide D8
                have HI8 := hide ((unhide HI).step hki2 (unhide Ht) (unhide Hkey) (unhide HR) (unhide Hkb) (unhide HO) co cc)
                clear D8 e8 ho7 hg7 P7_0 P7f H7 HE6 H1 HR6 HV6 Hz P6a P6b Q6_0 Q6_1 Q6_2 Q6_3 Q6_4 Q6_5 Q6_6 Q6_7 Q6_8 Q6_9 Q6_10 Q6_11
                generalize w7.setCell _ _ = W8 at *
                go_wp2
                go_roundw
                case rel => exact ⟨k + 1, r', bad', eo, f, _, by go_num, unhide HD8, HI8⟩
                case measure => simp [intOf]; omega
            · obtain ⟨j, rfl⟩ : ∃ j, k = j + 1 := ⟨k - 1, by omega⟩
              have hj : j < L.length := by have := unhide HN; omega
              have h0k : (0 : Int) < ((j + 1 : Nat) : Int) := by omega
              obtain ⟨rb, ro, rfl, hrow⟩ := D6.v.at_ (n := 0) hj
              have R0 : w6.cell? ⟨rb, ro + j * 13, none⟩ = some (.string L[j].key) := hrow 0 (by omega)
              obtain ⟨lk, hlk⟩ : ∃ lk, L[j].key = lk := ⟨_, rfl⟩
              obtain ⟨lb, hlb⟩ : ∃ lb, S5.ltB lk key = lb := ⟨_, rfl⟩
              rw [hlk] at R0
              have hbl : Op.bytesLess lk.toList key.toList = lb := hlb
              have HL2 : Hid (S5.ltB L[j].key key = lb) := by unfold Hid; rw [hlk]; exact hlb
              have hsub : ((j + 1 : Nat) : Int) - 1 = (j : Int) := by omega
              have hjn := (unhide HD6).v.len
              clear hrow D6 h0 hlk hlb
              cases lb
              · go_wp2
                go_ret2
                exact ⟨(unhide HB6), .inl ⟨unhide HS (by right; right; exact ⟨by omega, hj, unhide HL2⟩), rfl⟩⟩
              · have HO : Hid (∀ (h : 0 < j + 1) (h' : j + 1 - 1 < L.length), S5.ltB L[j + 1 - 1].key key = true) := fun _ _ => unhide HL2
                go_upto_region 12 with fail
                have E6 := unhide HD6
                have P6 := E6.p
                have P6a := fun o => (P6.alloc o).c 0
                have P6b := P6.c 0
                simp only [List.getElem?_cons_zero] at P6a P6b
                have Q6 := Q
                have Q6_0 := Q6.c 0; have Q6_1 := Q6.c 1; have Q6_2 := Q6.c 2; have Q6_3 := Q6.c 3; have Q6_4 := Q6.c 4; have Q6_5 := Q6.c 5; have Q6_6 := Q6.c 6; have Q6_7 := Q6.c 7; have Q6_8 := Q6.c 8; have Q6_9 := Q6.c 9; have Q6_10 := Q6.c 10; have Q6_11 := Q6.c 11; simp only [List.getElem?_cons_zero, List.getElem?_cons_succ] at Q6_0 Q6_1 Q6_2 Q6_3 Q6_4 Q6_5 Q6_6 Q6_7 Q6_8 Q6_9 Q6_10 Q6_11
                have HR6 := hide (E6.v.later ((Below.refl _ _).alloc (Nat.le_refl _) (.cells #[.string key, .slice co m cc, .bool o, .int .i64 i.txn.id, .int .i64 i.txn.ep, .string i.txn.anchor, .int .i64 i.txn.start.1, .int .i64 i.txn.start.2, .int .i64 i.seq, .int .i64 i.at_.1, .int .i64 i.at_.2, .string i.val, .bool i.gone] 81)).drew)
                have HV6 := hide ((unhide HV).later ((Below.refl _ _).alloc (Nat.le_refl _) (.cells #[.string key, .slice co m cc, .bool o, .int .i64 i.txn.id, .int .i64 i.txn.ep, .string i.txn.anchor, .int .i64 i.txn.start.1, .int .i64 i.txn.start.2, .int .i64 i.seq, .int .i64 i.at_.1, .int .i64 i.at_.2, .string i.val, .bool i.gone] 81)).drew)
                have h1 := one_cells w6 ⟨key, co, cc, ⟨vs, o, i⟩⟩
                simp only [hm] at h1
                have H1 : Hid (∀ j u, (rc ⟨key, co, cc, ⟨vs, o, i⟩⟩)[j]? = some u → (w6.alloc (.cells #[.string key, .slice co m cc, .bool o, .int .i64 i.txn.id, .int .i64 i.txn.ep, .string i.txn.anchor, .int .i64 i.txn.start.1, .int .i64 i.txn.start.2, .int .i64 i.seq, .int .i64 i.at_.1, .int .i64 i.at_.2, .string i.val, .bool i.gone] 81)).drew.cell? ((⟨w6.heap.size, 0, none⟩ : Addr).add j) = some u) := h1
                have Hz : Hid (w1.heap.size + 1 ≤ (w6.alloc (.cells #[.string key, .slice co m cc, .bool o, .int .i64 i.txn.id, .int .i64 i.txn.ep, .string i.txn.anchor, .int .i64 i.txn.start.1, .int .i64 i.txn.start.2, .int .i64 i.seq, .int .i64 i.at_.1, .int .i64 i.at_.2, .string i.val, .bool i.gone] 81)).drew.heap.size) := Nat.le_trans E6.z (by simp)
                have HE6 := hide E6
                have Hm := hide hm
                have HP7 : Hid (∀ w7, ((w6.alloc (.cells #[.string key, .slice co m cc, .bool o, .int .i64 i.txn.id, .int .i64 i.txn.ep, .string i.txn.anchor, .int .i64 i.txn.start.1, .int .i64 i.txn.start.2, .int .i64 i.seq, .int .i64 i.at_.1, .int .i64 i.at_.2, .string i.val, .bool i.gone] 81)).drew).grownBy w7 (Value.slice (some ⟨rb, ro, none⟩) (j + 1) cap).ownBlock → Blk w7 w1.heap.size [.slice (some ⟨rb, ro, none⟩) (j + 1) cap]) := fun w7 hg7 => (P6.later ((Below.refl _ _).alloc (Nat.le_refl _) (.cells #[.string key, .slice co m cc, .bool o, .int .i64 i.txn.id, .int .i64 i.txn.ep, .string i.txn.anchor, .int .i64 i.txn.start.1, .int .i64 i.txn.start.2, .int .i64 i.seq, .int .i64 i.at_.1, .int .i64 i.at_.2, .string i.val, .bool i.gone] 81)).drew).grownR hg7 (fun e => by
                  have q := ((unhide HR6).lt w1.heap.size (by rw [unhide HN]; exact e.symm)).1
                  omega)
                clear h1 E6 P6 Q6 hm
                go_region_law (go_must (refine step_append_r rfl (.tmp 66) (.tmp 70) rfl (w1.heap.size + 1) (some ⟨rb, ro, none⟩) ⟨w6.heap.size, 0, none⟩ cap 1 (j + 1) ((j + 1) + 1) L ⟨key, co, cc, ⟨vs, o, i⟩⟩ rfl rfl (unhide Hz) (unhide HN) rfl (unhide HR6) (unhide H1) (unhide HV6) (unhide Hlim) ?_); intro eo f w7 ho7 hg7; have H7 := hide (And.intro ho7 hg7); have P7 := unhide HP7 _ hg7; have P7_0 := P7.c 0; have P7f := P7.f; simp only [List.getElem?_cons_zero] at P7_0; clear ho7 hg7 P7)
                all_goals
                  obtain ⟨ho7, hg7⟩ := unhide H7
                  have D8 := ((unhide HE6).later ((Below.refl _ _).alloc (Nat.le_refl _) (.cells #[.string key, .slice co m cc, .bool o, .int .i64 i.txn.id, .int .i64 i.txn.ep, .string i.txn.anchor, .int .i64 i.txn.start.1, .int .i64 i.txn.start.2, .int .i64 i.seq, .int .i64 i.at_.1, .int .i64 i.at_.2, .string i.val, .bool i.gone] 81)).drew).app hMs hM (unhide HN) hg7 ho7
                  have e8 : (L ++ [(⟨key, co, cc, ⟨vs, o, i⟩⟩ : Ent)]).length = (j + 1) + 1 := by rw [List.length_append, unhide HN]; rfl
                  rw [e8] at D8
                  have HD8 := hide D8
                  have HI8 := hide ((unhide HI).step hki2 (unhide Ht) (unhide Hkey) (unhide HR) (unhide Hkb) (unhide HO) co cc)
                  clear D8 e8 ho7 hg7 P7_0 P7f H7 HE6 H1 HR6 HV6 Hz P6a P6b Q6_0 Q6_1 Q6_2 Q6_3 Q6_4 Q6_5 Q6_6 Q6_7 Q6_8 Q6_9 Q6_10 Q6_11
                  generalize w7.setCell _ _ = W8 at *
                  go_wp2
                  go_roundw
                  case rel => exact ⟨(j + 1) + 1, r', bad', eo, f, _, by go_num, unhide HD8, HI8⟩
                  case measure => simp [intOf]; omega
      · have hLk := hide (unhide HI).1
        have hD := (unhide HI).done (.inr rfl)
        have CW := dend_any w.heap.size M r true wr D.d
        obtain ⟨q, hq⟩ : ∃ q, (!true && decide (r = [])) = q := ⟨_, rfl⟩
        rw [hq] at hD CW
        have HDD := hide D
        have HD := hide hD
        clear D hD hq HI
        go_wp2_with fail
        refine CW.mono ?_
        clear CW
        rintro e w2 ⟨rfl, hb2⟩
        have D2 := (unhide HDD).later hb2
        clear HDD hb2
        cases q
        · go_wp2
          go_ret2
          exact ⟨D2.b, .inl ⟨unhide HD, rfl⟩⟩
        · go_wp2
          go_ret2
          exact ⟨D2.b, .inr ⟨w1.heap.size, ao, cap, L, rfl, by rw [unhide hLk]; exact D2.p.c 0, D2.v.mono (by omega), unhide HD⟩⟩
    · have hki : ¬ (k : Int) < (a1 : Int) := by omega
      have hLk := hide (unhide HI).1
      have hD := (unhide HI).done (.inl (by omega))
      have CW := dend_any w.heap.size M r bad wr D.d
      obtain ⟨q, hq⟩ : ∃ q, (!bad && decide (r = [])) = q := ⟨_, rfl⟩
      rw [hq] at hD CW
      have HDD := hide D
      have HD := hide hD
      clear D hD hq HI
      go_wp2_with fail
      refine CW.mono ?_
      clear CW
      rintro e w2 ⟨rfl, hb2⟩
      have D2 := (unhide HDD).later hb2
      clear HDD hb2
      cases q
      · go_wp2
        go_ret2
        exact ⟨D2.b, .inl ⟨unhide HD, rfl⟩⟩
      · go_wp2
        go_ret2
        exact ⟨D2.b, .inr ⟨w1.heap.size, ao, cap, L, rfl, by rw [unhide hLk]; exact D2.p.c 0, D2.v.mono (by omega), unhide HD⟩⟩
end

end Go.Proofs.YtcdehnghggleoaaGreat
