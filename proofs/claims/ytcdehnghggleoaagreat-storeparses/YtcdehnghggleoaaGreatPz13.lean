/-
  The store's Parse. No law is proved here.
-/
import Derived.Test.YtcdehnghggleoaaGreatPz12
namespace Go.Proofs.YtcdehnghggleoaaGreat
open Go.RowKit Go.Maps
set_option linter.unusedVariables false

section
set_option maxRecDepth 100000
set_option maxHeartbeats 4000000

theorem parse_any (v : Value) (l0 : List UInt8) (w : World) (hs : P1.Sl w v l0) (hl : l0.length ≤ 1000) :
    Calls Tryz.prog 5 #[v] w fun e w' => Below w.heap.size w w' ∧ ((prsS l0 = none ∧ e = .returned (.tuple #[.pointer none, .int .i64 11])) ∨
      ∃ s b L N, e = .returned (.tuple #[.pointer (some ⟨s, 0, none⟩), .int .i64 0]) ∧ Sto w' s b L ∧ Room w' b L N ∧ N ≤ 2000 ∧ w.heap.size ≤ s ∧ w.heap.size ≤ b ∧ Far L w.heap.size ∧ prsS l0 = some (absL L)) := by
  have HP := hide (P1.open_any v l0 w hs (by omega))
  clear hs
  go_enter Tryz.func5, Tryz.ntmps5
  go_wp2_with fail
  refine (unhide HP).mono ?_
  clear HP
  rintro e w1 ⟨R, rfl, hR, hRd, hb1⟩
  have PB := Blk.new w1 #[.pointer (some ⟨R, 0, none⟩), .int .i64 0] 56
  have hb2 : Below w1.heap.size w1 (w1.alloc (.cells #[.pointer (some ⟨R, 0, none⟩), .int .i64 0] 56)) := (Below.refl _ _).alloc (Nat.le_refl _) _
  have hRlt := hRd.lt
  have hz1 := hb1.size
  have hp : Pt _ w1.heap.size R 0 l0 := ⟨PB, hRd.below hb2 (Nat.le_refl _), by omega⟩
  have hB2 := hb1.trans (hb2.mono hb1.size)
  have hz2 : (w1.alloc (.cells #[.pointer (some ⟨R, 0, none⟩), .int .i64 0] 56)).heap.size = w1.heap.size + 1 := by simp
  clear PB hb2 hRd hb1
  go_wp2_with fail
  generalize w1.alloc _ = w2 at *
  refine (new_any w2).mono ?_
  rintro e w3 ⟨s, b, rfl, hS, hsz, hbz, hb3⟩
  replace hp := hp.later hb3
  have hB3 := hide (hB2.trans (hb3.mono hB2.size))
  have hz3 := hb3.size
  have hPI := fun S => PI.start (S := S) hl hS
  have hs1 := hS.lta
  have hb1' := hS.ltb
  have CN := pnumber_any w1.heap.size R 0 l0 w3 hp (by omega)
  have hll := numP_len 0 l0
  have hqn := numP_le 0 l0
  generalize hP : w1.heap.size = P at *
  generalize numP 0 l0 = q at *
  obtain ⟨q1, q2, q3⟩ := q
  simp only at CN hPI hll hqn
  clear hp hB2 hb3 hS
  go_wp2_with fail
  refine CN.mono ?_
  clear CN
  rintro e w4 ⟨rfl, hp4, m4⟩
  have hB4 := hide ((unhide hB3).trans (m4.below (B := w.heap.size) (by omega) (by omega) (by omega)))
  have hI4 := (hPI w3.heap.size).ptm (by omega) (by omega) (by omega) (by omega) (by omega) (by omega) m4
  have hz4 := m4.size
  generalize hSS : w3.heap.size = S at *
  clear hPI m4 hB3
  go_wp2
  go_loopw [6, 7] (fun va vn wr => ∃ (k : Nat) (a : ByteArray) (er : Int) (l : List UInt8), va = .string a ∧ vn = .int .i64 (k : Int) ∧ Pt wr P R er l ∧ Hid (PI l0 wr s b S k a er l) ∧ Hid (Below w.heap.size w wr) ∧ S ≤ wr.heap.size ∧ k ≤ 1099511627776) (fun _ vn _ => (intOf vn).toNat)
  case atStart => exact ⟨q1, S5.emp, q2, q3, rfl, rfl, hp4, hI4, hB4, hz4, hqn⟩
  case round =>
    obtain ⟨k, a, er, l, rfl, rfl, hp, hI, HB, hz, hkn⟩ := hrel
    have Cp := hp.c
    have Cp_0 := Cp.c 0; have Cp_1 := Cp.c 1; simp only [List.getElem?_cons_zero, List.getElem?_cons_succ] at Cp_0 Cp_1
    clear Cp
    by_cases h0 : er = 0
    · subst h0
      by_cases hk : k = 0
      · subst hk
        have hll := (unhide hI).len
        have hD := (unhide hI).done (.inl rfl)
        have HE := P1.end_any R l wr hp.r (by omega)
        by_cases hl0 : l = []
        · subst hl0
          rw [if_pos ⟨rfl, rfl⟩] at hD
          rw [if_pos rfl] at HE
          have HD := hide hD
          clear hD
          go_wp2_with fail
          refine HE.mono ?_
          rintro e w5 ⟨rfl, rfl⟩
          go_wp2
          go_ret2
          obtain ⟨L, N, d1, d2, d3, d4, d5⟩ := unhide HD
          exact ⟨unhide HB, .inr ⟨s, b, L, N, rfl, d1, d2, d3, by omega, by omega, fun e he g o q => Nat.le_trans (by omega) (d4 e he g o q), d5⟩⟩
        · rw [if_neg (fun e => hl0 e.2)] at hD
          rw [if_neg hl0] at HE
          have HN := hide hD
          clear hD
          go_wp2_with fail
          refine HE.mono ?_
          rintro e w5 ⟨rfl, rfl⟩
          go_wp2
          go_ret2
          exact ⟨unhide HB, .inl ⟨unhide HN, rfl⟩⟩
      · obtain ⟨m, rfl⟩ : ∃ m, k = m + 1 := ⟨k - 1, by omega⟩
        have hll := (unhide hI).len
        have gz : (0 : Int) < ((m + 1 : Nat) : Int) := by omega
        have CT := ptext_any P R 0 l 8 wr hp (by omega)
        have lt := txtP_len 0 l 8
        obtain ⟨t1, t2, t3, ht⟩ : ∃ t1 t2 t3, txtP 0 l 8 = (t1, t2, t3) := ⟨_, _, _, rfl⟩
        rw [ht] at CT lt
        simp only at CT lt
        obtain ⟨key, hkey⟩ : ∃ key, (⟨t1.toArray⟩ : ByteArray) = key := ⟨_, rfl⟩
        rw [hkey] at CT
        have CC := fun w' h => pchain_any P R t2 t3 w' h (by omega)
        obtain ⟨c1, c2, c3, hc⟩ : ∃ c1 c2 c3, chnP t2 t3 = (c1, c2, c3) := ⟨_, _, _, rfl⟩
        simp only [hc] at CC
        have Hht := hide ht
        have Hhc := hide hc
        have Hkey := hide hkey
        clear ht hc hkey hk hp
        go_wp2_with fail
        refine CT.mono ?_
        clear CT
        rintro e w5 ⟨rfl, h5, m5⟩
        have hI5 := (unhide hI).ptm (by omega) (by omega) (by omega) (by omega) (by omega) (by omega) m5
        have hB5 := (unhide HB).trans (m5.below (by omega) (by omega) (unhide HB).size)
        have hz5 := Nat.le_trans hz m5.size
        clear m5 hI HB Cp_0 Cp_1
        go_wp2_with fail
        refine (CC w5 h5).mono ?_
        clear CC h5
        rintro e w6 ⟨ao, cap, ⟨vs, o, i⟩, hcc, rfl, hv6, h6, m6⟩
        subst hcc
        simp only at hv6 ⊢
        obtain ⟨n, hn⟩ : ∃ n, vs.length = n := ⟨_, rfl⟩
        rw [hn]
        have hvn := hv6.vs.len
        have HR2 := fun w' h => right_c ao cap vs o i w' h
        rw [hn] at HR2 hvn
        have hI6 := hI5.ptm (by omega) (by omega) (by omega) (by omega) (by omega) (by omega) m6
        have hB6 := hB5.trans (m6.below (by omega) (by omega) hB5.size)
        have hz6 := Nat.le_trans hz5 m6.size
        have h56 := m6.size
        have HE2 := fun w' => empty_any ao n cap o i w' (by omega)
        clear hI5 hB5 m6
        have Q := Blk.new w6 #[.slice ao n cap, .bool o, .int .i64 i.txn.id, .int .i64 i.txn.ep, .string i.txn.anchor, .int .i64 i.txn.start.1, .int .i64 i.txn.start.2, .int .i64 i.seq, .int .i64 i.at_.1, .int .i64 i.at_.2, .string i.val, .bool i.gone] 61
        have hB : Below w6.heap.size w6 (w6.alloc (.cells #[.slice ao n cap, .bool o, .int .i64 i.txn.id, .int .i64 i.txn.ep, .string i.txn.anchor, .int .i64 i.txn.start.1, .int .i64 i.txn.start.2, .int .i64 i.seq, .int .i64 i.at_.1, .int .i64 i.at_.2, .string i.val, .bool i.gone] 61)) := (Below.refl w6.heap.size w6).alloc (Nat.le_refl _) _
        have h7 := h6.later hB
        have hv7 := hv6.later hB
        have hI7 := hI6.later hB
        have hB7 := hB6.trans (hB.mono hB6.size)
        have hz7 := Nat.le_trans hz6 hB.size
        clear h6 hv6 hI6 hB6 hB
        go_wp2_with fail
        generalize w6.alloc _ = w7 at *
        refine (S5.key_any key w7).mono ?_
        rintro e w7' ⟨rfl, rfl⟩
        obtain ⟨kb, hkb⟩ : ∃ kb, S5.keyB key = kb := ⟨_, rfl⟩
        obtain ⟨lb, hlb⟩ : ∃ lb, (!Op.bytesLess key.toList a.toList && !key.toList == a.toList) = lb := ⟨_, rfl⟩
        obtain ⟨rb, hrb⟩ : ∃ rb, rightCB ⟨vs, o, i⟩ = rb := ⟨_, rfl⟩
        obtain ⟨em, hem⟩ : ∃ em, (decide (n = 0) && !o) = em := ⟨_, rfl⟩
        have Hem : Hid (emC ⟨vs, o, i⟩ = em) := by
          unfold Hid emC
          rw [← hem, ← hn]
          cases vs <;> rfl
        rw [hkb]
        simp only [hrb] at HR2
        simp only [hem] at HE2
        have Hkb := hide hkb
        have Hrb := hide hrb
        have Hlb : Hid (S5.ltB a key = lb) := by unfold Hid; rw [gt_ltB]; exact hlb
        clear hkb hrb hem
        cases kb
        · go_wp2_with fail
          refine (pmust_any P R c2 c3 false _ h7).mono ?_
          rintro e w8 ⟨rfl, h8, m8⟩
          generalize he3 : (if false = true then c2 else (11 : Int)) = e3 at h8
          have He3 := hide he3
          have Q8 := Q.ptm (by omega) (by omega) m8
          have hv8 := VOwn.ptm hv7 (by omega) (by omega) m8
          have hI8 := hI7.ptm (by omega) (by omega) (by omega) (by omega) (by omega) (by omega) m8
          have hB8 := hB7.trans (m8.below (by omega) (by omega) hB7.size)
          have hz8 := Nat.le_trans hz7 m8.size
          have Q8_0 := Q8.c 0; have Q8_1 := Q8.c 1; have Q8_2 := Q8.c 2; have Q8_3 := Q8.c 3; have Q8_4 := Q8.c 4; have Q8_5 := Q8.c 5; have Q8_6 := Q8.c 6; have Q8_7 := Q8.c 7; have Q8_8 := Q8.c 8; have Q8_9 := Q8.c 9; have Q8_10 := Q8.c 10; have Q8_11 := Q8.c 11; simp only [List.getElem?_cons_zero, List.getElem?_cons_succ] at Q8_0 Q8_1 Q8_2 Q8_3 Q8_4 Q8_5 Q8_6 Q8_7 Q8_8 Q8_9 Q8_10 Q8_11
          have Q8f := Q8.f
          have HH := hide (And.intro h8 (And.intro Q8 (And.intro hv8 (And.intro hI8 (And.intro hB8 hz8)))))
          have CR := hide (HR2 w8 hv8.vs)
          clear m8 he3 h8 Q8 hv8 hI8 hB8 hz8
          go_wp2_with fail
          refine (unhide CR).mono ?_
          clear CR
          rintro e w9 ⟨rfl, hb9⟩
          obtain ⟨h8, Q8, hv8, hI8, hB8, hz8⟩ := unhide HH
          have h9 := h8.later hb9
          have Q9 := Q8.later hb9
          have hv9 := hv8.later hb9
          have hI9 := hI8.later hb9
          have hB9 := hB8.trans (hb9.mono hB8.size)
          have hz9 := Nat.le_trans hz8 hb9.size
          clear HH h8 Q8 hv8 hI8 hB8 hz8 Q8_0 Q8_1 Q8_2 Q8_3 Q8_4 Q8_5 Q8_6 Q8_7 Q8_8 Q8_9 Q8_10 Q8_11 Q8f hb9
          cases rb
          · go_wp2_with fail
            refine (pmust_any P R e3 c3 false _ h9).mono ?_
            rintro e w11 ⟨rfl, h11, m11⟩
            generalize he4 : (if false = true then e3 else (11 : Int)) = e4 at h11
            have He4 : Hid (e4 = if (rightCB ⟨vs, o, i⟩ && !emC ⟨vs, o, i⟩) = true then (if (S5.keyB key && S5.ltB a key) = true then c2 else 11) else 11) := by unfold Hid; rw [unhide Hrb, unhide Hem, unhide Hkb, unhide Hlb, ← he4, ← unhide He3]; simp
            have Q11 := Q9.ptm (by omega) (by omega) m11
            have hv11 := VOwn.ptm hv9 (by omega) (by omega) m11
            have hI11 := hI9.ptm (by omega) (by omega) (by omega) (by omega) (by omega) (by omega) m11
            have hB11 := hB9.trans (m11.below (by omega) (by omega) hB9.size)
            have hz11 := Nat.le_trans hz9 m11.size
            clear m11 he4 h9 Q9 hv9 hI9 hB9 hz9 He3
            go_upto_region 10 with fail
            have h11d := h11.later (Below.refl _ _).drew
            have hI11d := hI11.later (Below.refl _ _).drew
            have Q11d := Q11.later (Below.refl _ _).drew
            have hB11d := hB11.trans ((Below.refl w11.heap.size w11).drew.mono hB11.size)
            obtain ⟨hcx, hnc⟩ := hI11d.cell
            obtain ⟨w9, hrun, hI9, hg9, hs9⟩ := PI.put hI11d (unhide Hht) (unhide Hkey) (unhide Hhc) hn (hv11.later (Below.refl _ _).drew).vs (fun g o e => Nat.le_trans hz5 ((hv11.lt g (by rw [hn, e]; rfl)).1)) (e4 := e4) (unhide He4)
            have P9 := h11d.mapped hnc (by omega) (by omega) hg9
            have B9 := hB11d.grown hg9 hB11d.size (fun k e => by cases e; omega)
            have hq6 : w6.heap.size ≠ b := by omega
            have Q9 : Blk w9 w6.heap.size [.slice ao n cap, .bool o, .int .i64 i.txn.id, .int .i64 i.txn.ep, .string i.txn.anchor, .int .i64 i.txn.start.1, .int .i64 i.txn.start.2, .int .i64 i.seq, .int .i64 i.at_.1, .int .i64 i.at_.2, .string i.val, .bool i.gone] := ⟨fun j => (World.cell?_of_block (a := ⟨w6.heap.size, j, none⟩) (hg9.block _ Q11d.lt (fun e => hq6 (by injection e)))).trans (Q11d.c j), fun j => (World.frozen?_of_block (a := ⟨w6.heap.size, j, none⟩) (hg9.block _ Q11d.lt (fun e => hq6 (by injection e)))).trans (Q11d.f j), Nat.lt_of_lt_of_le Q11d.lt hg9.size⟩
            have HR := hide (And.intro P9 (And.intro hI9 (And.intro B9 (Nat.le_trans hz11 hg9.size))))
            refine wp_region_held_drew (S := fun y => y.cell? ⟨s, 0, none⟩ = some (.map (some b)) ∧ Blk y w6.heap.size [.slice ao n cap, .bool o, .int .i64 i.txn.id, .int .i64 i.txn.ep, .string i.txn.anchor, .int .i64 i.txn.start.1, .int .i64 i.txn.start.2, .int .i64 i.seq, .int .i64 i.at_.1, .int .i64 i.at_.2, .string i.val, .bool i.gone]) (by kernel_rfl) ⟨hcx, Q11d⟩ (fun hS => ?_)
            clear hcx P9 hI9 B9
            refine held_take 0 50 rfl rfl (by kernel_rfl) (by kernel_rfl) (by kernel_rfl) (fun _ _ _ h => h) (by rfl) hS (v := ?_) ?_ ?_
            rotate_left
            · intro y hSy
              skip
              clear hSy
              go_simp
              with_reducible rfl
            simp only [Act.put, List.setIfInBounds_toArray, List.set_cons_zero, List.set_cons_succ]
            refine held_take 1 51 rfl rfl (by kernel_rfl) (by kernel_rfl) (by kernel_rfl) (fun _ _ _ h => h) (by rfl) hS (v := ?_) ?_ ?_
            rotate_left
            · intro y hSy
              skip
              clear hSy
              go_simp
              with_reducible rfl
            simp only [Act.put, List.setIfInBounds_toArray, List.set_cons_zero, List.set_cons_succ]
            refine held_take 2 52 rfl rfl (by kernel_rfl) (by kernel_rfl) (by kernel_rfl) (fun _ _ _ h => h) (by rfl) hS (v := ?_) ?_ ?_
            rotate_left
            · intro y hSy
              skip
              clear hSy
              go_simp
              with_reducible rfl
            simp only [Act.put, List.setIfInBounds_toArray, List.set_cons_zero, List.set_cons_succ]
            refine held_take 4 54 rfl rfl (by kernel_rfl) (by kernel_rfl) (by kernel_rfl) (fun _ _ _ h => h) (by rfl) hS (v := ?_) ?_ ?_
            rotate_left
            · intro y hSy
              skip
              clear hSy
              go_simp
              with_reducible rfl
            simp only [Act.put, List.setIfInBounds_toArray, List.set_cons_zero, List.set_cons_succ]
            refine held_take 3 53 rfl rfl (by kernel_rfl) (by kernel_rfl) (by kernel_rfl) (fun _ _ _ h => h) (by rfl) hS (v := ?_) ?_ ?_
            rotate_left
            · intro y hSy
              have z := hSy.1
              clear hSy
              go_simp
              with_reducible rfl
            simp only [Act.put, List.setIfInBounds_toArray, List.set_cons_zero, List.set_cons_succ]
            refine held_take 5 55 rfl rfl (by kernel_rfl) (by kernel_rfl) (by kernel_rfl) (fun _ _ _ h => h) (by rfl) hS (v := ?_) ?_ ?_
            rotate_left
            · intro y hSy
              have zz := hSy.2; have zz_0 := zz.c 0; have zz_1 := zz.c 1; have zz_2 := zz.c 2; have zz_3 := zz.c 3; have zz_4 := zz.c 4; have zz_5 := zz.c 5; have zz_6 := zz.c 6; have zz_7 := zz.c 7; have zz_8 := zz.c 8; have zz_9 := zz.c 9; have zz_10 := zz.c 10; have zz_11 := zz.c 11; simp only [List.getElem?_cons_zero, List.getElem?_cons_succ] at zz_0 zz_1 zz_2 zz_3 zz_4 zz_5 zz_6 zz_7 zz_8 zz_9 zz_10 zz_11
              clear hSy
              go_simp
              with_reducible rfl
            simp only [Act.put, List.setIfInBounds_toArray, List.set_cons_zero, List.set_cons_succ]
            refine wpAnyH_ready (rs := [6]) (by kernel_rfl) (by simp) ?_
            refine AllReadyH.cons rfl (fun K hK => ?_) AllReadyH.nil
            go_simp
            refine hK.out _ _ ⟨hs9, Q9⟩ (fun _ => ?_)
            clear hK K hrun
            refine wpAnyH_done (by kernel_rfl) ?_ _
            clear hs9 Q9 hg9 h11d hI11d Q11d hB11d
            go_wp2
            go_roundw
            case rel =>
              obtain ⟨P9, hI9, B9, z9⟩ := unhide HR
              exact ⟨m, key, e4, c3, rfl, by go_num, P9, hI9, B9, z9, by omega⟩
            case measure => simp [intOf]
          · have Q9_0 := Q9.c 0; have Q9_1 := Q9.c 1; have Q9_2 := Q9.c 2; have Q9_3 := Q9.c 3; have Q9_4 := Q9.c 4; have Q9_5 := Q9.c 5; have Q9_6 := Q9.c 6; have Q9_7 := Q9.c 7; have Q9_8 := Q9.c 8; have Q9_9 := Q9.c 9; have Q9_10 := Q9.c 10; have Q9_11 := Q9.c 11; simp only [List.getElem?_cons_zero, List.getElem?_cons_succ] at Q9_0 Q9_1 Q9_2 Q9_3 Q9_4 Q9_5 Q9_6 Q9_7 Q9_8 Q9_9 Q9_10 Q9_11
            have Q9f := Q9.f
            have HH := hide (And.intro h9 (And.intro Q9 (And.intro hv9 (And.intro hI9 (And.intro hB9 hz9)))))
            clear h9 Q9 hv9 hI9 hB9 hz9
            go_wp2_with fail
            refine (HE2 w9).mono ?_
            rintro e w10 ⟨rfl, hb10⟩
            obtain ⟨h8, Q8, hv8, hI8, hB8, hz8⟩ := unhide HH
            have h9 := h8.later hb10
            have Q9 := Q8.later hb10
            have hv9 := hv8.later hb10
            have hI9 := hI8.later hb10
            have hB9 := hB8.trans (hb10.mono hB8.size)
            have hz9 := Nat.le_trans hz8 hb10.size
            clear HH h8 Q8 hv8 hI8 hB8 hz8 Q9_0 Q9_1 Q9_2 Q9_3 Q9_4 Q9_5 Q9_6 Q9_7 Q9_8 Q9_9 Q9_10 Q9_11 Q9f hb10
            go_wp2_with fail
            refine (pmust_any P R e3 c3 (!em) _ h9).mono ?_
            rintro e w11 ⟨rfl, h11, m11⟩
            generalize he4 : (if (!em) = true then e3 else (11 : Int)) = e4 at h11
            have He4 : Hid (e4 = if (rightCB ⟨vs, o, i⟩ && !emC ⟨vs, o, i⟩) = true then (if (S5.keyB key && S5.ltB a key) = true then c2 else 11) else 11) := by unfold Hid; rw [unhide Hrb, unhide Hem, unhide Hkb, unhide Hlb, ← he4, ← unhide He3]; simp
            have Q11 := Q9.ptm (by omega) (by omega) m11
            have hv11 := VOwn.ptm hv9 (by omega) (by omega) m11
            have hI11 := hI9.ptm (by omega) (by omega) (by omega) (by omega) (by omega) (by omega) m11
            have hB11 := hB9.trans (m11.below (by omega) (by omega) hB9.size)
            have hz11 := Nat.le_trans hz9 m11.size
            clear m11 he4 h9 Q9 hv9 hI9 hB9 hz9 He3
            go_upto_region 10 with fail
            have h11d := h11.later (Below.refl _ _).drew
            have hI11d := hI11.later (Below.refl _ _).drew
            have Q11d := Q11.later (Below.refl _ _).drew
            have hB11d := hB11.trans ((Below.refl w11.heap.size w11).drew.mono hB11.size)
            obtain ⟨hcx, hnc⟩ := hI11d.cell
            obtain ⟨w9, hrun, hI9, hg9, hs9⟩ := PI.put hI11d (unhide Hht) (unhide Hkey) (unhide Hhc) hn (hv11.later (Below.refl _ _).drew).vs (fun g o e => Nat.le_trans hz5 ((hv11.lt g (by rw [hn, e]; rfl)).1)) (e4 := e4) (unhide He4)
            have P9 := h11d.mapped hnc (by omega) (by omega) hg9
            have B9 := hB11d.grown hg9 hB11d.size (fun k e => by cases e; omega)
            have hq6 : w6.heap.size ≠ b := by omega
            have Q9 : Blk w9 w6.heap.size [.slice ao n cap, .bool o, .int .i64 i.txn.id, .int .i64 i.txn.ep, .string i.txn.anchor, .int .i64 i.txn.start.1, .int .i64 i.txn.start.2, .int .i64 i.seq, .int .i64 i.at_.1, .int .i64 i.at_.2, .string i.val, .bool i.gone] := ⟨fun j => (World.cell?_of_block (a := ⟨w6.heap.size, j, none⟩) (hg9.block _ Q11d.lt (fun e => hq6 (by injection e)))).trans (Q11d.c j), fun j => (World.frozen?_of_block (a := ⟨w6.heap.size, j, none⟩) (hg9.block _ Q11d.lt (fun e => hq6 (by injection e)))).trans (Q11d.f j), Nat.lt_of_lt_of_le Q11d.lt hg9.size⟩
            have HR := hide (And.intro P9 (And.intro hI9 (And.intro B9 (Nat.le_trans hz11 hg9.size))))
            refine wp_region_held_drew (S := fun y => y.cell? ⟨s, 0, none⟩ = some (.map (some b)) ∧ Blk y w6.heap.size [.slice ao n cap, .bool o, .int .i64 i.txn.id, .int .i64 i.txn.ep, .string i.txn.anchor, .int .i64 i.txn.start.1, .int .i64 i.txn.start.2, .int .i64 i.seq, .int .i64 i.at_.1, .int .i64 i.at_.2, .string i.val, .bool i.gone]) (by kernel_rfl) ⟨hcx, Q11d⟩ (fun hS => ?_)
            clear hcx P9 hI9 B9
            refine held_take 0 50 rfl rfl (by kernel_rfl) (by kernel_rfl) (by kernel_rfl) (fun _ _ _ h => h) (by rfl) hS (v := ?_) ?_ ?_
            rotate_left
            · intro y hSy
              skip
              clear hSy
              go_simp
              with_reducible rfl
            simp only [Act.put, List.setIfInBounds_toArray, List.set_cons_zero, List.set_cons_succ]
            refine held_take 1 51 rfl rfl (by kernel_rfl) (by kernel_rfl) (by kernel_rfl) (fun _ _ _ h => h) (by rfl) hS (v := ?_) ?_ ?_
            rotate_left
            · intro y hSy
              skip
              clear hSy
              go_simp
              with_reducible rfl
            simp only [Act.put, List.setIfInBounds_toArray, List.set_cons_zero, List.set_cons_succ]
            refine held_take 2 52 rfl rfl (by kernel_rfl) (by kernel_rfl) (by kernel_rfl) (fun _ _ _ h => h) (by rfl) hS (v := ?_) ?_ ?_
            rotate_left
            · intro y hSy
              skip
              clear hSy
              go_simp
              with_reducible rfl
            simp only [Act.put, List.setIfInBounds_toArray, List.set_cons_zero, List.set_cons_succ]
            refine held_take 4 54 rfl rfl (by kernel_rfl) (by kernel_rfl) (by kernel_rfl) (fun _ _ _ h => h) (by rfl) hS (v := ?_) ?_ ?_
            rotate_left
            · intro y hSy
              skip
              clear hSy
              go_simp
              with_reducible rfl
            simp only [Act.put, List.setIfInBounds_toArray, List.set_cons_zero, List.set_cons_succ]
            refine held_take 3 53 rfl rfl (by kernel_rfl) (by kernel_rfl) (by kernel_rfl) (fun _ _ _ h => h) (by rfl) hS (v := ?_) ?_ ?_
            rotate_left
            · intro y hSy
              have z := hSy.1
              clear hSy
              go_simp
              with_reducible rfl
            simp only [Act.put, List.setIfInBounds_toArray, List.set_cons_zero, List.set_cons_succ]
            refine held_take 5 55 rfl rfl (by kernel_rfl) (by kernel_rfl) (by kernel_rfl) (fun _ _ _ h => h) (by rfl) hS (v := ?_) ?_ ?_
            rotate_left
            · intro y hSy
              have zz := hSy.2; have zz_0 := zz.c 0; have zz_1 := zz.c 1; have zz_2 := zz.c 2; have zz_3 := zz.c 3; have zz_4 := zz.c 4; have zz_5 := zz.c 5; have zz_6 := zz.c 6; have zz_7 := zz.c 7; have zz_8 := zz.c 8; have zz_9 := zz.c 9; have zz_10 := zz.c 10; have zz_11 := zz.c 11; simp only [List.getElem?_cons_zero, List.getElem?_cons_succ] at zz_0 zz_1 zz_2 zz_3 zz_4 zz_5 zz_6 zz_7 zz_8 zz_9 zz_10 zz_11
              clear hSy
              go_simp
              with_reducible rfl
            simp only [Act.put, List.setIfInBounds_toArray, List.set_cons_zero, List.set_cons_succ]
            refine wpAnyH_ready (rs := [6]) (by kernel_rfl) (by simp) ?_
            refine AllReadyH.cons rfl (fun K hK => ?_) AllReadyH.nil
            go_simp
            refine hK.out _ _ ⟨hs9, Q9⟩ (fun _ => ?_)
            clear hK K hrun
            refine wpAnyH_done (by kernel_rfl) ?_ _
            clear hs9 Q9 hg9 h11d hI11d Q11d hB11d
            go_wp2
            go_roundw
            case rel =>
              obtain ⟨P9, hI9, B9, z9⟩ := unhide HR
              exact ⟨m, key, e4, c3, rfl, by go_num, P9, hI9, B9, z9, by omega⟩
            case measure => simp [intOf]
        · go_wp2_with fail
          refine (pmust_any P R c2 c3 lb _ h7).mono ?_
          rintro e w8 ⟨rfl, h8, m8⟩
          generalize he3 : (if lb = true then c2 else (11 : Int)) = e3 at h8
          have He3 := hide he3
          have Q8 := Q.ptm (by omega) (by omega) m8
          have hv8 := VOwn.ptm hv7 (by omega) (by omega) m8
          have hI8 := hI7.ptm (by omega) (by omega) (by omega) (by omega) (by omega) (by omega) m8
          have hB8 := hB7.trans (m8.below (by omega) (by omega) hB7.size)
          have hz8 := Nat.le_trans hz7 m8.size
          have Q8_0 := Q8.c 0; have Q8_1 := Q8.c 1; have Q8_2 := Q8.c 2; have Q8_3 := Q8.c 3; have Q8_4 := Q8.c 4; have Q8_5 := Q8.c 5; have Q8_6 := Q8.c 6; have Q8_7 := Q8.c 7; have Q8_8 := Q8.c 8; have Q8_9 := Q8.c 9; have Q8_10 := Q8.c 10; have Q8_11 := Q8.c 11; simp only [List.getElem?_cons_zero, List.getElem?_cons_succ] at Q8_0 Q8_1 Q8_2 Q8_3 Q8_4 Q8_5 Q8_6 Q8_7 Q8_8 Q8_9 Q8_10 Q8_11
          have Q8f := Q8.f
          have HH := hide (And.intro h8 (And.intro Q8 (And.intro hv8 (And.intro hI8 (And.intro hB8 hz8)))))
          have CR := hide (HR2 w8 hv8.vs)
          clear m8 he3 h8 Q8 hv8 hI8 hB8 hz8
          go_wp2_with fail
          refine (unhide CR).mono ?_
          clear CR
          rintro e w9 ⟨rfl, hb9⟩
          obtain ⟨h8, Q8, hv8, hI8, hB8, hz8⟩ := unhide HH
          have h9 := h8.later hb9
          have Q9 := Q8.later hb9
          have hv9 := hv8.later hb9
          have hI9 := hI8.later hb9
          have hB9 := hB8.trans (hb9.mono hB8.size)
          have hz9 := Nat.le_trans hz8 hb9.size
          clear HH h8 Q8 hv8 hI8 hB8 hz8 Q8_0 Q8_1 Q8_2 Q8_3 Q8_4 Q8_5 Q8_6 Q8_7 Q8_8 Q8_9 Q8_10 Q8_11 Q8f hb9
          cases rb
          · go_wp2_with fail
            refine (pmust_any P R e3 c3 false _ h9).mono ?_
            rintro e w11 ⟨rfl, h11, m11⟩
            generalize he4 : (if false = true then e3 else (11 : Int)) = e4 at h11
            have He4 : Hid (e4 = if (rightCB ⟨vs, o, i⟩ && !emC ⟨vs, o, i⟩) = true then (if (S5.keyB key && S5.ltB a key) = true then c2 else 11) else 11) := by unfold Hid; rw [unhide Hrb, unhide Hem, unhide Hkb, unhide Hlb, ← he4, ← unhide He3]; simp
            have Q11 := Q9.ptm (by omega) (by omega) m11
            have hv11 := VOwn.ptm hv9 (by omega) (by omega) m11
            have hI11 := hI9.ptm (by omega) (by omega) (by omega) (by omega) (by omega) (by omega) m11
            have hB11 := hB9.trans (m11.below (by omega) (by omega) hB9.size)
            have hz11 := Nat.le_trans hz9 m11.size
            clear m11 he4 h9 Q9 hv9 hI9 hB9 hz9 He3
            go_upto_region 10 with fail
            have h11d := h11.later (Below.refl _ _).drew
            have hI11d := hI11.later (Below.refl _ _).drew
            have Q11d := Q11.later (Below.refl _ _).drew
            have hB11d := hB11.trans ((Below.refl w11.heap.size w11).drew.mono hB11.size)
            obtain ⟨hcx, hnc⟩ := hI11d.cell
            obtain ⟨w9, hrun, hI9, hg9, hs9⟩ := PI.put hI11d (unhide Hht) (unhide Hkey) (unhide Hhc) hn (hv11.later (Below.refl _ _).drew).vs (fun g o e => Nat.le_trans hz5 ((hv11.lt g (by rw [hn, e]; rfl)).1)) (e4 := e4) (unhide He4)
            have P9 := h11d.mapped hnc (by omega) (by omega) hg9
            have B9 := hB11d.grown hg9 hB11d.size (fun k e => by cases e; omega)
            have hq6 : w6.heap.size ≠ b := by omega
            have Q9 : Blk w9 w6.heap.size [.slice ao n cap, .bool o, .int .i64 i.txn.id, .int .i64 i.txn.ep, .string i.txn.anchor, .int .i64 i.txn.start.1, .int .i64 i.txn.start.2, .int .i64 i.seq, .int .i64 i.at_.1, .int .i64 i.at_.2, .string i.val, .bool i.gone] := ⟨fun j => (World.cell?_of_block (a := ⟨w6.heap.size, j, none⟩) (hg9.block _ Q11d.lt (fun e => hq6 (by injection e)))).trans (Q11d.c j), fun j => (World.frozen?_of_block (a := ⟨w6.heap.size, j, none⟩) (hg9.block _ Q11d.lt (fun e => hq6 (by injection e)))).trans (Q11d.f j), Nat.lt_of_lt_of_le Q11d.lt hg9.size⟩
            have HR := hide (And.intro P9 (And.intro hI9 (And.intro B9 (Nat.le_trans hz11 hg9.size))))
            refine wp_region_held_drew (S := fun y => y.cell? ⟨s, 0, none⟩ = some (.map (some b)) ∧ Blk y w6.heap.size [.slice ao n cap, .bool o, .int .i64 i.txn.id, .int .i64 i.txn.ep, .string i.txn.anchor, .int .i64 i.txn.start.1, .int .i64 i.txn.start.2, .int .i64 i.seq, .int .i64 i.at_.1, .int .i64 i.at_.2, .string i.val, .bool i.gone]) (by kernel_rfl) ⟨hcx, Q11d⟩ (fun hS => ?_)
            clear hcx P9 hI9 B9
            refine held_take 0 50 rfl rfl (by kernel_rfl) (by kernel_rfl) (by kernel_rfl) (fun _ _ _ h => h) (by rfl) hS (v := ?_) ?_ ?_
            rotate_left
            · intro y hSy
              skip
              clear hSy
              go_simp
              with_reducible rfl
            simp only [Act.put, List.setIfInBounds_toArray, List.set_cons_zero, List.set_cons_succ]
            refine held_take 1 51 rfl rfl (by kernel_rfl) (by kernel_rfl) (by kernel_rfl) (fun _ _ _ h => h) (by rfl) hS (v := ?_) ?_ ?_
            rotate_left
            · intro y hSy
              skip
              clear hSy
              go_simp
              with_reducible rfl
            simp only [Act.put, List.setIfInBounds_toArray, List.set_cons_zero, List.set_cons_succ]
            refine held_take 2 52 rfl rfl (by kernel_rfl) (by kernel_rfl) (by kernel_rfl) (fun _ _ _ h => h) (by rfl) hS (v := ?_) ?_ ?_
            rotate_left
            · intro y hSy
              skip
              clear hSy
              go_simp
              with_reducible rfl
            simp only [Act.put, List.setIfInBounds_toArray, List.set_cons_zero, List.set_cons_succ]
            refine held_take 4 54 rfl rfl (by kernel_rfl) (by kernel_rfl) (by kernel_rfl) (fun _ _ _ h => h) (by rfl) hS (v := ?_) ?_ ?_
            rotate_left
            · intro y hSy
              skip
              clear hSy
              go_simp
              with_reducible rfl
            simp only [Act.put, List.setIfInBounds_toArray, List.set_cons_zero, List.set_cons_succ]
            refine held_take 3 53 rfl rfl (by kernel_rfl) (by kernel_rfl) (by kernel_rfl) (fun _ _ _ h => h) (by rfl) hS (v := ?_) ?_ ?_
            rotate_left
            · intro y hSy
              have z := hSy.1
              clear hSy
              go_simp
              with_reducible rfl
            simp only [Act.put, List.setIfInBounds_toArray, List.set_cons_zero, List.set_cons_succ]
            refine held_take 5 55 rfl rfl (by kernel_rfl) (by kernel_rfl) (by kernel_rfl) (fun _ _ _ h => h) (by rfl) hS (v := ?_) ?_ ?_
            rotate_left
            · intro y hSy
              have zz := hSy.2; have zz_0 := zz.c 0; have zz_1 := zz.c 1; have zz_2 := zz.c 2; have zz_3 := zz.c 3; have zz_4 := zz.c 4; have zz_5 := zz.c 5; have zz_6 := zz.c 6; have zz_7 := zz.c 7; have zz_8 := zz.c 8; have zz_9 := zz.c 9; have zz_10 := zz.c 10; have zz_11 := zz.c 11; simp only [List.getElem?_cons_zero, List.getElem?_cons_succ] at zz_0 zz_1 zz_2 zz_3 zz_4 zz_5 zz_6 zz_7 zz_8 zz_9 zz_10 zz_11
              clear hSy
              go_simp
              with_reducible rfl
            simp only [Act.put, List.setIfInBounds_toArray, List.set_cons_zero, List.set_cons_succ]
            refine wpAnyH_ready (rs := [6]) (by kernel_rfl) (by simp) ?_
            refine AllReadyH.cons rfl (fun K hK => ?_) AllReadyH.nil
            go_simp
            refine hK.out _ _ ⟨hs9, Q9⟩ (fun _ => ?_)
            clear hK K hrun
            refine wpAnyH_done (by kernel_rfl) ?_ _
            clear hs9 Q9 hg9 h11d hI11d Q11d hB11d
            go_wp2
            go_roundw
            case rel =>
              obtain ⟨P9, hI9, B9, z9⟩ := unhide HR
              exact ⟨m, key, e4, c3, rfl, by go_num, P9, hI9, B9, z9, by omega⟩
            case measure => simp [intOf]
          · have Q9_0 := Q9.c 0; have Q9_1 := Q9.c 1; have Q9_2 := Q9.c 2; have Q9_3 := Q9.c 3; have Q9_4 := Q9.c 4; have Q9_5 := Q9.c 5; have Q9_6 := Q9.c 6; have Q9_7 := Q9.c 7; have Q9_8 := Q9.c 8; have Q9_9 := Q9.c 9; have Q9_10 := Q9.c 10; have Q9_11 := Q9.c 11; simp only [List.getElem?_cons_zero, List.getElem?_cons_succ] at Q9_0 Q9_1 Q9_2 Q9_3 Q9_4 Q9_5 Q9_6 Q9_7 Q9_8 Q9_9 Q9_10 Q9_11
            have Q9f := Q9.f
            have HH := hide (And.intro h9 (And.intro Q9 (And.intro hv9 (And.intro hI9 (And.intro hB9 hz9)))))
            clear h9 Q9 hv9 hI9 hB9 hz9
            go_wp2_with fail
            refine (HE2 w9).mono ?_
            rintro e w10 ⟨rfl, hb10⟩
            obtain ⟨h8, Q8, hv8, hI8, hB8, hz8⟩ := unhide HH
            have h9 := h8.later hb10
            have Q9 := Q8.later hb10
            have hv9 := hv8.later hb10
            have hI9 := hI8.later hb10
            have hB9 := hB8.trans (hb10.mono hB8.size)
            have hz9 := Nat.le_trans hz8 hb10.size
            clear HH h8 Q8 hv8 hI8 hB8 hz8 Q9_0 Q9_1 Q9_2 Q9_3 Q9_4 Q9_5 Q9_6 Q9_7 Q9_8 Q9_9 Q9_10 Q9_11 Q9f hb10
            go_wp2_with fail
            refine (pmust_any P R e3 c3 (!em) _ h9).mono ?_
            rintro e w11 ⟨rfl, h11, m11⟩
            generalize he4 : (if (!em) = true then e3 else (11 : Int)) = e4 at h11
            have He4 : Hid (e4 = if (rightCB ⟨vs, o, i⟩ && !emC ⟨vs, o, i⟩) = true then (if (S5.keyB key && S5.ltB a key) = true then c2 else 11) else 11) := by unfold Hid; rw [unhide Hrb, unhide Hem, unhide Hkb, unhide Hlb, ← he4, ← unhide He3]; simp
            have Q11 := Q9.ptm (by omega) (by omega) m11
            have hv11 := VOwn.ptm hv9 (by omega) (by omega) m11
            have hI11 := hI9.ptm (by omega) (by omega) (by omega) (by omega) (by omega) (by omega) m11
            have hB11 := hB9.trans (m11.below (by omega) (by omega) hB9.size)
            have hz11 := Nat.le_trans hz9 m11.size
            clear m11 he4 h9 Q9 hv9 hI9 hB9 hz9 He3
            go_upto_region 10 with fail
            have h11d := h11.later (Below.refl _ _).drew
            have hI11d := hI11.later (Below.refl _ _).drew
            have Q11d := Q11.later (Below.refl _ _).drew
            have hB11d := hB11.trans ((Below.refl w11.heap.size w11).drew.mono hB11.size)
            obtain ⟨hcx, hnc⟩ := hI11d.cell
            obtain ⟨w9, hrun, hI9, hg9, hs9⟩ := PI.put hI11d (unhide Hht) (unhide Hkey) (unhide Hhc) hn (hv11.later (Below.refl _ _).drew).vs (fun g o e => Nat.le_trans hz5 ((hv11.lt g (by rw [hn, e]; rfl)).1)) (e4 := e4) (unhide He4)
            have P9 := h11d.mapped hnc (by omega) (by omega) hg9
            have B9 := hB11d.grown hg9 hB11d.size (fun k e => by cases e; omega)
            have hq6 : w6.heap.size ≠ b := by omega
            have Q9 : Blk w9 w6.heap.size [.slice ao n cap, .bool o, .int .i64 i.txn.id, .int .i64 i.txn.ep, .string i.txn.anchor, .int .i64 i.txn.start.1, .int .i64 i.txn.start.2, .int .i64 i.seq, .int .i64 i.at_.1, .int .i64 i.at_.2, .string i.val, .bool i.gone] := ⟨fun j => (World.cell?_of_block (a := ⟨w6.heap.size, j, none⟩) (hg9.block _ Q11d.lt (fun e => hq6 (by injection e)))).trans (Q11d.c j), fun j => (World.frozen?_of_block (a := ⟨w6.heap.size, j, none⟩) (hg9.block _ Q11d.lt (fun e => hq6 (by injection e)))).trans (Q11d.f j), Nat.lt_of_lt_of_le Q11d.lt hg9.size⟩
            have HR := hide (And.intro P9 (And.intro hI9 (And.intro B9 (Nat.le_trans hz11 hg9.size))))
            refine wp_region_held_drew (S := fun y => y.cell? ⟨s, 0, none⟩ = some (.map (some b)) ∧ Blk y w6.heap.size [.slice ao n cap, .bool o, .int .i64 i.txn.id, .int .i64 i.txn.ep, .string i.txn.anchor, .int .i64 i.txn.start.1, .int .i64 i.txn.start.2, .int .i64 i.seq, .int .i64 i.at_.1, .int .i64 i.at_.2, .string i.val, .bool i.gone]) (by kernel_rfl) ⟨hcx, Q11d⟩ (fun hS => ?_)
            clear hcx P9 hI9 B9
            refine held_take 0 50 rfl rfl (by kernel_rfl) (by kernel_rfl) (by kernel_rfl) (fun _ _ _ h => h) (by rfl) hS (v := ?_) ?_ ?_
            rotate_left
            · intro y hSy
              skip
              clear hSy
              go_simp
              with_reducible rfl
            simp only [Act.put, List.setIfInBounds_toArray, List.set_cons_zero, List.set_cons_succ]
            refine held_take 1 51 rfl rfl (by kernel_rfl) (by kernel_rfl) (by kernel_rfl) (fun _ _ _ h => h) (by rfl) hS (v := ?_) ?_ ?_
            rotate_left
            · intro y hSy
              skip
              clear hSy
              go_simp
              with_reducible rfl
            simp only [Act.put, List.setIfInBounds_toArray, List.set_cons_zero, List.set_cons_succ]
            refine held_take 2 52 rfl rfl (by kernel_rfl) (by kernel_rfl) (by kernel_rfl) (fun _ _ _ h => h) (by rfl) hS (v := ?_) ?_ ?_
            rotate_left
            · intro y hSy
              skip
              clear hSy
              go_simp
              with_reducible rfl
            simp only [Act.put, List.setIfInBounds_toArray, List.set_cons_zero, List.set_cons_succ]
            refine held_take 4 54 rfl rfl (by kernel_rfl) (by kernel_rfl) (by kernel_rfl) (fun _ _ _ h => h) (by rfl) hS (v := ?_) ?_ ?_
            rotate_left
            · intro y hSy
              skip
              clear hSy
              go_simp
              with_reducible rfl
            simp only [Act.put, List.setIfInBounds_toArray, List.set_cons_zero, List.set_cons_succ]
            refine held_take 3 53 rfl rfl (by kernel_rfl) (by kernel_rfl) (by kernel_rfl) (fun _ _ _ h => h) (by rfl) hS (v := ?_) ?_ ?_
            rotate_left
            · intro y hSy
              have z := hSy.1
              clear hSy
              go_simp
              with_reducible rfl
            simp only [Act.put, List.setIfInBounds_toArray, List.set_cons_zero, List.set_cons_succ]
            refine held_take 5 55 rfl rfl (by kernel_rfl) (by kernel_rfl) (by kernel_rfl) (fun _ _ _ h => h) (by rfl) hS (v := ?_) ?_ ?_
            rotate_left
            · intro y hSy
              have zz := hSy.2; have zz_0 := zz.c 0; have zz_1 := zz.c 1; have zz_2 := zz.c 2; have zz_3 := zz.c 3; have zz_4 := zz.c 4; have zz_5 := zz.c 5; have zz_6 := zz.c 6; have zz_7 := zz.c 7; have zz_8 := zz.c 8; have zz_9 := zz.c 9; have zz_10 := zz.c 10; have zz_11 := zz.c 11; simp only [List.getElem?_cons_zero, List.getElem?_cons_succ] at zz_0 zz_1 zz_2 zz_3 zz_4 zz_5 zz_6 zz_7 zz_8 zz_9 zz_10 zz_11
              clear hSy
              go_simp
              with_reducible rfl
            simp only [Act.put, List.setIfInBounds_toArray, List.set_cons_zero, List.set_cons_succ]
            refine wpAnyH_ready (rs := [6]) (by kernel_rfl) (by simp) ?_
            refine AllReadyH.cons rfl (fun K hK => ?_) AllReadyH.nil
            go_simp
            refine hK.out _ _ ⟨hs9, Q9⟩ (fun _ => ?_)
            clear hK K hrun
            refine wpAnyH_done (by kernel_rfl) ?_ _
            clear hs9 Q9 hg9 h11d hI11d Q11d hB11d
            go_wp2
            go_roundw
            case rel =>
              obtain ⟨P9, hI9, B9, z9⟩ := unhide HR
              exact ⟨m, key, e4, c3, rfl, by go_num, P9, hI9, B9, z9, by omega⟩
            case measure => simp [intOf]
    · have e0 : (er == 0) = false := by simpa using h0
      have HN := hide ((unhide hI).1 h0)
      by_cases hk : k = 0
      · subst hk
        go_wp2
        go_ret2
        exact ⟨unhide HB, .inl ⟨unhide HN, rfl⟩⟩
      · have gz : (0 : Int) < (k : Int) := by omega
        go_wp2
        go_ret2
        exact ⟨unhide HB, .inl ⟨unhide HN, rfl⟩⟩
end

end Go.Proofs.YtcdehnghggleoaaGreat
