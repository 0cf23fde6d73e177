/-
  Contract of a change out of a frame's bytes. No law is proved here.
  Contract of the changes at a file's beginning, done one after the other. No law is proved here.
  Contract of journal.Open. No law is proved here.
  A file that a journal's own changes have made, and what is opened of it; a journal on its disk behind Open. No law is proved here.
-/
import Derived.Test.YteanjnkfoddfmaaJ3
namespace Go.Proofs.Yteanjnkfoddfmaa
open Go.RowKit
set_option linter.unusedVariables false

/-- What is told of a frame's bytes: the change, or that they are none. -/
def Told (r : List UInt8) (k n : Nat) (s : List UInt8) (er : Int) : Prop :=
  (∃ c, chOf r = some c ∧ er = 0 ∧ k = c.kind ∧ n = c.num ∧ s = c.txt) ∨ (chOf r = none ∧ (er ≠ 0 ∨ (er = 0 ∧ k ≠ 1 ∧ k ≠ 2 ∧ k ≠ 3)))

theorem told_add {P : Prop} {l l9 s9 : List UInt8} {dc : Decidable (P ∧ l9 = [])} {k : Nat} {er : Int} (hP : P) (h : chOf l = @ite _ (P ∧ l9 = []) dc (some (.add s9)) none) (hk : k = 1) (he : (if l9 = [] then (0 : Int) else 11) = er) : Told l k 0 s9 er := by
  subst he
  by_cases e : l9 = []
  · rw [if_pos ⟨hP, e⟩] at h
    rw [if_pos e]
    exact .inl ⟨_, h, rfl, hk, rfl, rfl⟩
  · rw [if_neg (fun x => e x.2)] at h
    rw [if_neg e]
    exact .inr ⟨h, .inl (by decide)⟩
theorem told_first {P : Prop} {l l9 : List UInt8} {dc : Decidable (P ∧ l9 = [])} {k n : Nat} {er : Int} (hP : P) (h : chOf l = @ite _ (P ∧ l9 = []) dc (some (.first n)) none) (hk : k = 2) (he : (if l9 = [] then (0 : Int) else 11) = er) : Told l k n [] er := by
  subst he
  by_cases e : l9 = []
  · rw [if_pos ⟨hP, e⟩] at h
    rw [if_pos e]
    exact .inl ⟨_, h, rfl, hk, rfl, rfl⟩
  · rw [if_neg (fun x => e x.2)] at h
    rw [if_neg e]
    exact .inr ⟨h, .inl (by decide)⟩
theorem told_lay {P P' : Prop} {l l9 s9 : List UInt8} {dc : Decidable (P ∧ P' ∧ l9 = [])} {k n : Nat} {er : Int} (hP : P) (hP' : P') (h : chOf l = @ite _ (P ∧ P' ∧ l9 = []) dc (some (.lay n s9)) none) (hk : k = 3) (he : (if l9 = [] then (0 : Int) else 11) = er) : Told l k n s9 er := by
  subst he
  by_cases e : l9 = []
  · rw [if_pos ⟨hP, hP', e⟩] at h
    rw [if_pos e]
    exact .inl ⟨_, h, rfl, hk, rfl, rfl⟩
  · rw [if_neg (fun x => e x.2.2)] at h
    rw [if_neg e]
    exact .inr ⟨h, .inl (by decide)⟩
theorem told_other {l : List UInt8} {k n : Nat} {s : List UInt8} {er : Int} (h : chOf l = none) (h1 : k ≠ 1) (h2 : k ≠ 2) (h3 : k ≠ 3) : Told l k n s er := by
  by_cases e : er = 0
  · exact .inr ⟨h, .inr ⟨e, h1, h2, h3⟩⟩
  · exact .inr ⟨h, .inl e⟩

/-- A change lies in block C, and may be written. -/
structure Cc (w : World) (C : Nat) (k n : Int) (s : ByteArray) : Prop where
  c0 : w.cell? ⟨C, 0, none⟩ = some (.int .i64 k)
  c1 : w.cell? ⟨C, 1, none⟩ = some (.int .i64 n)
  c2 : w.cell? ⟨C, 2, none⟩ = some (.string s)
  fz : ∀ j, w.frozen? ⟨C, j, none⟩ = false

theorem Stays.cell {R : Nat} {w w' : World} (h : Stays R w w') {p : Addr} (hp : p.block ≠ R) : w'.cell? p = w.cell? p := by
  rcases h with rfl | ⟨x, rfl⟩
  · rfl
  · exact World.cell?_setCell_other w _ _ _ (fun e => hp (by rw [← e]))
theorem Stays.frozen {R : Nat} {w w' : World} (h : Stays R w w') (p : Addr) : w'.frozen? p = w.frozen? p := by
  rcases h with rfl | ⟨x, rfl⟩
  · rfl
  · simp

section
variable {w w' : World} {C : Nat} {k n : Int} {s : ByteArray}
theorem Cc.lt (h : Cc w C k n s) : C < w.heap.size := World.block_lt_of_cell? w _ h.c0
theorem Cc.later (h : Cc w C k n s) (hb : Below w.heap.size w w') : Cc w' C k n s :=
  ⟨(hb.cell (p := ⟨C, 0, none⟩) h.lt).trans h.c0, (hb.cell (p := ⟨C, 1, none⟩) h.lt).trans h.c1, (hb.cell (p := ⟨C, 2, none⟩) h.lt).trans h.c2, fun j => (hb.frozen (p := ⟨C, j, none⟩) h.lt).trans (h.fz j)⟩
theorem Cc.stays (h : Cc w C k n s) {R : Nat} (hs : Stays R w w') (hR : C ≠ R) : Cc w' C k n s :=
  ⟨(hs.cell (p := ⟨C, 0, none⟩) hR).trans h.c0, (hs.cell (p := ⟨C, 1, none⟩) hR).trans h.c1, (hs.cell (p := ⟨C, 2, none⟩) hR).trans h.c2, fun j => (hs.frozen _).trans (h.fz j)⟩
theorem Cc.new (w : World) (k n : Int) (s : ByteArray) (t : TypeId) : Cc (w.alloc (.cells #[.int .i64 k, .int .i64 n, .string s] t)) w.heap.size k n s := ⟨by simp, by simp, by simp, fun j => by simp⟩
theorem Cc.set1 (h : Cc w C k n s) (m : Int) : Cc (w.setCell ⟨C, 1, none⟩ (.int .i64 m)) C k m s :=
  ⟨(World.cell?_setCell_other w _ _ _ (by simp)).trans h.c0, World.cell?_setCell_same w _ _ h.c1, (World.cell?_setCell_other w _ _ _ (by simp)).trans h.c2, fun j => by simpa using h.fz j⟩
theorem Cc.set2 (h : Cc w C k n s) (m : ByteArray) : Cc (w.setCell ⟨C, 2, none⟩ (.string m)) C k n m :=
  ⟨(World.cell?_setCell_other w _ _ _ (by simp)).trans h.c0, (World.cell?_setCell_other w _ _ _ (by simp)).trans h.c1, World.cell?_setCell_same w _ _ h.c2, fun j => by simpa using h.fz j⟩
theorem Cc.other (h : Cc w C k n s) {X : Nat} (hX : C ≠ X) (j : Nat) (x : Value) : Cc (w.setCell ⟨X, j, none⟩ x) C k n s :=
  ⟨(World.cell?_setCell_other w _ _ _ (fun e => hX (by injection e with e; exact e.symm))).trans h.c0, (World.cell?_setCell_other w _ _ _ (fun e => hX (by injection e with e; exact e.symm))).trans h.c1, (World.cell?_setCell_other w _ _ _ (fun e => hX (by injection e with e; exact e.symm))).trans h.c2, fun j => by simpa using h.fz j⟩
end

theorem Rd.other {w : World} {R : Nat} {l : List UInt8} (h : Rd w R l) {X : Nat} (hX : R ≠ X) (j : Nat) (x y : Value) (hy : w.cell? ⟨X, j, none⟩ = some y) (hn : ∀ k, y ≠ .int .u8 k) : Rd (w.setCell ⟨X, j, none⟩ x) R l := by
  obtain ⟨ao, n, c, h1, h2, h3⟩ := h
  refine ⟨ao, n, c, (World.cell?_setCell_other w _ _ _ (fun e => hX (by injection e with e; exact e.symm))).trans h1, by simpa using h2, ?_⟩
  obtain ⟨bo, d, e, a1, a2, a3, a4⟩ := h3
  refine ⟨bo, d, e, a1, a2, a3, fun a ha i u hu => ?_⟩
  have hc := a4 a ha i u hu
  rw [World.cell?_setCell_other w _ _ _ (fun e => ?_)]
  · exact hc
  · rw [← e, hy] at hc
    injection hc with hc
    rw [bc_get] at hu
    cases hl : l[i]? with
    | none => rw [hl] at hu; cases hu
    | some z => rw [hl] at hu; cases hu; exact hn _ hc

theorem rtext_b (R : Nat) (l : List UInt8) (most : Int) (w : World) (hr : Rd w R l) (hl : l.length ≤ 1099511627776) :
    Calls Try.prog 88 #[.pointer (some ⟨R, 0, none⟩), .int .i64 most] w fun e w' =>
      e = .returned (.tuple #[.string (bs (rdT l most).1), .int .i64 (rdT l most).2.1]) ∧ Rd w' R (rdT l most).2.2 ∧ Stays R w w' := rtext_any R l most w hr hl
theorem rdT_len (l : List UInt8) (m : Int) : (rdT l m).2.2.length ≤ l.length := by
  rcases rdT_one l m with ⟨_, h, _⟩ | ⟨_, h, _⟩
  · rw [h]; exact Nat.le_refl _
  · have := congrArg List.length h
    rw [List.length_append] at this
    omega
theorem rdT_err (l : List UInt8) (m : Int) : (rdT l m).2.1 = 0 ∨ (rdT l m).2.1 = 11 := by
  rcases rdT_one l m with ⟨h, _⟩ | ⟨h, _⟩
  · exact .inr h
  · exact .inl h

set_option maxRecDepth 100000 in
set_option maxHeartbeats 4000000 in
theorem changeOf_any (v : Value) (l : List UInt8) (w : World) (hs : Sl w v l) (hl : l.length ≤ 1099511627776) :
    Calls Try.prog 68 #[v] w fun e w' => ∃ k n s er, e = .returned (.tuple #[.agg #[.int .i64 (k : Nat), .int .i64 (n : Nat), .string (bs s)], .int .i64 er]) ∧ Told l k n s er ∧ k ≤ 1099511627776 ∧ Below w.heap.size w w' := by
  have hb0 : Below w.heap.size w (w.alloc (.cells #[.int .i64 0, .int .i64 0, .string ⟨#[]⟩] 93)) := below_new w _
  have hn0 : Cc (w.alloc (.cells #[.int .i64 0, .int .i64 0, .string ⟨#[]⟩] 93)) w.heap.size 0 0 ⟨#[]⟩ := Cc.new w 0 0 ⟨#[]⟩ _
  have hlt : w.heap.size < (w.alloc (.cells #[.int .i64 0, .int .i64 0, .string ⟨#[]⟩] 93)).heap.size := by simp
  have Hs := hide (hs.later hb0)
  have HB0 := hide hb0
  have HN0 := hide hn0
  clear hs hb0 hn0
  go_enter Try.func68, Try.ntmps68
  go_wp2_with fail
  generalize w.alloc (.cells #[.int .i64 0, .int .i64 0, .string ⟨#[]⟩] 93) = W at *
  refine (open_any v l W (unhide Hs) hl).mono ?_
  rintro e w2 ⟨R, rfl, hR, hr2, hb2⟩
  have HB2 := hide ((unhide HB0).trans (hb2.mono (Nat.le_of_lt hlt)))
  have HN2 := hide ((unhide HN0).later hb2)
  have Hr2 := hide hr2
  have hNR : w.heap.size ≠ R := by omega
  clear hb2 hr2 HN0
  go_wp2_with fail
  refine (rnumber_any R l 1099511627776 w2 (unhide Hr2) hl).mono ?_
  rintro e w3 ⟨rfl, hr3, hy3⟩
  have HB3 := hide ((unhide HB2).trans (hy3.below (by omega)))
  have HN3 := hide ((unhide HN2).stays hy3 hNR)
  have hl3 := rdN_len l 1099511627776
  have he3 := rdN_err l 1099511627776
  have hm3 := rdN_max l
  have hk0 : (rdN l 1099511627776).2.1 = 11 → (rdN l 1099511627776).1 = 0 := fun e => by
    rcases rdN_one l 1099511627776 with ⟨_, _, h⟩ | ⟨h, _⟩
    · exact h
    · rw [e] at h; cases h
  have hch : chOf l = chOf l := rfl
  unfold chOf at hch
  have HCH : Hid (chOf l = _) := hch.symm.trans (by unfold chOf; rfl) |>.symm
  clear hch
  generalize rdN l 1099511627776 = y3 at *
  obtain ⟨k, e1, l3⟩ := y3
  simp only at hr3 hl3 he3 hm3 hk0
  have hRl := hr3.lt
  have hb4 : Below w3.heap.size w3 (w3.alloc (.cells #[.int .i64 k, .int .i64 0, .string ⟨#[]⟩] 93)) := below_new w3 _
  have HC : Hid (Cc (w3.alloc (.cells #[.int .i64 k, .int .i64 0, .string ⟨#[]⟩] 93)) w3.heap.size k 0 ⟨#[]⟩) := Cc.new w3 k 0 ⟨#[]⟩ 93
  have HN := hide ((unhide HN3).later hb4)
  have HB := hide ((unhide HB3).trans (hb4.mono (unhide HB3).size))
  have HR := hide (hr3.below hb4 (Nat.le_refl _))
  have hRC : R ≠ w3.heap.size := by omega
  have hCR : w3.heap.size ≠ R := by omega
  have hNC : w.heap.size ≠ w3.heap.size := by have := (unhide HN3).lt; omega
  have hCN : ¬ w3.heap.size = w.heap.size := by omega
  have hwC : w.heap.size ≤ w3.heap.size := (unhide HB3).size
  clear hr3 hy3 hb4
  have hlw : w3.heap.size < (w3.alloc (.cells #[.int .i64 k, .int .i64 0, .string ⟨#[]⟩] 93)).heap.size := by simp
  rcases he3 with he | he
  · subst he
    clear hk0
    have q0 := (unhide HC).c0
    have q1 := (unhide HC).c1
    have q2 := (unhide HC).c2
    have p0 := (unhide HN).c0
    have p1 := (unhide HN).c1
    have p2 := (unhide HN).c2
    have g0 := (unhide HN).fz 0
    have g1 := (unhide HN).fz 1
    have g2 := (unhide HN).fz 2
    have h0 := (unhide HC).fz 0
    have h1 := (unhide HC).fz 1
    have h2 := (unhide HC).fz 2
    by_cases k1 : k = 1
    · have b1 : (k == 1) = true := by simpa using k1
      have b2 : (k == 2) = false := by simp [k1]
      have b3 : (k == 3) = false := by simp [k1]
      have Hch : Hid (chOf l = if (rdT l3 65536).2.1 = 0 ∧ (rdT l3 65536).2.2 = [] then some (.add (rdT l3 65536).1) else none) := by show _ = _; rw [unhide HCH, if_neg (by simp), if_pos k1]
      have Hk := hide k1
      clear HCH k1
      go_wp2_with fail
      generalize w3.alloc (.cells #[.int .i64 k, .int .i64 0, .string ⟨#[]⟩] 93) = W4 at *
      generalize w3.heap.size = C at *
      refine (hasNumber_any k _).mono ?_
      rintro e w5 ⟨rfl, rfl⟩
      rw [show (k == 2 || k == 3) = false by rw [b2, b3]; rfl]
      go_wp2_with fail
      refine (hasText_any k _).mono ?_
      rintro e w6 ⟨rfl, rfl⟩
      rw [show (k == 1 || k == 3) = true by rw [b1, b3]; rfl]
      go_wp2_with fail
      refine (rtext_b R l3 65536 w6 (unhide HR) (by omega)).mono ?_
      rintro e w9 ⟨rfl, hr9, hy9⟩
      have hl9 := rdT_len l3 65536
      have he9 := rdT_err l3 65536
      generalize rdT l3 65536 = y9 at *
      obtain ⟨s9, e9, l9⟩ := y9
      simp only at hr9 hl9 he9 ⊢
      clear q0 q1 q2 p0 p1 p2 g0 g1 g2 h0 h1 h2
      replace HC := hide ((unhide HC).stays hy9 hCR)
      replace HN := hide ((unhide HN).stays hy9 hNR)
      replace HB := hide ((unhide HB).trans (hy9.below (by omega)))
      have q0 := (unhide HC).c0
      have q1 := (unhide HC).c1
      have q2 := (unhide HC).c2
      have p0 := (unhide HN).c0
      have p1 := (unhide HN).c1
      have p2 := (unhide HN).c2
      have g0 := (unhide HN).fz 0
      have g1 := (unhide HN).fz 1
      have g2 := (unhide HN).fz 2
      have h0 := (unhide HC).fz 0
      have h1 := (unhide HC).fz 1
      have h2 := (unhide HC).fz 2
      have HN8 := hide ((unhide HN).other hNC 2 (.string (bs s9)))
      have HB8 := hide ((unhide HB).setCell (p := ⟨C, 2, none⟩) hwC (.string (bs s9)))
      have HR8 := hide (hr9.other hRC 2 (.string (bs s9)) _ q2 (fun j => by simp))
      clear hr9 hy9 HR
      rcases he9 with he | he
      · subst he
        go_wp2_with fail
        refine (end_any R l9 _ (unhide HR8) (by omega)).mono ?_
        rintro e wE ⟨rfl, rfl⟩
        generalize hE : (if l9 = [] then (0 : Int) else 11) = er at *
        have HE := hide hE
        clear hE
        go_wp2
        obtain ⟨d0, d1, d2⟩ := set3 (w9.setCell ⟨C, 2, none⟩ (.string (bs s9))) w.heap.size _ _ _ (.int .i64 (k : Int)) (.int .i64 0) (.string (bs s9)) ((unhide HN8)).c0 ((unhide HN8)).c1 ((unhide HN8)).c2
        refine bodyPost_ret (results_c2 Try.results68 rfl rfl d0 d1 d2) rfl ?_
        exact ⟨k, 0, s9, _, by rfl, told_add (by simp) (unhide Hch) (unhide Hk) (unhide HE), hm3, ((((unhide HB8)).setCell (Nat.le_refl _) _).setCell (Nat.le_refl _) _).setCell (Nat.le_refl _) _⟩
      · subst he
        have Hno : Hid (chOf l = none) := by show _ = _; rw [unhide Hch, if_neg (by simp)]
        go_wp2
        obtain ⟨d0, d1, d2⟩ := set3 (w9.setCell ⟨C, 2, none⟩ (.string (bs s9))) w.heap.size _ _ _ (.int .i64 (k : Int)) (.int .i64 0) (.string (bs s9)) ((unhide HN8)).c0 ((unhide HN8)).c1 ((unhide HN8)).c2
        refine bodyPost_ret (results_c2 Try.results68 rfl rfl d0 d1 d2) rfl ?_
        exact ⟨k, 0, s9, _, by rfl, .inr ⟨unhide Hno, .inl (by decide)⟩, hm3, ((((unhide HB8)).setCell (Nat.le_refl _) _).setCell (Nat.le_refl _) _).setCell (Nat.le_refl _) _⟩
    · by_cases k2 : k = 2
      · have b1 : (k == 1) = false := by simp [k2]
        have b2 : (k == 2) = true := by simpa using k2
        have b3 : (k == 3) = false := by simp [k2]
        have Hch : Hid (chOf l = if (rdN l3 1099511627776).2.1 = 0 ∧ (rdN l3 1099511627776).2.2 = [] then some (.first (rdN l3 1099511627776).1) else none) := by show _ = _; rw [unhide HCH, if_neg (by simp), if_neg k1, if_pos k2]
        have Hk := hide k2
        clear HCH k1 k2
        go_wp2_with fail
        generalize w3.alloc (.cells #[.int .i64 k, .int .i64 0, .string ⟨#[]⟩] 93) = W4 at *
        generalize w3.heap.size = C at *
        refine (hasNumber_any k _).mono ?_
        rintro e w5 ⟨rfl, rfl⟩
        rw [show (k == 2 || k == 3) = true by rw [b2, b3]; rfl]
        go_wp2_with fail
        refine (rnumber_any R l3 1099511627776 w5 (unhide HR) (by omega)).mono ?_
        rintro e w7 ⟨rfl, hr7, hy7⟩
        have hl7 := rdN_len l3 1099511627776
        have he7 := rdN_err l3 1099511627776
        generalize rdN l3 1099511627776 = y7 at *
        obtain ⟨n7, e7, l7⟩ := y7
        simp only at hr7 hl7 he7 ⊢
        clear q0 q1 q2 p0 p1 p2 g0 g1 g2 h0 h1 h2
        replace HC := hide ((unhide HC).stays hy7 hCR)
        replace HN := hide ((unhide HN).stays hy7 hNR)
        replace HB := hide ((unhide HB).trans (hy7.below (by omega)))
        have q0 := (unhide HC).c0
        have q1 := (unhide HC).c1
        have q2 := (unhide HC).c2
        have p0 := (unhide HN).c0
        have p1 := (unhide HN).c1
        have p2 := (unhide HN).c2
        have g0 := (unhide HN).fz 0
        have g1 := (unhide HN).fz 1
        have g2 := (unhide HN).fz 2
        have h0 := (unhide HC).fz 0
        have h1 := (unhide HC).fz 1
        have h2 := (unhide HC).fz 2
        have HC8 := hide ((unhide HC).set1 (n7 : Int))
        have HN8 := hide ((unhide HN).other hNC 1 (.int .i64 (n7 : Int)))
        have HB8 := hide ((unhide HB).setCell (p := ⟨C, 1, none⟩) hwC (.int .i64 (n7 : Int)))
        have HR8 := hide (hr7.other hRC 1 (.int .i64 (n7 : Int)) _ q1 (fun j => by simp))
        clear hr7 hy7 HR
        rcases he7 with he | he
        · subst he
          go_wp2_with fail
          generalize w7.setCell ⟨C, 1, none⟩ (.int .i64 (n7 : Int)) = w8 at *
          replace HC := HC8
          replace HN := HN8
          replace HB := HB8
          have HR := HR8
          clear q0 q1 q2 p0 p1 p2 g0 g1 g2 h0 h1 h2
          have q0 := (unhide HC).c0
          have q1 := (unhide HC).c1
          have q2 := (unhide HC).c2
          have p0 := (unhide HN).c0
          have p1 := (unhide HN).c1
          have p2 := (unhide HN).c2
          have g0 := (unhide HN).fz 0
          have g1 := (unhide HN).fz 1
          have g2 := (unhide HN).fz 2
          have h0 := (unhide HC).fz 0
          have h1 := (unhide HC).fz 1
          have h2 := (unhide HC).fz 2
          refine (hasText_any k _).mono ?_
          rintro e w6 ⟨rfl, rfl⟩
          rw [show (k == 1 || k == 3) = false by rw [b1, b3]; rfl]
          go_wp2_with fail
          refine (end_any R l7 _ (unhide HR) (by omega)).mono ?_
          rintro e wE ⟨rfl, rfl⟩
          generalize hE : (if l7 = [] then (0 : Int) else 11) = er at *
          have HE := hide hE
          clear hE
          go_wp2
          obtain ⟨d0, d1, d2⟩ := set3 wE w.heap.size _ _ _ (.int .i64 (k : Int)) (.int .i64 (n7 : Int)) (.string ⟨#[]⟩) ((unhide HN)).c0 ((unhide HN)).c1 ((unhide HN)).c2
          refine bodyPost_ret (results_c2 Try.results68 rfl rfl d0 d1 d2) rfl ?_
          exact ⟨k, n7, [], _, by rfl, told_first (by simp) (unhide Hch) (unhide Hk) (unhide HE), hm3, ((((unhide HB)).setCell (Nat.le_refl _) _).setCell (Nat.le_refl _) _).setCell (Nat.le_refl _) _⟩
        · subst he
          have Hno : Hid (chOf l = none) := by show _ = _; rw [unhide Hch, if_neg (by simp)]
          go_wp2
          obtain ⟨d0, d1, d2⟩ := set3 (w7.setCell ⟨C, 1, none⟩ (.int .i64 (n7 : Int))) w.heap.size _ _ _ (.int .i64 (k : Int)) (.int .i64 (n7 : Int)) (.string ⟨#[]⟩) ((unhide HN8)).c0 ((unhide HN8)).c1 ((unhide HN8)).c2
          refine bodyPost_ret (results_c2 Try.results68 rfl rfl d0 d1 d2) rfl ?_
          exact ⟨k, n7, [], _, by rfl, .inr ⟨unhide Hno, .inl (by decide)⟩, hm3, ((((unhide HB8)).setCell (Nat.le_refl _) _).setCell (Nat.le_refl _) _).setCell (Nat.le_refl _) _⟩
      · by_cases k3 : k = 3
        · have b1 : (k == 1) = false := by simp [k3]
          have b2 : (k == 2) = false := by simp [k3]
          have b3 : (k == 3) = true := by simpa using k3
          have Hch : Hid (chOf l = if (rdN l3 1099511627776).2.1 = 0 ∧ (rdT (rdN l3 1099511627776).2.2 65536).2.1 = 0 ∧ (rdT (rdN l3 1099511627776).2.2 65536).2.2 = [] then some (.lay (rdN l3 1099511627776).1 (rdT (rdN l3 1099511627776).2.2 65536).1) else none) := by show _ = _; rw [unhide HCH, if_neg (by simp), if_neg k1, if_neg k2, if_pos k3]
          have Hk := hide k3
          clear HCH k1 k2 k3
          go_wp2_with fail
          generalize w3.alloc (.cells #[.int .i64 k, .int .i64 0, .string ⟨#[]⟩] 93) = W4 at *
          generalize w3.heap.size = C at *
          refine (hasNumber_any k _).mono ?_
          rintro e w5 ⟨rfl, rfl⟩
          rw [show (k == 2 || k == 3) = true by rw [b2, b3]; rfl]
          go_wp2_with fail
          refine (rnumber_any R l3 1099511627776 w5 (unhide HR) (by omega)).mono ?_
          rintro e w7 ⟨rfl, hr7, hy7⟩
          have hl7 := rdN_len l3 1099511627776
          have he7 := rdN_err l3 1099511627776
          generalize rdN l3 1099511627776 = y7 at *
          obtain ⟨n7, e7, l7⟩ := y7
          simp only at hr7 hl7 he7 ⊢
          clear q0 q1 q2 p0 p1 p2 g0 g1 g2 h0 h1 h2
          replace HC := hide ((unhide HC).stays hy7 hCR)
          replace HN := hide ((unhide HN).stays hy7 hNR)
          replace HB := hide ((unhide HB).trans (hy7.below (by omega)))
          have q0 := (unhide HC).c0
          have q1 := (unhide HC).c1
          have q2 := (unhide HC).c2
          have p0 := (unhide HN).c0
          have p1 := (unhide HN).c1
          have p2 := (unhide HN).c2
          have g0 := (unhide HN).fz 0
          have g1 := (unhide HN).fz 1
          have g2 := (unhide HN).fz 2
          have h0 := (unhide HC).fz 0
          have h1 := (unhide HC).fz 1
          have h2 := (unhide HC).fz 2
          have HC8 := hide ((unhide HC).set1 (n7 : Int))
          have HN8 := hide ((unhide HN).other hNC 1 (.int .i64 (n7 : Int)))
          have HB8 := hide ((unhide HB).setCell (p := ⟨C, 1, none⟩) hwC (.int .i64 (n7 : Int)))
          have HR8 := hide (hr7.other hRC 1 (.int .i64 (n7 : Int)) _ q1 (fun j => by simp))
          clear hr7 hy7 HR
          rcases he7 with he | he
          · subst he
            go_wp2_with fail
            generalize w7.setCell ⟨C, 1, none⟩ (.int .i64 (n7 : Int)) = w8 at *
            replace HC := HC8
            replace HN := HN8
            replace HB := HB8
            have HR := HR8
            clear HR8 HB8 HN8 HC8
            clear q0 q1 q2 p0 p1 p2 g0 g1 g2 h0 h1 h2
            have q0 := (unhide HC).c0
            have q1 := (unhide HC).c1
            have q2 := (unhide HC).c2
            have p0 := (unhide HN).c0
            have p1 := (unhide HN).c1
            have p2 := (unhide HN).c2
            have g0 := (unhide HN).fz 0
            have g1 := (unhide HN).fz 1
            have g2 := (unhide HN).fz 2
            have h0 := (unhide HC).fz 0
            have h1 := (unhide HC).fz 1
            have h2 := (unhide HC).fz 2
            refine (hasText_any k _).mono ?_
            rintro e w6 ⟨rfl, rfl⟩
            rw [show (k == 1 || k == 3) = true by rw [b1, b3]; rfl]
            go_wp2_with fail
            refine (rtext_b R l7 65536 w6 (unhide HR) (by omega)).mono ?_
            rintro e w9 ⟨rfl, hr9, hy9⟩
            have hl9 := rdT_len l7 65536
            have he9 := rdT_err l7 65536
            generalize rdT l7 65536 = y9 at *
            obtain ⟨s9, e9, l9⟩ := y9
            simp only at hr9 hl9 he9 ⊢
            clear q0 q1 q2 p0 p1 p2 g0 g1 g2 h0 h1 h2
            replace HC := hide ((unhide HC).stays hy9 hCR)
            replace HN := hide ((unhide HN).stays hy9 hNR)
            replace HB := hide ((unhide HB).trans (hy9.below (by omega)))
            have q0 := (unhide HC).c0
            have q1 := (unhide HC).c1
            have q2 := (unhide HC).c2
            have p0 := (unhide HN).c0
            have p1 := (unhide HN).c1
            have p2 := (unhide HN).c2
            have g0 := (unhide HN).fz 0
            have g1 := (unhide HN).fz 1
            have g2 := (unhide HN).fz 2
            have h0 := (unhide HC).fz 0
            have h1 := (unhide HC).fz 1
            have h2 := (unhide HC).fz 2
            have HN8 := hide ((unhide HN).other hNC 2 (.string (bs s9)))
            have HB8 := hide ((unhide HB).setCell (p := ⟨C, 2, none⟩) hwC (.string (bs s9)))
            have HR8 := hide (hr9.other hRC 2 (.string (bs s9)) _ q2 (fun j => by simp))
            clear hr9 hy9 HR
            rcases he9 with he | he
            · subst he
              go_wp2_with fail
              refine (end_any R l9 _ (unhide HR8) (by omega)).mono ?_
              rintro e wE ⟨rfl, rfl⟩
              generalize hE : (if l9 = [] then (0 : Int) else 11) = er at *
              have HE := hide hE
              clear hE
              go_wp2
              obtain ⟨d0, d1, d2⟩ := set3 (w9.setCell ⟨C, 2, none⟩ (.string (bs s9))) w.heap.size _ _ _ (.int .i64 (k : Int)) (.int .i64 (n7 : Int)) (.string (bs s9)) ((unhide HN8)).c0 ((unhide HN8)).c1 ((unhide HN8)).c2
              refine bodyPost_ret (results_c2 Try.results68 rfl rfl d0 d1 d2) rfl ?_
              exact ⟨k, n7, s9, _, by rfl, told_lay (by simp) (by simp) (unhide Hch) (unhide Hk) (unhide HE), hm3, ((((unhide HB8)).setCell (Nat.le_refl _) _).setCell (Nat.le_refl _) _).setCell (Nat.le_refl _) _⟩
            · subst he
              have Hno : Hid (chOf l = none) := by show _ = _; rw [unhide Hch, if_neg (by simp)]
              go_wp2
              obtain ⟨d0, d1, d2⟩ := set3 (w9.setCell ⟨C, 2, none⟩ (.string (bs s9))) w.heap.size _ _ _ (.int .i64 (k : Int)) (.int .i64 (n7 : Int)) (.string (bs s9)) ((unhide HN8)).c0 ((unhide HN8)).c1 ((unhide HN8)).c2
              refine bodyPost_ret (results_c2 Try.results68 rfl rfl d0 d1 d2) rfl ?_
              exact ⟨k, n7, s9, _, by rfl, .inr ⟨unhide Hno, .inl (by decide)⟩, hm3, ((((unhide HB8)).setCell (Nat.le_refl _) _).setCell (Nat.le_refl _) _).setCell (Nat.le_refl _) _⟩
          · subst he
            have Hno : Hid (chOf l = none) := by show _ = _; rw [unhide Hch, if_neg (by simp)]
            go_wp2
            obtain ⟨d0, d1, d2⟩ := set3 (w7.setCell ⟨C, 1, none⟩ (.int .i64 (n7 : Int))) w.heap.size _ _ _ (.int .i64 (k : Int)) (.int .i64 (n7 : Int)) (.string ⟨#[]⟩) ((unhide HN8)).c0 ((unhide HN8)).c1 ((unhide HN8)).c2
            refine bodyPost_ret (results_c2 Try.results68 rfl rfl d0 d1 d2) rfl ?_
            exact ⟨k, n7, [], _, by rfl, .inr ⟨unhide Hno, .inl (by decide)⟩, hm3, ((((unhide HB8)).setCell (Nat.le_refl _) _).setCell (Nat.le_refl _) _).setCell (Nat.le_refl _) _⟩
        · have b1 : (k == 1) = false := by simpa using k1
          have b2 : (k == 2) = false := by simpa using k2
          have b3 : (k == 3) = false := by simpa using k3
          have Hno : Hid (chOf l = none) := by show _ = _; rw [unhide HCH, if_neg (by simp), if_neg k1, if_neg k2, if_neg k3]
          have Hk1 := hide k1
          have Hk2 := hide k2
          have Hk3 := hide k3
          clear HCH k1 k2 k3
          go_wp2_with fail
          generalize w3.alloc (.cells #[.int .i64 k, .int .i64 0, .string ⟨#[]⟩] 93) = W4 at *
          generalize w3.heap.size = C at *
          refine (hasNumber_any k _).mono ?_
          rintro e w5 ⟨rfl, rfl⟩
          rw [show (k == 2 || k == 3) = false by rw [b2, b3]; rfl]
          go_wp2_with fail
          refine (hasText_any k _).mono ?_
          rintro e w6 ⟨rfl, rfl⟩
          rw [show (k == 1 || k == 3) = false by rw [b1, b3]; rfl]
          go_wp2_with fail
          refine (end_any R l3 _ (unhide HR) (by omega)).mono ?_
          rintro e wE ⟨rfl, rfl⟩
          generalize hE : (if l3 = [] then (0 : Int) else 11) = er at *
          have HE := hide hE
          clear hE
          go_wp2
          obtain ⟨d0, d1, d2⟩ := set3 wE w.heap.size _ _ _ (.int .i64 (k : Int)) (.int .i64 0) (.string ⟨#[]⟩) ((unhide HN)).c0 ((unhide HN)).c1 ((unhide HN)).c2
          refine bodyPost_ret (results_c2 Try.results68 rfl rfl d0 d1 d2) rfl ?_
          exact ⟨k, 0, [], _, by rfl, told_other (unhide Hno) (unhide Hk1) (unhide Hk2) (unhide Hk3), hm3, ((((unhide HB)).setCell (Nat.le_refl _) _).setCell (Nat.le_refl _) _).setCell (Nat.le_refl _) _⟩
  · subst he
    have Hno : Hid (chOf l = none) := by show _ = _; rw [unhide HCH, if_pos (by show (11 : Int) ≠ 0; decide)]
    clear HCH hk0
    have q0 := (unhide HC).c0
    have q1 := (unhide HC).c1
    have q2 := (unhide HC).c2
    have p0 := (unhide HN).c0
    have p1 := (unhide HN).c1
    have p2 := (unhide HN).c2
    have g0 := (unhide HN).fz 0
    have g1 := (unhide HN).fz 1
    have g2 := (unhide HN).fz 2
    have h0 := (unhide HC).fz 0
    have h1 := (unhide HC).fz 1
    have h2 := (unhide HC).fz 2
    go_wp2
    obtain ⟨d0, d1, d2⟩ := set3 (w3.alloc (.cells #[.int .i64 k, .int .i64 0, .string ⟨#[]⟩] 93)) w.heap.size _ _ _ (.int .i64 (k : Int)) (.int .i64 0) (.string ⟨#[]⟩) ((unhide HN)).c0 ((unhide HN)).c1 ((unhide HN)).c2
    refine bodyPost_ret (results_c2 Try.results68 rfl rfl d0 d1 d2) rfl ?_
    exact ⟨k, 0, [], _, by rfl, .inr ⟨unhide Hno, .inl (by decide)⟩, hm3, ((((unhide HB)).setCell (Nat.le_refl _) _).setCell (Nat.le_refl _) _).setCell (Nat.le_refl _) _⟩

end Go.Proofs.Yteanjnkfoddfmaa

namespace Go.Proofs.Yteanjnkfoddfmaa
open Go.RowKit
set_option linter.unusedVariables false

theorem Recs.frame {N : Nat} {w w' : World} {v : Value} {rs : List (List UInt8)} (h : Recs N w v rs) (hk : ∀ k, N ≤ k → k < w.heap.size → w'.heap[k]? = w.heap[k]?) : Recs N w' v rs := by
  obtain ⟨vs, h1, h2⟩ := h
  refine ⟨vs, ⟨h1.1, ?_⟩, fun i u x hu hx => ?_⟩
  · rcases h1.2 with e | ⟨g, cap, cur, e, hb, hg, r⟩
    · exact .inl e
    · exact .inr ⟨g, cap, cur, e, hb, (hk g hb (Array.getElem?_eq_some_iff.1 hg).1).trans hg, r⟩
  · have ho := h2 i u x hu hx
    exact ho.frame fun g hg hlt => hk g (World.ownsRow.lt ho g hg).1 hlt

theorem scans_fits : ∀ {rs : List (List UInt8)} {l : List UInt8}, Scans l rs → ∀ x ∈ rs, Fits x
  | [], _, _, x, hx => by simp at hx
  | y :: rs, l, h, x, hx => by
    rcases List.mem_cons.1 hx with e | e
    · subst e; have := fst_some h.1; exact ⟨this.2.1, this.2.2.1⟩
    · exact scans_fits h.2 x e

theorem Recs.at {N : Nat} {w : World} {ra : Option Addr} {n c : Nat} {rs : List (List UInt8)} (h : Recs N w (.slice ra n c) rs) {k : Nat} (hk : k < rs.length) :
    ∃ g xo xd, ra = some ⟨g, 0, none⟩ ∧ N ≤ g ∧ g < w.heap.size ∧ w.cell? ⟨g, k, none⟩ = some (.slice xo rs[k].length xd) ∧ Sl w (.slice xo rs[k].length xd) rs[k] ∧ ∀ j, (Value.slice xo rs[k].length xd).ownBlock = some j → N ≤ j ∧ j < w.heap.size := by
  obtain ⟨vs, h1, h2⟩ := h
  have hvl : vs.length = rs.length := by have := h1.1; omega
  have hk' : k < vs.length := by omega
  have ho := h2 k vs[k] rs[k] (List.getElem?_eq_getElem hk') (List.getElem?_eq_getElem hk)
  have hin := World.ownsRow.lt ho
  obtain ⟨xo, xd, e⟩ := ho.val
  rcases h1.2 with ⟨e1, e2⟩ | ⟨g, cap, cur, e1, hb, hg, hnc, hcm, hcs, htake⟩
  · omega
  · injection e1 with e1 e2 e3
    refine ⟨g, xo, xd, e1, hb, (Array.getElem?_eq_some_iff.1 hg).1, ?_, e ▸ ho.sl, fun j hj => ?_⟩
    · have hc : cur.toList[k]? = some vs[k] := by
        have := congrArg (fun l => l[k]?) htake
        simp only [List.getElem?_eq_getElem hk'] at this
        rw [← this, List.getElem?_take_of_lt (by omega)]
      rw [← e]
      simp only [World.cell?, hg]
      simpa using hc
    · rw [← e] at hj
      exact hin j hj

def actF : Ch → Nat
  | Sum.inl _ => 83
  | Sum.inr (Sum.inl _) => 84
  | Sum.inr (Sum.inr _) => 85

theorem act_any (c : Ch) (B D t v o : Nat) (st : St) (rv : Value) (w : World) (h : Jp w B D t v o st rv) (hc : c.num ≤ 1099511627776) (hl : st.2.2.length < 1099511627776) :
    Calls Try.prog (actF c) #[.pointer (some ⟨B, 0, none⟩), .agg #[.int .i64 c.kind, .int .i64 c.num, .string (bs c.txt)]] w fun e w' =>
      (∃ st' rv', c.go st = some st' ∧ e = .returned (.bool true) ∧ Jp w' B D t v o st' rv' ∧ Mov B rv rv' w w') ∨ (c.go st = none ∧ e = .returned (.bool false) ∧ Below w.heap.size w w') := by
  obtain ⟨b, d, L⟩ := st
  rcases c.three with ⟨s, rfl⟩ | ⟨n, rfl⟩ | ⟨n, s, rfl⟩
  · refine (addRecord_any B D t v o b d s L rv 1 0 w h hl).mono ?_
    rintro e w' ⟨rfl, rv', h1, h2⟩
    exact .inl ⟨_, rv', rfl, rfl, h1, h2⟩
  · by_cases hn : n ≤ L.length
    · refine (keepFirst_yes B D t v o b d L rv 2 n (bs []) w h hn).mono ?_
      rintro e w' ⟨rfl, rv', h1, h2⟩
      exact .inl ⟨_, rv', if_pos hn, rfl, h1, h2⟩
    · refine (keepFirst_no B D t v o b d L rv 2 n (bs []) w h (by omega)).mono ?_
      rintro e w' ⟨rfl, h1⟩
      exact .inr ⟨if_neg hn, rfl, h1⟩
  · refine (layBase_any B D t v o b d s L rv 3 n w h hc).mono ?_
    rintro e w' ⟨rfl, rv', h1, h2⟩
    refine .inl ⟨_, rv', ?_, rfl, h1, h2⟩
    show some (n, s, _) = some (n, s, _)
    rw [goneN_drop]

theorem look_act (c : Ch) (w : World) (m : Nat) (h : Acts w m) : (Instr.lookup 105 (.map (some m)) (.int .i64 c.kind) true).run Try.prog w = .ok (.tuple #[.func (.func (actF c)) #[] #[], .bool true]) w := by
  rcases c.three with ⟨s, rfl⟩ | ⟨n, rfl⟩ | ⟨n, s, rfl⟩
  · exact look1ok w m h
  · exact look2ok w m h
  · exact look3ok w m h

theorem look_any (k : Nat) (w : World) (m : Nat) (h : Acts w m) : ∃ z b, (Instr.lookup 105 (.map (some m)) (.int .i64 k) true).run Try.prog w = .ok (.tuple #[z, .bool b]) w := by
  by_cases h1 : k = 1
  · subst h1; exact ⟨_, _, look1ok w m h⟩
  by_cases h2 : k = 2
  · subst h2; exact ⟨_, _, look2ok w m h⟩
  by_cases h3 : k = 3
  · subst h3; exact ⟨_, _, look3ok w m h⟩
  obtain ⟨z, hz⟩ := look_no w m k h (by omega) (by omega) (by omega)
  exact ⟨z, _, hz⟩

/-- What is left to do is what is left of the whole. -/
def Rest (rs : List (List UInt8)) (st0 : St) (rest : List (List UInt8)) (st : St) (n : Nat) : Prop := (plays rs st0).1 = (plays rest st).1 ∧ (plays rs st0).2 = n + (plays rest st).2

theorem Rest.some {rs rest : List (List UInt8)} {st0 st st' : St} {n : Nat} {x : List UInt8} (h : Rest rs st0 (x :: rest) st n) (ho : one x st = some st') : Rest rs st0 rest st' (n + (8 + x.length)) := by
  obtain ⟨h1, h2⟩ := h
  rw [plays_some ho] at h1 h2
  exact ⟨h1, by rw [h2]; show n + (8 + x.length + _) = _; omega⟩
theorem Rest.none {rs rest : List (List UInt8)} {st0 st : St} {n : Nat} {x : List UInt8} (h : Rest rs st0 (x :: rest) st n) (ho : one x st = none) : (plays rs st0).1 = st ∧ (plays rs st0).2 = n := by
  obtain ⟨h1, h2⟩ := h
  rw [plays_none ho] at h1 h2
  exact ⟨h1, h2⟩
theorem Rest.nil {rs : List (List UInt8)} {st0 st : St} {n : Nat} (h : Rest rs st0 [] st n) : (plays rs st0).1 = st ∧ (plays rs st0).2 = n := h

theorem acts_any3 (w : World) : Calls Try.prog 67 #[] w fun e w' => ∃ m, e = .returned (.map (some m)) ∧ Acts w' m ∧ Below w.heap.size w w' ∧ w.heap.size ≤ m := by
  refine (acts_any w).mono ?_
  rintro e w' ⟨rfl, rfl⟩
  exact ⟨_, rfl, Array.getElem?_push_size, below_new w _, Nat.le_refl _⟩

/-- So far the first k records are done, and had n bytes. -/
def Play (rs : List (List UInt8)) (st : St) (B D t v o : Nat) (rv : Value) (w2 : World) (k n : Nat) (wr : World) : Prop :=
  ∃ st' rv', Rest rs st (rs.drop k) st' n ∧ n + total (rs.drop k) = total rs ∧ Jp wr B D t v o st' rv' ∧ Mov B rv rv' w2 wr ∧ st'.2.2.length ≤ st.2.2.length + k

set_option maxRecDepth 100000 in
set_option maxHeartbeats 4000000 in
theorem replay_any (B D t v o : Nat) (st : St) (rv fv : Value) (F : List UInt8) (rs : List (List UInt8)) (w : World) (h : Jp w B D t v o st rv) (hF : Sl w fv F) (hFl : F.length ≤ 16777216) (hsc : Scans F rs) (hl : st.2.2.length ≤ 16777216) :
    Calls Try.prog 40 #[.pointer (some ⟨B, 0, none⟩), fv] w fun e w' => e = .returned (.int .i64 ((plays rs st).2 : Nat)) ∧ ∃ rv', Jp w' B D t v o (plays rs st).1 rv' ∧ Mov B rv rv' w w' := by
  have hfx : ∀ x ∈ rs, Fits x := scans_fits hsc
  have hcnt := hsc.count_le
  have htot := hsc.total_le
  have Hfx := hide hfx
  have Hj := hide h
  have HF := hide hF
  have Hsc := hide hsc
  clear h hF hsc hfx
  go_enter Try.func40, Try.ntmps40
  go_wp2_with fail
  refine (scan_any fv F rs w (unhide HF) (by omega) (unhide Hsc)).mono ?_
  rintro e w1 ⟨r, rfl, hrec, hb1⟩
  have Hrec := hide hrec
  have HB1 := hide hb1
  clear hrec hb1 HF Hsc
  go_wp2_with fail
  refine (acts_any3 w1).mono ?_
  rintro e w2 ⟨m, rfl, hac, hb2, hm2⟩
  have HB2 := hide ((unhide HB1).trans (hb2.mono (unhide HB1).size))
  have hrec2 := (unhide Hrec).later hb2
  have hj2 := (unhide Hj).later (unhide HB2)
  have HA2 := hide hac
  obtain ⟨ra, rc, rfl, _⟩ : ∃ ra rc, r = .slice ra rs.length rc ∧ True := by
    obtain ⟨vs, h1, _⟩ := hrec2
    rcases h1.2 with ⟨e, e2⟩ | ⟨g, cap, cur, e, _⟩
    · exact ⟨none, 0, by rw [e, e2], trivial⟩
    · exact ⟨_, cap, e, trivial⟩
  have Hrec2 := hide hrec2
  have Hj2 := hide hj2
  have hBw := (unhide Hj).lt
  have Hrv := hide (unhide Hj).rw.lt
  have Hmw : Hid (w.heap.size ≤ m) := Nat.le_trans (unhide HB1).size hm2
  clear hac hb2 hrec2 hj2 Hrec
  go_wp2
  go_loopw [8, 10, 11, 12, 13, 14, 15, 16, 25] (fun sv _ _ _ _ _ _ _ iv wr => ∃ k n : Nat, iv = .int .i64 k ∧ sv = .int .i64 n ∧ k ≤ rs.length ∧ n ≤ 16777216 ∧ Hid (Play rs st B D t v o rv w2 k n wr)) (fun _ _ _ _ _ _ _ _ iv _ => rs.length - (intOf iv).toNat)
  case atStart => exact ⟨0, 0, rfl, rfl, Nat.zero_le _, by decide, ⟨st, rv, ⟨rfl, by simp⟩, by simp, unhide Hj2, Mov.refl _ _ _, Nat.le_refl _⟩⟩
  case round =>
    obtain ⟨k, n, rfl, rfl, hk, hn, Hh⟩ := hrel
    obtain ⟨st', rv', hrest, htt, hjr, hmr, hlr⟩ := unhide Hh
    by_cases hkl : k < rs.length
    · have hI : decide ((k : Int) < (rs.length : Int)) = true := by simpa using hkl
      have hkeep : ∀ j, w.heap.size ≤ j → j < w2.heap.size → wr.heap[j]? = w2.heap[j]? := fun j h1 h2 => hmr.fr.block j h2 (fun e => by
        rcases e with e | e
        · omega
        · have := unhide Hrv j e; omega)
      have hac3 : Acts wr m := (unhide HA2).frame (hkeep m (unhide Hmw) (unhide HA2).lt)
      obtain ⟨rb, xo, xd, rfl, hrb1, hrb2, hcell2, hsx2, hxin⟩ := (unhide Hrec2).at hkl
      have hcell := (World.cell?_of_block (w := w2) (a := ⟨rb, k, none⟩) (hkeep rb hrb1 hrb2)).trans hcell2
      have hsx : Sl wr _ rs[k] := hsx2.frame fun g hg _ => hkeep g (hxin g hg).1 (hxin g hg).2
      have hxne : ∀ g, (Value.slice xo rs[k].length xd).ownBlock = some g → ¬ (g = B ∨ rv'.ownBlock = some g) := fun g hg e => by
        have h1 := hxin g hg
        rcases e with e | e
        · omega
        · rcases hmr.nw g e with e2 | e2
          · have := unhide Hrv g e2; omega
          · omega
      have hfit := unhide Hfx rs[k] (List.getElem_mem hkl)
      have hdrop := List.drop_eq_getElem_cons hkl
      rw [hdrop] at hrest htt
      generalize hX : rs[k] = x at *
      rw [total_cons] at htt
      have hx1 : x.length ≤ 65536 := hfit.2
      have hsum : n + (8 + x.length) ≤ 16777216 := by omega
      have Hrest := hide hrest
      have Htt := hide htt
      have Hjr := hide hjr
      have Hmr := hide hmr
      have Hsx := hide hsx
      have Hxne := hide hxne
      have Hac3 := hide hac3
      have Hfit := hide hfit
      clear hrest htt hjr hmr hsx hac3 hfit hX hdrop Hh hkeep hsx2 hcell2 hxin hxne hrb1 hrb2
      go_wp2_with fail
      refine (changeOf_any _ x wr (unhide Hsx) (by omega)).mono ?_
      rintro e w3 ⟨ck, cn, cs, er, rfl, htold, hck, hb3⟩
      have hb4 : Below wr.heap.size wr (w3.alloc (.cells #[.int .i64 ck, .int .i64 cn, .string (bs cs)] 93)) := hb3.alloc hb3.size _
      have hcc := Cc.new w3 ck cn (bs cs) 93
      have q0 := hcc.c0
      have q1 := hcc.c1
      have q2 := hcc.c2
      have hac4 := (unhide Hac3).later hb4
      have hj4 := (unhide Hjr).later hb4
      have hs4 := (unhide Hsx).later hb4
      have HB4 := hide hb4
      have Hac4 := hide hac4
      have Hj4 := hide hj4
      have Hs4 := hide hs4
      clear hb3 hb4 hcc hac4 hj4 hs4
      rcases htold with ⟨c, hch, rfl, rfl, rfl, rfl⟩ | ⟨hno, her⟩
      · rcases c.three with ⟨s, rfl⟩ | ⟨nn, rfl⟩ | ⟨nn, s, rfl⟩
        · skip
          have hlk := look_act (Ch.add s) _ _ (unhide Hac4)
          have hnum := chOf_num hch
          have hact := act_any (Ch.add s) B D t v o st' rv' _ (unhide Hj4) hnum (by omega)
          rw [show actF (Ch.add s) = 83 from rfl] at hlk hact
          have Hone := hide (one_some (st := st') hch)
          have hgo := hact
          clear hgo
          generalize (Ch.add s).kind = ck at *
          generalize (Ch.add s).num = cn at *
          generalize (Ch.add s).txt = cs at *
          generalize hG : (Ch.add s).go st' = G at *
          clear hG
          have Hact := hide hact
          clear hact hch
          go_wp2_with fail
          generalize w3.alloc (.cells #[.int .i64 ck, .int .i64 cn, .string (bs cs)] 93) = W4 at *
          refine (unhide Hact).mono ?_
          rintro e w5 (⟨st5, rv5, hG5, rfl, hj5, hm5⟩ | ⟨hG5, rfl, hb5⟩)
          · have hs5 : Sl w5 (.slice xo x.length xd) x := (unhide Hs4).frame fun g hg hlt => hm5.fr.block g hlt (unhide Hxne g hg)
            · have HB5 := hide hm5
              have Hj5 := hide hj5
              have Hs5 := hide hs5
              have Hone5 : Hid (one x st' = some st5) := (unhide Hone).trans hG5
              clear hm5 hj5 hs5 hG5 Hone
              go_wp2_with fail
              refine (frame_yes _ x w5 (unhide Hs5) (unhide Hfit)).mono ?_
              rintro e w6 ⟨r6, rfl, ho6, hb6⟩
              obtain ⟨ra6, rc6, rfl⟩ := ho6.val
              have hfl := fr_length x
              have Hj6 := hide ((unhide Hj5).later hb6)
              have Hm6 := hide ((((unhide Hmr).later (unhide HB4)).trans (unhide HB5)).later hb6)
              have hsm := one_small (unhide Hone5) (unhide Hj4).hb
              clear ho6 hb6
              go_wp2
              exact ⟨⟨k + 1, n + (8 + x.length), by simp, by simp, hkl, hsum, ⟨st5, rv5, (unhide Hrest).some (unhide Hone5), by have := unhide Htt; omega, unhide Hj6, unhide Hm6, by omega⟩⟩, by simp only [intOf]; omega⟩
          · have Hone5 : Hid (one x st' = none) := (unhide Hone).trans hG5
            have Hj5 := hide ((unhide Hj4).later hb5)
            have Hm5 := hide (((unhide Hmr).later (unhide HB4)).later hb5)
            clear hb5 hG5 Hone
            go_wp2
            go_ret
            obtain ⟨e1, e2⟩ := (unhide Hrest).none (unhide Hone5)
            rw [e1, e2]
            exact ⟨rfl, rv', unhide Hj5, (unhide Hm5).ahead (unhide HB2)⟩
        · skip
          have hlk := look_act (Ch.first nn) _ _ (unhide Hac4)
          have hnum := chOf_num hch
          have hact := act_any (Ch.first nn) B D t v o st' rv' _ (unhide Hj4) hnum (by omega)
          rw [show actF (Ch.first nn) = 84 from rfl] at hlk hact
          have Hone := hide (one_some (st := st') hch)
          have hgo := hact
          clear hgo
          generalize (Ch.first nn).kind = ck at *
          generalize (Ch.first nn).num = cn at *
          generalize (Ch.first nn).txt = cs at *
          generalize hG : (Ch.first nn).go st' = G at *
          clear hG
          have Hact := hide hact
          clear hact hch
          go_wp2_with fail
          generalize w3.alloc (.cells #[.int .i64 ck, .int .i64 cn, .string (bs cs)] 93) = W4 at *
          refine (unhide Hact).mono ?_
          rintro e w5 (⟨st5, rv5, hG5, rfl, hj5, hm5⟩ | ⟨hG5, rfl, hb5⟩)
          · have hs5 : Sl w5 (.slice xo x.length xd) x := (unhide Hs4).frame fun g hg hlt => hm5.fr.block g hlt (unhide Hxne g hg)
            · have HB5 := hide hm5
              have Hj5 := hide hj5
              have Hs5 := hide hs5
              have Hone5 : Hid (one x st' = some st5) := (unhide Hone).trans hG5
              clear hm5 hj5 hs5 hG5 Hone
              go_wp2_with fail
              refine (frame_yes _ x w5 (unhide Hs5) (unhide Hfit)).mono ?_
              rintro e w6 ⟨r6, rfl, ho6, hb6⟩
              obtain ⟨ra6, rc6, rfl⟩ := ho6.val
              have hfl := fr_length x
              have Hj6 := hide ((unhide Hj5).later hb6)
              have Hm6 := hide ((((unhide Hmr).later (unhide HB4)).trans (unhide HB5)).later hb6)
              have hsm := one_small (unhide Hone5) (unhide Hj4).hb
              clear ho6 hb6
              go_wp2
              exact ⟨⟨k + 1, n + (8 + x.length), by simp, by simp, hkl, hsum, ⟨st5, rv5, (unhide Hrest).some (unhide Hone5), by have := unhide Htt; omega, unhide Hj6, unhide Hm6, by omega⟩⟩, by simp only [intOf]; omega⟩
          · have Hone5 : Hid (one x st' = none) := (unhide Hone).trans hG5
            have Hj5 := hide ((unhide Hj4).later hb5)
            have Hm5 := hide (((unhide Hmr).later (unhide HB4)).later hb5)
            clear hb5 hG5 Hone
            go_wp2
            go_ret
            obtain ⟨e1, e2⟩ := (unhide Hrest).none (unhide Hone5)
            rw [e1, e2]
            exact ⟨rfl, rv', unhide Hj5, (unhide Hm5).ahead (unhide HB2)⟩
        · skip
          have hlk := look_act (Ch.lay nn s) _ _ (unhide Hac4)
          have hnum := chOf_num hch
          have hact := act_any (Ch.lay nn s) B D t v o st' rv' _ (unhide Hj4) hnum (by omega)
          rw [show actF (Ch.lay nn s) = 85 from rfl] at hlk hact
          have Hone := hide (one_some (st := st') hch)
          have hgo := hact
          clear hgo
          generalize (Ch.lay nn s).kind = ck at *
          generalize (Ch.lay nn s).num = cn at *
          generalize (Ch.lay nn s).txt = cs at *
          generalize hG : (Ch.lay nn s).go st' = G at *
          clear hG
          have Hact := hide hact
          clear hact hch
          go_wp2_with fail
          generalize w3.alloc (.cells #[.int .i64 ck, .int .i64 cn, .string (bs cs)] 93) = W4 at *
          refine (unhide Hact).mono ?_
          rintro e w5 (⟨st5, rv5, hG5, rfl, hj5, hm5⟩ | ⟨hG5, rfl, hb5⟩)
          · have hs5 : Sl w5 (.slice xo x.length xd) x := (unhide Hs4).frame fun g hg hlt => hm5.fr.block g hlt (unhide Hxne g hg)
            · have HB5 := hide hm5
              have Hj5 := hide hj5
              have Hs5 := hide hs5
              have Hone5 : Hid (one x st' = some st5) := (unhide Hone).trans hG5
              clear hm5 hj5 hs5 hG5 Hone
              go_wp2_with fail
              refine (frame_yes _ x w5 (unhide Hs5) (unhide Hfit)).mono ?_
              rintro e w6 ⟨r6, rfl, ho6, hb6⟩
              obtain ⟨ra6, rc6, rfl⟩ := ho6.val
              have hfl := fr_length x
              have Hj6 := hide ((unhide Hj5).later hb6)
              have Hm6 := hide ((((unhide Hmr).later (unhide HB4)).trans (unhide HB5)).later hb6)
              have hsm := one_small (unhide Hone5) (unhide Hj4).hb
              clear ho6 hb6
              go_wp2
              exact ⟨⟨k + 1, n + (8 + x.length), by simp, by simp, hkl, hsum, ⟨st5, rv5, (unhide Hrest).some (unhide Hone5), by have := unhide Htt; omega, unhide Hj6, unhide Hm6, by omega⟩⟩, by simp only [intOf]; omega⟩
          · have Hone5 : Hid (one x st' = none) := (unhide Hone).trans hG5
            have Hj5 := hide ((unhide Hj4).later hb5)
            have Hm5 := hide (((unhide Hmr).later (unhide HB4)).later hb5)
            clear hb5 hG5 Hone
            go_wp2
            go_ret
            obtain ⟨e1, e2⟩ := (unhide Hrest).none (unhide Hone5)
            rw [e1, e2]
            exact ⟨rfl, rv', unhide Hj5, (unhide Hm5).ahead (unhide HB2)⟩
      · have Hone5 : Hid (one x st' = none) := one_none hno
        have Hm4 := hide ((unhide Hmr).later (unhide HB4))
        clear hno
        by_cases her0 : er = 0
        · subst her0
          rcases her with her | ⟨_, k1, k2, k3⟩
          · exact absurd rfl her
          obtain ⟨z, hlk⟩ := look_no _ m ck (unhide Hac4) (by omega) (by omega) (by omega)
          clear k1 k2 k3
          go_wp2
          go_ret
          obtain ⟨e1, e2⟩ := (unhide Hrest).none (unhide Hone5)
          rw [e1, e2]
          exact ⟨rfl, rv', unhide Hj4, (unhide Hm4).ahead (unhide HB2)⟩
        · have her1 : (er != 0) = true := by simpa using her0
          obtain ⟨z, bb, hlk⟩ := look_any ck _ m (unhide Hac4)
          clear her
          go_wp2
          go_ret
          obtain ⟨e1, e2⟩ := (unhide Hrest).none (unhide Hone5)
          rw [e1, e2]
          exact ⟨rfl, rv', unhide Hj4, (unhide Hm4).ahead (unhide HB2)⟩
    · have hI : decide ((k : Int) < (rs.length : Int)) = false := by simpa using hkl
      rw [List.drop_eq_nil_of_le (by omega)] at hrest
      have Hrest := hide hrest
      have Hjr := hide hjr
      have Hmr := hide hmr
      clear hrest hjr hmr htt hlr Hh
      go_wp2
      go_ret
      obtain ⟨e1, e2⟩ := (unhide Hrest).nil
      rw [e1, e2]
      exact ⟨rfl, rv', unhide Hjr, (unhide Hmr).ahead (unhide HB2)⟩

end Go.Proofs.Yteanjnkfoddfmaa

namespace Go.Proofs.Yteanjnkfoddfmaa
open Go.RowKit
set_option linter.unusedVariables false

/-- What the changes at a file's beginning make, and how many bytes they have. -/
def Opens (F : List UInt8) (st : St) (n : Nat) : Prop := ∃ rs, Scans F rs ∧ plays rs (0, [], []) = (st, n)

theorem Opens.ex (F : List UInt8) : ∃ st n, Opens F st n := by
  obtain ⟨rs, h⟩ := Scans.ex F.length F (Nat.le_refl _)
  exact ⟨_, _, rs, h, rfl⟩
theorem Opens.le {F : List UInt8} {st : St} {n : Nat} (h : Opens F st n) : n ≤ F.length := by
  obtain ⟨rs, h1, h2⟩ := h
  have := plays_le rs (0, [], [])
  rw [h2] at this
  exact Nat.le_trans this h1.total_le
theorem Opens.small {F : List UInt8} {st : St} {n : Nat} (h : Opens F st n) : st.1 ≤ 1099511627776 ∧ st.2.2.length ≤ n := by
  obtain ⟨rs, h1, h2⟩ := h
  have := plays_small rs (0, [], []) (Nat.zero_le _)
  rw [h2] at this
  exact ⟨this.1, by simpa using this.2⟩

set_option maxRecDepth 100000 in
theorem open_nil (w : World) : Calls Try.prog 10 #[.pointer none] w fun e w' => e = .returned (.tuple #[.pointer none, .int .i64 1]) ∧ w' = w := by
  go_enter Try.func10, Try.ntmps10
  go_wp2
  go_ret2
  exact ⟨rfl, rfl⟩

theorem cells2 (w : World) (a b : Int) (t : TypeId) : ∀ j (hj : j < [a, b].length), (w.alloc (.cells #[.int .i64 a, .int .i64 b] t)).cell? ⟨w.heap.size, j, none⟩ = some (.int .i64 [a, b][j]) := by
  intro j hj
  match j, hj with
  | 0, _ => simp
  | 1, _ => simp

theorem Jp.new (w : World) (D t v o : Nat) (ty : TypeId) : Jp (w.alloc (.cells #[.pointer (some ⟨D, 0, none⟩), .int .i64 t, .int .i64 v, .int .i64 o, .int .i64 0, .string ⟨#[]⟩, .slice none 0 0] ty)) w.heap.size D t v o (0, [], []) (.slice none 0 0) :=
  ⟨by simp, by simp, by simp, by simp, by simp, (by simp; rfl), by simp, fun j => (by simp), .inl ⟨rfl, rfl⟩, fun g h => (by cases h), Nat.zero_le _, Nat.zero_le _⟩

section
variable {T : Nat → Prop}

set_option maxRecDepth 100000 in
theorem open_no (D : Nat) (nf nc sf sc : List UInt8) (w : World) (h : Dk T w D nf nc sf sc) (hc : nc.length ≤ 16777216) (hd : hdOf nc = none) :
    Calls Try.prog 10 #[.pointer (some ⟨D, 0, none⟩)] w fun e w' => e = .returned (.tuple #[.pointer none, .int .i64 71]) ∧ Below w.heap.size w w' := by
  have H := hide h
  have Hd := hide hd
  clear h hd
  go_enter Try.func10, Try.ntmps10
  go_wp2_with fail
  refine (cell_g D nf nc sf sc w (unhide H)).mono ?_
  rintro e w1 ⟨g, rfl, ho1, hb1⟩
  have HO1 := hide ho1
  have HB1 := hide hb1
  clear ho1 hb1
  go_wp2_with fail
  refine (hardOf_any _ nc w1 (unhide HO1).sl (by omega)).mono ?_
  rintro e w2 ⟨hh, hb2⟩
  rcases hh with ⟨t, v, o, he, _⟩ | ⟨he, rfl⟩
  · rw [unhide Hd] at he; cases he
  have hb3 : Below w.heap.size w (w2.alloc (.cells #[.int .i64 0, .int .i64 0, .int .i64 0] 43)) := ((unhide HB1).trans (hb2.mono (unhide HB1).size)).alloc (by have := (unhide HB1).size; have := hb2.size; omega) _
  have HB3 := hide hb3
  clear hb2 hb3
  go_wp2
  go_ret2
  exact ⟨rfl, unhide HB3⟩

set_option maxRecDepth 100000 in
set_option maxHeartbeats 2000000 in
theorem open_yes (D : Nat) (nf nc sf sc : List UInt8) (t v o : Nat) (st : St) (n : Nat) (w : World) (h : Dk T w D nf nc sf sc) (hfl : nf.length ≤ 16777216) (hc : nc.length ≤ 16777216) (hd : hdOf nc = some (t, v, o)) (hop : Opens nf st n) :
    Calls Try.prog 10 #[.pointer (some ⟨D, 0, none⟩)] w fun e w' => ∃ B rv, e = .returned (.tuple #[.pointer (some ⟨B, 0, none⟩), .int .i64 0]) ∧ w.heap.size ≤ B ∧ (∀ g, rv.ownBlock = some g → w.heap.size ≤ g) ∧ Jp w' B D t v o st rv ∧
      ((n = nf.length ∧ Below w.heap.size w w') ∨ (n < nf.length ∧ Dk T w' D (nf.take n) nc (nf.take n) nc ∧ Fr T w w')) := by
  obtain ⟨rs, hsc, hpl⟩ := id hop
  have hnle := hop.le
  have H := hide h
  have Hd := hide hd
  have Hsc := hide hsc
  have Hpl := hide hpl
  clear h hd hsc hpl hop
  go_enter Try.func10, Try.ntmps10
  go_wp2_with fail
  refine (cell_g D nf nc sf sc w (unhide H)).mono ?_
  rintro e w1 ⟨g, rfl, ho1, hb1⟩
  have HO1 := hide ho1
  have HB1 := hide hb1
  clear ho1 hb1
  go_wp2_with fail
  refine (hardOf_any _ nc w1 (unhide HO1).sl (by omega)).mono ?_
  rintro e w2 ⟨hh, hb2⟩
  rcases hh with ⟨t', v', o', he, _, _, _, rfl⟩ | ⟨he, rfl⟩
  case inr => rw [unhide Hd] at he; cases he
  have he' := (unhide Hd).symm.trans he
  simp only [Option.some.injEq, Prod.mk.injEq] at he'
  obtain ⟨rfl, rfl, rfl⟩ := he'
  clear he
  have HB2 := hide ((unhide HB1).trans (hb2.mono (unhide HB1).size))
  clear hb2
  have hjp := Jp.new (w2.alloc (.cells #[.int .i64 t, .int .i64 v, .int .i64 o] 43)) D t v o 77
  have hz2 := (unhide HB2).size
  have hsz : (w2.alloc (.cells #[.int .i64 t, .int .i64 v, .int .i64 o] 43)).heap.size = w2.heap.size + 1 := by simp
  rw [hsz] at hjp
  have HB3 : Hid (Below w.heap.size w ((w2.alloc (.cells #[.int .i64 t, .int .i64 v, .int .i64 o] 43)).alloc (.cells #[.pointer (some ⟨D, 0, none⟩), .int .i64 t, .int .i64 v, .int .i64 o, .int .i64 0, .string ⟨#[]⟩, .slice none 0 0] 77))) := ((unhide HB2).alloc hz2 _).alloc (by rw [hsz]; omega) _
  have Hjp := hide hjp
  clear hjp hsz
  go_wp2_with fail
  generalize ((w2.alloc (.cells #[.int .i64 t, .int .i64 v, .int .i64 o] 43)).alloc (.cells #[.pointer (some ⟨D, 0, none⟩), .int .i64 t, .int .i64 v, .int .i64 o, .int .i64 0, .string ⟨#[]⟩, .slice none 0 0] 77)) = W3 at *
  obtain ⟨B, hBe⟩ : ∃ B, w2.heap.size + 1 = B := ⟨_, rfl⟩
  rw [hBe] at Hjp ⊢
  have hBge : w.heap.size ≤ B := by omega
  clear hBe
  refine (file_g D nf nc sf sc W3 ((unhide H).later (unhide HB3))).mono ?_
  rintro e w4 ⟨g4, rfl, ho4, hb4⟩
  have hz3 := (unhide HB3).size
  have HB4 := hide ((unhide HB3).trans (hb4.mono hz3))
  have Hjp4 := hide ((unhide Hjp).later hb4)
  have HO4 := hide ho4
  clear ho4 hb4
  go_wp2_with fail
  refine (replay_any B D t v o (0, [], []) (.slice none 0 0) _ nf rs w4 (unhide Hjp4) (unhide HO4).sl hfl (unhide Hsc) (by simp)).mono ?_
  rw [unhide Hpl]
  rintro e w5 ⟨rfl, rv, hj5, hm5⟩
  have HB5 := hide ((unhide HB4).trans (hm5.below hBge (fun g hg => by cases hg) (unhide HB4).size))
  have Hrv : Hid (∀ g, rv.ownBlock = some g → w.heap.size ≤ g) := fun g hg => by
    rcases hm5.nw g hg with e | e
    · cases e
    · have := (unhide HB4).size; omega
  have Hj5 := hide hj5
  clear hj5 hm5
  by_cases hlt : n < nf.length
  · have hI : decide ((n : Int) < (nf.length : Int)) = true := by simpa using hlt
    have hd5 : Dk (fun k => T k ∧ k < w.heap.size) w5 D nf nc sf sc := ((unhide H).mono (T := fun k => T k ∧ k < w.heap.size) (fun k hk ht => ⟨ht, hk⟩)).later (unhide HB5)
    have Hd5 := hide hd5
    clear hd5
    go_wp2_with fail
    refine (cut_ok D nf nc sf sc n w5 (unhide Hd5) hnle).mono ?_
    rintro e w6 ⟨rfl, hd6, hf6⟩
    have Hd6 := hide hd6
    have Hf6 := hide hf6
    clear hd6 hf6
    go_wp2_with fail
    refine (sync_ok D (nf.take n) nc sf sc w6 (unhide Hd6)).mono ?_
    rintro e w7 ⟨rfl, hd7, hf7⟩
    have Hd7 := hide hd7
    have Hf7 := hide ((unhide Hf6).trans hf7)
    clear hd7 hf7
    have hcs := cells2 w7 0 0 30
    have Hcs := hide hcs
    have HB8 : Hid (Below w7.heap.size w7 (w7.alloc (.cells #[.int .i64 0, .int .i64 0] 30))) := below_new w7 _
    clear hcs
    go_wp2_with fail
    generalize w7.alloc (.cells #[.int .i64 0, .int .i64 0] 30) = W8 at *
    refine (or_any w7.heap.size 2 [0, 0] rfl W8 (unhide Hcs) (by decide)).mono ?_
    rintro e w9 ⟨q, rfl, hq, rfl⟩
    obtain rfl : q = 0 := hq.2 (by simp)
    clear hq
    go_wp2
    go_ret2
    refine ⟨B, rv, rfl, hBge, unhide Hrv, ((unhide Hj5).other (unhide Hf7) (fun k _ hx ht => ?_)).later (unhide HB8), .inr ⟨hlt, ((unhide Hd7).mono (fun k _ ht => ht.1)).later (unhide HB8), ((Fr.of (unhide HB5)).trans ((unhide Hf7).mono (fun k _ ht => ht.1))).trans (Fr.of (unhide HB8))⟩⟩
    rcases hx with e | e
    · have := ht.2; omega
    · have := unhide Hrv k e; have := ht.2; omega
  · have hI : decide ((n : Int) < (nf.length : Int)) = false := by simpa using hlt
    go_wp2
    go_ret2
    exact ⟨B, rv, rfl, hBge, unhide Hrv, unhide Hj5, .inl ⟨by omega, unhide HB5⟩⟩
end

end Go.Proofs.Yteanjnkfoddfmaa

namespace Go.Proofs.Yteanjnkfoddfmaa
open Go.RowKit
set_option linter.unusedVariables false

/-- All of them are done. -/
def runs : List (List UInt8) → St → Option St
  | [], st => some st
  | r :: rs, st => (one r st).bind (runs rs)

theorem runs_plays : ∀ (rs : List (List UInt8)) (s s' : St), runs rs s = some s' → plays rs s = (s', total rs)
  | [], s, s', h => by
    simp only [runs, Option.some.injEq] at h
    subst h
    rfl
  | r :: rs, s, s', h => by
    unfold runs at h
    cases ho : one r s with
    | none => rw [ho] at h; cases h
    | some s1 =>
      rw [ho] at h
      have := runs_plays rs s1 s' h
      rw [plays_some ho, this, total_cons]

theorem runs_snoc : ∀ (rs : List (List UInt8)) (x : List UInt8) (s : St), runs (rs ++ [x]) s = (runs rs s).bind (one x)
  | [], x, s => by
    show (one x s).bind (runs []) = one x s
    cases one x s <;> rfl
  | r :: rs, x, s => by
    show (one r s).bind (runs (rs ++ [x])) = ((one r s).bind (runs rs)).bind (one x)
    cases h : one r s with
    | none => rfl
    | some s1 => exact runs_snoc rs x s1

/-- The records of the file, one behind the other, make that state. -/
def Made (F : List UInt8) (st : St) : Prop := ∃ rs, F = frs rs ∧ (∀ x ∈ rs, Fits x) ∧ runs rs (0, [], []) = some st

theorem Made.nil : Made [] (0, [], []) := ⟨[], rfl, fun x hx => by simp at hx, rfl⟩

theorem Made.snoc {F : List UInt8} {st st' : St} (h : Made F st) {c : Ch} (hc : c.Good) (hg : c.go st = some st') : Made (F ++ fr c.enc) st' := by
  obtain ⟨rs, rfl, h2, h3⟩ := h
  refine ⟨rs ++ [c.enc], by rw [frs_snoc], fun x hx => ?_, ?_⟩
  · rcases List.mem_append.1 hx with e | e
    · exact h2 x e
    · simp at e; subst e; exact c.fits hc
  · rw [runs_snoc, h3]
    show one c.enc st = some st'
    rw [one_some (chOf_enc c hc)]
    exact hg

theorem Made.opens {F : List UInt8} {st : St} (h : Made F st) : Opens F st F.length := by
  obtain ⟨rs, rfl, h2, h3⟩ := h
  refine ⟨rs, ?_, ?_⟩
  · have := Scans.frames (r := rs) [] h2 (fst_short (by simp))
    rwa [List.append_nil] at this
  · rw [runs_plays _ _ _ h3, frs_length]

theorem fst_take {l x : List UInt8} (h : fst l = some x) {m : Nat} (hm : 8 + x.length ≤ m) : fst (l.take m) = some x := by
  have hs := fst_some h
  have hge : ∀ i, i < 8 + x.length → (l.take m)[i]? = l[i]? := fun i hi => List.getElem?_take_of_lt (by omega)
  have ho : of4 (l.take m) = of4 l := by
    unfold of4
    rw [hge 0 (by omega), hge 1 (by omega), hge 2 (by omega), hge 3 (by omega)]
  have ho2 : of4 ((l.take m).drop 4) = of4 (l.drop 4) := by
    unfold of4
    simp only [List.getElem?_drop]
    rw [hge (4 + 0) (by omega), hge (4 + 1) (by omega), hge (4 + 2) (by omega), hge (4 + 3) (by omega)]
  have hl : (l.take m).length = min m l.length := List.length_take
  unfold fst at h ⊢
  split at h
  · rename_i hc
    obtain ⟨h1, h2, h3, h4, h5⟩ := hc
    simp only [Option.some.injEq] at h
    have hxl : x.length = of4 l := by rw [← h, List.length_take, List.length_drop]; omega
    have e : ((l.take m).drop 8).take (of4 l) = (l.drop 8).take (of4 l) := by
      rw [List.drop_take, List.take_take, Nat.min_eq_left (by omega)]
    rw [ho, ho2, e, if_pos ⟨by omega, h2, h3, by omega, h5⟩, h]
  · cases h

theorem opens_take : ∀ (rs : List (List UInt8)) (F : List UInt8) (s st : St) (n : Nat), Scans F rs → plays rs s = (st, n) → ∃ rs', Scans (F.take n) rs' ∧ plays rs' s = (st, n)
  | [], F, s, st, n, h, hp => by
    simp only [plays, Prod.mk.injEq] at hp
    obtain ⟨rfl, rfl⟩ := hp
    exact ⟨[], fst_short (by simp), rfl⟩
  | r :: rs, F, s, st, n, h, hp => by
    cases ho : one r s with
    | none =>
      rw [plays_none ho] at hp
      simp only [Prod.mk.injEq] at hp
      obtain ⟨rfl, rfl⟩ := hp
      exact ⟨[], fst_short (by simp), rfl⟩
    | some s1 =>
      rw [plays_some ho] at hp
      simp only [Prod.mk.injEq] at hp
      obtain ⟨h1, rfl⟩ := hp
      obtain ⟨rs', h3, h4⟩ := opens_take rs (F.drop (8 + r.length)) s1 st _ h.2 (by rw [← h1])
      refine ⟨r :: rs', ⟨fst_take h.1 (by omega), ?_⟩, ?_⟩
      · rw [List.drop_take, Nat.add_sub_cancel_left]
        exact h3
      · rw [plays_some ho, h4]

/-- What is opened is opened again. -/
theorem Opens.again {F : List UInt8} {st : St} {n : Nat} (h : Opens F st n) : Opens (F.take n) st n := by
  obtain ⟨rs, h1, h2⟩ := h
  obtain ⟨rs', h3, h4⟩ := opens_take rs F _ st n h1 h2
  exact ⟨rs', h3, h4⟩

theorem hdOf_nil : hdOf [] = some (0, 0, 0) := if_pos rfl

/-- A journal on a disk: behind Open the two belong together. -/
theorem open_jd {S T : Nat → Prop} (D : Nat) (nf nc sf sc : List UInt8) (t v o : Nat) (st : St) (n : Nat) (w : World) (h : Dk T w D nf nc sf sc) (hTS : ∀ k, k < w.heap.size → T k → S k) (hS : ∀ k, w.heap.size ≤ k → S k) (hfl : nf.length ≤ 16777216) (hc : nc.length ≤ 16777216) (hd : hdOf nc = some (t, v, o)) (hop : Opens nf st n) :
    Calls Try.prog 10 #[.pointer (some ⟨D, 0, none⟩)] w fun e w' => ∃ B sf' sc', e = .returned (.tuple #[.pointer (some ⟨B, 0, none⟩), .int .i64 0]) ∧ w.heap.size ≤ B ∧ Jd S w' B D (nf.take n) nc sf' sc' t v o st ∧ Fr S w w' ∧
      ((n = nf.length ∧ sf' = sf ∧ sc' = sc ∧ Below w.heap.size w w') ∨ (n < nf.length ∧ sf' = nf.take n ∧ sc' = nc)) := by
  have h0 := h.mono (T := fun k => T k ∧ k < w.heap.size) (fun k hk ht => ⟨ht, hk⟩)
  refine (open_yes D nf nc sf sc t v o st n w h0 hfl hc hd hop).mono ?_
  rintro e w' ⟨B, rv, rfl, hB, hrv, hj, hx⟩
  have hsep : ∀ k, k < w'.heap.size → (T k ∧ k < w.heap.size) → S k ∧ k ≠ B ∧ rv.ownBlock ≠ some k := fun k _ ht => ⟨hTS k ht.2 ht.1, by have := ht.2; omega, fun e => by have := hrv k e; have := ht.2; omega⟩
  rcases hx with ⟨hn, hb⟩ | ⟨hn, hd', hf⟩
  · refine ⟨B, sf, sc, rfl, hB, ⟨_, rv, hj, ?_, hsep, hS B hB, fun g hg => hS g (hrv g hg)⟩, Fr.of hb, .inl ⟨hn, rfl, rfl, hb⟩⟩
    rw [hn, List.take_length]
    exact h0.later hb
  · exact ⟨B, _, _, rfl, hB, ⟨_, rv, hj, hd', hsep, hS B hB, fun g hg => hS g (hrv g hg)⟩, hf.mono (fun k hk ht => hTS k ht.2 ht.1), .inr ⟨hn, rfl, rfl⟩⟩

end Go.Proofs.Yteanjnkfoddfmaa
