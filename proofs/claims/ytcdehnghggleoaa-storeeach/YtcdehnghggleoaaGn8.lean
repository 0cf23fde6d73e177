/-
  Sf, Sa0, Flat, Flat9: one behind the other. No law is proved here.
-/
import Derived.Test.YtcdehnghggleoaaSr2
import Derived.ProofKit
import Derived.OpenShut
import Derived.Deep.Slices
/-
  The contract of Refresh. No law is proved here.
-/
namespace Go.Proofs.Ytcdehnghggleoaa
open Go.RowKit Go.Maps
set_option linter.unusedVariables false
attribute [local go_sem] Oper.semAt_some

/-- A span's chains, refreshed: the transaction that is in the way, or the last error. -/
def goF (id : Int) (fr to : Stp) : Int → List Ent → Met × Int
  | r, [] => (Met.zero, r)
  | r, e :: l => if (refR e.c.vs e.c.opn e.c.itn id fr to).2 = 81 then ((refR e.c.vs e.c.opn e.c.itn id fr to).1, 81) else goF id fr to (if (refR e.c.vs e.c.opn e.c.itn id fr to).2 = 0 then r else (refR e.c.vs e.c.opn e.c.itn id fr to).2) l
def refS (f t : ByteArray) (id : Int) (fr to : Stp) (L : List Ent) : Met × Int :=
  if S5.rightB f t = true then goF id fr to 0 (inE f t L) else (Met.zero, 51)

/-- While a span is refreshed: the caller's variables. -/
structure FrI (w : World) (S1 : Nat) (id : Int) (fr to : Stp) (r : Int) (W : World) : Prop where
  bel : Below w.heap.size w W
  I : Blk W (w.heap.size + 1) [.int .i64 id]
  F : Blk W (w.heap.size + 1 + 1) [.int .i64 fr.1, .int .i64 fr.2]
  T : Blk W (w.heap.size + 1 + 1 + 1) [.int .i64 to.1, .int .i64 to.2]
  M : Blk W (w.heap.size + 1 + 1 + 1 + 1) [.int .i64 0, .int .i64 0, .string ⟨#[]⟩, .int .i64 0, .int .i64 0]
  R : Blk W (w.heap.size + 1 + 1 + 1 + 1 + 1) [.int .i64 0]
  V : Blk W S1 [.int .i64 r]
theorem FrI.own {w : World} {S1 B : Nat} (hB : w.heap.size ≤ B) {id : Int} {fr to : Stp} {r : Int} {W W' : World} {row : Option Nat} (h : FrI w S1 id fr to r W) (hg : W.grownBy W' row) (hr : ∀ r, row = some r → B ≤ r ∧ ∃ o : Obj, W.heap[r]? = some o ∧ o.isCells = false) : FrI w S1 id fr to r W' := by
  have hr' : ∀ r, row = some r → ∃ o : Obj, W.heap[r]? = some o ∧ o.isCells = false := fun r e => (hr r e).2
  exact ⟨below_turn h.bel hB h.bel.size hg hr, h.I.turn (by simp) hg hr', h.F.turn (by simp) hg hr', h.T.turn (by simp) hg hr', h.M.turn (by simp) hg hr', h.R.turn (by simp) hg hr', h.V.turn (by simp) hg hr'⟩
theorem FrI.later {w : World} {S1 : Nat} {id : Int} {fr to : Stp} {r : Int} {W W' : World} (h : FrI w S1 id fr to r W) (hb : Below W.heap.size W W') : FrI w S1 id fr to r W' :=
  ⟨h.bel.trans (hb.mono h.bel.size), h.I.later hb, h.F.later hb, h.T.later hb, h.M.later hb, h.R.later hb, h.V.later hb⟩
theorem FrI.put {w : World} {S1 : Nat} {id : Int} {fr to : Stp} {r r' : Int} {W : World} (hs : w.heap.size + 1 + 1 + 1 + 1 + 1 < S1) (h : FrI w S1 id fr to r W) : FrI w S1 id fr to r' (setAll W S1 0 [.int .i64 r']) := by
  have k : ∀ {b : Nat} {cs : List Value}, Blk W b cs → b ≠ S1 → Blk (setAll W S1 0 [.int .i64 r']) b cs := fun hb n1 => Blk.others n1 _ 0 hb
  exact ⟨below_setAll (by omega) _ 0 h.bel, k h.I (by omega), k h.F (by omega), k h.T (by omega), k h.M (by omega), k h.R (by omega), h.V.all _ rfl⟩
structure FrX (w : World) (R : Met × Int) (W : World) : Prop where
  bel : Below w.heap.size w W
  M : Blk W (w.heap.size + 1 + 1 + 1 + 1) [.int .i64 R.1.id, .int .i64 R.1.ep, .string R.1.anchor, .int .i64 R.1.start.1, .int .i64 R.1.start.2]
  R : Blk W (w.heap.size + 1 + 1 + 1 + 1 + 1) [.int .i64 R.2]
theorem FrX.own {w : World} {B : Nat} (hB : w.heap.size ≤ B) {R : Met × Int} {W W' : World} {row : Option Nat} (h : FrX w R W) (hg : W.grownBy W' row) (hr : ∀ r, row = some r → B ≤ r ∧ ∃ o : Obj, W.heap[r]? = some o ∧ o.isCells = false) : FrX w R W' := by
  have hr' : ∀ r, row = some r → ∃ o : Obj, W.heap[r]? = some o ∧ o.isCells = false := fun r e => (hr r e).2
  exact ⟨below_turn h.bel hB h.bel.size hg hr, h.M.turn (by simp) hg hr', h.R.turn (by simp) hg hr'⟩
theorem results_me9 {fn : Func} {k1 k2 : Nat} (hf : fn.results = #[.cell k1 30, .cell k2 37]) {tmps : Array Value} {w : World} {B1 B2 : Nat} (m : Met) (e : Int)
    (hk1 : tmps[k1]? = some (.pointer (some ⟨B1, 0, none⟩))) (hk2 : tmps[k2]? = some (.pointer (some ⟨B2, 0, none⟩)))
    (h1 : Blk w B1 [.int .i64 m.id, .int .i64 m.ep, .string m.anchor, .int .i64 m.start.1, .int .i64 m.start.2]) (h2 : Blk w B2 [.int .i64 e]) : (results fn tmps).run Try.prog w = .ok (.tuple #[(.agg #[.int .i64 m.id, .int .i64 m.ep, .string m.anchor, .int .i64 m.start.1, .int .i64 m.start.2]), .int .i64 e]) w := by
  simp [results, hf, go_sem, h1.c, h2.c, hk1, hk2]

section
set_option maxRecDepth 100000
set_option maxHeartbeats 2000000
theorem refresh9_any (a b : Nat) (L : List Ent) (f t : ByteArray) (id : Int) (fr to : Stp) (w : World) (h : Sto w a b L) :
    Calls Try.prog 17 #[.pointer (some ⟨a, 0, none⟩), .agg #[.string f, .string t], .int .i64 id, (.agg #[.int .i64 fr.1, .int .i64 fr.2]), (.agg #[.int .i64 to.1, .int .i64 to.2])] w fun e w' => e = .returned (.tuple #[(.agg #[.int .i64 (refS f t id fr to L).1.id, .int .i64 (refS f t id fr to L).1.ep, .string (refS f t id fr to L).1.anchor, .int .i64 (refS f t id fr to L).1.start.1, .int .i64 (refS f t id fr to L).1.start.2]), .int .i64 (refS f t id fr to L).2]) ∧ Below w.heap.size w w' := by
  have hM := fun w' => maygo_any ⟨a, 0, none⟩ f t w'
  obtain ⟨R, hR⟩ : ∃ R, refS f t id fr to L = R := ⟨_, rfl⟩
  rw [hR]
  have HR := hide hR
  clear hR
  generalize hz : S5.rightB f t = z at *
  have QX := (((((Blk.new w #[.string f, .string t] 26).alloc (.cells #[.int .i64 id] 3)).alloc (.cells #[.int .i64 fr.1, .int .i64 fr.2] 28)).alloc (.cells #[.int .i64 to.1, .int .i64 to.2] 28)).alloc (.cells #[.int .i64 0, .int .i64 0, .string ⟨#[]⟩, .int .i64 0, .int .i64 0] 30)).alloc (.cells #[.int .i64 0] 37)
  have QI := ((((Blk.new (w.alloc (.cells #[.string f, .string t] 26)) #[.int .i64 id] 3).alloc (.cells #[.int .i64 fr.1, .int .i64 fr.2] 28)).alloc (.cells #[.int .i64 to.1, .int .i64 to.2] 28)).alloc (.cells #[.int .i64 0, .int .i64 0, .string ⟨#[]⟩, .int .i64 0, .int .i64 0] 30)).alloc (.cells #[.int .i64 0] 37)
  rw [show (w.alloc (.cells #[.string f, .string t] 26)).heap.size = w.heap.size + 1 by simp] at QI
  have QF := (((Blk.new ((w.alloc (.cells #[.string f, .string t] 26)).alloc (.cells #[.int .i64 id] 3)) #[.int .i64 fr.1, .int .i64 fr.2] 28).alloc (.cells #[.int .i64 to.1, .int .i64 to.2] 28)).alloc (.cells #[.int .i64 0, .int .i64 0, .string ⟨#[]⟩, .int .i64 0, .int .i64 0] 30)).alloc (.cells #[.int .i64 0] 37)
  rw [show ((w.alloc (.cells #[.string f, .string t] 26)).alloc (.cells #[.int .i64 id] 3)).heap.size = w.heap.size + 1 + 1 by simp] at QF
  have QT := ((Blk.new (((w.alloc (.cells #[.string f, .string t] 26)).alloc (.cells #[.int .i64 id] 3)).alloc (.cells #[.int .i64 fr.1, .int .i64 fr.2] 28)) #[.int .i64 to.1, .int .i64 to.2] 28).alloc (.cells #[.int .i64 0, .int .i64 0, .string ⟨#[]⟩, .int .i64 0, .int .i64 0] 30)).alloc (.cells #[.int .i64 0] 37)
  rw [show (((w.alloc (.cells #[.string f, .string t] 26)).alloc (.cells #[.int .i64 id] 3)).alloc (.cells #[.int .i64 fr.1, .int .i64 fr.2] 28)).heap.size = w.heap.size + 1 + 1 + 1 by simp] at QT
  have QM := (Blk.new ((((w.alloc (.cells #[.string f, .string t] 26)).alloc (.cells #[.int .i64 id] 3)).alloc (.cells #[.int .i64 fr.1, .int .i64 fr.2] 28)).alloc (.cells #[.int .i64 to.1, .int .i64 to.2] 28)) #[.int .i64 0, .int .i64 0, .string ⟨#[]⟩, .int .i64 0, .int .i64 0] 30).alloc (.cells #[.int .i64 0] 37)
  rw [show ((((w.alloc (.cells #[.string f, .string t] 26)).alloc (.cells #[.int .i64 id] 3)).alloc (.cells #[.int .i64 fr.1, .int .i64 fr.2] 28)).alloc (.cells #[.int .i64 to.1, .int .i64 to.2] 28)).heap.size = w.heap.size + 1 + 1 + 1 + 1 by simp] at QM
  have QR := Blk.new (((((w.alloc (.cells #[.string f, .string t] 26)).alloc (.cells #[.int .i64 id] 3)).alloc (.cells #[.int .i64 fr.1, .int .i64 fr.2] 28)).alloc (.cells #[.int .i64 to.1, .int .i64 to.2] 28)).alloc (.cells #[.int .i64 0, .int .i64 0, .string ⟨#[]⟩, .int .i64 0, .int .i64 0] 30)) #[.int .i64 0] 37
  rw [show (((((w.alloc (.cells #[.string f, .string t] 26)).alloc (.cells #[.int .i64 id] 3)).alloc (.cells #[.int .i64 fr.1, .int .i64 fr.2] 28)).alloc (.cells #[.int .i64 to.1, .int .i64 to.2] 28)).alloc (.cells #[.int .i64 0, .int .i64 0, .string ⟨#[]⟩, .int .i64 0, .int .i64 0] 30)).heap.size = w.heap.size + 1 + 1 + 1 + 1 + 1 by simp] at QR
  have hB : Below w.heap.size w ((((((w.alloc (.cells #[.string f, .string t] 26)).alloc (.cells #[.int .i64 id] 3)).alloc (.cells #[.int .i64 fr.1, .int .i64 fr.2] 28)).alloc (.cells #[.int .i64 to.1, .int .i64 to.2] 28)).alloc (.cells #[.int .i64 0, .int .i64 0, .string ⟨#[]⟩, .int .i64 0, .int .i64 0] 30)).alloc (.cells #[.int .i64 0] 37)) := ((((((Below.refl w.heap.size w).alloc (Nat.le_refl _) _).alloc (by simp) _).alloc (by simp; omega) _).alloc (by simp; omega) _).alloc (by simp; omega) _).alloc (by simp; omega) _
  have hsto := h.later hB
  refine (callsIn_wide (n := 6)).1 ?_
  refine callsIn_of_wp_marks Try.func17 rfl trivial ?_ rfl
  simp only [Try.ntmps17, List.size_toArray, List.length_cons, List.length_nil, Nat.reduceAdd, Nat.reduceSub, Array.replicate_succ, Array.replicate_zero, List.push_toArray, List.append_toArray, List.nil_append, List.cons_append]
  gi_wp2_with fail
  generalize (((((w.alloc _).alloc _).alloc _).alloc _).alloc _).alloc _ = W at *
  refine ⟨trivial, (callsIn_wide.2 (hM _)).mono ?_⟩
  rintro e W1 ⟨rfl, hb1⟩
  have hsto1 := hsto.later hb1
  replace hB := hB.trans (hb1.mono hB.size)
  replace QX := QX.later hb1
  replace QI := QI.later hb1
  replace QF := QF.later hb1
  replace QT := QT.later hb1
  replace QM := QM.later hb1
  replace QR := QR.later hb1
  have hSW : w.heap.size + 1 + 1 + 1 + 1 + 1 < W1.heap.size := QR.lt
  clear hb1 hsto hM
  have hB0 := hB
  clear hB
  cases z
  · have hz51 : (if false = true then (0 : Int) else 51) = 51 := rfl
    rw [hz51]
    have VR := Blk.new W1 #[.int .i64 51] 37
    have hB : Below W1.heap.size W1 (W1.alloc (.cells #[.int .i64 51] 37)) := (Below.refl W1.heap.size W1).alloc (Nat.le_refl _) _
    replace QM := QM.later hB
    replace QR := QR.later hB
    have hB2 := hB0.trans (hB.mono hB0.size)
    have hRe : R = (Met.zero, 51) := by
      rw [← unhide HR]
      unfold refS
      rw [hz, if_neg (by simp)]
    subst hRe
    clear HR hB hB0
    have VR_0 := VR.c 0; simp only [List.getElem?_cons_zero] at VR_0
    have QM_0 := QM.c 0; have QM_1 := QM.c 1; have QM_2 := QM.c 2; have QM_3 := QM.c 3; have QM_4 := QM.c 4; simp only [List.getElem?_cons_zero, List.getElem?_cons_succ] at QM_0 QM_1 QM_2 QM_3 QM_4
    have QR_0 := QR.c 0; simp only [List.getElem?_cons_zero] at QR_0
    have QMf := QM.f
    have QRf := QR.f
    have VRf := VR.f
    gi_upto_region 3 with fail
    generalize W1.alloc _ = W2 at *
    have HB := hide hB2
    have HH := hide (And.intro QM QR)
    clear hB2 QM QR
    refine wpIn_wide.2 ?_
    go_region
    gi_wp2
    obtain ⟨QM, QR⟩ := unhide HH
    obtain ⟨q1, q2⟩ := two QM QR [.int .i64 0, .int .i64 0, .string ⟨#[]⟩, .int .i64 0, .int .i64 0] [.int .i64 51] rfl rfl (by omega)
    have hb := below_setAll (C := w.heap.size + 1 + 1 + 1 + 1 + 1) (by omega) [.int .i64 51] 0 (below_setAll (C := w.heap.size + 1 + 1 + 1 + 1) (by omega) [.int .i64 0, .int .i64 0, .string ⟨#[]⟩, .int .i64 0, .int .i64 0] 0 (unhide HB))
    exact ⟨_, results_me9 Try.results17 Met.zero 51 rfl rfl q1.drew q2.drew, rfl, hb.drew⟩
  · have hz0 : (if true = true then (0 : Int) else 51) = 0 := rfl
    rw [hz0]
    have hRe : R = goF id fr to 0 (inE f t L) := by
      rw [← unhide HR]
      unfold refS
      rw [hz, if_pos rfl]
    have HR := hide hRe
    clear hRe
    have VR := Blk.new W1 #[.int .i64 0] 37
    have hB : Below W1.heap.size W1 (W1.alloc (.cells #[.int .i64 0] 37)) := (Below.refl W1.heap.size W1).alloc (Nat.le_refl _) _
    have hsto2 := hsto1.later hB
    replace QX := QX.later hB
    replace QI := QI.later hB
    replace QF := QF.later hB
    replace QT := QT.later hB
    replace QM := QM.later hB
    replace QR := QR.later hB
    have hB2 := hB0.trans (hB.mono hB0.size)
    have hsz2 : (W1.alloc (.cells #[.int .i64 0] 37)).heap.size = W1.heap.size + 1 := by simp
    have VR_0 := VR.c 0; simp only [List.getElem?_cons_zero] at VR_0
    clear hB hB0 hsto1
    gi_upto_region 4 with fail
    generalize W1.alloc _ = W2 at *
    have QX_0 := QX.c 0; have QX_1 := QX.c 1; simp only [List.getElem?_cons_zero, List.getElem?_cons_succ] at QX_0 QX_1
    gi_wp2_with fail
    refine ⟨trivial, (callsIn_wide.2 (in_any ⟨a, 0, none⟩ f t W2)).mono ?_⟩
    rintro e W3 ⟨rfl, rfl⟩
    have hb3 : Below W2.heap.size W2 ((W2.alloc (.cells #[.pointer (some ⟨a, 0, none⟩)] 23)).alloc (.cells #[.string f, .string t] 26)) := ((Below.refl _ _).alloc (Nat.le_refl _) _).alloc (by simp) _
    have hsz3 : ((W2.alloc (.cells #[.pointer (some ⟨a, 0, none⟩)] 23)).alloc (.cells #[.string f, .string t] 26)).heap.size = W1.heap.size + 3 := by simp; omega
    have hST : Still w ((W2.alloc (.cells #[.pointer (some ⟨a, 0, none⟩)] 23)).alloc (.cells #[.string f, .string t] 26)) a b L f t (W1.heap.size + 1 + 1) (W1.heap.size + 1) := by
      refine ⟨hsto2.later hb3, hB2.trans (hb3.mono hB2.size), ?_, ?_⟩
      · have := World.alloc_heap_new (W2.alloc (.cells #[.pointer (some ⟨a, 0, none⟩)] 23)) (.cells #[.string f, .string t] 26)
        rwa [World.size_alloc, hsz2] at this
      · have := World.alloc_heap_new W2 (.cells #[.pointer (some ⟨a, 0, none⟩)] 23)
        rw [hsz2] at this
        exact (Below.heap_alloc _ _ _ (by simp; omega)).trans this
    have hrd0 : FrI w W1.heap.size id fr to 0 ((W2.alloc (.cells #[.pointer (some ⟨a, 0, none⟩)] 23)).alloc (.cells #[.string f, .string t] 26)) :=
      ⟨hB2.trans (hb3.mono hB2.size), QI.later hb3, QF.later hb3, QT.later hb3, QM.later hb3, QR.later hb3, VR.later hb3⟩
    have hvp := (QI.later hb3).head
    clear QI QF QT QM QR QX VR hsto2 hB2 hb3 QX_0 QX_1 VR_0
    gi_wp2
    generalize (W2.alloc _).alloc _ = W3 at *
    clear hsz2
    have hmix : Try.prog.follows .mixedOrders = true := by kernel_rfl
    refine wpIn_rangeFunc_ownH rfl (by omega) (gf := 50) (lb := lbIn (W1.heap.size + 1 + 1) (W1.heap.size + 1)) rfl trivial (enters_of Try.func50 (by kernel_rfl) rfl)
      (in1_stops 5 (by omega) a b L f t hz (W1.heap.size + 1 + 1) (W1.heap.size + 1) (W1.heap.size + 1) (w.heap.size + 1) w W3 h hST (by omega) (by omega) (by omega) (by omega) (fun i n c => by rw [hvp]; simp))
      (fun h k => h.trans k) (fun W l o o' hl ho hc hw => Turn.book (C := W3.heap.size) (by omega) (by omega) W l o o' hl ho hc hw) (Below.refl _ _) (fun _ => rfl)
      (fun pre W => ∃ r : Int, (∀ q, goF id fr to 0 (pre.map (·.1) ++ q) = goF id fr to r q) ∧ FrI w W1.heap.size id fr to r W)
      (fun c pre W => match c with
        | .ret => ∃ X : Met × Int, (∀ q, goF id fr to 0 (pre.map (·.1) ++ q) = X) ∧ FrX w X W
        | _ => False)
      (fun pre W W' row hI hg hr => by obtain ⟨r, h1, h2⟩ := hI; exact ⟨r, h1, h2.own (B := W3.heap.size) (by omega) hg hr⟩)
      (fun c pre W W' row hI hg hr => by
        cases c with
        | ret => obtain ⟨X, h1, h3⟩ := hI; exact ⟨X, h1, h3.own (B := W3.heap.size) (by omega) hg hr⟩
        | _ => exact hI.elim)
      ⟨0, fun q => rfl, hrd0⟩
      (fun x a' W => ∃ Bc, W1.heap.size + 1 ≤ Bc ∧ Blk W Bc [.slice x.1.ao x.1.c.vs.length x.1.cap, .bool x.1.c.opn, .int .i64 x.1.c.itn.txn.id, .int .i64 x.1.c.itn.txn.ep, .string x.1.c.itn.txn.anchor, .int .i64 x.1.c.itn.txn.start.1, .int .i64 x.1.c.itn.txn.start.2, .int .i64 x.1.c.itn.seq, .int .i64 x.1.c.itn.at_.1, .int .i64 x.1.c.itn.at_.2, .string x.1.c.itn.val, .bool x.1.c.itn.gone] ∧ a' = { tmps := #[.pointer (some ⟨a, 0, none⟩), .agg #[.string f, .string t], .int .i64 id, .agg #[.int .i64 fr.fst, .int .i64 fr.snd], .agg #[.int .i64 to.fst, .int .i64 to.snd], undef, .pointer (some ⟨w.heap.size, 0, none⟩), .pointer (some ⟨w.heap.size + 1, 0, none⟩), .pointer (some ⟨w.heap.size + 1 + 1, 0, none⟩), .pointer (some ⟨w.heap.size + 1 + 1 + 1, 0, none⟩), .pointer (some ⟨w.heap.size + 1 + 1 + 1 + 1, 0, none⟩), .pointer (some ⟨w.heap.size + 1 + 1 + 1 + 1 + 1, 0, none⟩), .pointer (some ⟨W1.heap.size, 0, none⟩), undef, .pointer (some ⟨Bc, 0, none⟩), undef, undef, .pointer (some ⟨a, 0, none⟩), .agg #[.string f, .string t], .int .i64 0, .int .i64 0, .bool false, undef, undef, .pointer (some ⟨a, 0, none⟩), .agg #[.string f, .string t], .func (.func 50) #[] #[.pointer (some ⟨W1.heap.size + 1 + 1, 0, none⟩), .pointer (some ⟨W1.heap.size + 1, 0, none⟩)], .string x.1.key, .agg #[.slice x.1.ao x.1.c.vs.length x.1.cap, .bool x.1.c.opn, .int .i64 x.1.c.itn.txn.id, .int .i64 x.1.c.itn.txn.ep, .string x.1.c.itn.txn.anchor, .int .i64 x.1.c.itn.txn.start.1, .int .i64 x.1.c.itn.txn.start.2, .int .i64 x.1.c.itn.seq, .int .i64 x.1.c.itn.at_.1, .int .i64 x.1.c.itn.at_.2, .string x.1.c.itn.val, .bool x.1.c.itn.gone], undef, undef, undef, undef, undef, undef, undef, undef, undef, undef, undef, undef, undef, undef, undef, undef, undef], defers := [] })
      (fun x a' _ W W' row hI hg hr => by obtain ⟨Bc, h1, h2, h3⟩ := hI; exact ⟨Bc, h1, h2.turn (by simp) hg (fun r e => (hr r e).2), h3⟩)
      ?assign ?body ?done ?stop
    case assign =>
      rintro l pre x W K ⟨r, hs1, hI⟩ hK
      have hlt := hI.V.lt
      have hbw : Below W.heap.size W (W.alloc (.cells #[.slice x.1.ao x.1.c.vs.length x.1.cap, .bool x.1.c.opn, .int .i64 x.1.c.itn.txn.id, .int .i64 x.1.c.itn.txn.ep, .string x.1.c.itn.txn.anchor, .int .i64 x.1.c.itn.txn.start.1, .int .i64 x.1.c.itn.txn.start.2, .int .i64 x.1.c.itn.seq, .int .i64 x.1.c.itn.at_.1, .int .i64 x.1.c.itn.at_.2, .string x.1.c.itn.val, .bool x.1.c.itn.gone] 48)) := (Below.refl _ _).alloc (Nat.le_refl _) _
      have hI2 := hI.later hbw
      have hN := Blk.new W #[.slice x.1.ao x.1.c.vs.length x.1.cap, .bool x.1.c.opn, .int .i64 x.1.c.itn.txn.id, .int .i64 x.1.c.itn.txn.ep, .string x.1.c.itn.txn.anchor, .int .i64 x.1.c.itn.txn.start.1, .int .i64 x.1.c.itn.txn.start.2, .int .i64 x.1.c.itn.seq, .int .i64 x.1.c.itn.at_.1, .int .i64 x.1.c.itn.at_.2, .string x.1.c.itn.val, .bool x.1.c.itn.gone] 48
      gi_wp2
      exact hK _ _ (keeps_later hbw _) (Turn.later hbw (by omega) (by omega)) ⟨r, hs1, hI2⟩ ⟨W.heap.size, by omega, hN, rfl⟩
    case body =>
      rintro l pre x a' W hl _ ⟨r, hs1, hI⟩ ⟨Bc, hBc, hC, rfl⟩ hlt
      have hx := x.2
      have hvs := (h.below hI.bel (Nat.le_refl _)).vs x.1 hx
      have hvl := (h.below hI.bel (Nat.le_refl _)).lim x.1 hx
      have hmp : (pre ++ [x]).map (·.1) = pre.map (·.1) ++ [x.1] := by rw [List.map_append]; rfl
      obtain ⟨e, he⟩ : ∃ e, x.1 = e := ⟨_, rfl⟩
      rw [he] at hmp
      simp only [he] at hvs hvl hC ⊢
      clear hx he
      obtain ⟨key, ao, cap, vs, q, i⟩ := e
      have HMp := hide hmp
      clear hmp
      simp only at hvs hvl hC ⊢
      have hRc := fun w' (hb : Below W.heap.size W w') => refresh_any ao cap vs q i id fr to w' (hvs.later hb) (by omega)
      have hGo := fun y => hs1 (⟨key, ao, cap, ⟨vs, q, i⟩⟩ :: y)
      simp only [goF] at hGo
      obtain ⟨⟨m, er⟩, hQ⟩ : ∃ Q, refR vs q i id fr to = Q := ⟨_, rfl⟩
      rw [hQ] at hRc
      simp only [hQ] at hRc hGo
      clear hQ
      obtain ⟨nv, hnv⟩ : ∃ nv, vs.length = nv := ⟨_, rfl⟩
      simp only [hnv] at hRc hC
      have cI := hI.I
      have cF := hI.F
      have cT := hI.T
      have cI_0 := cI.c 0; simp only [List.getElem?_cons_zero] at cI_0
      have cF_0 := cF.c 0; have cF_1 := cF.c 1; simp only [List.getElem?_cons_zero, List.getElem?_cons_succ] at cF_0 cF_1
      have cT_0 := cT.c 0; have cT_1 := cT.c 1; simp only [List.getElem?_cons_zero, List.getElem?_cons_succ] at cT_0 cT_1
      have hC_0 := hC.c 0; have hC_1 := hC.c 1; have hC_2 := hC.c 2; have hC_3 := hC.c 3; have hC_4 := hC.c 4; have hC_5 := hC.c 5; have hC_6 := hC.c 6; have hC_7 := hC.c 7; have hC_8 := hC.c 8; have hC_9 := hC.c 9; have hC_10 := hC.c 10; have hC_11 := hC.c 11; simp only [List.getElem?_cons_zero, List.getElem?_cons_succ] at hC_0 hC_1 hC_2 hC_3 hC_4 hC_5 hC_6 hC_7 hC_8 hC_9 hC_10 hC_11
      gi_wp2_with fail
      refine ⟨trivial, (CallsIn.inRound l (callsIn_wide.2 (hRc W (Below.refl _ _)))).mono ?_⟩
      rintro e W4 ⟨rfl, hb4⟩
      have hI4 := hI.later hb4
      have hO4 := (Out.refl w.heap.size (W1.heap.size + 1) none W).below hb4
      clear hRc hvs cI cF cT hC
      have Y := Blk.new W4 #[.int .i64 m.id, .int .i64 m.ep, .string m.anchor, .int .i64 m.start.1, .int .i64 m.start.2] 30
      have hB : Below W4.heap.size W4 (W4.alloc (.cells #[.int .i64 m.id, .int .i64 m.ep, .string m.anchor, .int .i64 m.start.1, .int .i64 m.start.2] 30)) := (Below.refl W4.heap.size W4).alloc (Nat.le_refl _) _
      have hI5 := hI4.later hB
      have hO5 := hO4.below hB
      have hW4l : W1.heap.size < W4.heap.size := hI4.V.lt
      gi_upto_region 7 with fail
      generalize W4.alloc _ = W5 at *
      clear hB hI4 hO4 hb4 cI_0 cF_0 cF_1 cT_0 cT_1 hC_0 hC_1 hC_2 hC_3 hC_4 hC_5 hC_6 hC_7 hC_8 hC_9 hC_10 hC_11
      have hgoes : ∀ {W' : World} (r' : Int), Out w.heap.size (W1.heap.size + 1) none W W' → FrI w W1.heap.size id fr to r' W' → (∀ y, goF id fr to 0 ((pre ++ [x]).map (·.1) ++ y) = goF id fr to r' y) →
          KeepsFrom W3.heap.size W W' ∧ Turn w.heap.size (W1.heap.size + 1) (w.heap.size + 1) true W W' ∧ ∃ r : Int, (∀ q, goF id fr to 0 ((pre ++ [x]).map (·.1) ++ q) = goF id fr to r q) ∧ FrI w W1.heap.size id fr to r W' := fun {W'} r' hO hI' hg =>
        ⟨hO.keeps (by omega) (fun k e => (by cases e)), hO.turn (v := .int .i64 id) (v' := .int .i64 id) hI.bel.size (fun k e => (by cases e)) hI.I.head hI'.I.head (fun k e => (by cases e)) (fun k e => (by cases e)), r', hg, hI'⟩
      by_cases h81 : er = 81
      · subst h81
        have hX : ∀ y, goF id fr to 0 ((pre ++ [x]).map (·.1) ++ y) = (m, 81) := fun y => by
          rw [unhide HMp, List.append_assoc]
          exact (hGo y).trans (if_pos rfl)
        have HX := hide hX
        have c1 := hI5.M
        have c2 := hI5.R
        have f1 := c1.f
        have f2 := c2.f
        have c1_0 := c1.c 0; have c1_1 := c1.c 1; have c1_2 := c1.c 2; have c1_3 := c1.c 3; have c1_4 := c1.c 4; simp only [List.getElem?_cons_zero, List.getElem?_cons_succ] at c1_0 c1_1 c1_2 c1_3 c1_4
        have c2_0 := c2.c 0; simp only [List.getElem?_cons_zero] at c2_0
        have Y_0 := Y.c 0; have Y_1 := Y.c 1; have Y_2 := Y.c 2; have Y_3 := Y.c 3; have Y_4 := Y.c 4; simp only [List.getElem?_cons_zero, List.getElem?_cons_succ] at Y_0 Y_1 Y_2 Y_3 Y_4
        have HH := hide (And.intro c1 c2)
        have HB := hide hI5.bel
        have HO5 := hide hO5
        clear hX hGo hgoes hI5 hO5 Y hs1 c1 c2
        gi_wp2
        obtain ⟨c1, c2⟩ := unhide HH
        obtain ⟨q1, q2⟩ := two c1 c2 [.int .i64 m.id, .int .i64 m.ep, .string m.anchor, .int .i64 m.start.1, .int .i64 m.start.2] [.int .i64 81] rfl rfl (by omega)
        have hb7 := below_setAll (C := w.heap.size + 1 + 1 + 1 + 1 + 1) (by omega) [.int .i64 81] 0 (below_setAll (C := w.heap.size + 1 + 1 + 1 + 1) (by omega) [.int .i64 m.id, .int .i64 m.ep, .string m.anchor, .int .i64 m.start.1, .int .i64 m.start.2] 0 (unhide HB))
        have hO7 := Out.all (b := w.heap.size + 1 + 1 + 1 + 1 + 1) (.inl ⟨by omega, by omega⟩) [.int .i64 81] 0 (Out.all (b := w.heap.size + 1 + 1 + 1 + 1) (.inl ⟨by omega, by omega⟩) [.int .i64 m.id, .int .i64 m.ep, .string m.anchor, .int .i64 m.start.1, .int .i64 m.start.2] 0 (unhide HO5))
        exact ⟨hO7.keeps (by omega) (fun k e => (by cases e)), (m, 81), unhide HX, ⟨hb7, q1, q2⟩⟩
      · simp only [if_neg h81] at hGo
        have b81 : (er == 81) = false := by rw [beq_eq_false_iff_ne]; exact h81
        have hnx : ∀ {r'}, (if er = 0 then r else er) = r' → ∀ y, goF id fr to 0 ((pre ++ [x]).map (·.1) ++ y) = goF id fr to r' y := fun {r'} hr y => by
          rw [unhide HMp, List.append_assoc, ← hr]
          exact hGo y
        by_cases h0 : er = 0
        · subst h0
          have hend := hide (hgoes r hO5 hI5 (hnx (if_pos rfl)))
          clear hgoes hGo hI5 hO5 Y hI hnx hs1
          gi_wp2
          have hend := unhide hend
          exact hend
        · have b0 : (er == 0) = false := by rw [beq_eq_false_iff_ne]; exact h0
          have cV := hI5.V
          have fV := cV.f
          have cV_0 := cV.c 0; simp only [List.getElem?_cons_zero] at cV_0
          have hend := hide (hgoes er (Out.all (b := W1.heap.size) (.inl ⟨by omega, by omega⟩) [.int .i64 er] 0 hO5) (hI5.put hSW) (hnx (if_neg h0)))
          clear hgoes hGo hI5 hO5 Y hI hnx hs1 cV
          gi_wp2
          have hend := unhide hend
          exact hend
    case done =>
      rintro D xs W hD hxs ⟨r, hs1, hI⟩ hK
      have hRf : R = (Met.zero, r) := by
        rw [unhide HR, ← hxs, ← List.append_nil (xs.map (·.1)), hs1 []]
        rfl
      subst hRf
      clear HR hs1 hxs
      have cV := hI.V
      have c1 := hI.M
      have c2 := hI.R
      have f1 := c1.f
      have f2 := c2.f
      have fV := cV.f
      have cV_0 := cV.c 0; simp only [List.getElem?_cons_zero] at cV_0
      have c1_0 := c1.c 0; have c1_1 := c1.c 1; have c1_2 := c1.c 2; have c1_3 := c1.c 3; have c1_4 := c1.c 4; simp only [List.getElem?_cons_zero, List.getElem?_cons_succ] at c1_0 c1_1 c1_2 c1_3 c1_4
      have c2_0 := c2.c 0; simp only [List.getElem?_cons_zero] at c2_0
      have HH := hide (And.intro c1 c2)
      have HB := hide hI.bel
      have HK := hide hK
      clear hI c1 c2 hK
      gi_upto_region 11 with fail
      refine wpIn_wide.2 ?_
      go_region
      gi_wp2
      obtain ⟨c1, c2⟩ := unhide HH
      obtain ⟨q1, q2⟩ := two c1 c2 [.int .i64 0, .int .i64 0, .string ⟨#[]⟩, .int .i64 0, .int .i64 0] [.int .i64 r] rfl rfl (by omega)
      have hK5 := put_drew (put_all (b := w.heap.size + 1 + 1 + 1 + 1 + 1) [.int .i64 r] 0 (put_all (b := w.heap.size + 1 + 1 + 1 + 1) [.int .i64 0, .int .i64 0, .string ⟨#[]⟩, .int .i64 0, .int .i64 0] 0 (unhide HK)))
      have hb7 := below_setAll (C := w.heap.size + 1 + 1 + 1 + 1 + 1) (by omega) [.int .i64 r] 0 (below_setAll (C := w.heap.size + 1 + 1 + 1 + 1) (by omega) [.int .i64 0, .int .i64 0, .string ⟨#[]⟩, .int .i64 0, .int .i64 0] 0 (unhide HB))
      refine ⟨by simp, .inl ⟨_, _, rfl, run_takeDeferred hK5, ⟨_, results_me9 Try.results17 Met.zero r rfl rfl (q1.drew.put (by simp) hK5 rfl _) (q2.drew.put (by simp) hK5 rfl _), rfl, ?_⟩⟩⟩
      exact hb7.drew.grown (grownBy_putObj' _ D _) hb7.drew.size (fun k e => (by cases e; omega))
    case stop =>
      rintro D c pre W hD ⟨rest, hrest⟩ hIx hK
      cases c with
      | ret =>
        obtain ⟨X, hX, hI⟩ := hIx
        have hRf : R = X := by rw [unhide HR, ← hrest, hX rest]
        subst hRf
        clear HR hX hrest
        gi_wp2
        refine ⟨by simp, .inl ⟨_, _, rfl, run_takeDeferred hK, ⟨_, results_me9 Try.results17 R.1 R.2 rfl rfl (hI.M.put (by simp) hK rfl _) (hI.R.put (by simp) hK rfl _), rfl, ?_⟩⟩⟩
        exact hI.bel.grown (grownBy_putObj' _ D _) hI.bel.size (fun k e => (by cases e; omega))
      | _ => exact hIx.elim
end

end Go.Proofs.Ytcdehnghggleoaa

/-
  What the live question comes to, by lists. No law is proved here.
-/
namespace Go.Proofs.Ytcdehnghggleoaa
open Go.RowKit Go.Maps
set_option linter.unusedVariables false
set_option maxRecDepth 100000

abbrev kK : ByteArray := ⟨#[107]⟩
abbrev kV : ByteArray := ⟨#[118]⟩
abbrev kA : ByteArray := ⟨#[97]⟩
abbrev kZ : ByteArray := ⟨#[123]⟩
def itK : Itn := ⟨⟨3, 0, kK, (0, 0)⟩, 0, (4, 0), kV, false⟩
def chK1 : Chn := ⟨[], true, itK⟩
def chK2 : Chn := ⟨[⟨(4, 0), kV, false, 3⟩], false, Itn.zero⟩
theorem tl9 (l : List UInt8) : (ByteArray.mk l.toArray).toList = l := ByteArray.toList_mk l
theorem kb : S5.keyB kK = true := by
  simp only [S5.keyB, tl9]; decide
theorem vb : valB kV false = true := by
  simp only [valB, tl9]; decide
theorem rb1 : S5.rightB kA kZ = true := by
  simp only [S5.rightB, S5.keyB, S5.eqB, S5.ltB, S5.emp, S5.brace, tl9]; decide
theorem rb2 : S5.rightB kK ⟨#[]⟩ = true := by
  simp only [S5.rightB, S5.keyB, S5.eqB, S5.ltB, S5.emp, S5.brace, tl9]; decide
theorem hb1 : S5.hasB kA kZ kK = true := by
  simp only [S5.hasB, S5.rightB, S5.keyB, S5.eqB, S5.ltB, S5.emp, S5.brace, tl9]; decide
theorem hb2 : S5.hasB kK ⟨#[]⟩ kK = true := by
  simp only [S5.hasB, S5.rightB, S5.keyB, S5.eqB, S5.ltB, S5.emp, S5.brace, tl9]; decide
theorem wr0 : writeC Chn.zero itK = (chK1, (4, 0), Met.zero, 0) := by kernel_rfl
theorem rd1 : readR chK1.vs chK1.opn chK1.itn (9, 0) (9, 0) 0 0 = (⟨(0, 0), ⟨#[]⟩, false, 0⟩, false, itK.txn, 81) := by kernel_rfl
theorem rs1 : resolveC chK1 3 0 true (4, 0) = (chK2, 0) := by kernel_rfl
theorem rd2 : readR chK2.vs chK2.opn chK2.itn (9, 0) (9, 0) 0 0 = (⟨(4, 0), kV, false, 3⟩, true, Met.zero, 0) := by kernel_rfl

theorem ent0 : (entAt [] kK).c = Chn.zero := rfl
theorem inE1 {f t : ByteArray} (x : Ent) (h : S5.hasB f t x.key = true) : inE f t [x] = [x] := by
  unfold inE; simp [h]
theorem putA0 : putA [] kK itK = ((4, 0), ⟨0, 0, ⟨#[]⟩, (0, 0)⟩, 0) := by
  unfold putA
  rw [if_pos kb, if_pos (show valB itK.val itK.gone = true from vb), ent0, wr0]
  rfl
theorem putL0 {l' : List Ent} (h : putL [] l' kK itK) : ∃ ao cap, l' = [⟨kK, ao, cap, chK1⟩] := by
  unfold putL at h
  rw [if_pos ⟨kb, vb, by rw [ent0, wr0]⟩, ent0, wr0] at h
  exact h
theorem readS1 (ao : Option Addr) (cap : Nat) : readS kA kZ (9, 0) (9, 0) 0 0 [⟨kK, ao, cap, chK1⟩] = ([], (0, 0), ⟨3, 0, kK, (0, 0)⟩, 81) := by
  unfold readS
  rw [if_pos rb1, inE1 _ hb1]
  unfold goR
  simp only [rd1, if_true]
  rfl
theorem readS2 (ao : Option Addr) (cap : Nat) : readS kA kZ (9, 0) (9, 0) 0 0 [⟨kK, ao, cap, chK2⟩] = ([(kK, kV)], (0, 0), ⟨0, 0, ⟨#[]⟩, (0, 0)⟩, 0) := by
  unfold readS
  rw [if_pos rb1, inE1 _ hb1]
  unfold goR
  simp only [rd2]
  rw [if_neg (by decide), if_neg (by simp [stepR, RdS.zero, rd2])]
  simp [goR, finR, stepR, RdS.zero, rd2, Met.zero]
theorem resA1 (ao : Option Addr) (cap : Nat) : resA kK ⟨#[]⟩ 3 0 true (4, 0) [⟨kK, ao, cap, chK1⟩] = ([(kK, chK2)], 0) := by
  unfold resA
  rw [if_pos rb2, inE1 _ hb2]
  unfold goV
  simp only [rs1, if_true]
  rfl
theorem resL1 (ao : Option Addr) (cap : Nat) {l' : List Ent} (h : resL [⟨kK, ao, cap, chK1⟩] l' [(kK, chK2)]) : ∃ ao cap, l' = [⟨kK, ao, cap, chK2⟩] := by
  unfold resL at h
  rw [if_neg (by simp)] at h
  obtain ⟨Ds, hD, rfl⟩ := h
  unfold absL at hD
  obtain ⟨d, r, rfl, h1, h2⟩ := List.map_eq_cons_iff.1 hD
  obtain rfl := List.map_eq_nil_iff.1 h2
  obtain ⟨k, ao', cap', c⟩ := d
  simp only [Prod.mk.injEq] at h1
  obtain ⟨rfl, rfl⟩ := h1
  refine ⟨ao', cap', ?_⟩
  rw [List.foldl_cons, List.foldl_nil]
  unfold setE
  rw [if_pos rfl, List.filter_cons_of_pos (by rfl), List.filter_nil]

section
set_option maxHeartbeats 2000000
theorem alive9_any (w : World) : Calls Try.prog 15 #[] w fun e w' => e = .returned (.bool true) ∧ Below w.heap.size w w' := by
  go_enter Try.func15, Try.ntmps15
  go_wp2_with fail
  refine (new_any w).mono ?_
  rintro e w1 ⟨a, b, rfl, hs1, ha, hb, hb1⟩
  have hr1 : Room w1 b [] 0 := by
    obtain ⟨n, hn, _⟩ := hs1.own
    exact ⟨⟨0, own_tight hn, Nat.le_refl _⟩, fun e he => (by cases he)⟩
  go_wp2_with fail
  refine (put_any a b 0 [] kK itK w1 hs1 hr1 (by omega) (by decide)).mono ?_
  rintro e w2 ⟨l', he, hs2, hr2, hl2, hg2⟩
  rw [putA0] at he
  subst he
  obtain ⟨ao, cap, rfl⟩ := putL0 hl2
  have HB2 := hide (hb1.grown hg2 hb1.size (fun k e => by cases e; exact hb))
  clear hs1 hr1 hl2 hg2 hb1
  have QS := (Blk.new w2 #[.int .i64 4, .int .i64 0] 28).alloc (.cells #[.int .i64 0, .int .i64 0, .string ⟨#[]⟩, .int .i64 0, .int .i64 0] 30)
  have QM := Blk.new (w2.alloc (.cells #[.int .i64 4, .int .i64 0] 28)) #[.int .i64 0, .int .i64 0, .string ⟨#[]⟩, .int .i64 0, .int .i64 0] 30
  rw [show (w2.alloc (.cells #[.int .i64 4, .int .i64 0] 28)).heap.size = w2.heap.size + 1 by simp] at QM
  have hB : Below w2.heap.size w2 ((w2.alloc (.cells #[.int .i64 4, .int .i64 0] 28)).alloc (.cells #[.int .i64 0, .int .i64 0, .string ⟨#[]⟩, .int .i64 0, .int .i64 0] 30)) := ((Below.refl w2.heap.size w2).alloc (Nat.le_refl _) _).alloc (by simp) _
  have hs3 := hs2.later hB
  have hr3 := hr2.later hB
  replace HB2 := hide ((unhide HB2).trans (hB.mono (unhide HB2).size))
  clear hs2 hr2 hB QM
  go_wp2_with fail
  generalize (w2.alloc _).alloc _ = w3 at *
  have hR := read9_any a b [⟨kK, ao, cap, chK1⟩] kA kZ (9, 0) (9, 0) 0 0 w3 hs3
  rw [readS1] at hR
  refine hR.mono ?_
  rintro e w4 ⟨po, c, rfl, _, hb4⟩
  have hs4 := hs3.later hb4
  have hr4 := hr3.later hb4
  replace QS := QS.later hb4
  replace HB2 := hide ((unhide HB2).trans (hb4.mono (unhide HB2).size))
  clear hs3 hr3 hb4 hR
  have R1 := (Blk.new w4 #[.int .i64 0, .int .i64 0] 28).alloc (.cells #[.int .i64 3, .int .i64 0, .string kK, .int .i64 0, .int .i64 0] 30)
  have QM := Blk.new (w4.alloc (.cells #[.int .i64 0, .int .i64 0] 28)) #[.int .i64 3, .int .i64 0, .string kK, .int .i64 0, .int .i64 0] 30
  rw [show (w4.alloc (.cells #[.int .i64 0, .int .i64 0] 28)).heap.size = w4.heap.size + 1 by simp] at QM
  have hB : Below w4.heap.size w4 ((w4.alloc (.cells #[.int .i64 0, .int .i64 0] 28)).alloc (.cells #[.int .i64 3, .int .i64 0, .string kK, .int .i64 0, .int .i64 0] 30)) := ((Below.refl w4.heap.size w4).alloc (Nat.le_refl _) _).alloc (by simp) _
  have hs5 := hs4.later hB
  have hr5 := hr4.later hB
  replace QS := QS.later hB
  replace HB2 := hide ((unhide HB2).trans (hB.mono (unhide HB2).size))
  clear hs4 hr4 hB R1
  have QS_0 := QS.c 0; have QS_1 := QS.c 1; simp only [List.getElem?_cons_zero, List.getElem?_cons_succ] at QS_0 QS_1
  go_wp2_with fail
  generalize (w4.alloc _).alloc _ = w5 at *
  have hR := resolve9_any a b 1 [⟨kK, ao, cap, chK1⟩] kK ⟨#[]⟩ 3 0 true (4, 0) w5 hs5 hr5 (by omega)
  rw [resA1] at hR
  refine hR.mono ?_
  rintro e w6 ⟨L', rfl, hs6, hr6, hl6, hg6⟩
  obtain ⟨ao2, cap2, rfl⟩ := resL1 _ _ hl6
  replace QM := QM.turn (by simp) hg6 (fun r e => by cases e; obtain ⟨_, ho, _⟩ := hs5.own; exact own_cells ho)
  replace HB2 := hide ((unhide HB2).grown hg6 (unhide HB2).size (fun k e => by cases e; exact hb))
  clear hs5 hr5 hl6 hg6 hR QS QS_0 QS_1
  go_wp2_with fail
  have hR := read9_any a b [⟨kK, ao2, cap2, chK2⟩] kA kZ (9, 0) (9, 0) 0 0 w6 hs6
  rw [readS2] at hR
  refine hR.mono ?_
  rintro e w8 ⟨po2, c2, rfl, hps, hb8⟩
  obtain ⟨g, o, rfl, hc⟩ := hps (by simp)
  replace QM := QM.later hb8
  replace HB2 := hide ((unhide HB2).trans (hb8.mono (unhide HB2).size))
  have hz := (hc 0 (by simp)).2
  simp only [Nat.zero_mul, Nat.add_zero, List.getElem_cons_zero] at hz
  clear hR hc hps hb8 hs6 hr6
  have R1 := (Blk.new w8 #[.int .i64 0, .int .i64 0] 28).alloc (.cells #[.int .i64 0, .int .i64 0, .string ⟨#[]⟩, .int .i64 0, .int .i64 0] 30)
  have R2 := Blk.new (w8.alloc (.cells #[.int .i64 0, .int .i64 0] 28)) #[.int .i64 0, .int .i64 0, .string ⟨#[]⟩, .int .i64 0, .int .i64 0] 30
  rw [show (w8.alloc (.cells #[.int .i64 0, .int .i64 0] 28)).heap.size = w8.heap.size + 1 by simp] at R2
  have hB : Below w8.heap.size w8 ((w8.alloc (.cells #[.int .i64 0, .int .i64 0] 28)).alloc (.cells #[.int .i64 0, .int .i64 0, .string ⟨#[]⟩, .int .i64 0, .int .i64 0] 30)) := ((Below.refl w8.heap.size w8).alloc (Nat.le_refl _) _).alloc (by simp) _
  replace QM := QM.later hB
  replace HB2 := hide ((unhide HB2).trans (hB.mono (unhide HB2).size))
  have hz2 := (hB.cell (World.block_lt_of_cell? _ _ hz)).trans hz
  clear hz hB R1 R2
  have QM_0 := QM.c 0; have QM_1 := QM.c 1; have QM_2 := QM.c 2; have QM_3 := QM.c 3; have QM_4 := QM.c 4; simp only [List.getElem?_cons_zero, List.getElem?_cons_succ] at QM_0 QM_1 QM_2 QM_3 QM_4
  go_wp2
  go_ret
  exact ⟨rfl, unhide HB2⟩
end

end Go.Proofs.Ytcdehnghggleoaa

/-
  How a struct's cells are read: a struct of plain fields, field by field; a slice of such structs, element by element. Of no program.
-/
namespace Go.Proofs.Ytcdehnghggleoaa
open Go.RowKit Go.ChangeShapes Go.WideShapes

/-- The types of a struct's fields, one cell each, structs within it written out. -/
def flatFs (P : Program) (fl : TypeId → Option (List TypeId)) : Nat → List Field → Option (List TypeId)
  | _, [] => some []
  | off, f :: r =>
    match fl f.type with
    | some l => if f.offset = off ∧ P.cellsOf f.type = l.length then (flatFs P fl (off + l.length) r).map (l ++ ·) else none
    | none => none

def flat (P : Program) : Nat → TypeId → Option (List TypeId)
  | 0, _ => none
  | n + 1, t =>
    match P.underlying t with
    | some (.struct fs) => match flatFs P (flat P n) 0 fs.toList with
      | some ts => if P.cellsOf t = ts.length then some ts else none
      | none => none
    | _ => if P.cellsOf t = 1 then some [t] else none

theorem flat_len (P : Program) : ∀ (n : Nat) (t : TypeId) (ts : List TypeId), flat P n t = some ts → P.cellsOf t = ts.length
  | 0, _, _, h => by simp [flat] at h
  | n + 1, t, ts, h => by
    unfold flat at h
    split at h
    · split at h
      · split at h
        · simp only [Option.some.injEq] at h
          subst h
          assumption
        · cases h
      · cases h
    · split at h
      · simp only [Option.some.injEq] at h
        subst h
        assumption
      · cases h

section
variable {H : Type} {enc : TypeId × Value → H} {P : Program} {w : World} {base : Nat} {spare : Nat → Bool} {held : Bool}

/-- Each cell is read by its own type. -/
def Leaves (enc : TypeId × Value → H) (P : Program) (w : World) (base : Nat) (spare : Nat → Bool) (held : Bool) (ts : List TypeId) (cs : List Value) : Prop :=
  cs.length = ts.length ∧ ∀ (i : Nat) (t : TypeId), ts[i]? = some t → ∃ u m y, cs[i]? = some u ∧ DataW.trod enc P w base spare held m t [u] = some y

theorem Leaves.append {ts us : List TypeId} {cs ds : List Value} (h : Leaves enc P w base spare held ts cs) (k : Leaves enc P w base spare held us ds) : Leaves enc P w base spare held (ts ++ us) (cs ++ ds) := by
  refine ⟨by rw [List.length_append, List.length_append, h.1, k.1], fun i t hi => ?_⟩
  by_cases hlt : i < ts.length
  · rw [List.getElem?_append_left hlt] at hi
    obtain ⟨u, m, y, h1, h2⟩ := h.2 i t hi
    exact ⟨u, m, y, by rw [List.getElem?_append_left (by rw [h.1]; exact hlt)]; exact h1, h2⟩
  · rw [List.getElem?_append_right (by omega)] at hi
    obtain ⟨u, m, y, h1, h2⟩ := k.2 _ t hi
    exact ⟨u, m, y, by rw [List.getElem?_append_right (by rw [h.1]; omega), h.1]; exact h1, h2⟩

theorem leaves_fields (fl : TypeId → Option (List TypeId))
    (hfl : ∀ t ts fuel cs x, fl t = some ts → DataW.trod enc P w base spare held fuel t cs = some x → cs.length = ts.length → Leaves enc P w base spare held ts cs) (n : Nat) (cs : List Value) :
    ∀ (fs : List Field) (off : Nat) (ts : List TypeId), flatFs P fl off fs = some ts → off + ts.length ≤ cs.length → (∀ f ∈ fs, ∃ x, DataW.trod enc P w base spare held n f.type ((cs.drop f.offset).take (P.cellsOf f.type)) = some x) →
      Leaves enc P w base spare held ts ((cs.drop off).take ts.length)
  | [], off, ts, h, _, _ => by
    simp [flatFs] at h
    subst h
    exact ⟨by simp, fun i t hi => by simp at hi⟩
  | f :: r, off, ts, h, hle, hx => by
    unfold flatFs at h
    cases hl : fl f.type with
    | none => rw [hl] at h; cases h
    | some l =>
      rw [hl] at h
      simp only at h
      split at h
      · rename_i hc
        obtain ⟨ho, hcl⟩ := hc
        cases hr : flatFs P fl (off + l.length) r with
        | none => rw [hr] at h; cases h
        | some us =>
          rw [hr] at h
          simp only [Option.map_some, Option.some.injEq] at h
          subst h
          rw [List.length_append] at hle
          obtain ⟨x, hx0⟩ := hx f (by simp)
          rw [ho, hcl] at hx0
          have h1 := hfl f.type l n _ x hl hx0 (by rw [List.length_take, List.length_drop]; omega)
          have h2 := leaves_fields fl hfl n cs r (off + l.length) us hr (by omega) (fun g hg => hx g (by simp [hg]))
          have e : (cs.drop off).take (l ++ us).length = (cs.drop off).take l.length ++ (cs.drop (off + l.length)).take us.length := by
            rw [List.length_append, List.take_add, List.drop_drop]
          rw [e]
          exact h1.append h2
      · cases h

theorem leaves_of : ∀ (n : Nat) (t : TypeId) (ts : List TypeId) (fuel : Nat) (cs : List Value) (x : DataW H × List MemPlace), flat P n t = some ts → DataW.trod enc P w base spare held fuel t cs = some x → cs.length = ts.length →
    Leaves enc P w base spare held ts cs
  | 0, _, _, _, _, _, h, _, _ => by simp [flat] at h
  | n + 1, t, ts, fuel, cs, x, h, hx, hlen => by
    unfold flat at h
    split at h
    · rename_i fs hu
      cases hf : flatFs P (flat P n) 0 fs.toList with
      | none => rw [hf] at h; cases h
      | some us =>
        rw [hf] at h
        simp only at h
        split at h
        · simp only [Option.some.injEq] at h
          subst h
          obtain ⟨xs, m, _, _, _, hxl, hfs⟩ := DataW.trod_struct hu hx
          have := leaves_fields (enc := enc) (w := w) (base := base) (spare := spare) (held := held) (flat P n) (fun t ts fuel cs x h1 h2 h3 => leaves_of n t ts fuel cs x h1 h2 h3) m cs fs.toList 0 us hf (by omega) (fun f hf' => by
            obtain ⟨i, hi, he⟩ := List.getElem_of_mem hf'
            have hi' : i < fs.size := by simpa using hi
            have e : fs[i]? = some f := by rw [Array.getElem?_eq_getElem hi']; rw [← he]; simp
            have hg := hfs i f e
            rw [List.getElem?_eq_getElem (by rw [hxl]; exact hi')] at hg
            exact ⟨_, hg⟩)
          rw [List.drop_zero, List.take_of_length_le (by omega)] at this
          exact this
        · cases h
    · split at h
      · simp only [Option.some.injEq] at h
        subst h
        match cs, hlen with
        | [c], _ =>
          refine ⟨rfl, fun i t' hi => ?_⟩
          match i, hi with
          | 0, hi =>
            simp at hi
            subst hi
            exact ⟨c, fuel, x, rfl, hx⟩
          | i + 1, hi => simp at hi
      · cases h

/-- A slice of structs of plain fields, element by element. -/
theorem rows_of {t e : TypeId} {n fuel : Nat} {ts : List TypeId} {v : Value} {x : DataW H × List MemPlace} (ht : P.underlying t = some (.slice e)) (hf : flat P n e = some ts) (h : DataW.trod enc P w base spare held fuel t [v] = some x) :
    v = .slice none 0 0 ∨ ∃ (a : Addr) (len cap : Nat), v = .slice (some a) len cap ∧ len ≤ cap ∧ cap ≤ maxLen ∧
      ∀ i, i < len → ∃ cs, Leaves enc P w base spare held ts cs ∧ ∀ j, j < ts.length → w.cell? (a.add (i * ts.length + j)) = cs[j]? := by
  have hl := flat_len P n e ts hf
  rcases Deep.open_slice ht h with ⟨h0, _⟩ | ⟨a, len, cap, m, n', D, Pl, hcs, _, h1, h2, hm, _, hel⟩
  · left; simpa using h0
  · right
    refine ⟨a, len, cap, by simpa using hcs, h1, h2, fun i hi => ?_⟩
    have hmi : i < m := by rw [hm]; split <;> omega
    obtain ⟨cs, hc, ht'⟩ := hel i hmi
    obtain ⟨_, hlen, hcell⟩ := World.cells?_some hc
    rw [hl] at hlen hcell
    refine ⟨cs, leaves_of n e ts n' cs _ hf ht' hlen, fun j hj => ?_⟩
    have := hcell j hj
    rwa [Deep.add_add] at this

end

end Go.Proofs.Ytcdehnghggleoaa

/-
  How a struct's cells are read where fields may be arrays. Of no program.
-/
namespace Go.Proofs.Ytcdehnghggleoaa
open Go.RowKit Go.ChangeShapes Go.WideShapes

def reps (l : List TypeId) : Nat → List TypeId
  | 0 => []
  | k + 1 => l ++ reps l k
theorem reps_len (l : List TypeId) : ∀ k, (reps l k).length = k * l.length
  | 0 => by simp [reps]
  | k + 1 => by rw [reps, List.length_append, reps_len l k, Nat.succ_mul]; omega

def flat9 (P : Program) : Nat → TypeId → Option (List TypeId)
  | 0, _ => none
  | n + 1, t =>
    match P.underlying t with
    | some (.struct fs) => match flatFs P (flat9 P n) 0 fs.toList with
      | some ts => if P.cellsOf t = ts.length then some ts else none
      | none => none
    | some (.array k e) => match flat9 P n e with
      | some l => if P.cellsOf t = k * l.length ∧ P.cellsOf e = l.length then some (reps l k) else none
      | none => none
    | _ => if P.cellsOf t = 1 then some [t] else none

theorem flat9_len (P : Program) : ∀ (n : Nat) (t : TypeId) (ts : List TypeId), flat9 P n t = some ts → P.cellsOf t = ts.length
  | 0, _, _, h => by simp [flat9] at h
  | n + 1, t, ts, h => by
    unfold flat9 at h
    split at h
    · split at h
      · split at h
        · simp only [Option.some.injEq] at h
          subst h
          assumption
        · cases h
      · cases h
    · split at h
      · split at h
        · rename_i hc
          simp only [Option.some.injEq] at h
          subst h
          rw [reps_len]
          exact hc.1
        · cases h
      · cases h
    · split at h
      · simp only [Option.some.injEq] at h
        subst h
        assumption
      · cases h

section
variable {H : Type} {enc : TypeId × Value → H} {P : Program} {w : World} {base : Nat} {spare : Nat → Bool} {held : Bool}

theorem leaves_reps {l : List TypeId} {cs : List Value} : ∀ (k o : Nat), (o + k) * l.length ≤ cs.length → (∀ i, i < k → Leaves enc P w base spare held l ((cs.drop ((o + i) * l.length)).take l.length)) → Leaves enc P w base spare held (reps l k) ((cs.drop (o * l.length)).take (k * l.length))
  | 0, o, _, _ => ⟨by simp [reps], fun i t hi => by simp [reps] at hi⟩
  | k + 1, o, hle, h => by
    have h0 := h 0 (by omega)
    have hr := leaves_reps k (o + 1) (by rw [Nat.add_right_comm, Nat.add_assoc] ; exact hle) (fun i hi => by
      have := h (i + 1) (by omega)
      rwa [show o + (i + 1) = o + 1 + i by omega] at this)
    have e : (cs.drop (o * l.length)).take ((k + 1) * l.length) = (cs.drop ((o + 0) * l.length)).take l.length ++ (cs.drop ((o + 1) * l.length)).take (k * l.length) := by
      rw [Nat.succ_mul k, Nat.add_comm (k * l.length), List.take_add, List.drop_drop, Nat.succ_mul o, Nat.add_zero]
    rw [e, reps]
    exact h0.append hr

theorem leaves_of9 : ∀ (n : Nat) (t : TypeId) (ts : List TypeId) (fuel : Nat) (cs : List Value) (x : DataW H × List MemPlace), flat9 P n t = some ts → DataW.trod enc P w base spare held fuel t cs = some x → cs.length = ts.length →
    Leaves enc P w base spare held ts cs
  | 0, _, _, _, _, _, h, _, _ => by simp [flat9] at h
  | n + 1, t, ts, fuel, cs, x, h, hx, hlen => by
    unfold flat9 at h
    split at h
    · rename_i fs hu
      cases hf : flatFs P (flat9 P n) 0 fs.toList with
      | none => rw [hf] at h; cases h
      | some us =>
        rw [hf] at h
        simp only at h
        split at h
        · simp only [Option.some.injEq] at h
          subst h
          obtain ⟨xs, m, _, _, _, hxl, hfs⟩ := DataW.trod_struct hu hx
          have := leaves_fields (enc := enc) (w := w) (base := base) (spare := spare) (held := held) (flat9 P n) (fun t ts fuel cs x h1 h2 h3 => leaves_of9 n t ts fuel cs x h1 h2 h3) m cs fs.toList 0 us hf (by omega) (fun f hf' => by
            obtain ⟨i, hi, he⟩ := List.getElem_of_mem hf'
            have hi' : i < fs.size := by simpa using hi
            have e : fs[i]? = some f := by rw [Array.getElem?_eq_getElem hi']; rw [← he]; simp
            have hg := hfs i f e
            rw [List.getElem?_eq_getElem (by rw [hxl]; exact hi')] at hg
            exact ⟨_, hg⟩)
          rw [List.drop_zero, List.take_of_length_le (by omega)] at this
          exact this
        · cases h
    · rename_i k e hu
      cases hf : flat9 P n e with
      | none => rw [hf] at h; cases h
      | some l =>
        rw [hf] at h
        simp only at h
        split at h
        · rename_i hc
          simp only [Option.some.injEq] at h
          subst h
          obtain ⟨xs, m, _, _, _, hxl, hfs⟩ := DataW.trod_array hu hx
          rw [reps_len] at hlen
          have := leaves_reps (enc := enc) (P := P) (w := w) (base := base) (spare := spare) (held := held) (l := l) (cs := cs) k 0 (by rw [Nat.zero_add]; omega) (fun i hi => by
            have hg := hfs i hi
            rw [List.getElem?_eq_getElem (by rw [hxl]; exact hi), hc.2] at hg
            rw [Nat.zero_add]
            refine leaves_of9 n e l m _ _ hf hg ?_
            have h1 : (i + 1) * l.length ≤ k * l.length := Nat.mul_le_mul_right _ hi
            rw [Nat.succ_mul] at h1
            rw [List.length_take, List.length_drop]
            omega)
          rw [Nat.zero_mul, List.drop_zero, List.take_of_length_le (by omega)] at this
          exact this
        · cases h
    · split at h
      · simp only [Option.some.injEq] at h
        subst h
        match cs, hlen with
        | [c], _ =>
          refine ⟨rfl, fun i t' hi => ?_⟩
          match i, hi with
          | 0, hi =>
            simp at hi
            subst hi
            exact ⟨c, fuel, x, rfl, hx⟩
          | i + 1, hi => simp at hi
      · cases h

/-- A slice of structs, element by element. -/
theorem rows_of9 {t e : TypeId} {n fuel : Nat} {ts : List TypeId} {v : Value} {x : DataW H × List MemPlace} (ht : P.underlying t = some (.slice e)) (hf : flat9 P n e = some ts) (h : DataW.trod enc P w base spare held fuel t [v] = some x) :
    v = .slice none 0 0 ∨ ∃ (a : Addr) (len cap : Nat), v = .slice (some a) len cap ∧ len ≤ cap ∧ cap ≤ maxLen ∧
      ∀ i, i < len → ∃ cs, Leaves enc P w base spare held ts cs ∧ ∀ j, j < ts.length → w.cell? (a.add (i * ts.length + j)) = cs[j]? := by
  have hl := flat9_len P n e ts hf
  rcases Deep.open_slice ht h with ⟨h0, _⟩ | ⟨a, len, cap, m, n', D, Pl, hcs, _, h1, h2, hm, _, hel⟩
  · left; simpa using h0
  · right
    refine ⟨a, len, cap, by simpa using hcs, h1, h2, fun i hi => ?_⟩
    have hmi : i < m := by rw [hm]; split <;> omega
    obtain ⟨cs, hc, ht'⟩ := hel i hmi
    obtain ⟨_, hlen, hcell⟩ := World.cells?_some hc
    rw [hl] at hlen hcell
    refine ⟨cs, leaves_of9 n e ts n' cs _ hf ht' hlen, fun j hj => ?_⟩
    have := hcell j hj
    rwa [Deep.add_add] at this

end

end Go.Proofs.Ytcdehnghggleoaa
