/-
  Sn, Sr1: one behind the other. No law is proved here.
-/
import Derived.Test.YtcdehnghggleoaaGn5
import Derived.Test.YtcdehnghggleoaaSt8
import Derived.Maps.OwnSet
/-
  maps.DeleteFunc over a store's chains: what is empty goes. No law is proved here.
-/
namespace Go.Proofs.Ytcdehnghggleoaa
open Go.RowKit Go.Maps
set_option linter.unusedVariables false

/-- Is a chain empty? -/
def emC (c : Chn) : Bool := c.vs.isEmpty && !c.opn
def pdL (l : List Ent) (kl : Lit) (_ : DataW Value) : Bool := l.any fun e => kl.sameKey (keyL e.key) && emC e.c
theorem pdL_mem {l : List Ent} (hr : riseE l) {e : Ent} (he : e ∈ l) (d : DataW Value) : pdL l (keyL e.key) d = emC e.c := by
  unfold pdL
  rw [Bool.eq_iff_iff, List.any_eq_true]
  constructor
  · rintro ⟨x, hx, h⟩
    rw [same_s, Bool.and_eq_true, decide_eq_true_eq] at h
    rw [key_inj hr he hx h.1]
    exact h.2
  · intro h
    exact ⟨e, he, by rw [same_s, h]; simp⟩
theorem Fk_DL {l : List Ent} (hr : riseE l) (left : Lit → Bool) : Fk (pdL l) (l.map fun e => (keyL e.key, DataW.held e.v)) left = DL (l.filter fun e => !emC e.c || left (keyL e.key)) := by
  unfold Fk DL
  rw [List.filter_map]
  congr 2
  refine List.filter_congr fun e he => ?_
  simp only [Function.comp_apply, pdL_mem hr he]
theorem del_DL {l : List Ent} (hr : riseE l) : Lib.deleteFuncD (pdL l) (DL l) = DL (l.filter fun e => !emC e.c) := by
  unfold Lib.deleteFuncD DL
  simp only
  rw [List.filter_map]
  congr 2
  refine List.filter_congr fun e he => ?_
  simp only [Function.comp_apply, pdL_mem hr he]

section
set_option maxRecDepth 100000
set_option maxHeartbeats 4000000

theorem empty9_any (ao : Option Addr) (c : Nat) (vs : List Ver) (nv : Nat) (hnv : vs.length = nv) (q : Bool) (i : Itn) (w : World) :
    Calls Try.prog 33 #[(.agg #[.slice ao nv c, .bool q, .int .i64 i.txn.id, .int .i64 i.txn.ep, .string i.txn.anchor, .int .i64 i.txn.start.1, .int .i64 i.txn.start.2, .int .i64 i.seq, .int .i64 i.at_.1, .int .i64 i.at_.2, .string i.val, .bool i.gone])] w fun e w' => e = .returned (.bool (emC ⟨vs, q, i⟩)) ∧ Below w.heap.size w w' := by
  have hk : emC ⟨vs, q, i⟩ = (decide (nv = 0) && !q) := by unfold emC; rw [← hnv]; cases vs <;> rfl
  rw [hk]
  clear hk hnv
  have C := Blk.new w #[.slice ao nv c, .bool q, .int .i64 i.txn.id, .int .i64 i.txn.ep, .string i.txn.anchor, .int .i64 i.txn.start.1, .int .i64 i.txn.start.2, .int .i64 i.seq, .int .i64 i.at_.1, .int .i64 i.at_.2, .string i.val, .bool i.gone] 48
  have hB : Below w.heap.size w (w.alloc (.cells #[.slice ao nv c, .bool q, .int .i64 i.txn.id, .int .i64 i.txn.ep, .string i.txn.anchor, .int .i64 i.txn.start.1, .int .i64 i.txn.start.2, .int .i64 i.seq, .int .i64 i.at_.1, .int .i64 i.at_.2, .string i.val, .bool i.gone] 48)) := (Below.refl w.heap.size w).alloc (Nat.le_refl _) _
  have C_0 := C.c 0; have C_1 := C.c 1; have C_2 := C.c 2; have C_3 := C.c 3; have C_4 := C.c 4; have C_5 := C.c 5; have C_6 := C.c 6; have C_7 := C.c 7; have C_8 := C.c 8; have C_9 := C.c 9; have C_10 := C.c 10; have C_11 := C.c 11; simp only [List.getElem?_cons_zero, List.getElem?_cons_succ] at C_0 C_1 C_2 C_3 C_4 C_5 C_6 C_7 C_8 C_9 C_10 C_11
  have Cf := C.f
  by_cases h0 : nv = 0
  · subst h0
    cases q
    · go_enter Try.func33, Try.ntmps33
      go_wp2
      go_ret
      exact ⟨rfl, hB⟩
    · go_enter Try.func33, Try.ntmps33
      go_wp2
      go_ret
      exact ⟨rfl, hB⟩
  · cases q
    · go_enter Try.func33, Try.ntmps33
      go_wp2
      go_ret
      exact ⟨by simp, hB⟩
    · go_enter Try.func33, Try.ntmps33
      go_wp2
      go_ret
      exact ⟨by simp, hB⟩

theorem struck_any (x : Value) (ao : Option Addr) (c : Nat) (vs : List Ver) (nv : Nat) (hnv : vs.length = nv) (q : Bool) (i : Itn) (w : World) :
    Calls Try.prog 32 #[x, (.agg #[.slice ao nv c, .bool q, .int .i64 i.txn.id, .int .i64 i.txn.ep, .string i.txn.anchor, .int .i64 i.txn.start.1, .int .i64 i.txn.start.2, .int .i64 i.seq, .int .i64 i.at_.1, .int .i64 i.at_.2, .string i.val, .bool i.gone])] w fun e w' => e = .returned (.bool (emC ⟨vs, q, i⟩)) ∧ Below w.heap.size w w' := by
  have hE := fun w' => empty9_any ao c vs nv hnv q i w'
  generalize emC ⟨vs, q, i⟩ = z at *
  clear hnv
  have C := Blk.new w #[.slice ao nv c, .bool q, .int .i64 i.txn.id, .int .i64 i.txn.ep, .string i.txn.anchor, .int .i64 i.txn.start.1, .int .i64 i.txn.start.2, .int .i64 i.seq, .int .i64 i.at_.1, .int .i64 i.at_.2, .string i.val, .bool i.gone] 48
  have hB : Below w.heap.size w (w.alloc (.cells #[.slice ao nv c, .bool q, .int .i64 i.txn.id, .int .i64 i.txn.ep, .string i.txn.anchor, .int .i64 i.txn.start.1, .int .i64 i.txn.start.2, .int .i64 i.seq, .int .i64 i.at_.1, .int .i64 i.at_.2, .string i.val, .bool i.gone] 48)) := (Below.refl w.heap.size w).alloc (Nat.le_refl _) _
  have C_0 := C.c 0; have C_1 := C.c 1; have C_2 := C.c 2; have C_3 := C.c 3; have C_4 := C.c 4; have C_5 := C.c 5; have C_6 := C.c 6; have C_7 := C.c 7; have C_8 := C.c 8; have C_9 := C.c 9; have C_10 := C.c 10; have C_11 := C.c 11; simp only [List.getElem?_cons_zero, List.getElem?_cons_succ] at C_0 C_1 C_2 C_3 C_4 C_5 C_6 C_7 C_8 C_9 C_10 C_11
  have Cf := C.f
  go_enter Try.func32, Try.ntmps32
  go_wp2_with (first
    | (go_at_call 33; refine (hE _).mono ?_; rintro e w' ⟨rfl, hb⟩)
    | go_in)
  go_ret
  exact ⟨rfl, hB.trans (hb.mono hB.size)⟩

theorem mdelete_any (b n : Nat) (l : List Ent) (hr : riseE l) (w : World) (hown : w.ownsMap Try.prog 9 rv b n (DL l)) (cb : Array Value) (hcb : cb = #[]) :
    Calls Try.prog 31 #[.map (some b), .func (.func 32) #[] cb] w fun e w' => e = .returned (.tuple #[]) ∧ w'.ownsMap Try.prog 9 rv b n (DL (l.filter fun e => !emC e.c)) ∧ w.grownBy w' (some b) := by
  subst hcb
  obtain ⟨es0, hes, hap, hkeys⟩ := hown.entries keyed
  have hes0 : es0 = l.map fun e => (keyL e.key, DataW.held e.v) := by
    unfold DL at hes
    injection hes with hes
    exact hes.symm
  subst hes0
  rw [← del_DL hr]
  go_enter Try.func31, Try.ntmps31
  go_wp2_with (first
    | (at_range; refine wpList_range_own _ rfl _ 63 rfl 9 48 keyed Try.underlying63 rv b n _ rfl hown ?_; intro w0 hrg0 hg0 hs0)
    | go_in)
  go_frame
  go_loopw [8] (fun _ wr => ∃ (left : Lit → Bool) (cnt : Nat), wr.ranges Try.prog 9 rv b w.heap.size n (Fk (pdL l) (l.map fun e => (keyL e.key, DataW.held e.v)) left) left cnt ∧ w.grownBy wr (some b))
    (fun _ wr => wr.rangeLeft b w.heap.size)
  case atStart => exact ⟨_, _, by rw [Fk_start hkeys]; exact hrg0, hg0.but _⟩
  case round =>
    obtain ⟨left, cnt, hrg, hgw⟩ := hrel
    go_wp2_with (first
      | (at_next; refine wpList_next_ranges _ rfl _ rfl 9 keyed rv id id (fun key _ _ => ⟨key, rfl⟩) (fun v _ _ => ⟨v, rfl⟩) b w.heap.size n _ _ _ rfl hrg ?_ ?_)
      | go_in)
    · intro _ hl0
      go_wp2
      go_end0
      exact ⟨rfl, by
        have := Fk_end (pd := pdL l) (es0 := l.map fun e => (keyL e.key, DataW.held e.v)) hl0
        rw [show DL l = DataW.map (l.map fun e => (keyL e.key, DataW.held e.v)) from rfl, ← this]; exact hrg.owns, hgw⟩
    · intro x c kl yd yp w1 cnt1 hkey hlx hv hat hrg1 hlt hg1 hs1 hen
      have hgw1 := hgw.andThen hg1 (fun j hj => by cases hj; exact Or.inl (Nat.le_refl _))
      have hst := fun h => Fk_stays (pd := pdL l) (left := left) hap (keyed.key hkey) hlx (d := yd) h hat
      have hsk := fun h => Fk_struck (pd := pdL l) (left := left) hap (keyed.key hkey) hlx (d := yd) h hat
      have hh := has_true_of_atKey hat
      have hat' := hat
      rw [Fk_DL hr] at hh hat'
      obtain ⟨e, he, rfl, rfl, rfl, hge⟩ := came hkey hv hat' hh
      have hel := (List.mem_filter.1 he).1
      rw [pdL_mem hr hel] at hst hsk
      clear hat hat' hh he hel hge
      obtain ⟨key, ao, cap, ⟨vs, q, i⟩⟩ := e
      simp only [Ent.v, chV] at hen hv hst hsk hkey hlx hrg1 ⊢
      have hS := fun w' => struck_any (.string key) ao cap vs _ rfl q i w'
      obtain ⟨nv, hnv⟩ : ∃ nv, vs.length = nv := ⟨_, rfl⟩
      simp only [hnv] at hen hv hS ⊢
      obtain ⟨z, hz⟩ : ∃ z, emC ⟨vs, q, i⟩ = z := ⟨_, rfl⟩
      rw [hz] at hst hsk hS
      clear hz hnv
      have C := Blk.new w1 #[.slice ao nv cap, .bool q, .int .i64 i.txn.id, .int .i64 i.txn.ep, .string i.txn.anchor, .int .i64 i.txn.start.1, .int .i64 i.txn.start.2, .int .i64 i.seq, .int .i64 i.at_.1, .int .i64 i.at_.2, .string i.val, .bool i.gone] 48
      have hB : Below w1.heap.size w1 (w1.alloc (.cells #[.slice ao nv cap, .bool q, .int .i64 i.txn.id, .int .i64 i.txn.ep, .string i.txn.anchor, .int .i64 i.txn.start.1, .int .i64 i.txn.start.2, .int .i64 i.seq, .int .i64 i.at_.1, .int .i64 i.at_.2, .string i.val, .bool i.gone] 48)) := (Below.refl w1.heap.size w1).alloc (Nat.le_refl _) _
      have hrg2 := hrg1.alloc (.cells #[.slice ao nv cap, .bool q, .int .i64 i.txn.id, .int .i64 i.txn.ep, .string i.txn.anchor, .int .i64 i.txn.start.1, .int .i64 i.txn.start.2, .int .i64 i.seq, .int .i64 i.at_.1, .int .i64 i.at_.2, .string i.val, .bool i.gone] 48)
      have hgA := World.grownBy_alloc w1 (.cells #[.slice ao nv cap, .bool q, .int .i64 i.txn.id, .int .i64 i.txn.ep, .string i.txn.anchor, .int .i64 i.txn.start.1, .int .i64 i.txn.start.2, .int .i64 i.seq, .int .i64 i.at_.1, .int .i64 i.at_.2, .string i.val, .bool i.gone] 48) none
      have C_0 := C.c 0; have C_1 := C.c 1; have C_2 := C.c 2; have C_3 := C.c 3; have C_4 := C.c 4; have C_5 := C.c 5; have C_6 := C.c 6; have C_7 := C.c 7; have C_8 := C.c 8; have C_9 := C.c 9; have C_10 := C.c 10; have C_11 := C.c 11; simp only [List.getElem?_cons_zero, List.getElem?_cons_succ] at C_0 C_1 C_2 C_3 C_4 C_5 C_6 C_7 C_8 C_9 C_10 C_11
      have Cf := C.f
      have hlt2 := hrg1.lt
      have hbl := hrg1.owns.lt
      have hgw2 := hgw1.andThen hgA (fun j hj => (by cases hj))
      cases z
      · have hst := hide (hst rfl)
        clear hsk
        go_wp2_with (first
          | (go_at_call 32; refine (hS _).mono ?_; rintro e w2 ⟨rfl, hb2⟩)
          | go_in)
        have hg2 := grown_of_below hb2 none
        have hrg3 := hrg2.kept hg2 (by simp) (by simp)
        rw [unhide hst] at hrg3
        go_roundw
        case rel => exact ⟨_, cnt1, hrg3, hgw2.andThen hg2 (fun j hj => by cases hj)⟩
        case measure => rw [hrg3.left_eq, hrg.left_eq]; exact hlt
        all_goals trivial
      · have hsk := hide (hsk rfl)
        clear hst
        go_wp2_with (first
          | (go_at_call 32; refine (hS _).mono ?_; rintro e w2 ⟨rfl, hb2⟩; have hg2 := grown_of_below hb2 none; have hrg3 := hrg2.kept hg2 (by simp) (by simp))
          | (at_delete; refine wpList_delete_ranges _ rfl _ _ 63 9 rfl 48 keyed Try.underlying63 rv b w.heap.size n _ _ _ rfl hrg3 _ _ rfl hkey ?_; intro w3 cnt3 hrg4 hle hturn; go_frame)
          | go_in)
        rw [strike_twice, unhide hsk] at hrg4
        go_roundw
        case rel => exact ⟨_, cnt3, hrg4, (hgw2.andThen hg2 (fun j hj => by cases hj)).andThen hturn.grown (fun j hj => by cases hj; exact Or.inr rfl)⟩
        case measure => rw [hrg4.left_eq, hrg.left_eq]; omega
        all_goals trivial
end

end Go.Proofs.Ytcdehnghggleoaa

/-
  What Resolve comes to, by lists; a map's count is what it holds. No law is proved here.
-/
namespace Go.Proofs.Ytcdehnghggleoaa
open Go.RowKit Go.Maps
set_option linter.unusedVariables false

theorem own_tight {w : World} {b n : Nat} {D : DataW Value} (h : w.ownsMap Try.prog 9 rv b n D) : w.ownsMap Try.prog 9 rv b (Maps.size D) D := by
  obtain ⟨es, clock, hb, F, _, rfl⟩ := h
  exact ⟨es, clock, hb, F, by simp [Maps.size, length_sorted], rfl⟩

/-- A span's chains, decided: those that were, or the first error. -/
def goV (id ep : Int) (cm : Bool) (a : Stp) : List KC → List Ent → List KC × Int
  | D, [] => (D, 0)
  | D, e :: r =>
    if (resolveC e.c id ep cm a).2 = 0 then goV id ep cm a (if e.c.opn && !(resolveC e.c id ep cm a).1.opn then D ++ [(e.key, (resolveC e.c id ep cm a).1)] else D) r
    else ([], (resolveC e.c id ep cm a).2)
def resA (f t : ByteArray) (id ep : Int) (cm : Bool) (a : Stp) (L : List Ent) : List KC × Int :=
  if S5.rightB f t = true then goV id ep cm a [] (inE f t L) else ([], 51)
/-- What a store has then. -/
def resL (L L' : List Ent) (D : List KC) : Prop :=
  if D = [] then L' = L else ∃ Ds : List Ent, absL Ds = D ∧ L' = (Ds.foldl setE L).filter fun e => !emC e.c

theorem setE_snoc {l : List Ent} {x : Ent} (h : ∀ e ∈ l, S5.L e.key x.key) : setE l x = l ++ [x] := by
  induction l with
  | nil => rfl
  | cons e r ih =>
    have h1 := h e (by simp)
    unfold setE
    rw [if_neg (show ¬ e.key = x.key from fun q => S5.L.irr x.key (by rw [q] at h1; exact h1)), if_neg (show ¬ S5.ltB x.key e.key = true from fun q => S5.L.irr _ (S5.L.tr h1 q)), ih fun z hz => h z (List.mem_cons_of_mem _ hz)]
    rfl
theorem rise_fold : ∀ {ds l : List Ent}, riseE l → riseE (ds.foldl setE l)
  | [], _, h => h
  | x :: r, l, h => rise_fold (ds := r) (rise_setE h)
theorem mem_fold : ∀ {ds l : List Ent} {z : Ent}, riseE l → z ∈ ds.foldl setE l → z ∈ ds ∨ z ∈ l
  | [], _, _, _, hz => .inr hz
  | x :: r, l, z, h, hz => by
    rcases mem_fold (ds := r) (rise_setE h) hz with q | q
    · exact .inl (List.mem_cons_of_mem _ q)
    · rcases (mem_setE h).1 q with rfl | q
      · exact .inl (by simp)
      · exact .inr q.1
theorem kof_str {kl : Lit} (e : ByteArray) (h : e.size ≤ maxLen) : KeysOf Try.prog 9 (keyL e) := ⟨_, keyOf_s h⟩
theorem canonK_DL {l : List Ent} (h : riseE l) (hk : ∀ e ∈ l, e.key.size ≤ maxLen) : CanonK (KeysOf Try.prog 9) (DL l) := by
  obtain ⟨es, he, h1, h2⟩ := canon_DL h
  refine ⟨es, he, h1, fun p hp => ?_⟩
  unfold DL at he
  injection he with he
  rw [← he] at hp
  obtain ⟨e, hm, rfl⟩ := List.mem_map.1 hp
  exact kof_str (kl := .nil) e.key (hk e hm)
theorem merge_DL : ∀ {ds l : List Ent}, riseE l → (∀ e ∈ l, e.key.size ≤ maxLen) → (∀ e ∈ ds, e.key.size ≤ maxLen) → Lib.mergeD (DL l) (DL ds) = DL (ds.foldl setE l)
  | [], _, _, _, _ => rfl
  | x :: r, l, h, hl, hd => by
    have hx := hd x (by simp)
    have h1 : (DL l).put (keyL x.key) (.held x.v) = DL (setE l x) := put_DL h x ((canonK_put keyed.one (kof_str (kl := .nil) x.key hx) _ (canonK_DL h hl)).canon keyed.one)
    have := merge_DL (ds := r) (rise_setE h) (fun e he => by
      rcases (mem_setE h).1 he with rfl | q
      · exact hx
      · exact hl e q.1) (fun e he => hd e (List.mem_cons_of_mem _ he))
    rw [List.foldl_cons, ← this, ← h1]
    rfl

theorem len_fold_in : ∀ {ds l : List Ent}, riseE l → (∀ e ∈ ds, ∃ z ∈ l, z.key = e.key) → (ds.foldl setE l).length = l.length
  | [], _, _, _ => rfl
  | x :: r, l, h, hd => by
    have hlen : ∀ {l : List Ent}, riseE l → (∃ z ∈ l, z.key = x.key) → (setE l x).length = l.length := fun {l} hr hz => by
      induction l with
      | nil => obtain ⟨z, hz, _⟩ := hz; cases hz
      | cons e s ih =>
        obtain ⟨h1, h2⟩ := List.pairwise_cons.1 hr
        unfold setE
        split
        · simp
        · rename_i hne
          obtain ⟨z, hz, hk⟩ := hz
          rcases List.mem_cons.1 hz with rfl | hz
          · exact absurd hk hne
          · rw [if_neg (show ¬ S5.ltB x.key e.key = true from fun q => S5.L.irr e.key (S5.L.tr (h1 z hz) (by rw [hk]; exact q))), List.length_cons, ih h2 ⟨z, hz, hk⟩, List.length_cons]
    rw [List.foldl_cons, len_fold_in (rise_setE h) (fun e he => ?_), hlen h (hd x (by simp))]
    obtain ⟨z, hz, hk⟩ := hd e (List.mem_cons_of_mem _ he)
    by_cases q : z.key = x.key
    · exact ⟨x, (mem_setE h).2 (.inl rfl), by rw [← q, hk]⟩
    · exact ⟨z, (mem_setE h).2 (.inr ⟨hz, q⟩), hk⟩

/-- After Copy and DeleteFunc. -/
theorem resolved {w w' : World} {a b n N : Nat} {L ds : List Ent} (h : Sto w a b L) (hr : Room w b L N) (hN : N < 1000000) (hg : w.grownBy w' (some b))
    (ho : w'.ownsMap Try.prog 9 rv b n (DL ((ds.foldl setE L).filter fun e => !emC e.c))) (hin : ∀ e ∈ ds, ∃ z ∈ L, z.key = e.key) (hv : ∀ e ∈ ds, Vs w' e.ao e.cap e.c.vs) (hlen : ∀ e ∈ ds, e.c.vs.length ≤ N + 1) :
    Sto w' a b ((ds.foldl setE L).filter fun e => !emC e.c) ∧ Room w' b ((ds.foldl setE L).filter fun e => !emC e.c) (N + 1) := by
  have ht := own_tight ho
  have hmem : ∀ {e}, e ∈ (ds.foldl setE L).filter (fun e => !emC e.c) → e ∈ ds ∨ e ∈ L := fun {e} he => mem_fold h.rise (List.mem_filter.1 he).1
  have hsz : Maps.size (DL ((ds.foldl setE L).filter fun e => !emC e.c)) ≤ N := by
    rw [size_DL]
    refine Nat.le_trans (List.length_filter_le _ _) ?_
    rw [len_fold_in h.rise hin]
    obtain ⟨m, hm, hmN⟩ := hr.1
    have := hm.size_le
    rw [size_DL] at this
    omega
  have hl : ∀ e ∈ (ds.foldl setE L).filter (fun e => !emC e.c), e.c.vs.length ≤ N + 1 := fun e he => by
    rcases hmem he with q | q
    · exact hlen e q
    · have := hr.2 e q; omega
  have hc : ∃ o : Obj, w.heap[b]? = some o ∧ o.isCells = false := by
    obtain ⟨_, ⟨es, clock, hb, _⟩, _⟩ := h.own
    exact ⟨_, hb, rfl⟩
  refine ⟨⟨(hg.block a h.lta (fun e => h.ne (by cases e; rfl))).trans h.at_, ⟨_, ht, by omega⟩, (rise_fold h.rise).filter _, fun e he => ?_, fun e he => ?_, fun e he => by have := hl e he; omega⟩, ⟨⟨_, ht, by omega⟩, hl⟩⟩
  · rcases hmem he with q | q
    · obtain ⟨z, hz, hk⟩ := hin e q
      rw [← hk]
      exact h.keys z hz
    · exact h.keys e q
  · rcases hmem he with q | q
    · exact hv e q
    · exact (h.vs e q).mapped hc hg

theorem resolveC_len (c : Chn) (id ep : Int) (cm : Bool) (a : Stp) (h : (resolveC c id ep cm a).2 = 0) : (resolveC c id ep cm a).1.vs.length ≤ c.vs.length + 1 := by
  obtain ⟨⟨x, e⟩, hX⟩ : ∃ X, resolveC c id ep cm a = X := ⟨_, rfl⟩
  rw [hX] at h ⊢
  simp only at h ⊢
  subst h
  rcases resolveC_ok hX with ⟨rfl, _⟩ | ⟨_, _, ⟨_, _, h1, h2, rfl⟩ | ⟨_, rfl⟩⟩ <;> simp

theorem Vs.turn {W W' : World} {ao : Option Addr} {c : Nat} {vs : List Ver} {row : Option Nat} (h : Vs W ao c vs) (hg : W.grownBy W' row) (hr : ∀ r, row = some r → ∃ o : Obj, W.heap[r]? = some o ∧ o.isCells = false) : Vs W' ao c vs := by
  cases row with
  | none => exact h.kept fun g o e hlt => hg.block g hlt (by simp)
  | some b => exact h.mapped (hr b rfl) hg

/-- While a span is decided: the caller's variables, the map of those that were. -/
structure RvI (w : World) (S1 : Nat) (id ep : Int) (cm : Bool) (at' : Stp) (Ds : List Ent) (W : World) : Prop where
  bel : Below w.heap.size w W
  I : Blk W (w.heap.size + 1) [.int .i64 id]
  E : Blk W (w.heap.size + 1 + 1) [.int .i64 ep]
  C : Blk W (w.heap.size + 1 + 1 + 1) [.bool cm]
  A : Blk W (w.heap.size + 1 + 1 + 1 + 1) [.int .i64 (at').1, .int .i64 (at').2]
  Q1 : Blk W (w.heap.size + 1 + 1 + 1 + 1 + 1) [.int .i64 0]
  Q2 : Blk W (w.heap.size + 1 + 1 + 1 + 1 + 1 + 1) [.int .i64 0]
  T : Blk W (S1 + 1) [.map (some S1)]
  M : W.ownsMap Try.prog 9 rv S1 Ds.length (DL Ds)
  vs : ∀ e ∈ Ds, VOwn (S1 + 2) W e.ao e.cap e.c.vs

theorem RvI.own {w : World} {S1 B : Nat} (hB : w.heap.size ≤ B) (hS : S1 < B) {id ep : Int} {cm : Bool} {at' : Stp} {Ds : List Ent} {W W' : World} {row : Option Nat} (h : RvI w S1 id ep cm at' Ds W) (hg : W.grownBy W' row) (hr : ∀ r, row = some r → B ≤ r ∧ ∃ o : Obj, W.heap[r]? = some o ∧ o.isCells = false) : RvI w S1 id ep cm at' Ds W' := by
  have hr' : ∀ r, row = some r → ∃ o : Obj, W.heap[r]? = some o ∧ o.isCells = false := fun r e => (hr r e).2
  exact ⟨below_turn h.bel hB h.bel.size hg hr, h.I.turn (by simp) hg hr', h.E.turn (by simp) hg hr', h.C.turn (by simp) hg hr', h.A.turn (by simp) hg hr', h.Q1.turn (by simp) hg hr', h.Q2.turn (by simp) hg hr', h.T.turn (by simp) hg hr',
    h.M.kept hg (fun e => by have := (hr _ e.symm).1; omega), fun e he => row_turn (h.vs e he) hg hr'⟩

theorem RvI.later {w : World} {S1 : Nat} {id ep : Int} {cm : Bool} {at' : Stp} {Ds : List Ent} {W W' : World} (h : RvI w S1 id ep cm at' Ds W) (hb : Below W.heap.size W W') : RvI w S1 id ep cm at' Ds W' :=
  ⟨h.bel.trans (hb.mono h.bel.size), h.I.later hb, h.E.later hb, h.C.later hb, h.A.later hb, h.Q1.later hb, h.Q2.later hb, h.T.later hb, h.M.kept (grown_of_below hb none) (by simp), fun e he => (h.vs e he).later hb⟩

theorem own_cells {W : World} {b n : Nat} {D : DataW Value} (h : W.ownsMap Try.prog 9 rv b n D) : ∃ o : Obj, W.heap[b]? = some o ∧ o.isCells = false := by
  obtain ⟨es, clock, hb, _⟩ := h
  exact ⟨_, hb, rfl⟩

/-- One more is decided. -/
theorem RvI.put {w : World} {S1 n : Nat} {id ep : Int} {cm : Bool} {at' : Stp} {Ds : List Ent} {W W' : World} {x : Ent} (hS : w.heap.size ≤ S1) (hr : riseE Ds) (h : RvI w S1 id ep cm at' Ds W) (hx : VOwn (S1 + 2) W x.ao x.cap x.c.vs)
    (ho : W'.ownsMap Try.prog 9 rv S1 n ((DL Ds).put (keyL x.key) (.held x.v))) (hg : W.grownBy W' (some S1)) : RvI w S1 id ep cm at' (setE Ds x) W' := by
  have hb := own_cells h.M
  have hr' : ∀ r, some S1 = some r → ∃ o : Obj, W.heap[r]? = some o ∧ o.isCells = false := fun r e => by cases e; exact hb
  have ho' := own_tight ho
  rw [put_DL hr x (ho.canon keyed), size_DL] at ho'
  refine ⟨below_turn h.bel hS h.bel.size hg (fun r e => ⟨by cases e; exact Nat.le_refl _, hr' r e⟩), h.I.turn (by simp) hg hr', h.E.turn (by simp) hg hr', h.C.turn (by simp) hg hr', h.A.turn (by simp) hg hr', h.Q1.turn (by simp) hg hr', h.Q2.turn (by simp) hg hr', h.T.turn (by simp) hg hr', ho', fun e he => ?_⟩
  rcases (mem_setE hr).1 he with rfl | q
  · exact row_turn hx hg hr'
  · exact row_turn (h.vs e q.1) hg hr'

/-- The answer, when a round has left for good. -/
structure RvX (w : World) (er : Int) (W : World) : Prop where
  bel : Below w.heap.size w W
  Q1 : Blk W (w.heap.size + 1 + 1 + 1 + 1 + 1) [.int .i64 0]
  Q2 : Blk W (w.heap.size + 1 + 1 + 1 + 1 + 1 + 1) [.int .i64 er]
theorem RvX.own {w : World} {B : Nat} (hB : w.heap.size ≤ B) {er : Int} {W W' : World} {row : Option Nat} (h : RvX w er W) (hg : W.grownBy W' row) (hr : ∀ r, row = some r → B ≤ r ∧ ∃ o : Obj, W.heap[r]? = some o ∧ o.isCells = false) : RvX w er W' := by
  have hr' : ∀ r, row = some r → ∃ o : Obj, W.heap[r]? = some o ∧ o.isCells = false := fun r e => (hr r e).2
  exact ⟨below_turn h.bel hB h.bel.size hg hr, h.Q1.turn (by simp) hg hr', h.Q2.turn (by simp) hg hr'⟩

theorem Out.grown_in {B0 B1 : Nat} {r : Option Nat} {W W' W'' : World} {k : Nat} (h : Out B0 B1 r W W') (hg : W'.grownBy W'' (some k)) (hk : B0 ≤ k ∧ k < B1) : Out B0 B1 r W W'' :=
  ⟨hg.os.trans h.os, hg.tape.trans h.tape, hg.output.trans h.output, Nat.le_trans h.size hg.size, fun i hi hi2 hn => (hg.block i (Nat.lt_of_lt_of_le hi h.size) (fun e => by cases e; omega)).trans (h.blk i hi hi2 hn)⟩

theorem results_r2 {fn : Func} {k1 k2 : Nat} (hf : fn.results = #[.cell k1 3, .cell k2 37]) {tmps : Array Value} {w : World} {B1 B2 : Nat} (n e : Int)
    (hk1 : tmps[k1]? = some (.pointer (some ⟨B1, 0, none⟩))) (hk2 : tmps[k2]? = some (.pointer (some ⟨B2, 0, none⟩)))
    (h1 : Blk w B1 [.int .i64 n]) (h2 : Blk w B2 [.int .i64 e]) : (results fn tmps).run Try.prog w = .ok (.tuple #[.int .i64 n, .int .i64 e]) w := by
  simp [results, hf, go_sem, h1.c, h2.c, hk1, hk2]

theorem before_in {l pre r : List Ent} {x : Ent} (h : riseE l) (e : pre ++ [x] ++ r = l) : ∀ z ∈ pre, S5.L z.key x.key := by
  subst e
  intro z hz
  have h1 := (List.pairwise_append.1 h).1
  exact (List.pairwise_append.1 h1).2.2 z hz x (by simp)

end Go.Proofs.Ytcdehnghggleoaa
