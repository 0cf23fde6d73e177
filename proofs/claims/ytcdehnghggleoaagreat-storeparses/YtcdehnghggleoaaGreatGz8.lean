/-
  Sn, Sr1, Pz1, Pz2, Pz3, Pz4, Pz5, Pz6: one behind the other. No law is proved here.
-/
import Derived.Test.YtcdehnghggleoaaGreatGz6
import Derived.Test.YtcdehnghggleoaaGreatSt8
import Derived.Maps.OwnSet
import Derived.Test.YtcdehnghggleoaaGreatGz1
/-
  maps.DeleteFunc over a store's chains: what is empty goes. No law is proved here.
-/
namespace Go.Proofs.YtcdehnghggleoaaGreat
open Go.RowKit Go.Maps
set_option linter.unusedVariables false

/-- Is a chain empty? -/
def emC (c : Chn) : Bool := c.vs.isEmpty && !c.opn
def pdL (l : List Ent) (kl : Lit) (_ : DataW Value) : Bool := l.any fun e => kl.sameKey (keyL e.key) && emC e.c
theorem pdL_mem {l : List Ent} (hr : riseE l) {e : Ent} (he : e ∈ l) (d : DataW Value) : pdL l (keyL e.key) d = emC e.c := by
  unfold pdL
  rw [Bool.eq_iff_iff, List.any_eq_true]
  constructor
  · rintro ⟨x, hx, h⟩
    rw [same_s, Bool.and_eq_true, decide_eq_true_eq] at h
    rw [key_inj hr he hx h.1]
    exact h.2
  · intro h
    exact ⟨e, he, by rw [same_s, h]; simp⟩
theorem Fk_DL {l : List Ent} (hr : riseE l) (left : Lit → Bool) : Fk (pdL l) (l.map fun e => (keyL e.key, DataW.held e.v)) left = DL (l.filter fun e => !emC e.c || left (keyL e.key)) := by
  unfold Fk DL
  rw [List.filter_map]
  congr 2
  refine List.filter_congr fun e he => ?_
  simp only [Function.comp_apply, pdL_mem hr he]
theorem del_DL {l : List Ent} (hr : riseE l) : Lib.deleteFuncD (pdL l) (DL l) = DL (l.filter fun e => !emC e.c) := by
  unfold Lib.deleteFuncD DL
  simp only
  rw [List.filter_map]
  congr 2
  refine List.filter_congr fun e he => ?_
  simp only [Function.comp_apply, pdL_mem hr he]

section
set_option maxRecDepth 100000
set_option maxHeartbeats 4000000

theorem empty9_any (ao : Option Addr) (c : Nat) (vs : List Ver) (nv : Nat) (hnv : vs.length = nv) (q : Bool) (i : Itn) (w : World) :
    Calls Tryz.prog 20 #[(.agg #[.slice ao nv c, .bool q, .int .i64 i.txn.id, .int .i64 i.txn.ep, .string i.txn.anchor, .int .i64 i.txn.start.1, .int .i64 i.txn.start.2, .int .i64 i.seq, .int .i64 i.at_.1, .int .i64 i.at_.2, .string i.val, .bool i.gone])] w fun e w' => e = .returned (.bool (emC ⟨vs, q, i⟩)) ∧ Below w.heap.size w w' := by
  have hk : emC ⟨vs, q, i⟩ = (decide (nv = 0) && !q) := by unfold emC; rw [← hnv]; cases vs <;> rfl
  rw [hk]
  clear hk hnv
  have C := Blk.new w #[.slice ao nv c, .bool q, .int .i64 i.txn.id, .int .i64 i.txn.ep, .string i.txn.anchor, .int .i64 i.txn.start.1, .int .i64 i.txn.start.2, .int .i64 i.seq, .int .i64 i.at_.1, .int .i64 i.at_.2, .string i.val, .bool i.gone] 61
  have hB : Below w.heap.size w (w.alloc (.cells #[.slice ao nv c, .bool q, .int .i64 i.txn.id, .int .i64 i.txn.ep, .string i.txn.anchor, .int .i64 i.txn.start.1, .int .i64 i.txn.start.2, .int .i64 i.seq, .int .i64 i.at_.1, .int .i64 i.at_.2, .string i.val, .bool i.gone] 61)) := (Below.refl w.heap.size w).alloc (Nat.le_refl _) _
  have C_0 := C.c 0; have C_1 := C.c 1; have C_2 := C.c 2; have C_3 := C.c 3; have C_4 := C.c 4; have C_5 := C.c 5; have C_6 := C.c 6; have C_7 := C.c 7; have C_8 := C.c 8; have C_9 := C.c 9; have C_10 := C.c 10; have C_11 := C.c 11; simp only [List.getElem?_cons_zero, List.getElem?_cons_succ] at C_0 C_1 C_2 C_3 C_4 C_5 C_6 C_7 C_8 C_9 C_10 C_11
  have Cf := C.f
  by_cases h0 : nv = 0
  · subst h0
    cases q
    · go_enter Tryz.func20, Tryz.ntmps20
      go_wp2
      go_ret
      exact ⟨rfl, hB⟩
    · go_enter Tryz.func20, Tryz.ntmps20
      go_wp2
      go_ret
      exact ⟨rfl, hB⟩
  · cases q
    · go_enter Tryz.func20, Tryz.ntmps20
      go_wp2
      go_ret
      exact ⟨by simp, hB⟩
    · go_enter Tryz.func20, Tryz.ntmps20
      go_wp2
      go_ret
      exact ⟨by simp, hB⟩

theorem struck_any (x : Value) (ao : Option Addr) (c : Nat) (vs : List Ver) (nv : Nat) (hnv : vs.length = nv) (q : Bool) (i : Itn) (w : World) :
    Calls Tryz.prog 43 #[x, (.agg #[.slice ao nv c, .bool q, .int .i64 i.txn.id, .int .i64 i.txn.ep, .string i.txn.anchor, .int .i64 i.txn.start.1, .int .i64 i.txn.start.2, .int .i64 i.seq, .int .i64 i.at_.1, .int .i64 i.at_.2, .string i.val, .bool i.gone])] w fun e w' => e = .returned (.bool (emC ⟨vs, q, i⟩)) ∧ Below w.heap.size w w' := by
  have hE := fun w' => empty9_any ao c vs nv hnv q i w'
  generalize emC ⟨vs, q, i⟩ = z at *
  clear hnv
  have C := Blk.new w #[.slice ao nv c, .bool q, .int .i64 i.txn.id, .int .i64 i.txn.ep, .string i.txn.anchor, .int .i64 i.txn.start.1, .int .i64 i.txn.start.2, .int .i64 i.seq, .int .i64 i.at_.1, .int .i64 i.at_.2, .string i.val, .bool i.gone] 61
  have hB : Below w.heap.size w (w.alloc (.cells #[.slice ao nv c, .bool q, .int .i64 i.txn.id, .int .i64 i.txn.ep, .string i.txn.anchor, .int .i64 i.txn.start.1, .int .i64 i.txn.start.2, .int .i64 i.seq, .int .i64 i.at_.1, .int .i64 i.at_.2, .string i.val, .bool i.gone] 61)) := (Below.refl w.heap.size w).alloc (Nat.le_refl _) _
  have C_0 := C.c 0; have C_1 := C.c 1; have C_2 := C.c 2; have C_3 := C.c 3; have C_4 := C.c 4; have C_5 := C.c 5; have C_6 := C.c 6; have C_7 := C.c 7; have C_8 := C.c 8; have C_9 := C.c 9; have C_10 := C.c 10; have C_11 := C.c 11; simp only [List.getElem?_cons_zero, List.getElem?_cons_succ] at C_0 C_1 C_2 C_3 C_4 C_5 C_6 C_7 C_8 C_9 C_10 C_11
  have Cf := C.f
  go_enter Tryz.func43, Tryz.ntmps43
  go_wp2_with (first
    | (go_at_call 20; refine (hE _).mono ?_; rintro e w' ⟨rfl, hb⟩)
    | go_in)
  go_ret
  exact ⟨rfl, hB.trans (hb.mono hB.size)⟩

theorem mdelete_any (b n : Nat) (l : List Ent) (hr : riseE l) (w : World) (hown : w.ownsMap Tryz.prog 9 rv b n (DL l)) (cb : Array Value) (hcb : cb = #[]) :
    Calls Tryz.prog 42 #[.map (some b), .func (.func 43) #[] cb] w fun e w' => e = .returned (.tuple #[]) ∧ w'.ownsMap Tryz.prog 9 rv b n (DL (l.filter fun e => !emC e.c)) ∧ w.grownBy w' (some b) := by
  subst hcb
  obtain ⟨es0, hes, hap, hkeys⟩ := hown.entries keyed
  have hes0 : es0 = l.map fun e => (keyL e.key, DataW.held e.v) := by
    unfold DL at hes
    injection hes with hes
    exact hes.symm
  subst hes0
  rw [← del_DL hr]
  go_enter Tryz.func42, Tryz.ntmps42
  go_wp2_with (first
    | (at_range; refine wpList_range_own _ rfl _ 66 rfl 9 61 keyed Tryz.underlying66 rv b n _ rfl hown ?_; intro w0 hrg0 hg0 hs0)
    | go_in)
  go_frame
  go_loopw [8] (fun _ wr => ∃ (left : Lit → Bool) (cnt : Nat), wr.ranges Tryz.prog 9 rv b w.heap.size n (Fk (pdL l) (l.map fun e => (keyL e.key, DataW.held e.v)) left) left cnt ∧ w.grownBy wr (some b))
    (fun _ wr => wr.rangeLeft b w.heap.size)
  case atStart => exact ⟨_, _, by rw [Fk_start hkeys]; exact hrg0, hg0.but _⟩
  case round =>
    obtain ⟨left, cnt, hrg, hgw⟩ := hrel
    go_wp2_with (first
      | (at_next; refine wpList_next_ranges _ rfl _ rfl 9 keyed rv id id (fun key _ _ => ⟨key, rfl⟩) (fun v _ _ => ⟨v, rfl⟩) b w.heap.size n _ _ _ rfl hrg ?_ ?_)
      | go_in)
    · intro _ hl0
      go_wp2
      go_end0
      exact ⟨rfl, by
        have := Fk_end (pd := pdL l) (es0 := l.map fun e => (keyL e.key, DataW.held e.v)) hl0
        rw [show DL l = DataW.map (l.map fun e => (keyL e.key, DataW.held e.v)) from rfl, ← this]; exact hrg.owns, hgw⟩
    · intro x c kl yd yp w1 cnt1 hkey hlx hv hat hrg1 hlt hg1 hs1 hen
      have hgw1 := hgw.andThen hg1 (fun j hj => by cases hj; exact Or.inl (Nat.le_refl _))
      have hst := fun h => Fk_stays (pd := pdL l) (left := left) hap (keyed.key hkey) hlx (d := yd) h hat
      have hsk := fun h => Fk_struck (pd := pdL l) (left := left) hap (keyed.key hkey) hlx (d := yd) h hat
      have hh := has_true_of_atKey hat
      have hat' := hat
      rw [Fk_DL hr] at hh hat'
      obtain ⟨e, he, rfl, rfl, rfl, hge⟩ := came hkey hv hat' hh
      have hel := (List.mem_filter.1 he).1
      rw [pdL_mem hr hel] at hst hsk
      clear hat hat' hh he hel hge
      obtain ⟨key, ao, cap, ⟨vs, q, i⟩⟩ := e
      simp only [Ent.v, chV] at hen hv hst hsk hkey hlx hrg1 ⊢
      have hS := fun w' => struck_any (.string key) ao cap vs _ rfl q i w'
      obtain ⟨nv, hnv⟩ : ∃ nv, vs.length = nv := ⟨_, rfl⟩
      simp only [hnv] at hen hv hS ⊢
      obtain ⟨z, hz⟩ : ∃ z, emC ⟨vs, q, i⟩ = z := ⟨_, rfl⟩
      rw [hz] at hst hsk hS
      clear hz hnv
      have C := Blk.new w1 #[.slice ao nv cap, .bool q, .int .i64 i.txn.id, .int .i64 i.txn.ep, .string i.txn.anchor, .int .i64 i.txn.start.1, .int .i64 i.txn.start.2, .int .i64 i.seq, .int .i64 i.at_.1, .int .i64 i.at_.2, .string i.val, .bool i.gone] 61
      have hB : Below w1.heap.size w1 (w1.alloc (.cells #[.slice ao nv cap, .bool q, .int .i64 i.txn.id, .int .i64 i.txn.ep, .string i.txn.anchor, .int .i64 i.txn.start.1, .int .i64 i.txn.start.2, .int .i64 i.seq, .int .i64 i.at_.1, .int .i64 i.at_.2, .string i.val, .bool i.gone] 61)) := (Below.refl w1.heap.size w1).alloc (Nat.le_refl _) _
      have hrg2 := hrg1.alloc (.cells #[.slice ao nv cap, .bool q, .int .i64 i.txn.id, .int .i64 i.txn.ep, .string i.txn.anchor, .int .i64 i.txn.start.1, .int .i64 i.txn.start.2, .int .i64 i.seq, .int .i64 i.at_.1, .int .i64 i.at_.2, .string i.val, .bool i.gone] 61)
      have hgA := World.grownBy_alloc w1 (.cells #[.slice ao nv cap, .bool q, .int .i64 i.txn.id, .int .i64 i.txn.ep, .string i.txn.anchor, .int .i64 i.txn.start.1, .int .i64 i.txn.start.2, .int .i64 i.seq, .int .i64 i.at_.1, .int .i64 i.at_.2, .string i.val, .bool i.gone] 61) none
      have C_0 := C.c 0; have C_1 := C.c 1; have C_2 := C.c 2; have C_3 := C.c 3; have C_4 := C.c 4; have C_5 := C.c 5; have C_6 := C.c 6; have C_7 := C.c 7; have C_8 := C.c 8; have C_9 := C.c 9; have C_10 := C.c 10; have C_11 := C.c 11; simp only [List.getElem?_cons_zero, List.getElem?_cons_succ] at C_0 C_1 C_2 C_3 C_4 C_5 C_6 C_7 C_8 C_9 C_10 C_11
      have Cf := C.f
      have hlt2 := hrg1.lt
      have hbl := hrg1.owns.lt
      have hgw2 := hgw1.andThen hgA (fun j hj => (by cases hj))
      cases z
      · have hst := hide (hst rfl)
        clear hsk
        go_wp2_with (first
          | (go_at_call 43; refine (hS _).mono ?_; rintro e w2 ⟨rfl, hb2⟩)
          | go_in)
        have hg2 := grown_of_below hb2 none
        have hrg3 := hrg2.kept hg2 (by simp) (by simp)
        rw [unhide hst] at hrg3
        go_roundw
        case rel => exact ⟨_, cnt1, hrg3, hgw2.andThen hg2 (fun j hj => by cases hj)⟩
        case measure => rw [hrg3.left_eq, hrg.left_eq]; exact hlt
        all_goals trivial
      · have hsk := hide (hsk rfl)
        clear hst
        go_wp2_with (first
          | (go_at_call 43; refine (hS _).mono ?_; rintro e w2 ⟨rfl, hb2⟩; have hg2 := grown_of_below hb2 none; have hrg3 := hrg2.kept hg2 (by simp) (by simp))
          | (at_delete; refine wpList_delete_ranges _ rfl _ _ 66 9 rfl 61 keyed Tryz.underlying66 rv b w.heap.size n _ _ _ rfl hrg3 _ _ rfl hkey ?_; intro w3 cnt3 hrg4 hle hturn; go_frame)
          | go_in)
        rw [strike_twice, unhide hsk] at hrg4
        go_roundw
        case rel => exact ⟨_, cnt3, hrg4, (hgw2.andThen hg2 (fun j hj => by cases hj)).andThen hturn.grown (fun j hj => by cases hj; exact Or.inr rfl)⟩
        case measure => rw [hrg4.left_eq, hrg.left_eq]; omega
        all_goals trivial
end

end Go.Proofs.YtcdehnghggleoaaGreat

/-
  What Resolve comes to, by lists; a map's count is what it holds. No law is proved here.
-/
namespace Go.Proofs.YtcdehnghggleoaaGreat
open Go.RowKit Go.Maps
set_option linter.unusedVariables false

theorem own_tight {w : World} {b n : Nat} {D : DataW Value} (h : w.ownsMap Tryz.prog 9 rv b n D) : w.ownsMap Tryz.prog 9 rv b (Maps.size D) D := by
  obtain ⟨es, clock, hb, F, _, rfl⟩ := h
  exact ⟨es, clock, hb, F, by simp [Maps.size, length_sorted], rfl⟩

/-- A span's chains, decided: those that were, or the first error. -/
def goV (id ep : Int) (cm : Bool) (a : Stp) : List KC → List Ent → List KC × Int
  | D, [] => (D, 0)
  | D, e :: r =>
    if (resolveC e.c id ep cm a).2 = 0 then goV id ep cm a (if e.c.opn && !(resolveC e.c id ep cm a).1.opn then D ++ [(e.key, (resolveC e.c id ep cm a).1)] else D) r
    else ([], (resolveC e.c id ep cm a).2)
def resA (f t : ByteArray) (id ep : Int) (cm : Bool) (a : Stp) (L : List Ent) : List KC × Int :=
  if S5.rightB f t = true then goV id ep cm a [] (inE f t L) else ([], 51)
/-- What a store has then. -/
def resL (L L' : List Ent) (D : List KC) : Prop :=
  if D = [] then L' = L else ∃ Ds : List Ent, absL Ds = D ∧ L' = (Ds.foldl setE L).filter fun e => !emC e.c

theorem setE_snoc {l : List Ent} {x : Ent} (h : ∀ e ∈ l, S5.L e.key x.key) : setE l x = l ++ [x] := by
  induction l with
  | nil => rfl
  | cons e r ih =>
    have h1 := h e (by simp)
    unfold setE
    rw [if_neg (show ¬ e.key = x.key from fun q => S5.L.irr x.key (by rw [q] at h1; exact h1)), if_neg (show ¬ S5.ltB x.key e.key = true from fun q => S5.L.irr _ (S5.L.tr h1 q)), ih fun z hz => h z (List.mem_cons_of_mem _ hz)]
    rfl
theorem rise_fold : ∀ {ds l : List Ent}, riseE l → riseE (ds.foldl setE l)
  | [], _, h => h
  | x :: r, l, h => rise_fold (ds := r) (rise_setE h)
theorem mem_fold : ∀ {ds l : List Ent} {z : Ent}, riseE l → z ∈ ds.foldl setE l → z ∈ ds ∨ z ∈ l
  | [], _, _, _, hz => .inr hz
  | x :: r, l, z, h, hz => by
    rcases mem_fold (ds := r) (rise_setE h) hz with q | q
    · exact .inl (List.mem_cons_of_mem _ q)
    · rcases (mem_setE h).1 q with rfl | q
      · exact .inl (by simp)
      · exact .inr q.1
theorem kof_str {kl : Lit} (e : ByteArray) (h : e.size ≤ maxLen) : KeysOf Tryz.prog 9 (keyL e) := ⟨_, keyOf_s h⟩
theorem canonK_DL {l : List Ent} (h : riseE l) (hk : ∀ e ∈ l, e.key.size ≤ maxLen) : CanonK (KeysOf Tryz.prog 9) (DL l) := by
  obtain ⟨es, he, h1, h2⟩ := canon_DL h
  refine ⟨es, he, h1, fun p hp => ?_⟩
  unfold DL at he
  injection he with he
  rw [← he] at hp
  obtain ⟨e, hm, rfl⟩ := List.mem_map.1 hp
  exact kof_str (kl := .nil) e.key (hk e hm)
theorem merge_DL : ∀ {ds l : List Ent}, riseE l → (∀ e ∈ l, e.key.size ≤ maxLen) → (∀ e ∈ ds, e.key.size ≤ maxLen) → Lib.mergeD (DL l) (DL ds) = DL (ds.foldl setE l)
  | [], _, _, _, _ => rfl
  | x :: r, l, h, hl, hd => by
    have hx := hd x (by simp)
    have h1 : (DL l).put (keyL x.key) (.held x.v) = DL (setE l x) := put_DL h x ((canonK_put keyed.one (kof_str (kl := .nil) x.key hx) _ (canonK_DL h hl)).canon keyed.one)
    have := merge_DL (ds := r) (rise_setE h) (fun e he => by
      rcases (mem_setE h).1 he with rfl | q
      · exact hx
      · exact hl e q.1) (fun e he => hd e (List.mem_cons_of_mem _ he))
    rw [List.foldl_cons, ← this, ← h1]
    rfl

theorem len_fold_in : ∀ {ds l : List Ent}, riseE l → (∀ e ∈ ds, ∃ z ∈ l, z.key = e.key) → (ds.foldl setE l).length = l.length
  | [], _, _, _ => rfl
  | x :: r, l, h, hd => by
    have hlen : ∀ {l : List Ent}, riseE l → (∃ z ∈ l, z.key = x.key) → (setE l x).length = l.length := fun {l} hr hz => by
      induction l with
      | nil => obtain ⟨z, hz, _⟩ := hz; cases hz
      | cons e s ih =>
        obtain ⟨h1, h2⟩ := List.pairwise_cons.1 hr
        unfold setE
        split
        · simp
        · rename_i hne
          obtain ⟨z, hz, hk⟩ := hz
          rcases List.mem_cons.1 hz with rfl | hz
          · exact absurd hk hne
          · rw [if_neg (show ¬ S5.ltB x.key e.key = true from fun q => S5.L.irr e.key (S5.L.tr (h1 z hz) (by rw [hk]; exact q))), List.length_cons, ih h2 ⟨z, hz, hk⟩, List.length_cons]
    rw [List.foldl_cons, len_fold_in (rise_setE h) (fun e he => ?_), hlen h (hd x (by simp))]
    obtain ⟨z, hz, hk⟩ := hd e (List.mem_cons_of_mem _ he)
    by_cases q : z.key = x.key
    · exact ⟨x, (mem_setE h).2 (.inl rfl), by rw [← q, hk]⟩
    · exact ⟨z, (mem_setE h).2 (.inr ⟨hz, q⟩), hk⟩

/-- After Copy and DeleteFunc. -/
theorem resolved {w w' : World} {a b n N : Nat} {L ds : List Ent} (h : Sto w a b L) (hr : Room w b L N) (hN : N < 1000000) (hg : w.grownBy w' (some b))
    (ho : w'.ownsMap Tryz.prog 9 rv b n (DL ((ds.foldl setE L).filter fun e => !emC e.c))) (hin : ∀ e ∈ ds, ∃ z ∈ L, z.key = e.key) (hv : ∀ e ∈ ds, Vs w' e.ao e.cap e.c.vs) (hlen : ∀ e ∈ ds, e.c.vs.length ≤ N + 1) :
    Sto w' a b ((ds.foldl setE L).filter fun e => !emC e.c) ∧ Room w' b ((ds.foldl setE L).filter fun e => !emC e.c) (N + 1) := by
  have ht := own_tight ho
  have hmem : ∀ {e}, e ∈ (ds.foldl setE L).filter (fun e => !emC e.c) → e ∈ ds ∨ e ∈ L := fun {e} he => mem_fold h.rise (List.mem_filter.1 he).1
  have hsz : Maps.size (DL ((ds.foldl setE L).filter fun e => !emC e.c)) ≤ N := by
    rw [size_DL]
    refine Nat.le_trans (List.length_filter_le _ _) ?_
    rw [len_fold_in h.rise hin]
    obtain ⟨m, hm, hmN⟩ := hr.1
    have := hm.size_le
    rw [size_DL] at this
    omega
  have hl : ∀ e ∈ (ds.foldl setE L).filter (fun e => !emC e.c), e.c.vs.length ≤ N + 1 := fun e he => by
    rcases hmem he with q | q
    · exact hlen e q
    · have := hr.2 e q; omega
  have hc : ∃ o : Obj, w.heap[b]? = some o ∧ o.isCells = false := by
    obtain ⟨_, ⟨es, clock, hb, _⟩, _⟩ := h.own
    exact ⟨_, hb, rfl⟩
  refine ⟨⟨(hg.block a h.lta (fun e => h.ne (by cases e; rfl))).trans h.at_, ⟨_, ht, by omega⟩, (rise_fold h.rise).filter _, fun e he => ?_, fun e he => ?_, fun e he => by have := hl e he; omega⟩, ⟨⟨_, ht, by omega⟩, hl⟩⟩
  · rcases hmem he with q | q
    · obtain ⟨z, hz, hk⟩ := hin e q
      rw [← hk]
      exact h.keys z hz
    · exact h.keys e q
  · rcases hmem he with q | q
    · exact hv e q
    · exact (h.vs e q).mapped hc hg

theorem resolveC_len (c : Chn) (id ep : Int) (cm : Bool) (a : Stp) (h : (resolveC c id ep cm a).2 = 0) : (resolveC c id ep cm a).1.vs.length ≤ c.vs.length + 1 := by
  obtain ⟨⟨x, e⟩, hX⟩ : ∃ X, resolveC c id ep cm a = X := ⟨_, rfl⟩
  rw [hX] at h ⊢
  simp only at h ⊢
  subst h
  rcases resolveC_ok hX with ⟨rfl, _⟩ | ⟨_, _, ⟨_, _, h1, h2, rfl⟩ | ⟨_, rfl⟩⟩ <;> simp

theorem Vs.turn {W W' : World} {ao : Option Addr} {c : Nat} {vs : List Ver} {row : Option Nat} (h : Vs W ao c vs) (hg : W.grownBy W' row) (hr : ∀ r, row = some r → ∃ o : Obj, W.heap[r]? = some o ∧ o.isCells = false) : Vs W' ao c vs := by
  cases row with
  | none => exact h.kept fun g o e hlt => hg.block g hlt (by simp)
  | some b => exact h.mapped (hr b rfl) hg

/-- While a span is decided: the caller's variables, the map of those that were. -/
structure RvI (w : World) (S1 : Nat) (id ep : Int) (cm : Bool) (at' : Stp) (Ds : List Ent) (W : World) : Prop where
  bel : Below w.heap.size w W
  I : Blk W (w.heap.size + 1) [.int .i64 id]
  E : Blk W (w.heap.size + 1 + 1) [.int .i64 ep]
  C : Blk W (w.heap.size + 1 + 1 + 1) [.bool cm]
  A : Blk W (w.heap.size + 1 + 1 + 1 + 1) [.int .i64 (at').1, .int .i64 (at').2]
  Q1 : Blk W (w.heap.size + 1 + 1 + 1 + 1 + 1) [.int .i64 0]
  Q2 : Blk W (w.heap.size + 1 + 1 + 1 + 1 + 1 + 1) [.int .i64 0]
  T : Blk W (S1 + 1) [.map (some S1)]
  M : W.ownsMap Tryz.prog 9 rv S1 Ds.length (DL Ds)
  vs : ∀ e ∈ Ds, VOwn (S1 + 2) W e.ao e.cap e.c.vs

theorem RvI.own {w : World} {S1 B : Nat} (hB : w.heap.size ≤ B) (hS : S1 < B) {id ep : Int} {cm : Bool} {at' : Stp} {Ds : List Ent} {W W' : World} {row : Option Nat} (h : RvI w S1 id ep cm at' Ds W) (hg : W.grownBy W' row) (hr : ∀ r, row = some r → B ≤ r ∧ ∃ o : Obj, W.heap[r]? = some o ∧ o.isCells = false) : RvI w S1 id ep cm at' Ds W' := by
  have hr' : ∀ r, row = some r → ∃ o : Obj, W.heap[r]? = some o ∧ o.isCells = false := fun r e => (hr r e).2
  exact ⟨below_turn h.bel hB h.bel.size hg hr, h.I.turn (by simp) hg hr', h.E.turn (by simp) hg hr', h.C.turn (by simp) hg hr', h.A.turn (by simp) hg hr', h.Q1.turn (by simp) hg hr', h.Q2.turn (by simp) hg hr', h.T.turn (by simp) hg hr',
    h.M.kept hg (fun e => by have := (hr _ e.symm).1; omega), fun e he => row_turn (h.vs e he) hg hr'⟩

theorem RvI.later {w : World} {S1 : Nat} {id ep : Int} {cm : Bool} {at' : Stp} {Ds : List Ent} {W W' : World} (h : RvI w S1 id ep cm at' Ds W) (hb : Below W.heap.size W W') : RvI w S1 id ep cm at' Ds W' :=
  ⟨h.bel.trans (hb.mono h.bel.size), h.I.later hb, h.E.later hb, h.C.later hb, h.A.later hb, h.Q1.later hb, h.Q2.later hb, h.T.later hb, h.M.kept (grown_of_below hb none) (by simp), fun e he => (h.vs e he).later hb⟩

theorem own_cells {W : World} {b n : Nat} {D : DataW Value} (h : W.ownsMap Tryz.prog 9 rv b n D) : ∃ o : Obj, W.heap[b]? = some o ∧ o.isCells = false := by
  obtain ⟨es, clock, hb, _⟩ := h
  exact ⟨_, hb, rfl⟩

/-- One more is decided. -/
theorem RvI.put {w : World} {S1 n : Nat} {id ep : Int} {cm : Bool} {at' : Stp} {Ds : List Ent} {W W' : World} {x : Ent} (hS : w.heap.size ≤ S1) (hr : riseE Ds) (h : RvI w S1 id ep cm at' Ds W) (hx : VOwn (S1 + 2) W x.ao x.cap x.c.vs)
    (ho : W'.ownsMap Tryz.prog 9 rv S1 n ((DL Ds).put (keyL x.key) (.held x.v))) (hg : W.grownBy W' (some S1)) : RvI w S1 id ep cm at' (setE Ds x) W' := by
  have hb := own_cells h.M
  have hr' : ∀ r, some S1 = some r → ∃ o : Obj, W.heap[r]? = some o ∧ o.isCells = false := fun r e => by cases e; exact hb
  have ho' := own_tight ho
  rw [put_DL hr x (ho.canon keyed), size_DL] at ho'
  refine ⟨below_turn h.bel hS h.bel.size hg (fun r e => ⟨by cases e; exact Nat.le_refl _, hr' r e⟩), h.I.turn (by simp) hg hr', h.E.turn (by simp) hg hr', h.C.turn (by simp) hg hr', h.A.turn (by simp) hg hr', h.Q1.turn (by simp) hg hr', h.Q2.turn (by simp) hg hr', h.T.turn (by simp) hg hr', ho', fun e he => ?_⟩
  rcases (mem_setE hr).1 he with rfl | q
  · exact row_turn hx hg hr'
  · exact row_turn (h.vs e q.1) hg hr'

/-- The answer, when a round has left for good. -/
structure RvX (w : World) (er : Int) (W : World) : Prop where
  bel : Below w.heap.size w W
  Q1 : Blk W (w.heap.size + 1 + 1 + 1 + 1 + 1) [.int .i64 0]
  Q2 : Blk W (w.heap.size + 1 + 1 + 1 + 1 + 1 + 1) [.int .i64 er]
theorem RvX.own {w : World} {B : Nat} (hB : w.heap.size ≤ B) {er : Int} {W W' : World} {row : Option Nat} (h : RvX w er W) (hg : W.grownBy W' row) (hr : ∀ r, row = some r → B ≤ r ∧ ∃ o : Obj, W.heap[r]? = some o ∧ o.isCells = false) : RvX w er W' := by
  have hr' : ∀ r, row = some r → ∃ o : Obj, W.heap[r]? = some o ∧ o.isCells = false := fun r e => (hr r e).2
  exact ⟨below_turn h.bel hB h.bel.size hg hr, h.Q1.turn (by simp) hg hr', h.Q2.turn (by simp) hg hr'⟩

theorem Out.grown_in {B0 B1 : Nat} {r : Option Nat} {W W' W'' : World} {k : Nat} (h : Out B0 B1 r W W') (hg : W'.grownBy W'' (some k)) (hk : B0 ≤ k ∧ k < B1) : Out B0 B1 r W W'' :=
  ⟨hg.os.trans h.os, hg.tape.trans h.tape, hg.output.trans h.output, Nat.le_trans h.size hg.size, fun i hi hi2 hn => (hg.block i (Nat.lt_of_lt_of_le hi h.size) (fun e => by cases e; omega)).trans (h.blk i hi hi2 hn)⟩

theorem results_r2 {fn : Func} {k1 k2 : Nat} (hf : fn.results = #[.cell k1 3, .cell k2 25]) {tmps : Array Value} {w : World} {B1 B2 : Nat} (n e : Int)
    (hk1 : tmps[k1]? = some (.pointer (some ⟨B1, 0, none⟩))) (hk2 : tmps[k2]? = some (.pointer (some ⟨B2, 0, none⟩)))
    (h1 : Blk w B1 [.int .i64 n]) (h2 : Blk w B2 [.int .i64 e]) : (results fn tmps).run Tryz.prog w = .ok (.tuple #[.int .i64 n, .int .i64 e]) w := by
  simp [results, hf, go_sem, h1.c, h2.c, hk1, hk2]

theorem before_in {l pre r : List Ent} {x : Ent} (h : riseE l) (e : pre ++ [x] ++ r = l) : ∀ z ∈ pre, S5.L z.key x.key := by
  subst e
  intro z hz
  have h1 := (List.pairwise_append.1 h).1
  exact (List.pairwise_append.1 h1).2.2 z hz x (by simp)

end Go.Proofs.YtcdehnghggleoaaGreat

/-
  A store's bytes by lists: what is read of bytes, and that what is read was written so. Of no program's memory. No law is proved here.
-/
namespace Go.Proofs.YtcdehnghggleoaaGreat
open Go.RowKit
set_option linter.unusedVariables false

def optN (l : List UInt8) (most : Int) : Option (Nat × List UInt8) := if (P1.rdN l most).2.1 = 0 then some ((P1.rdN l most).1, (P1.rdN l most).2.2) else none
def optF (l : List UInt8) : Option (Bool × List UInt8) := if (P1.rdF l).2.1 = 0 then some ((P1.rdF l).1, (P1.rdF l).2.2) else none
def optT (l : List UInt8) (most : Int) : Option (ByteArray × List UInt8) := if (P1.rdT l most).2.1 = 0 then some (⟨(P1.rdT l most).1.toArray⟩, (P1.rdT l most).2.2) else none
def optS (l : List UInt8) : Option (Stp × List UInt8) := if (P1.rdS l).2.2.1 = 0 then some (((P1.rdS l).1, (P1.rdS l).2.1), (P1.rdS l).2.2.2) else none

abbrev mxN : Int := 1099511627776

theorem optN_one {l r : List UInt8} {most : Int} {v : Nat} (h : optN l most = some (v, r)) : l = P1.enc v ++ r ∧ (v : Int) ≤ most := by
  unfold optN at h
  rcases P1.rdN_one l most with ⟨h1, _, _⟩ | ⟨h1, h2, h3, _⟩
  · rw [if_neg (by rw [h1]; decide)] at h
    cases h
  · rw [if_pos h1] at h
    simp only [Option.some.injEq, Prod.mk.injEq] at h
    obtain ⟨rfl, rfl⟩ := h
    exact ⟨h2, h3⟩
theorem optF_one {l r : List UInt8} {b : Bool} (h : optF l = some (b, r)) : l = P1.encF b ++ r := by
  unfold optF at h
  rcases P1.rdF_one l with ⟨h1, _, _⟩ | ⟨h1, h2⟩
  · rw [if_neg (by rw [h1]; decide)] at h
    cases h
  · rw [if_pos h1] at h
    simp only [Option.some.injEq, Prod.mk.injEq] at h
    obtain ⟨rfl, rfl⟩ := h
    exact h2
theorem optT_one {l r : List UInt8} {most : Int} {s : ByteArray} (h : optT l most = some (s, r)) : l = P1.encT s ++ r ∧ (s.size : Int) ≤ most := by
  unfold optT at h
  rcases P1.rdT_one l most with ⟨h1, _, _⟩ | ⟨h1, h2, h3⟩
  · rw [if_neg (by rw [h1]; decide)] at h
    cases h
  · rw [if_pos h1] at h
    simp only [Option.some.injEq, Prod.mk.injEq] at h
    obtain ⟨rfl, rfl⟩ := h
    refine ⟨h2, ?_⟩
    show (((P1.rdT l most).1.toArray.size : Nat) : Int) ≤ most
    rw [List.size_toArray]
    exact h3
/-- A stamp's bytes. -/
def encP (s : Stp) : List UInt8 := P1.encS s.1 s.2
theorem rdS_one (l : List UInt8) : P1.rdS l = (0, 0, 11, l) ∨ ∃ x y r, P1.rdS l = (x, y, 0, r) ∧ l = P1.encS x y ++ r ∧ rightB x y = true := by
  unfold P1.rdS
  rcases P1.rdN_one l 1099511627776 with ⟨h1, _, _⟩ | ⟨h1, h2, h3, _⟩
  · rw [if_neg (by rw [h1]; simp)]
    exact .inl rfl
  · rcases P1.rdN_one (P1.rdN l 1099511627776).2.2 65535 with ⟨g1, _, _⟩ | ⟨g1, g2, g3, _⟩
    · rw [if_neg (by rw [g1]; simp)]
      exact .inl rfl
    · rw [if_pos ⟨h1, g1⟩]
      refine .inr ⟨_, _, _, rfl, ?_, (right_iff _ _).2 (by omega)⟩
      unfold P1.encS
      rw [Int.toNat_natCast, Int.toNat_natCast, List.append_assoc, ← g2, ← h2]
theorem optS_one {l r : List UInt8} {s : Stp} (h : optS l = some (s, r)) : l = encP s ++ r := by
  unfold optS at h
  rcases rdS_one l with e | ⟨x, y, q, e, h1, _⟩
  · rw [e] at h
    simp at h
  · rw [e] at h
    simp only [if_true, Option.some.injEq, Prod.mk.injEq] at h
    obtain ⟨rfl, rfl⟩ := h
    exact h1

/-- A version that comes next. -/
def prsV (l : List UInt8) : Option (Ver × List UInt8) :=
  (optS l).bind fun s => (optT s.2 16).bind fun t => (optF t.2).bind fun g => if valB t.1 g.1 = true then (optN g.2 mxN).bind fun n => some (⟨s.1, t.1, g.1, (n.1 : Int)⟩, n.2) else none
def encV (v : Ver) : List UInt8 := encP v.at_ ++ (P1.encT v.val ++ (P1.encF v.gone ++ P1.enc v.by_.toNat))
theorem prsV_one {l r : List UInt8} {v : Ver} (h : prsV l = some (v, r)) : l = encV v ++ r := by
  unfold prsV at h
  simp only [Option.bind_eq_some_iff] at h
  obtain ⟨⟨s, l1⟩, h1, ⟨t, l2⟩, h2, ⟨g, l3⟩, h3, h4⟩ := h
  simp only at h2 h3 h4
  split at h4
  · simp only [Option.bind_eq_some_iff] at h4
    obtain ⟨⟨n, l4⟩, h5, h6⟩ := h4
    simp only [Option.some.injEq, Prod.mk.injEq] at h6
    obtain ⟨rfl, rfl⟩ := h6
    rw [optS_one h1, (optT_one h2).1, optF_one h3, (optN_one h5).1]
    simp [encV, List.append_assoc]
  · cases h4
/-- So many versions. -/
def prsVs : Nat → List UInt8 → Option (List Ver × List UInt8)
  | 0, l => some ([], l)
  | n + 1, l => (prsV l).bind fun v => (prsVs n v.2).bind fun vs => some (v.1 :: vs.1, vs.2)
theorem prsVs_one : ∀ {n : Nat} {l r : List UInt8} {vs : List Ver}, prsVs n l = some (vs, r) → l = vs.flatMap encV ++ r ∧ vs.length = n
  | 0, l, r, vs, h => by
    simp only [prsVs, Option.some.injEq, Prod.mk.injEq] at h
    obtain ⟨rfl, rfl⟩ := h
    exact ⟨rfl, rfl⟩
  | n + 1, l, r, vs, h => by
    simp only [prsVs, Option.bind_eq_some_iff] at h
    obtain ⟨⟨v, l1⟩, h1, ⟨us, l2⟩, h2, h3⟩ := h
    simp only [Option.some.injEq, Prod.mk.injEq] at h2 h3
    obtain ⟨rfl, rfl⟩ := h3
    obtain ⟨e, k⟩ := prsVs_one h2
    refine ⟨?_, by simp [k]⟩
    rw [prsV_one h1, e]
    simp [List.append_assoc]
/-- An intent that comes next. -/
def prsI (l : List UInt8) : Option (Itn × List UInt8) :=
  (optN l mxN).bind fun i => (optN i.2 mxN).bind fun p => (optT p.2 8).bind fun k => if S5.keyB k.1 = true then (optS k.2).bind fun s => (optN s.2 mxN).bind fun q => (optS q.2).bind fun a => (optT a.2 16).bind fun t => (optF t.2).bind fun g =>
    if valB t.1 g.1 = true then some (⟨⟨(i.1 : Int), (p.1 : Int), k.1, s.1⟩, (q.1 : Int), a.1, t.1, g.1⟩, g.2) else none else none
def encI (i : Itn) : List UInt8 := P1.enc i.txn.id.toNat ++ (P1.enc i.txn.ep.toNat ++ (P1.encT i.txn.anchor ++ (encP i.txn.start ++ (P1.enc i.seq.toNat ++ (encP i.at_ ++ (P1.encT i.val ++ P1.encF i.gone))))))
theorem prsI_one {l r : List UInt8} {i : Itn} (h : prsI l = some (i, r)) : l = encI i ++ r := by
  unfold prsI at h
  simp only [Option.bind_eq_some_iff] at h
  obtain ⟨⟨i1, l1⟩, h1, ⟨p, l2⟩, h2, ⟨k, l3⟩, h3, h4⟩ := h
  simp only at h2 h3 h4
  split at h4
  · simp only [Option.bind_eq_some_iff] at h4
    obtain ⟨⟨s, l4⟩, h5, ⟨q, l5⟩, h6, ⟨a, l6⟩, h7, ⟨t, l7⟩, h8, ⟨g, l8⟩, h9, h10⟩ := h4
    simp only at h6 h7 h8 h9 h10
    split at h10
    · simp only [Option.some.injEq, Prod.mk.injEq] at h10
      obtain ⟨rfl, rfl⟩ := h10
      rw [(optN_one h1).1, (optN_one h2).1, (optT_one h3).1, optS_one h5, (optN_one h6).1, optS_one h7, (optT_one h8).1, optF_one h9]
      simp [encI, List.append_assoc]
    · cases h10
  · cases h4
/-- A chain that comes next. -/
def prsC (l : List UInt8) : Option (Chn × List UInt8) :=
  (optN l mxN).bind fun n => (prsVs n.1 n.2).bind fun vs => (optF vs.2).bind fun o => if o.1 = true then (prsI o.2).bind fun i => some (⟨vs.1, true, i.1⟩, i.2) else some (⟨vs.1, false, Itn.zero⟩, o.2)
def encC (c : Chn) : List UInt8 := P1.enc c.vs.length ++ (c.vs.flatMap encV ++ (P1.encF c.opn ++ (if c.opn = true then encI c.itn else [])))
theorem prsC_one {l r : List UInt8} {c : Chn} (h : prsC l = some (c, r)) : l = encC c ++ r := by
  unfold prsC at h
  simp only [Option.bind_eq_some_iff] at h
  obtain ⟨⟨n, l1⟩, h1, ⟨vs, l2⟩, h2, ⟨o, l3⟩, h3, h4⟩ := h
  simp only at h2 h3 h4
  obtain ⟨e, k⟩ := prsVs_one h2
  subst k
  split at h4
  · rename_i q
    simp only [Option.bind_eq_some_iff] at h4
    obtain ⟨⟨i, l4⟩, h5, h6⟩ := h4
    simp only [Option.some.injEq, Prod.mk.injEq] at h6
    obtain ⟨rfl, rfl⟩ := h6
    subst q
    rw [(optN_one h1).1, e, optF_one h3, prsI_one h5]
    simp [encC, List.append_assoc]
  · rename_i q
    simp only [Option.some.injEq, Prod.mk.injEq] at h4
    obtain ⟨rfl, rfl⟩ := h4
    obtain rfl : o = false := by simpa using q
    rw [(optN_one h1).1, e, optF_one h3]
    simp [encC, List.append_assoc]
/-- So many keys with their chains, rising. -/
def prsK : Nat → ByteArray → List UInt8 → Option (List KC × List UInt8)
  | 0, _, l => some ([], l)
  | n + 1, a, l => (optT l 8).bind fun k => (prsC k.2).bind fun c => if (S5.keyB k.1 && S5.ltB a k.1 && rightCB c.1 && !emC c.1) = true then (prsK n k.1 c.2).bind fun D => some ((k.1, c.1) :: D.1, D.2) else none
/-- What is right of what was read. -/
def okK (a : ByteArray) : List KC → Prop
  | [] => True
  | p :: D => S5.keyB p.1 = true ∧ S5.L a p.1 ∧ rightCB p.2 = true ∧ emC p.2 = false ∧ okK p.1 D
theorem prsK_one : ∀ {n : Nat} {a : ByteArray} {l r : List UInt8} {D : List KC}, prsK n a l = some (D, r) → l = D.flatMap (fun p => P1.encT p.1 ++ encC p.2) ++ r ∧ D.length = n ∧ okK a D
  | 0, a, l, r, D, h => by
    simp only [prsK, Option.some.injEq, Prod.mk.injEq] at h
    obtain ⟨rfl, rfl⟩ := h
    exact ⟨rfl, rfl, trivial⟩
  | n + 1, a, l, r, D, h => by
    simp only [prsK, Option.bind_eq_some_iff] at h
    obtain ⟨⟨k, l1⟩, h1, ⟨c, l2⟩, h2, h3⟩ := h
    simp only at h2 h3
    split at h3
    · rename_i q
      simp only [Option.bind_eq_some_iff] at h3
      obtain ⟨⟨E, l3⟩, h4, h5⟩ := h3
      simp only [Option.some.injEq, Prod.mk.injEq] at h5
      obtain ⟨rfl, rfl⟩ := h5
      obtain ⟨e, m, o⟩ := prsK_one h4
      simp only [Bool.and_eq_true, Bool.not_eq_true'] at q
      refine ⟨?_, by simp [m], q.1.1.1, q.1.1.2, q.1.2, q.2, o⟩
      rw [(optT_one h1).1, prsC_one h2, e]
      simp [List.append_assoc]
    · cases h3
/-- The keys and chains of a store's bytes. -/
def prsS (l : List UInt8) : Option (List KC) := (optN l mxN).bind fun n => (prsK n.1 S5.emp n.2).bind fun D => if D.2 = [] then some D.1 else none
def encD (D : List KC) : List UInt8 := P1.enc D.length ++ D.flatMap fun p => P1.encT p.1 ++ encC p.2
/-- What is read was written so. -/
theorem prsS_one {l : List UInt8} {D : List KC} (h : prsS l = some D) : encD D = l ∧ okK S5.emp D := by
  unfold prsS at h
  simp only [Option.bind_eq_some_iff] at h
  obtain ⟨⟨n, l1⟩, h1, ⟨E, l2⟩, h2, h3⟩ := h
  simp only at h2 h3
  split at h3
  · rename_i q
    simp only [Option.some.injEq] at h3
    subst h3 q
    obtain ⟨e, m, o⟩ := prsK_one h2
    subst m
    refine ⟨?_, o⟩
    rw [(optN_one h1).1, e]
    simp [encD]
  · cases h3

end Go.Proofs.YtcdehnghggleoaaGreat

/-
  A store's parts, read one behind the other: a number. No law is proved here.
-/
namespace Go.Proofs.YtcdehnghggleoaaGreat
open Go.RowKit
set_option linter.unusedVariables false

theorem sl_setInt {w : World} {v : Value} {l : List UInt8} (h : P1.Sl w v l) {p : Addr} {n : Int} (hp : w.cell? p = some (.int .i64 n)) (x : Value) : P1.Sl (w.setCell p x) v l := by
  obtain ⟨bo, d, rfl, h1, h2, h3, h4⟩ := h
  refine ⟨bo, d, rfl, h1, h2, h3, fun a ha j u hu => ?_⟩
  have hc := h4 a ha j u hu
  rw [World.cell?_setCell_other]
  · exact hc
  · intro e
    rw [e, hc] at hp
    rw [P1.bc_get] at hu
    cases hl : l[j]? with
    | none => rw [hl] at hu; cases hu
    | some b => rw [hl] at hu; cases hu; cases hp

/-- The parts that are left: the reader's bytes and the error that is kept. -/
structure Pt (w : World) (P R : Nat) (er : Int) (l : List UInt8) : Prop where
  c : Blk w P [.pointer (some ⟨R, 0, none⟩), .int .i64 er]
  r : P1.Rd w R l
  ne : P ≠ R
theorem Pt.later {w w' : World} {P R : Nat} {er : Int} {l : List UInt8} (h : Pt w P R er l) (hb : Below w.heap.size w w') : Pt w' P R er l := ⟨h.c.later hb, h.r.below hb (Nat.le_refl _), h.ne⟩
/-- At most the parts' own blocks have turned. -/
structure PtM (P R : Nat) (w w' : World) : Prop where
  os : w'.os = w.os
  tape : w'.tape = w.tape
  output : w'.output = w.output
  size : w.heap.size ≤ w'.heap.size
  blk : ∀ k, k < w.heap.size → k ≠ P → k ≠ R → w'.heap[k]? = w.heap[k]?
theorem PtM.of {P R : Nat} {w w' : World} (h : Below w.heap.size w w') : PtM P R w w' := ⟨h.os, h.tape, h.output, h.size, fun k hk _ _ => h.block k hk⟩
theorem PtM.trans {P R : Nat} {a b c : World} (h : PtM P R a b) (g : PtM P R b c) : PtM P R a c :=
  ⟨g.os.trans h.os, g.tape.trans h.tape, g.output.trans h.output, Nat.le_trans h.size g.size, fun k hk n1 n2 => (g.blk k (Nat.lt_of_lt_of_le hk h.size) n1 n2).trans (h.blk k hk n1 n2)⟩
theorem PtM.setCell {P R : Nat} {a b : World} (h : PtM P R a b) {p : Addr} (hp : p.block = P ∨ p.block = R) (x : Value) : PtM P R a (b.setCell p x) :=
  ⟨h.os, h.tape, h.output, by simpa [World.setCell] using h.size, fun k hk n1 n2 => (Below.heap_setCell _ _ _ _ (by rcases hp with e | e <;> omega)).trans (h.blk k hk n1 n2)⟩
theorem PtM.stays {P R : Nat} {w w' : World} (h : P1.Stays R w w') : PtM P R w w' := by
  rcases h with rfl | ⟨x, rfl⟩
  · exact PtM.of (Below.refl _ _)
  · exact (PtM.of (P := P) (R := R) (Below.refl _ _)).setCell (p := ⟨R, 0, none⟩) (.inr rfl) x
theorem Blk.stays {w w' : World} {P R : Nat} {cs : List Value} (h : Blk w P cs) (hn : P ≠ R) (hs : P1.Stays R w w') : Blk w' P cs := by
  rcases hs with rfl | ⟨x, rfl⟩
  · exact h
  · exact h.other (fun e => hn e.symm) x
theorem Pt.err {w : World} {P R : Nat} {er : Int} {l : List UInt8} (h : Pt w P R er l) (e : Int) : Pt (w.setCell ⟨P, 1, none⟩ (.int .i64 e)) P R e l := by
  obtain ⟨ao, n, c, h1, h2, h3, h4⟩ := h.r
  have hc := h.c.c 1
  simp only [List.getElem?_cons_zero, List.getElem?_cons_succ] at hc
  refine ⟨h.c.set 1 (by simp) _, ⟨ao, n, c, ?_, by simpa using h2, sl_setInt h3 hc _, h4.setCell _ _⟩, h.ne⟩
  rw [World.cell?_setCell_other]
  · exact h1
  · intro q
    injection q with q
    exact h.ne q

def numP (er : Int) (l : List UInt8) : Nat × Int × List UInt8 := if er = 0 then P1.rdN l mxN else (0, er, l)

section
set_option maxRecDepth 100000
set_option maxHeartbeats 2000000

theorem number1_any (q P R : Nat) (l : List UInt8) (w : World) (hq : w.cell? ⟨q, 0, none⟩ = some (.pointer (some ⟨P, 0, none⟩))) (h : Pt w P R 0 l) (hl : l.length ≤ 1099511627776) :
    Calls Tryz.prog 46 #[.pointer (some ⟨q, 0, none⟩)] w fun e w' => e = .returned (.tuple #[.int .i64 (P1.rdN l mxN).1, .int .i64 (P1.rdN l mxN).2.1]) ∧ P1.Rd w' R (P1.rdN l mxN).2.2 ∧ P1.Stays R w w' := by
  have C := h.c
  have C_0 := C.c 0; have C_1 := C.c 1; simp only [List.getElem?_cons_zero, List.getElem?_cons_succ] at C_0 C_1
  have hN := P1.rnumber_any R l mxN w h.r hl
  clear C h
  go_enter Tryz.func46, Tryz.ntmps46
  go_wp2_with fail
  refine hN.mono ?_
  clear hN
  rintro e w' ⟨rfl, hr, hst⟩
  have HR := hide (And.intro hr hst)
  clear hr hst
  go_wp2
  go_ret2
  exact ⟨rfl, unhide HR⟩

theorem nextint_any (q P R : Nat) (er : Int) (l : List UInt8) (w : World) (hq : w.cell? ⟨q, 0, none⟩ = some (.pointer (some ⟨P, 0, none⟩))) (h : Pt w P R er l) (hl : l.length ≤ 1099511627776) :
    Calls Tryz.prog 45 #[.pointer (some ⟨P, 0, none⟩), .func (.func 46) #[] #[.pointer (some ⟨q, 0, none⟩)]] w fun e w' => e = .returned (.int .i64 (numP er l).1) ∧ Pt w' P R (numP er l).2.1 (numP er l).2.2 ∧ PtM P R w w' := by
  have C := h.c
  have C_0 := C.c 0; have C_1 := C.c 1; simp only [List.getElem?_cons_zero, List.getElem?_cons_succ] at C_0 C_1
  clear C
  by_cases h0 : er = 0
  · subst h0
    have hN := number1_any q P R l w hq h hl
    unfold numP
    rw [if_pos rfl]
    have H := hide h
    clear h
    go_enter Tryz.func45, Tryz.ntmps45
    go_wp2_with fail
    refine hN.mono ?_
    clear hN
    rintro e w' ⟨rfl, hr, hst⟩
    have hP : Pt w' P R 0 (P1.rdN l mxN).2.2 := ⟨(unhide H).c.stays (unhide H).ne hst, hr, (unhide H).ne⟩
    have HE := hide (And.intro (hP.err (P1.rdN l mxN).2.1) ((PtM.stays (P := P) hst).setCell (p := ⟨P, 1, none⟩) (.inl rfl) (.int .i64 (P1.rdN l mxN).2.1)))
    have C := hP.c
    clear C_0 C_1 hr hst hP
    have C_0 := C.c 0; have C_1 := C.c 1; simp only [List.getElem?_cons_zero, List.getElem?_cons_succ] at C_0 C_1
    have Cf := C.f
    clear C
    go_wp2
    go_ret
    exact ⟨rfl, unhide HE⟩
  · have e0 : (er == 0) = false := by simpa using h0
    unfold numP
    rw [if_neg h0]
    have H := hide h
    clear h
    go_enter Tryz.func45, Tryz.ntmps45
    go_wp2
    go_ret
    exact ⟨rfl, unhide H, PtM.of (Below.refl _ _)⟩

theorem pnumber_any (P R : Nat) (er : Int) (l : List UInt8) (w : World) (h : Pt w P R er l) (hl : l.length ≤ 1099511627776) :
    Calls Tryz.prog 14 #[.pointer (some ⟨P, 0, none⟩)] w fun e w' => e = .returned (.int .i64 (numP er l).1) ∧ Pt w' P R (numP er l).2.1 (numP er l).2.2 ∧ PtM P R w w' := by
  have hb : Below w.heap.size w (w.alloc (.cells #[.pointer (some ⟨P, 0, none⟩)] 52)) := (Below.refl _ _).alloc (Nat.le_refl _) _
  have B := Blk.new w #[.pointer (some ⟨P, 0, none⟩)] 52
  have B_0 := B.c 0; simp only [List.getElem?_cons_zero] at B_0
  have hN := nextint_any w.heap.size P R er l _ B_0 (h.later hb) hl
  have HB := hide (PtM.of (P := P) (R := R) hb)
  clear h B hb
  go_enter Tryz.func14, Tryz.ntmps14
  go_wp2_with fail
  refine hN.mono ?_
  clear hN
  rintro e w' ⟨rfl, hr, hst⟩
  have HR := hide (And.intro hr ((unhide HB).trans hst))
  clear hr hst
  go_wp2
  go_ret
  exact ⟨rfl, unhide HR⟩
end

end Go.Proofs.YtcdehnghggleoaaGreat

/-
  A store's parts: a text. No law is proved here.
-/
namespace Go.Proofs.YtcdehnghggleoaaGreat
open Go.RowKit
set_option linter.unusedVariables false

def txtP (er : Int) (l : List UInt8) (most : Int) : List UInt8 × Int × List UInt8 := if er = 0 then P1.rdT l most else ([], er, l)
theorem cell_stays {w w' : World} {R : Nat} {p : Addr} {v : Value} (h : w.cell? p = some v) (hn : p.block ≠ R) (hs : P1.Stays R w w') : w'.cell? p = some v := by
  rcases hs with rfl | ⟨x, rfl⟩
  · exact h
  · rw [World.cell?_setCell_other]
    · exact h
    · intro e
      exact hn (by rw [← e])

section
set_option maxRecDepth 100000
set_option maxHeartbeats 2000000

theorem text1_any (q q2 P R : Nat) (l : List UInt8) (most : Int) (w : World) (hq : w.cell? ⟨q, 0, none⟩ = some (.pointer (some ⟨P, 0, none⟩))) (hq2 : w.cell? ⟨q2, 0, none⟩ = some (.int .i64 most)) (n1 : q ≠ R) (n2 : q2 ≠ R) (h : Pt w P R 0 l) (hl : l.length ≤ 1099511627776) :
    Calls Tryz.prog 49 #[.pointer (some ⟨q, 0, none⟩), .pointer (some ⟨q2, 0, none⟩)] w fun e w' => e = .returned (.tuple #[.string ⟨(P1.rdT l most).1.toArray⟩, .int .i64 (P1.rdT l most).2.1]) ∧ P1.Rd w' R (P1.rdT l most).2.2 ∧ P1.Stays R w.drew w' := by
  have C := h.c
  have C_0 := C.c 0; simp only [List.getElem?_cons_zero] at C_0
  have hN := P1.rtext_any R l most w.drew (h.later (Below.refl _ _).drew).r hl
  have hne := h.ne
  clear C h
  go_enter Tryz.func49, Tryz.ntmps49
  go_upto_region 1 with fail
  refine wp_region_held_drew (S := fun y => y.cell? ⟨q, 0, none⟩ = some (.pointer (some ⟨P, 0, none⟩)) ∧ y.cell? ⟨P, 0, none⟩ = some (.pointer (some ⟨R, 0, none⟩)) ∧ y.cell? ⟨q2, 0, none⟩ = some (.int .i64 most)) (by kernel_rfl) ⟨hq, C_0, hq2⟩ (fun hSS => ?_)
  clear hq hq2 C_0
  generalize hwd : w.drew = wd at *
  refine held_take 0 4 rfl rfl (by kernel_rfl) (by kernel_rfl) (by kernel_rfl) (fun _ _ _ h => h) (by rfl) hSS (v := ?_) ?_ ?_
  rotate_left
  · intro y hSy
    obtain ⟨hy1, hy2, hy3⟩ := hSy
    go_simp
    with_reducible rfl
  simp only [Act.put, List.setIfInBounds_toArray, List.set_cons_zero, List.set_cons_succ]
  refine held_take 1 5 rfl rfl (by kernel_rfl) (by kernel_rfl) (by kernel_rfl) (fun _ _ _ h => h) (by rfl) hSS (v := ?_) ?_ ?_
  rotate_left
  · intro y hSy
    obtain ⟨hy1, hy2, hy3⟩ := hSy
    go_simp
    with_reducible rfl
  simp only [Act.put, List.setIfInBounds_toArray, List.set_cons_zero, List.set_cons_succ]
  refine held_take 2 6 rfl rfl (by kernel_rfl) (by kernel_rfl) (by kernel_rfl) (fun _ _ _ h => h) (by rfl) hSS (v := ?_) ?_ ?_
  rotate_left
  · intro y hSy
    obtain ⟨hy1, hy2, hy3⟩ := hSy
    go_simp
    with_reducible rfl
  simp only [Act.put, List.setIfInBounds_toArray, List.set_cons_zero, List.set_cons_succ]
  refine held_take 3 7 rfl rfl (by kernel_rfl) (by kernel_rfl) (by kernel_rfl) (fun _ _ _ h => h) (by rfl) hSS (v := ?_) ?_ ?_
  rotate_left
  · intro y hSy
    obtain ⟨hy1, hy2, hy3⟩ := hSy
    go_simp
    with_reducible rfl
  simp only [Act.put, List.setIfInBounds_toArray, List.set_cons_zero, List.set_cons_succ]
  refine held_take 4 8 rfl rfl (by kernel_rfl) (by kernel_rfl) (by kernel_rfl) (fun _ _ _ h => h) (by rfl) hSS (v := ?_) ?_ ?_
  rotate_left
  · intro y hSy
    obtain ⟨hy1, hy2, hy3⟩ := hSy
    go_simp
    with_reducible rfl
  simp only [Act.put, List.setIfInBounds_toArray, List.set_cons_zero, List.set_cons_succ]
  refine wpAnyH_ready (rs := [5]) (by kernel_rfl) (by simp) ?_
  refine AllReadyH.cons rfl (fun K hK => ?_) AllReadyH.nil
  go_wp2_with (go_at_call 50; refine hN.mono ?_; rintro e w' ⟨rfl, hr, hst⟩; have HZ := hide (And.intro hr hst); clear hr hst)
  clear hN
  obtain ⟨hr, hst⟩ := unhide HZ
  clear HZ
  replace hSS : w'.cell? ⟨q, 0, none⟩ = some (.pointer (some ⟨P, 0, none⟩)) ∧ w'.cell? ⟨P, 0, none⟩ = some (.pointer (some ⟨R, 0, none⟩)) ∧ w'.cell? ⟨q2, 0, none⟩ = some (.int .i64 most) := ⟨cell_stays hSS.1 n1 hst, cell_stays hSS.2.1 hne hst, cell_stays hSS.2.2 n2 hst⟩
  refine hK.out _ _ hSS (fun _ => ?_)
  clear hK K
  have HR := hide (And.intro hr hst)
  clear hr hst
  refine held_take 6 10 rfl rfl (by kernel_rfl) (by kernel_rfl) (by kernel_rfl) (fun _ _ _ h => h) (by rfl) hSS (v := ?_) ?_ ?_
  rotate_left
  · intro y hSy
    obtain ⟨hy1, hy2, hy3⟩ := hSy
    go_simp
    with_reducible rfl
  simp only [Act.put, List.setIfInBounds_toArray, List.set_cons_zero, List.set_cons_succ]
  refine held_take 7 11 rfl rfl (by kernel_rfl) (by kernel_rfl) (by kernel_rfl) (fun _ _ _ h => h) (by rfl) hSS (v := ?_) ?_ ?_
  rotate_left
  · intro y hSy
    obtain ⟨hy1, hy2, hy3⟩ := hSy
    go_simp
    with_reducible rfl
  simp only [Act.put, List.setIfInBounds_toArray, List.set_cons_zero, List.set_cons_succ]
  refine wpAnyH_ready (rs := [8]) (by kernel_rfl) (by simp) ?_
  refine AllReadyH.cons rfl (fun K hK => ?_) AllReadyH.nil
  go_simp
  refine hK.out _ _ hSS (fun _ => ?_)
  clear hK K
  refine wpAnyH_ready (rs := [9]) (by kernel_rfl) (by simp) ?_
  refine AllReadyH.cons rfl (fun K hK => ?_) AllReadyH.nil
  go_simp
  refine hK.out _ _ hSS (fun _ => ?_)
  clear hK K
  refine wpAnyH_done (by kernel_rfl) ?_ _
  go_wp2
  go_ret2
  exact ⟨rfl, by rw [hwd]; exact unhide HR⟩

theorem nextstr_any (q q2 : Nat) (most : Int) (P R : Nat) (er : Int) (l : List UInt8) (w : World) (hq : w.cell? ⟨q, 0, none⟩ = some (.pointer (some ⟨P, 0, none⟩))) (hq2 : w.cell? ⟨q2, 0, none⟩ = some (.int .i64 most)) (n1 : q ≠ R) (n2 : q2 ≠ R) (h : Pt w P R er l) (hl : l.length ≤ 1099511627776) :
    Calls Tryz.prog 48 #[.pointer (some ⟨P, 0, none⟩), .func (.func 49) #[] #[.pointer (some ⟨q, 0, none⟩), .pointer (some ⟨q2, 0, none⟩)]] w fun e w' => e = .returned (.string ⟨(txtP er l most).1.toArray⟩) ∧ Pt w' P R (txtP er l most).2.1 (txtP er l most).2.2 ∧ PtM P R w w' := by
  have C := h.c
  have C_0 := C.c 0; have C_1 := C.c 1; simp only [List.getElem?_cons_zero, List.getElem?_cons_succ] at C_0 C_1
  clear C
  by_cases h0 : er = 0
  · subst h0
    have hN := text1_any q q2 P R l most w hq hq2 n1 n2 h hl
    unfold txtP
    rw [if_pos rfl]
    have H := hide h
    clear h
    go_enter Tryz.func48, Tryz.ntmps48
    go_wp2_with fail
    refine hN.mono ?_
    clear hN
    rintro e w' ⟨rfl, hr, hst⟩
    have hP : Pt w' P R 0 _ := ⟨(unhide H).c.drew.stays (unhide H).ne hst, hr, (unhide H).ne⟩
    have HE := hide (And.intro (hP.err (P1.rdT l most).2.1) ((PtM.of (P := P) (R := R) (Below.refl _ w).drew).trans (PtM.stays (P := P) hst) |>.setCell (p := ⟨P, 1, none⟩) (.inl rfl) (.int .i64 (P1.rdT l most).2.1)))
    have C := hP.c
    clear C_0 C_1 hr hst hP
    have C_0 := C.c 0; have C_1 := C.c 1; simp only [List.getElem?_cons_zero, List.getElem?_cons_succ] at C_0 C_1
    have Cf := C.f
    clear C
    go_wp2
    go_ret
    exact ⟨rfl, unhide HE⟩
  · have e0 : (er == 0) = false := by simpa using h0
    unfold txtP
    rw [if_neg h0]
    have H := hide h
    clear h
    go_enter Tryz.func48, Tryz.ntmps48
    go_wp2
    go_ret
    exact ⟨rfl, unhide H, PtM.of (Below.refl _ _)⟩

def flgP (er : Int) (l : List UInt8) : Bool × Int × List UInt8 := if er = 0 then P1.rdF l else (false, er, l)

theorem nextbool_any (P R : Nat) (er : Int) (l : List UInt8) (w : World) (h : Pt w P R er l) (hl : l.length ≤ 1099511627776) :
    Calls Tryz.prog 85 #[.pointer (some ⟨P, 0, none⟩), .func (.func 86) #[.pointer (some ⟨R, 0, none⟩)] #[]] w fun e w' => e = .returned (.bool (flgP er l).1) ∧ Pt w' P R (flgP er l).2.1 (flgP er l).2.2 ∧ PtM P R w w' := by
  have C := h.c
  have C_0 := C.c 0; have C_1 := C.c 1; simp only [List.getElem?_cons_zero, List.getElem?_cons_succ] at C_0 C_1
  clear C
  by_cases h0 : er = 0
  · subst h0
    have hN := P1.rflag_any R l w h.r hl
    unfold flgP
    rw [if_pos rfl]
    have H := hide h
    clear h
    go_enter Tryz.func85, Tryz.ntmps85
    go_wp2_with fail
    refine hN.mono ?_
    clear hN
    rintro e w' ⟨rfl, hr, hst⟩
    have hP : Pt w' P R 0 _ := ⟨(unhide H).c.stays (unhide H).ne hst, hr, (unhide H).ne⟩
    have HE := hide (And.intro (hP.err (P1.rdF l).2.1) (PtM.stays (P := P) hst |>.setCell (p := ⟨P, 1, none⟩) (.inl rfl) (.int .i64 (P1.rdF l).2.1)))
    have C := hP.c
    clear C_0 C_1 hr hst hP
    have C_0 := C.c 0; have C_1 := C.c 1; simp only [List.getElem?_cons_zero, List.getElem?_cons_succ] at C_0 C_1
    have Cf := C.f
    clear C
    go_wp2
    go_ret
    exact ⟨rfl, unhide HE⟩
  · have e0 : (er == 0) = false := by simpa using h0
    unfold flgP
    rw [if_neg h0]
    have H := hide h
    clear h
    go_enter Tryz.func85, Tryz.ntmps85
    go_wp2
    go_ret
    exact ⟨rfl, unhide H, PtM.of (Below.refl _ _)⟩

theorem ptext_any (P R : Nat) (er : Int) (l : List UInt8) (most : Int) (w : World) (h : Pt w P R er l) (hl : l.length ≤ 1099511627776) :
    Calls Tryz.prog 15 #[.pointer (some ⟨P, 0, none⟩), .int .i64 most] w fun e w' => e = .returned (.string ⟨(txtP er l most).1.toArray⟩) ∧ Pt w' P R (txtP er l most).2.1 (txtP er l most).2.2 ∧ PtM P R w w' := by
  have hb : Below w.heap.size w ((w.alloc (.cells #[.pointer (some ⟨P, 0, none⟩)] 52)).alloc (.cells #[.int .i64 most] 3)) := ((Below.refl _ _).alloc (Nat.le_refl _) _).alloc (by simp) _
  have B := (Blk.new w #[.pointer (some ⟨P, 0, none⟩)] 52).alloc (.cells #[.int .i64 most] 3)
  have D := Blk.new (w.alloc (.cells #[.pointer (some ⟨P, 0, none⟩)] 52)) #[.int .i64 most] 3
  rw [show (w.alloc (.cells #[.pointer (some ⟨P, 0, none⟩)] 52)).heap.size = w.heap.size + 1 by simp] at D
  have B_0 := B.c 0; simp only [List.getElem?_cons_zero] at B_0
  have D_0 := D.c 0; simp only [List.getElem?_cons_zero] at D_0
  have hR := h.r.lt
  have hN := nextstr_any w.heap.size (w.heap.size + 1) most P R er l _ B_0 D_0 (by omega) (by omega) (h.later hb) hl
  have HB := hide (PtM.of (P := P) (R := R) hb)
  clear h B D hb hR
  go_enter Tryz.func15, Tryz.ntmps15
  go_wp2_with fail
  refine hN.mono ?_
  clear hN
  rintro e w' ⟨rfl, hr, hst⟩
  have HR := hide (And.intro hr ((unhide HB).trans hst))
  clear hr hst
  go_wp2
  go_ret
  exact ⟨rfl, unhide HR⟩

theorem pflag_any (P R : Nat) (er : Int) (l : List UInt8) (w : World) (h : Pt w P R er l) (hl : l.length ≤ 1099511627776) :
    Calls Tryz.prog 52 #[.pointer (some ⟨P, 0, none⟩)] w fun e w' => e = .returned (.bool (flgP er l).1) ∧ Pt w' P R (flgP er l).2.1 (flgP er l).2.2 ∧ PtM P R w w' := by
  have C := h.c
  have C_0 := C.c 0; have C_1 := C.c 1; simp only [List.getElem?_cons_zero, List.getElem?_cons_succ] at C_0 C_1
  have hN := nextbool_any P R er l w h hl
  clear h C
  go_enter Tryz.func52, Tryz.ntmps52
  go_wp2_with fail
  refine hN.mono ?_
  clear hN
  rintro e w' ⟨rfl, hr, hst⟩
  have HR := hide (And.intro hr hst)
  clear hr hst
  go_wp2
  go_ret
  exact ⟨rfl, unhide HR⟩

theorem pmust_any (P R : Nat) (er : Int) (l : List UInt8) (b : Bool) (w : World) (h : Pt w P R er l) :
    Calls Tryz.prog 17 #[.pointer (some ⟨P, 0, none⟩), .bool b] w fun e w' => e = .returned (.tuple #[]) ∧ Pt w' P R (if b = true then er else 11) l ∧ PtM P R w w' := by
  have C := h.c
  have C_0 := C.c 0; have C_1 := C.c 1; simp only [List.getElem?_cons_zero, List.getElem?_cons_succ] at C_0 C_1
  have Cf := C.f
  cases b
  · have HR := hide (And.intro (h.err 11) ((PtM.of (P := P) (R := R) (Below.refl _ w)).setCell (p := ⟨P, 1, none⟩) (.inl rfl) (.int .i64 11)))
    clear h C
    go_enter Tryz.func17, Tryz.ntmps17
    go_wp2
    go_end0
    exact ⟨rfl, unhide HR⟩
  · have HR := hide h
    clear h C
    go_enter Tryz.func17, Tryz.ntmps17
    go_wp2
    go_end0
    exact ⟨rfl, unhide HR, PtM.of (Below.refl _ _)⟩
end

end Go.Proofs.YtcdehnghggleoaaGreat

/-
  A store's parts: a stamp. No law is proved here.
-/
namespace Go.Proofs.YtcdehnghggleoaaGreat
open Go.RowKit
set_option linter.unusedVariables false

theorem Blk.moved {w w' : World} {B R : Nat} {cs : List Value} (h : Blk w B cs) (hn : B ≠ R) (hm : P1.Moved R w w') : Blk w' B cs := by
  have e := hm.block B h.lt hn
  exact ⟨fun j => (World.cell?_of_block (a := ⟨B, j, none⟩) e).trans (h.c j), fun j => (World.frozen?_of_block (a := ⟨B, j, none⟩) e).trans (h.f j), Nat.lt_of_lt_of_le h.lt hm.size⟩
theorem PtM.moved {P R : Nat} {w w' : World} (h : P1.Moved R w w') : PtM P R w w' := ⟨h.os, h.tape, h.output, h.size, fun k hk _ n => h.block k hk n⟩
theorem PtM.newAll {P R B : Nat} {a : World} (hB : a.heap.size ≤ B) : ∀ (cs : List Value) {b : World} (k : Nat), PtM P R a b → PtM P R a (setAll b B k cs)
  | [], _, _, h => h
  | c :: r, b, k, h => by
    rw [setAll]
    exact PtM.newAll hB r (k + 1) ⟨h.os, h.tape, h.output, by simpa [World.setCell] using h.size, fun i hi n1 n2 => (Below.heap_setCell _ _ _ _ (by show i ≠ B; omega)).trans (h.blk i hi n1 n2)⟩
theorem rd_all2 {w : World} {R B : Nat} {l : List UInt8} {a b : Int} (h : P1.Rd w R l) (hb : Blk w B [.int .i64 a, .int .i64 b]) (c d : Int) : P1.Rd (setAll w B 0 [.int .i64 c, .int .i64 d]) R l := by
  have h0 := hb.c 0
  simp only [List.getElem?_cons_zero] at h0
  have h1 := (hb.set 0 (by simp) (.int .i64 c)).c 1
  simp only [List.set_cons_zero, List.getElem?_cons_zero, List.getElem?_cons_succ] at h1
  exact (h.setInt h0 _).setInt h1 _

section
set_option maxRecDepth 100000
set_option maxHeartbeats 2000000

theorem stamp1_any (q P R : Nat) (l : List UInt8) (w : World) (hq : w.cell? ⟨q, 0, none⟩ = some (.pointer (some ⟨P, 0, none⟩))) (h : Pt w P R 0 l) (hl : l.length ≤ 1099511627776) :
    Calls Tryz.prog 109 #[.pointer (some ⟨q, 0, none⟩)] w fun e w' => e = .returned (.tuple #[.agg #[.int .i64 (P1.rdS l).1, .int .i64 (P1.rdS l).2.1], .int .i64 (P1.rdS l).2.2.1]) ∧ Pt w' P R 0 (P1.rdS l).2.2.2 ∧ PtM P R w w' := by
  have Q := Blk.new w #[.int .i64 0, .int .i64 0] 36
  have hB : Below w.heap.size w (w.alloc (.cells #[.int .i64 0, .int .i64 0] 36)) := (Below.refl w.heap.size w).alloc (Nat.le_refl _) _
  have hP := h.later hB
  have C := hP.c
  have hq1 := (hB.cell (World.block_lt_of_cell? _ _ hq)).trans hq
  have hRq : w.heap.size ≠ R := Nat.ne_of_gt h.r.lt
  have hPq : P ≠ w.heap.size := Nat.ne_of_lt h.c.lt
  have C_0 := C.c 0; simp only [List.getElem?_cons_zero] at C_0
  have hN := P1.get_any R l _ hP.r hl
  have HB := hide (PtM.of (P := P) (R := R) hB)
  have HP := hide hP
  clear h C hB hq hP
  go_enter Tryz.func109, Tryz.ntmps109
  go_wp2_with fail
  generalize w.alloc _ = W at *
  refine hN.mono ?_
  clear hN
  rintro e w' ⟨rfl, hr, hst⟩
  have Q' := Q.moved hRq hst
  have C' := (unhide HP).c.moved (unhide HP).ne hst
  have hm := (unhide HB).trans (PtM.moved (P := P) hst)
  have hne := (unhide HP).ne
  have HR := hide (And.intro hr (And.intro C' (And.intro hm hne)))
  clear C_0 hr hst C' hm hne Q
  have Q_0 := Q'.c 0; have Q_1 := Q'.c 1; simp only [List.getElem?_cons_zero, List.getElem?_cons_succ] at Q_0 Q_1
  have Qf := Q'.f
  have HQ := hide Q'
  clear Q'
  go_wp2
  obtain ⟨hr, C', hm, hne⟩ := unhide HR
  have Q' := unhide HQ
  have QA := Q'.all [.int .i64 (P1.rdS l).1, .int .i64 (P1.rdS l).2.1] rfl
  have q0 := QA.c 0
  have q1 := QA.c 1
  simp only [List.getElem?_cons_zero, List.getElem?_cons_succ] at q0 q1
  refine bodyPost_ret (results_stp2 Tryz.results109 rfl rfl q0 q1) rfl ?_
  exact ⟨rfl, ⟨Blk.others hPq [.int .i64 (P1.rdS l).1, .int .i64 (P1.rdS l).2.1] 0 C', rd_all2 hr Q' _ _, hne⟩, hm.newAll (Nat.le_refl _) [.int .i64 (P1.rdS l).1, .int .i64 (P1.rdS l).2.1] 0⟩
theorem Blk.ptm {w w' : World} {B P R : Nat} {cs : List Value} (h : Blk w B cs) (n1 : B ≠ P) (n2 : B ≠ R) (hm : PtM P R w w') : Blk w' B cs := by
  have e := hm.blk B h.lt n1 n2
  exact ⟨fun j => (World.cell?_of_block (a := ⟨B, j, none⟩) e).trans (h.c j), fun j => (World.frozen?_of_block (a := ⟨B, j, none⟩) e).trans (h.f j), Nat.lt_of_lt_of_le h.lt hm.size⟩

def stpP (er : Int) (l : List UInt8) : Nat × Nat × Int × List UInt8 := if er = 0 then P1.rdS l else (0, 0, er, l)

theorem nextstp_any (q P R : Nat) (er : Int) (l : List UInt8) (w : World) (hq : w.cell? ⟨q, 0, none⟩ = some (.pointer (some ⟨P, 0, none⟩))) (h : Pt w P R er l) (hl : l.length ≤ 1099511627776) :
    Calls Tryz.prog 108 #[.pointer (some ⟨P, 0, none⟩), .func (.func 109) #[] #[.pointer (some ⟨q, 0, none⟩)]] w fun e w' => e = .returned (.agg #[.int .i64 (stpP er l).1, .int .i64 (stpP er l).2.1]) ∧ Pt w' P R (stpP er l).2.2.1 (stpP er l).2.2.2 ∧ PtM P R w w' := by
  have Q := (Blk.new w #[.int .i64 0, .int .i64 0] 36).alloc (.cells #[.int .i64 0, .int .i64 0] 36)
  have T := Blk.new (w.alloc (.cells #[.int .i64 0, .int .i64 0] 36)) #[.int .i64 0, .int .i64 0] 36
  rw [show (w.alloc (.cells #[.int .i64 0, .int .i64 0] 36)).heap.size = w.heap.size + 1 by simp] at T
  have hB : Below w.heap.size w ((w.alloc (.cells #[.int .i64 0, .int .i64 0] 36)).alloc (.cells #[.int .i64 0, .int .i64 0] 36)) := ((Below.refl w.heap.size w).alloc (Nat.le_refl _) _).alloc (by simp) _
  have hP := h.later hB
  have C := hP.c
  have hq1 := (hB.cell (World.block_lt_of_cell? _ _ hq)).trans hq
  have g1 := h.r.lt
  have g2 := h.c.lt
  have HB := hide (PtM.of (P := P) (R := R) hB)
  have HP := hide hP
  have C_0 := C.c 0; have C_1 := C.c 1; simp only [List.getElem?_cons_zero, List.getElem?_cons_succ] at C_0 C_1
  clear C hB hq h
  by_cases h0 : er = 0
  · subst h0
    have hN := stamp1_any q P R l _ hq1 hP hl
    unfold stpP
    rw [if_pos rfl]
    clear hP
    go_enter Tryz.func108, Tryz.ntmps108
    go_wp2_with fail
    generalize (w.alloc _).alloc _ = W at *
    refine hN.mono ?_
    clear hN
    rintro e w' ⟨rfl, hr, hst⟩
    have Q' := Q.ptm (by omega) (by omega) hst
    have T' := T.ptm (by omega) (by omega) hst
    have hE := hr.err (P1.rdS l).2.2.1
    have hm := (unhide HB).trans hst
    have C' := hr.c
    clear C_0 C_1 hst Q T
    have C_0 := C'.c 0; have C_1 := C'.c 1; simp only [List.getElem?_cons_zero, List.getElem?_cons_succ] at C_0 C_1
    have T_0 := T'.c 0; have T_1 := T'.c 1; simp only [List.getElem?_cons_zero, List.getElem?_cons_succ] at T_0 T_1
    have Q_0 := Q'.c 0; have Q_1 := Q'.c 1; simp only [List.getElem?_cons_zero, List.getElem?_cons_succ] at Q_0 Q_1
    have f1 := C'.f
    have f2 := T'.f
    have f3 := Q'.f
    have HR := hide (And.intro hr (And.intro hm (And.intro Q' T')))
    clear hr hm Q' T' hE C'
    go_wp2
    obtain ⟨hr, hm, Q', T'⟩ := unhide HR
    have k1 : P ≠ w.heap.size + 1 := by omega
    have k2 : P ≠ w.heap.size := by omega
    have h1 : Pt (setAll w' (w.heap.size + 1) 0 [.int .i64 (P1.rdS l).1, .int .i64 (P1.rdS l).2.1]) P R 0 (P1.rdS l).2.2.2 := ⟨Blk.others k1 _ 0 hr.c, rd_all2 hr.r T' _ _, hr.ne⟩
    have h2 := h1.err (P1.rdS l).2.2.1
    have Q1 := Blk.others (C := w.heap.size + 1) (by omega) [.int .i64 (P1.rdS l).1, .int .i64 (P1.rdS l).2.1] 0 Q'
    have Q2 := Q1.other (q := ⟨P, 1, none⟩) k2 (.int .i64 (P1.rdS l).2.2.1)
    have QA := Q2.all [.int .i64 (P1.rdS l).1, .int .i64 (P1.rdS l).2.1] rfl
    have q0 := QA.c 0
    have q1 := QA.c 1
    simp only [List.getElem?_cons_zero, List.getElem?_cons_succ] at q0 q1
    refine bodyPost_ret (results_stp Tryz.results108 rfl q0 q1) rfl ?_
    exact ⟨rfl, ⟨Blk.others k2 [.int .i64 (P1.rdS l).1, .int .i64 (P1.rdS l).2.1] 0 h2.c, rd_all2 h2.r Q2 _ _, hr.ne⟩, ((hm.newAll (Nat.le_succ _) [.int .i64 (P1.rdS l).1, .int .i64 (P1.rdS l).2.1] 0).setCell (p := ⟨P, 1, none⟩) (.inl rfl) (.int .i64 (P1.rdS l).2.2.1)).newAll (Nat.le_refl _) [.int .i64 (P1.rdS l).1, .int .i64 (P1.rdS l).2.1] 0⟩
  · have e0 : (er == 0) = false := by simpa using h0
    unfold stpP
    rw [if_neg h0]
    have Q_0 := Q.c 0; have Q_1 := Q.c 1; simp only [List.getElem?_cons_zero, List.getElem?_cons_succ] at Q_0 Q_1
    have T_0 := T.c 0; have T_1 := T.c 1; simp only [List.getElem?_cons_zero, List.getElem?_cons_succ] at T_0 T_1
    have HQ := hide (And.intro Q T)
    clear hP Q T
    go_enter Tryz.func108, Tryz.ntmps108
    go_wp2
    refine bodyPost_ret (results_stp Tryz.results108 rfl Q_0 Q_1) rfl ?_
    exact ⟨rfl, unhide HP, unhide HB⟩

theorem pstamp_any (P R : Nat) (er : Int) (l : List UInt8) (w : World) (h : Pt w P R er l) (hl : l.length ≤ 1099511627776) :
    Calls Tryz.prog 83 #[.pointer (some ⟨P, 0, none⟩)] w fun e w' => e = .returned (.agg #[.int .i64 (stpP er l).1, .int .i64 (stpP er l).2.1]) ∧ Pt w' P R (stpP er l).2.2.1 (stpP er l).2.2.2 ∧ PtM P R w w' := by
  have hB : Below w.heap.size w ((w.alloc (.cells #[.pointer (some ⟨P, 0, none⟩)] 52)).alloc (.cells #[.int .i64 0, .int .i64 0] 36)) := ((Below.refl _ _).alloc (Nat.le_refl _) _).alloc (by simp) _
  have B := (Blk.new w #[.pointer (some ⟨P, 0, none⟩)] 52).alloc (.cells #[.int .i64 0, .int .i64 0] 36)
  have D := Blk.new (w.alloc (.cells #[.pointer (some ⟨P, 0, none⟩)] 52)) #[.int .i64 0, .int .i64 0] 36
  rw [show (w.alloc (.cells #[.pointer (some ⟨P, 0, none⟩)] 52)).heap.size = w.heap.size + 1 by simp] at D
  have B_0 := B.c 0; simp only [List.getElem?_cons_zero] at B_0
  have g1 := h.r.lt
  have g2 := h.c.lt
  have hN := nextstp_any w.heap.size P R er l _ B_0 (h.later hB) hl
  have HB := hide (PtM.of (P := P) (R := R) hB)
  generalize stpP er l = z at *
  clear h B hB
  go_enter Tryz.func83, Tryz.ntmps83
  go_wp2_with fail
  generalize (w.alloc _).alloc _ = W at *
  refine hN.mono ?_
  clear hN
  rintro e w' ⟨rfl, hr, hst⟩
  have D' := D.ptm (by omega) (by omega) hst
  have HR := hide (And.intro hr (And.intro ((unhide HB).trans hst) D'))
  clear hr hst D
  have D_0 := D'.c 0; have D_1 := D'.c 1; simp only [List.getElem?_cons_zero, List.getElem?_cons_succ] at D_0 D_1
  have Df := D'.f
  clear D'
  go_wp2
  obtain ⟨hr, hm, D'⟩ := unhide HR
  have k1 : P ≠ w.heap.size + 1 := by omega
  have QA := D'.all [.int .i64 z.1, .int .i64 z.2.1] rfl
  have q0 := QA.c 0
  have q1 := QA.c 1
  simp only [List.getElem?_cons_zero, List.getElem?_cons_succ] at q0 q1
  refine bodyPost_ret (results_stp Tryz.results83 rfl q0 q1) rfl ?_
  exact ⟨rfl, ⟨Blk.others k1 [.int .i64 z.1, .int .i64 z.2.1] 0 hr.c, rd_all2 hr.r D' _ _, hr.ne⟩, hm.newAll (Nat.le_succ _) [.int .i64 z.1, .int .i64 z.2.1] 0⟩
end

end Go.Proofs.YtcdehnghggleoaaGreat

/-
  A store's parts: a value. No law is proved here.
-/
namespace Go.Proofs.YtcdehnghggleoaaGreat
open Go.RowKit
set_option linter.unusedVariables false

theorem rdT_len (l : List UInt8) (most : Int) : (P1.rdT l most).2.2.length ≤ l.length := by
  rcases P1.rdT_one l most with ⟨_, h, _⟩ | ⟨_, h, _⟩
  · rw [h]; exact Nat.le_refl _
  · conv => rhs; rw [h]
    rw [List.length_append]; omega
theorem rdF_len (l : List UInt8) : (P1.rdF l).2.2.length ≤ l.length := by
  rcases P1.rdF_one l with ⟨_, h, _⟩ | ⟨_, h⟩
  · rw [h]; exact Nat.le_refl _
  · conv => rhs; rw [h]
    rw [List.length_append]; omega
theorem rdN_len (l : List UInt8) (most : Int) : (P1.rdN l most).2.2.length ≤ l.length := by
  rcases P1.rdN_one l most with ⟨_, h, _⟩ | ⟨_, h, _⟩
  · rw [h]; exact Nat.le_refl _
  · conv => rhs; rw [h]
    rw [List.length_append]; omega
theorem rdS_len (l : List UInt8) : (P1.rdS l).2.2.2.length ≤ l.length := by
  rcases rdS_one l with e | ⟨x, y, r, e, h, _⟩
  · rw [e]; exact Nat.le_refl _
  · rw [e]
    conv => rhs; rw [h]
    rw [List.length_append]; simp
theorem txtP_len (er : Int) (l : List UInt8) (most : Int) : (txtP er l most).2.2.length ≤ l.length := by
  unfold txtP; split
  · exact rdT_len l most
  · exact Nat.le_refl _
theorem flgP_len (er : Int) (l : List UInt8) : (flgP er l).2.2.length ≤ l.length := by
  unfold flgP; split
  · exact rdF_len l
  · exact Nat.le_refl _
theorem numP_len (er : Int) (l : List UInt8) : (numP er l).2.2.length ≤ l.length := by
  unfold numP; split
  · exact rdN_len l mxN
  · exact Nat.le_refl _
theorem stpP_len (er : Int) (l : List UInt8) : (stpP er l).2.2.2.length ≤ l.length := by
  unfold stpP; split
  · exact rdS_len l
  · exact Nat.le_refl _

/-- A value, whether it is gone, the error, what is left. -/
def valP (er : Int) (l : List UInt8) : ByteArray × Bool × Int × List UInt8 :=
  (⟨(txtP er l 16).1.toArray⟩, (flgP (txtP er l 16).2.1 (txtP er l 16).2.2).1,
   if valB ⟨(txtP er l 16).1.toArray⟩ (flgP (txtP er l 16).2.1 (txtP er l 16).2.2).1 = true then (flgP (txtP er l 16).2.1 (txtP er l 16).2.2).2.1 else 11,
   (flgP (txtP er l 16).2.1 (txtP er l 16).2.2).2.2)

section
set_option maxRecDepth 100000
set_option maxHeartbeats 2000000

theorem pvalue_any (P R : Nat) (er : Int) (l : List UInt8) (w : World) (h : Pt w P R er l) (hl : l.length ≤ 1099511627776) :
    Calls Tryz.prog 84 #[.pointer (some ⟨P, 0, none⟩)] w fun e w' => e = .returned (.tuple #[.string (valP er l).1, .bool (valP er l).2.1]) ∧ Pt w' P R (valP er l).2.2.1 (valP er l).2.2.2 ∧ PtM P R w w' := by
  have hT := ptext_any P R er l 16 w h hl
  have hlt := txtP_len er l 16
  have hF := fun w' (h : Pt w' P R (txtP er l 16).2.1 (txtP er l 16).2.2) => pflag_any P R _ _ w' h (by omega)
  unfold valP
  generalize txtP er l 16 = t at *
  obtain ⟨t1, t2, t3⟩ := t
  simp only at hT hF ⊢
  generalize flgP t2 t3 = f at *
  obtain ⟨f1, f2, f3⟩ := f
  simp only at hF ⊢
  have hV := fun w' => value_any ⟨t1.toArray⟩ f1 w'
  have hM := fun w' (h : Pt w' P R f2 f3) => pmust_any P R f2 f3 (valB ⟨t1.toArray⟩ f1) w' h
  generalize valB ⟨t1.toArray⟩ f1 = b at *
  generalize (if b = true then f2 else 11) = er2 at *
  clear h hlt
  go_enter Tryz.func84, Tryz.ntmps84
  go_wp2_with fail
  refine hT.mono ?_
  clear hT
  rintro e w1 ⟨rfl, h1, m1⟩
  have h2 := hF w1 h1
  clear hF h1
  have M1 := hide m1
  clear m1
  go_wp2_with fail
  refine h2.mono ?_
  clear h2
  rintro e w2 ⟨rfl, h2, m2⟩
  replace M1 := hide ((unhide M1).trans m2)
  have H2 := hide h2
  clear h2 m2
  go_wp2_with fail
  refine (hV w2).mono ?_
  clear hV
  rintro e w3 ⟨rfl, rfl⟩
  have h3 := hM _ (unhide H2)
  clear hM H2
  go_wp2_with fail
  refine h3.mono ?_
  clear h3
  rintro e w4 ⟨rfl, h4, m4⟩
  have HR := hide (And.intro h4 ((unhide M1).trans m4))
  clear h4 m4 M1
  go_wp2
  go_ret2
  exact ⟨rfl, unhide HR⟩
end

end Go.Proofs.YtcdehnghggleoaaGreat

/-
  A store's parts: a version. No law is proved here.
-/
namespace Go.Proofs.YtcdehnghggleoaaGreat
open Go.RowKit
set_option linter.unusedVariables false

theorem sl_setNo {w : World} {v : Value} {l : List UInt8} (h : P1.Sl w v l) {p : Addr} {y : Value} (hp : w.cell? p = some y) (hy : ∀ n, y ≠ .int .u8 n) (x : Value) : P1.Sl (w.setCell p x) v l := by
  obtain ⟨bo, d, rfl, h1, h2, h3, h4⟩ := h
  refine ⟨bo, d, rfl, h1, h2, h3, fun a ha j u hu => ?_⟩
  have hc := h4 a ha j u hu
  rw [World.cell?_setCell_other]
  · exact hc
  · intro e
    rw [e, hc] at hp
    rw [P1.bc_get] at hu
    cases hl : l[j]? with
    | none => rw [hl] at hu; cases hu
    | some b => rw [hl] at hu; cases hu; cases hp; exact hy _ rfl
theorem Pt.other {w : World} {P R : Nat} {er : Int} {l : List UInt8} (h : Pt w P R er l) {q : Addr} {y : Value} (hq : w.cell? q = some y) (hy : ∀ n, y ≠ .int .u8 n) (n1 : q.block ≠ P) (n2 : q.block ≠ R) (x : Value) : Pt (w.setCell q x) P R er l := by
  obtain ⟨ao, n, c, h1, h2, h3, h4⟩ := h.r
  refine ⟨h.c.other n1 x, ⟨ao, n, c, ?_, by simpa using h2, sl_setNo h3 hq hy x, h4.setCell _ _⟩, h.ne⟩
  rw [World.cell?_setCell_other]
  · exact h1
  · intro e
    exact n2 (by rw [e])
/-- Whatever is laid into a block that bears no bytes. -/
theorem Pt.others {P R : Nat} {er : Int} {l : List UInt8} {B : Nat} (n1 : B ≠ P) (n2 : B ≠ R) : ∀ (vs : List Value) {w : World} {cs : List Value} (k : Nat), Pt w P R er l → Blk w B cs → k + vs.length ≤ cs.length → (∀ y ∈ cs, ∀ n, y ≠ .int .u8 n) → (∀ y ∈ vs, ∀ n, y ≠ .int .u8 n) → Pt (setAll w B k vs) P R er l
  | [], _, _, _, h, _, _, _, _ => h
  | v :: r, w, cs, k, h, hb, hk, hc, hv => by
    have hk0 : k < cs.length := by simp at hk; omega
    have hq : w.cell? ⟨B, k, none⟩ = some cs[k] := by rw [hb.c k, List.getElem?_eq_getElem hk0]
    rw [setAll]
    refine Pt.others n1 n2 r (k + 1) (h.other hq (hc _ (List.getElem_mem hk0)) n1 n2 v) (hb.set k hk0 v) (by simp at hk ⊢; omega) (fun y hy => ?_) (fun y hy => hv y (List.mem_cons_of_mem _ hy))
    rcases List.mem_or_eq_of_mem_set hy with q | q
    · exact hc y q
    · rw [q]; exact hv v (by simp)

/-- A version, the error, what is left. -/
def verP (er : Int) (l : List UInt8) : Ver × Int × List UInt8 :=
  (⟨((stpP er l).1, (stpP er l).2.1), (valP (stpP er l).2.2.1 (stpP er l).2.2.2).1, (valP (stpP er l).2.2.1 (stpP er l).2.2.2).2.1, ((numP (valP (stpP er l).2.2.1 (stpP er l).2.2.2).2.2.1 (valP (stpP er l).2.2.1 (stpP er l).2.2.2).2.2.2).1 : Int)⟩,
   (numP (valP (stpP er l).2.2.1 (stpP er l).2.2.2).2.2.1 (valP (stpP er l).2.2.1 (stpP er l).2.2.2).2.2.2).2)
theorem valP_len (er : Int) (l : List UInt8) : (valP er l).2.2.2.length ≤ l.length := by
  unfold valP
  exact Nat.le_trans (flgP_len _ _) (txtP_len er l 16)

section
set_option maxRecDepth 100000
set_option maxHeartbeats 4000000

theorem pversion_any (P R : Nat) (er : Int) (l : List UInt8) (w : World) (h : Pt w P R er l) (hl : l.length ≤ 1099511627776) :
    Calls Tryz.prog 51 #[.pointer (some ⟨P, 0, none⟩)] w fun e w' => ∃ v, v = (verP er l).1 ∧ e = .returned (.agg #[.int .i64 v.at_.1, .int .i64 v.at_.2, .string v.val, .bool v.gone, .int .i64 v.by_]) ∧ Pt w' P R (verP er l).2.1 (verP er l).2.2 ∧ PtM P R w w' := by
  have hS := fun w' (h : Pt w' P R er l) => pstamp_any P R er l w' h hl
  have l1 := stpP_len er l
  unfold verP
  generalize stpP er l = s at *
  obtain ⟨s1, s2, s3, s4⟩ := s
  simp only at hS l1 ⊢
  have hV := fun w' (h : Pt w' P R s3 s4) => pvalue_any P R s3 s4 w' h (by omega)
  have l2 := valP_len s3 s4
  generalize valP s3 s4 = v at *
  obtain ⟨v1, v2, v3, v4⟩ := v
  simp only at hV l2 ⊢
  have hNm := fun w' (h : Pt w' P R v3 v4) => pnumber_any P R v3 v4 w' h (by omega)
  generalize numP v3 v4 = n at *
  obtain ⟨n1, n2, n3⟩ := n
  simp only at hNm ⊢
  clear l1 l2
  have g1 := h.r.lt
  have g2 := h.c.lt
  have A := Blk.new w #[.int .i64 0, .int .i64 0, .string ⟨#[]⟩, .bool false, .int .i64 0] 97
  have hB : Below w.heap.size w (w.alloc (.cells #[.int .i64 0, .int .i64 0, .string ⟨#[]⟩, .bool false, .int .i64 0] 97)) := (Below.refl w.heap.size w).alloc (Nat.le_refl _) _
  have h0 := h.later hB
  have M := hide (PtM.of (P := P) (R := R) hB)
  have gW := hB.size
  clear h hB
  go_enter Tryz.func51, Tryz.ntmps51
  go_wp2_with fail
  generalize w.alloc _ = W at *
  refine (hS W h0).mono ?_
  clear hS h0
  rintro e w1 ⟨rfl, h1, m1⟩
  replace A := A.ptm (by omega) (by omega) m1
  have gk := A.lt
  replace M := hide ((unhide M).trans m1)
  have gW1 := m1.size
  clear m1
  have V := Blk.new w1 #[.int .i64 s1, .int .i64 s2, .string ⟨#[]⟩, .bool false, .int .i64 0] 97
  have hB : Below w1.heap.size w1 (w1.alloc (.cells #[.int .i64 s1, .int .i64 s2, .string ⟨#[]⟩, .bool false, .int .i64 0] 97)) := (Below.refl w1.heap.size w1).alloc (Nat.le_refl _) _
  have h2 := h1.later hB
  replace A := A.later hB
  replace M := hide ((unhide M).trans (PtM.of hB))
  clear h1 hB
  go_wp2_with fail
  generalize w1.alloc _ = w2 at *
  refine (hV w2 h2).mono ?_
  clear hV h2
  rintro e w3 ⟨rfl, h3, m3⟩
  replace A := A.ptm (by omega) (by omega) m3
  replace V := V.ptm (by omega) (by omega) m3
  replace M := hide ((unhide M).trans m3)
  clear m3
  have V_0 := V.c 0; have V_1 := V.c 1; have V_2 := V.c 2; have V_3 := V.c 3; have V_4 := V.c 4; simp only [List.getElem?_cons_zero, List.getElem?_cons_succ] at V_0 V_1 V_2 V_3 V_4
  have Vf := V.f
  have HH := hide (And.intro h3 (And.intro A V))
  clear h3 A V
  go_wp2_with fail
  obtain ⟨h3, A, V⟩ := unhide HH
  have k1 : w1.heap.size ≠ P := by omega
  have k2 : w1.heap.size ≠ R := by omega
  have k3 : w.heap.size ≠ w1.heap.size := Nat.ne_of_lt gk
  have h4 := Pt.others k1 k2 [.string v1, .bool v2] 2 h3 V (by simp) (by simp) (by simp)
  have V4 := (V.set 2 (by simp) (.string v1)).set 3 (by simp) (.bool v2)
  have A4 := Blk.others k3 [.string v1, .bool v2] 2 A
  replace M := hide (PtM.newAll (B := w1.heap.size) (Nat.le_of_lt gk) [.string v1, .bool v2] 2 (unhide M))
  simp only [List.set_cons_zero, List.set_cons_succ] at V4
  have V4' : Blk (setAll w3 w1.heap.size 2 [.string v1, .bool v2]) w1.heap.size [.int .i64 s1, .int .i64 s2, .string v1, .bool v2, .int .i64 0] := V4
  clear V4 HH V_0 V_1 V_2 V_3 V_4 Vf V A h3
  change Calls _ _ _ (setAll w3 w1.heap.size 2 [.string v1, .bool v2]) _
  generalize setAll w3 w1.heap.size 2 [.string v1, .bool v2] = w4 at *
  refine (hNm w4 h4).mono ?_
  clear hNm h4
  rintro e w5 ⟨rfl, h5, m5⟩
  have A5 := A4.ptm (by omega) (by omega) m5
  have V5 := V4'.ptm k1 k2 m5
  replace M := hide ((unhide M).trans m5)
  clear A4 V4' m5
  have A5_0 := A5.c 0; have A5_1 := A5.c 1; have A5_2 := A5.c 2; have A5_3 := A5.c 3; have A5_4 := A5.c 4; simp only [List.getElem?_cons_zero, List.getElem?_cons_succ] at A5_0 A5_1 A5_2 A5_3 A5_4
  have V5_0 := V5.c 0; have V5_1 := V5.c 1; have V5_2 := V5.c 2; have V5_3 := V5.c 3; have V5_4 := V5.c 4; simp only [List.getElem?_cons_zero, List.getElem?_cons_succ] at V5_0 V5_1 V5_2 V5_3 V5_4
  have f1 := A5.f
  have f2 := V5.f
  have HH := hide (And.intro h5 (And.intro A5 V5))
  clear h5 A5 V5
  go_wp2
  obtain ⟨h5, A5, V5⟩ := unhide HH
  have h6 := Pt.others k1 k2 [.int .i64 n1] 4 h5 V5 (by simp) (by simp) (by simp)
  have A6 := Blk.others k3 [.int .i64 n1] 4 A5
  have M6 := PtM.newAll (B := w1.heap.size) (Nat.le_of_lt gk) [.int .i64 n1] 4 (unhide M)
  have h7 := Pt.others (B := w.heap.size) (by omega) (by omega) [.int .i64 s1, .int .i64 s2, .string v1, .bool v2, .int .i64 n1] 0 h6 A6 (by simp) (by simp) (by simp)
  have QA := A6.all [.int .i64 s1, .int .i64 s2, .string v1, .bool v2, .int .i64 n1] rfl
  refine bodyPost_ret (results_v Tryz.results51 ⟨((s1 : Int), (s2 : Int)), v1, v2, (n1 : Int)⟩ rfl QA) rfl ?_
  exact ⟨_, rfl, rfl, h7, PtM.newAll (Nat.le_refl _) [.int .i64 s1, .int .i64 s2, .string v1, .bool v2, .int .i64 n1] 0 M6⟩
end

end Go.Proofs.YtcdehnghggleoaaGreat
