/-
  seal.get, seal.put, seal.fits: what they answer.
-/
import Derived.Test.YteacolahbnilnaaSum
import Derived.Test.YteacolahbnilnaaFr
import Derived.Test.YteacolahbnilnaaPack0
namespace Go.Proofs.Yteacolahbnilnaa
open Go.RowKit
set_option linter.unusedVariables false

/-- The number of bytes, the highest first. -/
def ofp (l : List UInt8) : Nat := l.foldl (fun v c => v * 256 + c.toNat) 0
theorem ofp_snoc (l : List UInt8) (c : UInt8) : ofp (l ++ [c]) = ofp l * 256 + c.toNat := by simp [ofp]
theorem ofp_four (l : List UInt8) (h : 4 ≤ l.length) : ofp (l.take 4) = of4 l := by
  match l, h with
  | a :: b :: c :: d :: t, _ => simp [ofp, of4]; omega

theorem or8 (v c : Nat) (hv : v < 16777216) (hc : c < 256) : bits .or .u32 ((v * 256 : Nat) : Int) (c : Int) = ((v * 256 + c : Nat) : Int) := by
  rw [u32_or_nat _ _ (by omega) (by omega)]
  have := Nat.two_pow_add_eq_or_of_lt (i := 8) hc v
  rw [show v * 256 = 2 ^ 8 * v from Nat.mul_comm _ _, this]

theorem Sl.take {w : World} {ao : Option Addr} {n c : Nat} {l : List UInt8} (h : Sl w (.slice ao n c) l) (k : Nat) (hk : k ≤ l.length) : Sl w (.slice ao k c) (l.take k) := by
  obtain ⟨bo, d, e, h1, h2, h3, h4⟩ := h
  injection e with e1 e2 e3
  subst e1; subst e2; subst e3
  refine ⟨ao, c, by rw [List.length_take]; congr 1; omega, by rw [List.length_take]; omega, h2, fun e => ?_, fun a ha j u hu => ?_⟩
  · obtain ⟨rfl, rfl⟩ := h3 e; simp
  · refine h4 a ha j u ?_
    rw [bc_get] at hu ⊢
    by_cases hj : j < k
    · rw [List.getElem?_take_of_lt hj] at hu; exact hu
    · rw [List.getElem?_eq_none (by rw [List.length_take]; omega)] at hu; cases hu

set_option maxRecDepth 100000 in
set_option maxHeartbeats 1000000 in
theorem get_any (v : Value) (l : List UInt8) (w : World) (hs : Sl w v l) (hl : 4 ≤ l.length) :
    Calls Try.prog 27 #[v] w fun e w' => e = .returned (.int .u32 (of4 l)) ∧ w' = w := by
  have hv : ∃ ao c, v = .slice ao l.length c ∧ l.length ≤ c ∧ c ≤ maxLen := by obtain ⟨ao, c, rfl, h1, h2, _⟩ := hs; exact ⟨_, _, rfl, h1, h2⟩
  obtain ⟨ao, c, rfl, h1, h2⟩ := hv
  unfold maxLen at h2
  obtain ⟨b, o, rfl⟩ := hs.addr (by omega)
  have Hs : Hid (Sl w (.slice (some ⟨b, o, none⟩) l.length c) l) := hs
  clear hs
  go_enter Try.func27, Try.ntmps27
  go_wp2
  go_loop [3, 9] (fun s i => ∃ (k n : Nat), k ≤ 4 ∧ i = .int .i64 k ∧ s = .int .u32 n ∧ Hid (n < 256 ^ k) ∧ Hid (n = ofp (l.take k))) (fun _ i => 4 - (intOf i).toNat)
  case atStart => exact ⟨0, 0, by omega, rfl, rfl, (by decide : 0 < 256 ^ 0), rfl⟩
  case round =>
    obtain ⟨k, n, hk, rfl, rfl, hn, Hn⟩ := hrel
    by_cases hlt : k < 4
    · have hc := Hs.out.cell k (by omega)
      have hcb : (l[k].toNat : Int) < 256 := by have := l[k].toNat_lt; omega
      obtain ⟨cn, hcn⟩ : ∃ cn, Hid (l[k].toNat = cn) := ⟨l[k].toNat, Eq.refl l[k].toNat⟩
      rw [hcn.out] at hc hcb
      have hn3 : n < 16777216 := Nat.lt_of_lt_of_le hn.out (show 256 ^ k ≤ 256 ^ 3 from Nat.pow_le_pow_right (by decide) (by omega))
      go_wp2
      go_round
      case rel =>
        refine ⟨k + 1, n * 256 + cn, by omega, by go_num, ?_, ?_, ?_⟩
        · rw [← or8 n cn hn3 (by omega)]; first | rfl | (congr 2; omega)
        · have := hn.out
          show _ < 256 ^ (k + 1)
          rw [Nat.pow_succ]; omega
        · show _ = ofp _
          rw [take_snoc l k (by omega), ofp_snoc, ← Hn.out, hcn.out]
      case measure => simp [intOf]; omega
    · go_wp2
      go_ret
      refine ⟨ret_u32 ?_, rfl⟩
      have e4 : k = 4 := by omega
      subst e4
      rw [Hn.out, ofp_four l hl]

theorem ret_bool {a b : Bool} (h : a = b) : Ending.returned (.bool a) = .returned (.bool b) := by rw [h]

set_option maxRecDepth 100000 in
theorem fits_yes (n : Int) (w : World) (h1 : 1 ≤ n) (h2 : n ≤ 65536) : Calls Try.prog 18 #[.int .i64 n] w fun e w' => e = .returned (.bool true) ∧ w' = w := by
  go_enter Try.func18, Try.ntmps18
  go_wp2
  go_ret
  exact ⟨rfl, rfl⟩

set_option maxRecDepth 100000 in
theorem fits_no (n : Int) (w : World) (h : n < 1 ∨ 65536 < n) : Calls Try.prog 18 #[.int .i64 n] w fun e w' => e = .returned (.bool false) ∧ w' = w := by
  rcases h with h | h
  · go_enter Try.func18, Try.ntmps18
    go_wp2
    go_ret
    exact ⟨rfl, rfl⟩
  · have h1 : 1 ≤ n := by omega
    go_enter Try.func18, Try.ntmps18
    go_wp2
    go_ret
    exact ⟨ret_bool (decide_eq_false (by omega)), rfl⟩

/-- Bytes in a block of their own. -/
theorem cell_new4 (w : World) (n : Nat) (a b c d : Int) (ha : ((UInt8.ofNat (n / 16777216)).toNat : Int) = a) (hb : ((UInt8.ofNat (n / 65536)).toNat : Int) = b) (hc : ((UInt8.ofNat (n / 256)).toNat : Int) = c) (hd : ((UInt8.ofNat n).toNat : Int) = d) :
    ∀ j u, (bc (four n))[j]? = some u → (w.alloc (.cells #[.int .u8 a, .int .u8 b, .int .u8 c, .int .u8 d] 5)).cell? ((⟨w.heap.size, 0, none⟩ : Addr).add j) = some u := by
  intro j u hu
  match j, hu with
  | 0, hu => simp [bc, four] at hu; subst hu; subst ha; simp [Addr.add]
  | 1, hu => simp [bc, four] at hu; subst hu; subst hb; simp [Addr.add]
  | 2, hu => simp [bc, four] at hu; subst hu; subst hc; simp [Addr.add]
  | 3, hu => simp [bc, four] at hu; subst hu; subst hd; simp [Addr.add]
  | j + 4, hu => simp [bc, four] at hu

set_option maxRecDepth 100000 in
set_option maxHeartbeats 1000000 in
theorem put_any (B : Nat) (v : Value) (l : List UInt8) (n : Nat) (w : World) (hB : B ≤ w.heap.size) (ho : Own B w v l) (hl : l.length ≤ 1099511627776) (hn : n < 4294967296) :
    Calls Try.prog 19 #[v, .int .u32 n] w fun e w' => ∃ r, e = .returned r ∧ Own B w' r (l ++ four n) ∧ Below B w w' := by
  obtain ⟨i0, hi, hz0, hz1, hz2⟩ := info_parts Try.infoByte
  have hv : ∃ ao n c, v = .slice ao n c := by obtain ⟨ao, c, rfl, _⟩ := ho.sl; exact ⟨_, _, _, rfl⟩
  obtain ⟨ao, m, c, rfl⟩ := hv
  go_enter Try.func19, Try.ntmps19
  go_wp2_with (at_builtin; refine wpList_append_onb _ rfl (.tmp 5) (.tmp 17) rfl B ?hB _ _ rfl (.inr (World.ownsRow.alloc ho _)) ⟨w.heap.size, 0, none⟩ 4 (four n) 4 rfl rfl ?hc (by decide) ?hl ?_)
  case hB => simp; omega
  case hl => omega
  case hc => refine cell_new4 w n _ _ _ _ ?_ ?_ ?_ ?_ <;> simp [UInt8.toNat_ofNat'] <;> omega
  intro v' w1 ho' hb
  go_wp2
  go_ret
  exact ⟨_, rfl, ho', ((Below.refl B w).alloc hB _).trans hb⟩

end Go.Proofs.Yteacolahbnilnaa
