/- What the small functions of package rlp do: bare, leastHead, headSize, Number; and the document's Number. -/
import Derived.Test.YtfpeliolngfkpaaRrA
namespace Go.Proofs.Ytfpeliolngfkpaa
open Go.RowKit SmWord
set_option maxRecDepth 100000

theorem bare_walk (A : Option Addr) (n c : Nat) (f : Nat → Nat) (w : World) (hn : n ≤ maxLen) (hs : Sl w A n f) :
    Calls Try.prog 17 #[.slice A n c] w fun e w' => e = .returned (.bool (decide (n = 1 ∧ f 0 < 128))) ∧ w' = w := by
  have hn' : n ≤ 9223372036854775807 := hn
  by_cases h1 : n = 1
  · subst h1
    obtain ⟨b, off, rfl, _, hc⟩ := hs.cells (by decide)
    have c0 := hc 0 (by decide)
    have s0 := hs.small 0 (by decide)
    clear hc hs
    rw [Nat.add_zero] at c0
    go_enter Try.func17, Try.ntmps17
    go_wp2_with fail
    go_ret
    refine ⟨?_, rfl⟩
    congr 2
    simp
    omega
  · clear hs
    have d1 : decide ((n : Int) = 1) = false := decide_eq_false (by omega)
    go_enter Try.func17, Try.ntmps17
    go_wp2_with fail
    go_ret
    exact ⟨by simp [h1], rfl⟩
theorem least_walk (b : Bool) (w : World) :
    Calls Try.prog 31 #[.bool b] w fun e w' => e = .returned (.int .u8 (if b then 192 else 128)) ∧ w' = w := by
  cases b
  · go_enter Try.func31, Try.ntmps31
    go_wp2_with fail
    go_ret
    exact ⟨rfl, rfl⟩
  · go_enter Try.func31, Try.ntmps31
    go_wp2_with fail
    go_ret
    exact ⟨rfl, rfl⟩
theorem nbl_bl (n : Nat) : (bl n + 7) / 8 = nbl n := by
  unfold bl nbl
  split
  · rfl
  · omega
theorem size_of (n : Nat) (w : World) (hn : n < B) : Calls Try.prog 25 #[wd n] w fun e w' => e = .returned (.int .i64 ((nbl n : Nat) : Int)) ∧ Below w.heap.size w w' := by
  have h := size_wd n w
  rw [Nat.mod_eq_of_lt (Nat.lt_trans hn (by decide)), nbl_bl] at h
  exact h
theorem nbl_8 {n : Nat} (hn : n < B) : nbl n ≤ 8 := nbl_le_of (by simpa [B] using hn)
/-- How many bytes a head has. -/
def hz (n : Nat) : Nat := if n ≤ 55 then 1 else nbl n + 1
theorem hea_hz (n m : Nat) : (hea n m).length = hz n := by
  unfold hea hz
  split
  · rfl
  · simp [bdig_length]
theorem hz_le {n : Nat} (hn : n < B) : hz n ≤ 9 := by
  have := nbl_8 hn
  unfold hz
  split <;> omega
theorem hsize_walk (n : Nat) (w : World) (hn : n < B) :
    Calls Try.prog 40 #[.int .u64 (n : Int)] w fun e w' => e = .returned (.int .u64 ((hz n : Nat) : Int)) ∧ Below w.heap.size w w' := by
  have hn' : n < 18446744073709551616 := hn
  by_cases h : n ≤ 55
  · clear hn
    have e : hz n = 1 := if_pos h
    rw [e]
    clear e
    go_enter Try.func40, Try.ntmps40
    go_wp2_with fail
    go_ret
    exact ⟨rfl, Below.refl _ _⟩
  · have e : hz n = nbl n + 1 := if_neg h
    rw [e]
    clear e
    have K1 := Lib.hid fun w => of_wd n w hn
    have K2 := Lib.hid fun w => size_of n w hn
    have hm := nbl_8 hn
    generalize nbl n = m at *
    clear hn
    go_enter Try.func40, Try.ntmps40
    go_wp2_with fail
    refine (K1.out _).mono ?_
    rintro e w1 ⟨rfl, b1⟩
    go_wp2_with fail
    refine (K2.out _).mono ?_
    rintro e w2 ⟨rfl, b2⟩
    go_wp2_with fail
    go_ret
    refine ⟨?_, b1.trans (b2.mono b1.size)⟩
    rw [show ((m + 1 : Nat) : Int) = 1 + (m : Int) by omega]
    rfl
theorem Try.len32 : Try.prog.arrayLen 59 = 32 := by kernel_rfl
theorem slice32 (b j : Nat) (w : World) (h : j ≤ 32) : (Instr.sliceAt 59 (.pointer (some ⟨b, 0, none⟩)) (some (.int .i64 (j : Int))) none none).run Try.prog w = .ok (.slice (some ⟨b, if j = 32 then 0 else j, none⟩) (32 - j) (32 - j)) w := by
  have e := run_sliceAt_array_l (P := Try.prog) w 59 ⟨b, 0, none⟩ (by kernel_rfl) .i64 (j : Int) (by omega) (by rw [Try.len32]; omega)
  rw [e, Try.len32, show Try.prog.elem 59 = 5 by kernel_rfl, Try.sizeOf5]
  simp only [slicedAt, Result.andThen_ok, Int.toNat_natCast]
  by_cases hj : j = 32
  · subst hj
    rfl
  · have a1 : ¬ (32 : Nat) = j := fun h => hj h.symm
    simp [hj, a1, Addr.add]
    intro h0
    subst h0
    rfl
/-- The bytes of a number by their place, the highest first, without noughts. -/
def nf (n i : Nat) : Nat := (bdig (nbl n) n).getD i 0
theorem number_walk (n : Nat) (w : World) (hn : n < 256 ^ 32) :
    Calls Try.prog 14 #[wd n] w fun e w' => (∃ b off, e = .returned (.slice (some ⟨b, off, none⟩) (nbl n) (nbl n)) ∧ w.heap.size ≤ b ∧ Sl w' (some ⟨b, off, none⟩) (nbl n) (nf n)) ∧ Below w.heap.size w w' := by
  have hz := wa_size
  have K1 := Lib.hid fun w => bytes_wd n w
  have K2 := Lib.hid fun w => size_wd n w
  have hm : bl (n % M) ≤ 256 := bl_le (by rw [← M_2]; exact Nat.mod_lt _ (by decide))
  have e0 : (bl (n % M) + 7) / 8 = nbl n := by rw [Nat.mod_eq_of_lt (by rw [M_2]; exact Nat.lt_of_lt_of_eq hn (by decide)), nbl_bl]
  rw [e0] at K2
  have hk : nbl n ≤ 32 := nbl_le_of hn
  clear hm e0
  have HP := Lib.hid (show ∀ i, i < nbl n → dig n (31 - (32 - nbl n + i)) = nf n i from fun i hi => by
    rw [nf, bdig_get _ _ _ hi]
    unfold dig
    rw [show 31 - (32 - nbl n + i) = nbl n - 1 - i by omega])
  generalize hk' : nbl n = k at *
  clear hk'
  go_enter Try.func14, Try.ntmps14
  go_wp2_with fail
  refine (K1.out _).mono ?_
  rintro e w1 ⟨rfl, b1⟩
  have ha : (w.alloc (.cells (wa n) 39)).heap[w.heap.size]? = some (.cells (wa n) 39) := heap_alloc_new _ _
  replace ha := blk_row_other (b' := w.heap.size) (b := w1.heap.size) (c' := ya n) (blk_alloc (o' := .cells zY 59) (stay b1 ha)) (by have := b1.size; simp at this; omega)
  have f1 : ((w1.alloc (.cells zY 59)).setRow w1.heap.size (ya n)).heap[w1.heap.size]? = some (.cells (ya n) 59) := blk_row (heap_alloc_new _ _)
  have bW : Below w.heap.size w ((w1.alloc (.cells zY 59)).setRow w1.heap.size (ya n)) := by
    have b0 : Below w.heap.size w (w.alloc (.cells (wa n) 39)) := (Below.refl _ _).alloc (Nat.le_refl _) _
    have b2 := b0.trans (b1.mono b0.size)
    exact below_setRow (b2.alloc b2.size _) b2.size _
  have hnew : w.heap.size ≤ w1.heap.size := by have := b1.size; simp at this; omega
  have HB := Lib.hid b1
  clear b1
  go_upto_region 2 with (first | (refine wpList_alloc_row rfl 59 rfl zY zY_run ?_) | (refine wpList_store_row rfl 59 _ _ rfl _ zY (ya n) rfl rfl (heap_alloc_new _ _) (infoArrY _) rfl (arr_one _ _ _) ?_))
  clear HB
  generalize ((w1.alloc (.cells zY 59)).setRow w1.heap.size (ya n)) = W2 at *
  go_wp2_with (refine wpList_load_row rfl 39 _ rfl _ rfl 39 (wa n) (0, 0) _ ha Try.underlying39 rfl Try.infoWa ?_)
  refine (K2.out _).mono ?_
  rintro e w3 ⟨rfl, b3⟩
  have es := slice32 w1.heap.size (32 - k) w3 (by omega)
  rw [show ((32 - k : Nat) : Int) = 32 - (k : Int) by omega, show 32 - (32 - k) = k by omega] at es
  have HS : Sl w3 (some ⟨w1.heap.size, if 32 - k = 32 then 0 else 32 - k, none⟩) k (nf n) := ⟨fun i hi => by
      rw [← HP.out i hi]
      exact dig_lt _ _, fun h0 => ⟨w1.heap.size, 32 - k, by rw [if_neg (by omega)], by have := b3.size; have := (Array.getElem?_eq_some_iff.1 f1).1; omega, fun i hi => by
      rw [← HP.out i hi]
      exact blk_cell (stay b3 f1) (arr_get .u8 _ (show 32 - k + i < 32 by omega))⟩⟩
  generalize (if 32 - k = 32 then 0 else 32 - k) = q at *
  replace HS := Lib.hid HS
  have HB := Lib.hid (bW.trans (b3.mono bW.size))
  clear f1 ha bW b3 HP
  go_wp2_with fail
  go_ret
  exact ⟨⟨_, _, rfl, hnew, HS.out⟩, HB.out⟩
theorem nf_lt (n : Nat) : ∀ i, i < nbl n → nf n i < 256 := fun i hi => by
  unfold nf
  rw [bdig_get _ _ _ hi]
  omega
theorem lb8_nf (n : Nat) : lb8 (bdig (nbl n) n) = bb (nf n) (nbl n) := by
  rw [lb8_bb, bdig_length]
  rfl
/-- A new row of no bytes. -/
theorem own_none (w : World) {base : Nat} (hb : base ≤ w.heap.size) : (w.alloc (.cells #[] 5)).ownsRow base 5 1 (.slice (some ⟨w.heap.size, 0, none⟩) 0 0) 0 [] :=
  ⟨rfl, .inr ⟨w.heap.size, 0, #[], rfl, hb, heap_alloc_new _ _, Nat.le_refl _, Nat.zero_le _, rfl, rfl⟩⟩
/-- The noughts ahead, one after another. -/
theorem ahead_zero {n k : Nat} (hn : n < 256 ^ 32) (hk : k < 32 - nbl n) : dig n (31 - k) = 0 := by
  have h := bdig_nought (n := n) (k := 32) (i := k) (by omega) (nbl_le_of hn)
  rw [bdig_get _ _ _ (by omega)] at h
  unfold dig
  exact h
theorem ahead_end {n : Nat} (hn : n < 256 ^ 32) (h : 0 < nbl n) : dig n (31 - (32 - nbl n)) ≠ 0 := by
  have h0 : n ≠ 0 := by rintro rfl; simp [nbl] at h
  have hk := nbl_le_of hn
  have h := bdig_first (n := n) (k := 32) h0 hk
  rw [bdig_get _ _ _ (by omega)] at h
  unfold dig
  exact h
set_option maxHeartbeats 1000000 in
theorem rnumber_walk (n : Nat) (w : World) (hn : n < 256 ^ 32) :
    Calls Try.prog 15 #[wd n] w fun e w' => (∃ v, e = .returned v ∧ w'.ownsRow w.heap.size 5 1 v (nbl n) (bb (nf n) (nbl n))) ∧ Below w.heap.size w w' := by
  have hz := wa_size
  have hk : nbl n ≤ 32 := nbl_le_of hn
  have K1 := Lib.hid fun w => of_ref n w
  have K2 := Lib.hid fun w => bytes_ref n w
  have HP := Lib.hid (show ∀ i, i < nbl n → dig n (31 - (32 - nbl n + i)) = nf n i from fun i hi => by
    rw [nf, bdig_get _ _ _ hi]
    unfold dig
    rw [show 31 - (32 - nbl n + i) = nbl n - 1 - i by omega])
  have HZ := Lib.hid (fun k => ahead_zero (k := k) hn)
  have HE := Lib.hid (ahead_end hn)
  generalize nbl n = m at *
  go_enter Try.func15, Try.ntmps15
  go_wp2_with fail
  refine (K1.out _).mono ?_
  rintro e w1 ⟨rfl, b1⟩
  go_wp2_with fail
  refine (K2.out _).mono ?_
  rintro e w2 ⟨rfl, b2⟩
  have b0 : Below w.heap.size w w2 := by
    have b0 : Below w.heap.size w (w.alloc (.cells (wa n) 39)) := (Below.refl _ _).alloc (Nat.le_refl _) _
    have b1 := b0.trans (b1.mono b0.size)
    exact b1.trans (b2.mono b1.size)
  have f1 : ((w2.alloc (.cells zY 59)).setRow w2.heap.size (ya n)).heap[w2.heap.size]? = some (.cells (ya n) 59) := blk_row (heap_alloc_new _ _)
  have bW : Below w.heap.size w ((w2.alloc (.cells zY 59)).setRow w2.heap.size (ya n)) := below_setRow (b0.alloc b0.size _) b0.size _
  have hsz := b0.size
  clear b1 b2 b0
  go_upto_region 2 with (first | (refine wpList_alloc_row rfl 59 rfl zY zY_run ?_) | (refine wpList_store_row rfl 59 _ _ rfl _ zY (ya n) rfl rfl (heap_alloc_new _ _) (infoArrY _) rfl (arr_one _ _ _) ?_))
  generalize hwb : w2.heap.size = p at *
  generalize ((w2.alloc (.cells zY 59)).setRow p (ya n)) = W2 at *
  clear hwb
  go_upto_region 3 with fail
  go_loopw [4] (fun i wr => ∃ k : Nat, k ≤ 32 - m ∧ i = .int .i64 k ∧ Below w.heap.size w wr ∧ wr.heap[p]? = some (.cells (ya n) 59)) (fun i _ => 32 - (intOf i).toNat)
  case atStart => exact ⟨0, Nat.zero_le _, rfl, bW, f1⟩
  case round =>
    obtain ⟨k, hk', rfl, hb, ha⟩ := hrel
    clear f1 bW
    by_cases hlt : k < 32 - m
    · have c1 := blk_cell ha (arr_get .u8 _ (show k < 32 by omega))
      have hz0 := HZ.out k hlt
      rw [hz0] at c1
      have HA := Lib.hid ha
      have HB := Lib.hid hb
      clear ha hb
      go_wp2_with fail
      exact ⟨⟨k + 1, by omega, by go_num, HB.out, HA.out⟩, by simp [intOf]; omega⟩
    · obtain rfl : k = 32 - m := by omega
      have es := fun w => slice32 p (32 - m) w (by omega)
      rw [show 32 - (32 - m) = m by omega] at es
      have HS : Sl wr (some ⟨p, if 32 - m = 32 then 0 else 32 - m, none⟩) m (nf n) := ⟨fun i hi => by
          rw [← HP.out i hi]
          exact dig_lt _ _, fun h0 => ⟨p, 32 - m, by rw [if_neg (by omega)], (Array.getElem?_eq_some_iff.1 ha).1, fun i hi => by
          rw [← HP.out i hi]
          exact blk_cell ha (arr_get .u8 _ (show 32 - m + i < 32 by omega))⟩⟩
      generalize (if 32 - m = 32 then 0 else 32 - m) = q at *
      have b2 : Below w.heap.size w (wr.alloc (.cells #[] 5)) := hb.alloc hb.size _
      have o2 := own_none wr hb.size
      replace HS := Lib.hid (HS.below ((Below.refl _ _).alloc (Nat.le_refl _) (.cells #[] 5)))
      have hd : m = 0 ∨ 0 < m := by omega
      have hsz2 := b2.size
      replace HB := Lib.hid b2
      have HO := Lib.hid o2
      clear b2 o2 hb
      rcases hd with rfl | hm
      · clear ha
        go_wp2_with fail
        go_ret
        exact ⟨⟨_, rfl, HO.out⟩, HB.out⟩
      · have c1 := blk_cell ha (arr_get .u8 _ (show 32 - m < 32 by omega))
        have hz0 := HE.out hm
        have hl := dig_lt n (31 - (32 - m))
        generalize dig n (31 - (32 - m)) = d at *
        have e1 : ((d : Int) == 0) = false := by simp; omega
        clear ha
        generalize hk2 : 32 - m = k at *
        have e2 : (k : Int) < 32 := by omega
        go_wp2_with (first | (at_builtin; refine append_sl rfl _ _ rfl w.heap.size _ 0 [] rfl HO.out _ m _ (nf n) rfl (fun h => by cases h) HS.out (by omega) hsz2 ?_))
        intro v' w' o3 g3
        have b3 := HB.out.grown g3 hsz2 (fun b hb' => (HO.out.lt b hb').1)
        go_wp2_with fail
        go_ret
        exact ⟨⟨_, rfl, by simpa using o3⟩, b3⟩
end Go.Proofs.Ytfpeliolngfkpaa
