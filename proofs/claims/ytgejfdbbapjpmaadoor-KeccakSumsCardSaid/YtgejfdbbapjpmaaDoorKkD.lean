/- What the function mixRows of package keccak does: a state in memory is behind the third step; nothing else of what lay before changes. -/
import Derived.Test.YtgejfdbbapjpmaaDoorKkB
import Derived.Deep.CutRange
namespace Go.Proofs.YtgejfdbbapjpmaaDoor
open Go.RowKit SmWord
set_option maxRecDepth 100000

theorem ch_at {S : Nat → Nat} {q x : Nat} (hx : x < 5) : ch S (5 * q + x) = S (5 * q + x) ^^^ (S (5 * q + (x + 2) % 5) &&& (18446744073709551615 - S (5 * q + (x + 1) % 5))) := by
  unfold ch
  rw [show (5 * q + x) % 5 = x by omega, show (5 * q + x) / 5 * 5 = 5 * q by omega, Nat.and_comm]; rfl
theorem and_lt {x y : Nat} (hx : x < B) : x &&& y < B := Nat.lt_of_le_of_lt Nat.and_le_left hx
set_option maxHeartbeats 4000000 in
theorem mixr_walk (b : Nat) (S : Nat → Nat) (w : World) (hS : okS S) (hb : w.heap[b]? = some (.cells (sa S) 23)) :
    Calls Tryd.prog 23 #[.pointer (some ⟨b, 0, none⟩)] w fun e w' => e = .returned (.tuple #[]) ∧ Wrote b w w' ∧ w'.heap[b]? = some (.cells (sa (ch S)) 23) := by
  have HS := Lib.hid hS
  have HW := Lib.hid hb
  clear hS hb
  go_enter Tryd.func23, Tryd.ntmps23
  go_wp2_with fail
  go_loopw [2] (fun i wr => ∃ y q : Nat, Hid (y = 5 * q) ∧ y ≤ 25 ∧ i = .int .i64 y ∧ Wrote b w wr ∧ wr.heap[b]? = some (.cells (sa (upto (ch S) S y)) 23)) (fun i _ => 25 - (intOf i).toNat)
  case atStart => exact ⟨0, 0, Lib.hid rfl, by omega, rfl, Wrote.refl _ _, by rw [upto_start]; exact HW.out⟩
  case round =>
    clear HW
    obtain ⟨y, q, hy, hle, rfl, hw, f0⟩ := hrel
    by_cases hlt : y < 25
    · have hy20 : y ≤ 20 := by have := hy.out; omega
      have HWr := Lib.hid hw
      have cu : ∀ j, y ≤ j → j < 25 → wr.cell? ⟨b, j, none⟩ = some (.int .u64 ((S j : Nat) : Int)) := fun j hj h25 => by
        have := blk_cell f0 (sa_get (S := upto (ch S) S y) (i := j) h25)
        rwa [show upto (ch S) S y j = S j by unfold upto; rw [if_neg (by omega)]] at this
      have c0 := cu y (by omega) (by omega)
      have c1 := cu (y + 1) (by omega) (by omega)
      have c2 := cu (y + 2) (by omega) (by omega)
      have c3 := cu (y + 3) (by omega) (by omega)
      have c4 := cu (y + 4) (by omega) (by omega)
      have HF := Lib.hid f0
      clear hw f0 cu
      go_wp2_with fail
      go_quiet (fail)
      go_upto_region 4 with fail
      clear c0 c1 c2 c3 c4
      replace HWr : Hid (Wrote b w (wr.drewN nq)) := Lib.hid (HWr.out.trans ⟨rfl, rfl, rfl, Nat.le_refl _, fun _ _ _ => rfl⟩)
      replace HF : Hid ((wr.drewN nq).heap[b]? = some (.cells (sa (upto (ch S) S y)) 23)) := HF
      generalize wr.drewN nq = W0 at *
      have n0 : bits .andNot .u64 ((S (y + 2) : Nat) : Int) ((S (y + 1) : Nat) : Int) = ((S (y + 2) &&& (18446744073709551615 - S (y + 1)) : Nat) : Int) := u64_andNot_nat _ _ (HS.out _ (by omega)) (HS.out _ (by omega))
      have v0 : bits .xor .u64 ((S y : Nat) : Int) ((S (y + 2) &&& (18446744073709551615 - S (y + 1)) : Nat) : Int) = ((ch S y : Nat) : Int) := by
        rw [show ch S y = _ from hy.out ▸ ch_at (S := S) (q := q) (x := 0) (by omega)]
        have := hy.out
        exact xor_nat (HS.out _ (by omega)) (and_lt (HS.out _ (by omega)))
      have cx := blk_cell HF.out (sa_get (i := y) (by omega))
      have fz := blk_frozen (j := y) HF.out
      have h0 : (W0.setCell ⟨b, y, none⟩ (.int .u64 ((ch S y : Nat) : Int))).heap[b]? = _ := blk_set HF.out _
      rw [upto_next _ _ (by omega)] at h0
      replace HF := Lib.hid h0
      clear h0
      go_upto_region 5 with fail
      clear cx fz n0 v0
      replace HWr := Lib.hid (HWr.out.trans (Wrote.put (j := y) W0 (.int .u64 ((ch S y : Nat) : Int))))
      generalize W0.setCell ⟨b, y, none⟩ (.int .u64 ((ch S y : Nat) : Int)) = W1 at *
      have n1 : bits .andNot .u64 ((S (y + 3) : Nat) : Int) ((S (y + 2) : Nat) : Int) = ((S (y + 3) &&& (18446744073709551615 - S (y + 2)) : Nat) : Int) := u64_andNot_nat _ _ (HS.out _ (by omega)) (HS.out _ (by omega))
      have v1 : bits .xor .u64 ((S (y + 1) : Nat) : Int) ((S (y + 3) &&& (18446744073709551615 - S (y + 2)) : Nat) : Int) = ((ch S (y + 1) : Nat) : Int) := by
        rw [show ch S (y + 1) = _ from hy.out ▸ ch_at (S := S) (q := q) (x := 1) (by omega)]
        have := hy.out
        exact xor_nat (HS.out _ (by omega)) (and_lt (HS.out _ (by omega)))
      have cx := blk_cell HF.out (sa_get (i := y + 1) (by omega))
      have fz := blk_frozen (j := y + 1) HF.out
      have h0 : (W1.setCell ⟨b, y + 1, none⟩ (.int .u64 ((ch S (y + 1) : Nat) : Int))).heap[b]? = _ := blk_set HF.out _
      rw [upto_next _ _ (by omega)] at h0
      replace HF := Lib.hid h0
      clear h0
      go_upto_region 6 with fail
      clear cx fz n1 v1
      replace HWr := Lib.hid (HWr.out.trans (Wrote.put (j := y + 1) W1 (.int .u64 ((ch S (y + 1) : Nat) : Int))))
      generalize W1.setCell ⟨b, y + 1, none⟩ (.int .u64 ((ch S (y + 1) : Nat) : Int)) = W2 at *
      have n2 : bits .andNot .u64 ((S (y + 4) : Nat) : Int) ((S (y + 3) : Nat) : Int) = ((S (y + 4) &&& (18446744073709551615 - S (y + 3)) : Nat) : Int) := u64_andNot_nat _ _ (HS.out _ (by omega)) (HS.out _ (by omega))
      have v2 : bits .xor .u64 ((S (y + 2) : Nat) : Int) ((S (y + 4) &&& (18446744073709551615 - S (y + 3)) : Nat) : Int) = ((ch S (y + 2) : Nat) : Int) := by
        rw [show ch S (y + 2) = _ from hy.out ▸ ch_at (S := S) (q := q) (x := 2) (by omega)]
        have := hy.out
        exact xor_nat (HS.out _ (by omega)) (and_lt (HS.out _ (by omega)))
      have cx := blk_cell HF.out (sa_get (i := y + 2) (by omega))
      have fz := blk_frozen (j := y + 2) HF.out
      have h0 : (W2.setCell ⟨b, y + 2, none⟩ (.int .u64 ((ch S (y + 2) : Nat) : Int))).heap[b]? = _ := blk_set HF.out _
      rw [upto_next _ _ (by omega)] at h0
      replace HF := Lib.hid h0
      clear h0
      go_upto_region 7 with fail
      clear cx fz n2 v2
      replace HWr := Lib.hid (HWr.out.trans (Wrote.put (j := y + 2) W2 (.int .u64 ((ch S (y + 2) : Nat) : Int))))
      generalize W2.setCell ⟨b, y + 2, none⟩ (.int .u64 ((ch S (y + 2) : Nat) : Int)) = W3 at *
      have n3 : bits .andNot .u64 ((S y : Nat) : Int) ((S (y + 4) : Nat) : Int) = ((S y &&& (18446744073709551615 - S (y + 4)) : Nat) : Int) := u64_andNot_nat _ _ (HS.out _ (by omega)) (HS.out _ (by omega))
      have v3 : bits .xor .u64 ((S (y + 3) : Nat) : Int) ((S y &&& (18446744073709551615 - S (y + 4)) : Nat) : Int) = ((ch S (y + 3) : Nat) : Int) := by
        rw [show ch S (y + 3) = _ from hy.out ▸ ch_at (S := S) (q := q) (x := 3) (by omega)]
        have := hy.out
        exact xor_nat (HS.out _ (by omega)) (and_lt (HS.out _ (by omega)))
      have cx := blk_cell HF.out (sa_get (i := y + 3) (by omega))
      have fz := blk_frozen (j := y + 3) HF.out
      have h0 : (W3.setCell ⟨b, y + 3, none⟩ (.int .u64 ((ch S (y + 3) : Nat) : Int))).heap[b]? = _ := blk_set HF.out _
      rw [upto_next _ _ (by omega)] at h0
      replace HF := Lib.hid h0
      clear h0
      go_upto_region 8 with fail
      clear cx fz n3 v3
      replace HWr := Lib.hid (HWr.out.trans (Wrote.put (j := y + 3) W3 (.int .u64 ((ch S (y + 3) : Nat) : Int))))
      generalize W3.setCell ⟨b, y + 3, none⟩ (.int .u64 ((ch S (y + 3) : Nat) : Int)) = W4 at *
      have n4 : bits .andNot .u64 ((S (y + 1) : Nat) : Int) ((S y : Nat) : Int) = ((S (y + 1) &&& (18446744073709551615 - S y) : Nat) : Int) := u64_andNot_nat _ _ (HS.out _ (by omega)) (HS.out _ (by omega))
      have v4 : bits .xor .u64 ((S (y + 4) : Nat) : Int) ((S (y + 1) &&& (18446744073709551615 - S y) : Nat) : Int) = ((ch S (y + 4) : Nat) : Int) := by
        rw [show ch S (y + 4) = _ from hy.out ▸ ch_at (S := S) (q := q) (x := 4) (by omega)]
        have := hy.out
        exact xor_nat (HS.out _ (by omega)) (and_lt (HS.out _ (by omega)))
      have cx := blk_cell HF.out (sa_get (i := y + 4) (by omega))
      have fz := blk_frozen (j := y + 4) HF.out
      have h0 : (W4.setCell ⟨b, y + 4, none⟩ (.int .u64 ((ch S (y + 4) : Nat) : Int))).heap[b]? = _ := blk_set HF.out _
      rw [upto_next _ _ (by omega)] at h0
      replace HF := Lib.hid h0
      clear h0
      go_wp2_with fail
      refine ⟨⟨y + 5, q + 1, Lib.hid (by have := hy.out; omega), by omega, by go_num, HWr.out.trans (Wrote.put _ _), HF.out⟩, by simp [intOf]; omega⟩
    · obtain rfl : y = 25 := by omega
      rw [upto_end] at f0
      clear hy
      have HF := Lib.hid f0
      have HWr := Lib.hid hw
      clear f0 hw
      go_wp2_with fail
      first | go_ret | go_end0
      exact ⟨rfl, HWr.out, HF.out⟩
end Go.Proofs.YtgejfdbbapjpmaaDoor
