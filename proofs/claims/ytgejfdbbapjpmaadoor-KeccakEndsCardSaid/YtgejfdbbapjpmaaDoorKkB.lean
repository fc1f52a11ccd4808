/- What the function mixColumns of package keccak does: a state in memory is behind the first step; nothing else of what lay before changes. -/
import Derived.Test.YtgejfdbbapjpmaaDoorKkA
namespace Go.Proofs.YtgejfdbbapjpmaaDoor
open Go.RowKit SmWord
set_option maxRecDepth 100000

theorem xor_nat {x y : Nat} (hx : x < B) (hy : y < B) : bits .xor .u64 (x : Int) (y : Int) = ((x ^^^ y : Nat) : Int) := u64_xor_nat x y hx hy
/-- T below m, S from m on. -/
def upto (T S : Nat → Nat) (m i : Nat) : Nat := if i < m then T i else S i
theorem upto_next (T S : Nat → Nat) {m : Nat} (h : m < 25) : (sa (upto T S m)).setIfInBounds m (.int .u64 ((T m : Nat) : Int)) = sa (upto T S (m + 1)) := by
  rw [sa_set h]
  refine sa_congr fun i _ => ?_
  unfold upto
  by_cases e : i = m
  · subst e; simp
  · by_cases l : i < m
    · simp [e, l, show i < m + 1 by omega]
    · simp [e, l, show ¬ i < m + 1 by omega]
theorem upto_start (T S : Nat → Nat) : sa (upto T S 0) = sa S := sa_congr fun i _ => by simp [upto]
theorem upto_end (T S : Nat → Nat) : sa (upto T S 25) = sa T := sa_congr fun i hi => by simp [upto, hi]
theorem upto_here (T S : Nat → Nat) (m : Nat) : upto T S m m = S m := by simp [upto]
theorem th_at {S : Nat → Nat} {q x : Nat} (hx : x < 5) : th S (5 * q + x) = S (5 * q + x) ^^^ (col S ((x + 4) % 5) ^^^ rl (col S ((x + 1) % 5)) 1) := by
  unfold th
  rw [show (5 * q + x) % 5 = x by omega]
set_option maxHeartbeats 4000000 in
theorem mixc_walk (b : Nat) (S : Nat → Nat) (w : World) (hS : okS S) (hb : w.heap[b]? = some (.cells (sa S) 23)) :
    Calls Tryd.prog 21 #[.pointer (some ⟨b, 0, none⟩)] w fun e w' => e = .returned (.tuple #[]) ∧ Wrote b w w' ∧ w'.heap[b]? = some (.cells (sa (th S)) 23) := by
  have c0 := blk_cell hb (sa_get (S := S) (i := 0) (by omega))
  have c1 := blk_cell hb (sa_get (S := S) (i := 1) (by omega))
  have c2 := blk_cell hb (sa_get (S := S) (i := 2) (by omega))
  have c3 := blk_cell hb (sa_get (S := S) (i := 3) (by omega))
  have c4 := blk_cell hb (sa_get (S := S) (i := 4) (by omega))
  have c5 := blk_cell hb (sa_get (S := S) (i := 5) (by omega))
  have c6 := blk_cell hb (sa_get (S := S) (i := 6) (by omega))
  have c7 := blk_cell hb (sa_get (S := S) (i := 7) (by omega))
  have c8 := blk_cell hb (sa_get (S := S) (i := 8) (by omega))
  have c9 := blk_cell hb (sa_get (S := S) (i := 9) (by omega))
  have c10 := blk_cell hb (sa_get (S := S) (i := 10) (by omega))
  have c11 := blk_cell hb (sa_get (S := S) (i := 11) (by omega))
  have c12 := blk_cell hb (sa_get (S := S) (i := 12) (by omega))
  have c13 := blk_cell hb (sa_get (S := S) (i := 13) (by omega))
  have c14 := blk_cell hb (sa_get (S := S) (i := 14) (by omega))
  have c15 := blk_cell hb (sa_get (S := S) (i := 15) (by omega))
  have c16 := blk_cell hb (sa_get (S := S) (i := 16) (by omega))
  have c17 := blk_cell hb (sa_get (S := S) (i := 17) (by omega))
  have c18 := blk_cell hb (sa_get (S := S) (i := 18) (by omega))
  have c19 := blk_cell hb (sa_get (S := S) (i := 19) (by omega))
  have c20 := blk_cell hb (sa_get (S := S) (i := 20) (by omega))
  have c21 := blk_cell hb (sa_get (S := S) (i := 21) (by omega))
  have c22 := blk_cell hb (sa_get (S := S) (i := 22) (by omega))
  have c23 := blk_cell hb (sa_get (S := S) (i := 23) (by omega))
  have c24 := blk_cell hb (sa_get (S := S) (i := 24) (by omega))
  have x01 : bits .xor .u64 ((S 0 : Nat) : Int) ((S 5 : Nat) : Int) = ((S 0 ^^^ S 5 : Nat) : Int) := xor_nat (hS 0 (by omega)) (hS 5 (by omega))
  have x02 : bits .xor .u64 ((S 0 ^^^ S 5 : Nat) : Int) ((S 10 : Nat) : Int) = ((S 0 ^^^ S 5 ^^^ S 10 : Nat) : Int) := xor_nat (xor_lt (hS 0 (by omega)) (hS 5 (by omega))) (hS 10 (by omega))
  have x03 : bits .xor .u64 ((S 0 ^^^ S 5 ^^^ S 10 : Nat) : Int) ((S 15 : Nat) : Int) = ((S 0 ^^^ S 5 ^^^ S 10 ^^^ S 15 : Nat) : Int) := xor_nat (xor_lt (xor_lt (hS 0 (by omega)) (hS 5 (by omega))) (hS 10 (by omega))) (hS 15 (by omega))
  have x04 : bits .xor .u64 ((S 0 ^^^ S 5 ^^^ S 10 ^^^ S 15 : Nat) : Int) ((S 20 : Nat) : Int) = ((col S 0 : Nat) : Int) := xor_nat (xor_lt (xor_lt (xor_lt (hS 0 (by omega)) (hS 5 (by omega))) (hS 10 (by omega))) (hS 15 (by omega))) (hS 20 (by omega))
  have x11 : bits .xor .u64 ((S 1 : Nat) : Int) ((S 6 : Nat) : Int) = ((S 1 ^^^ S 6 : Nat) : Int) := xor_nat (hS 1 (by omega)) (hS 6 (by omega))
  have x12 : bits .xor .u64 ((S 1 ^^^ S 6 : Nat) : Int) ((S 11 : Nat) : Int) = ((S 1 ^^^ S 6 ^^^ S 11 : Nat) : Int) := xor_nat (xor_lt (hS 1 (by omega)) (hS 6 (by omega))) (hS 11 (by omega))
  have x13 : bits .xor .u64 ((S 1 ^^^ S 6 ^^^ S 11 : Nat) : Int) ((S 16 : Nat) : Int) = ((S 1 ^^^ S 6 ^^^ S 11 ^^^ S 16 : Nat) : Int) := xor_nat (xor_lt (xor_lt (hS 1 (by omega)) (hS 6 (by omega))) (hS 11 (by omega))) (hS 16 (by omega))
  have x14 : bits .xor .u64 ((S 1 ^^^ S 6 ^^^ S 11 ^^^ S 16 : Nat) : Int) ((S 21 : Nat) : Int) = ((col S 1 : Nat) : Int) := xor_nat (xor_lt (xor_lt (xor_lt (hS 1 (by omega)) (hS 6 (by omega))) (hS 11 (by omega))) (hS 16 (by omega))) (hS 21 (by omega))
  have x21 : bits .xor .u64 ((S 2 : Nat) : Int) ((S 7 : Nat) : Int) = ((S 2 ^^^ S 7 : Nat) : Int) := xor_nat (hS 2 (by omega)) (hS 7 (by omega))
  have x22 : bits .xor .u64 ((S 2 ^^^ S 7 : Nat) : Int) ((S 12 : Nat) : Int) = ((S 2 ^^^ S 7 ^^^ S 12 : Nat) : Int) := xor_nat (xor_lt (hS 2 (by omega)) (hS 7 (by omega))) (hS 12 (by omega))
  have x23 : bits .xor .u64 ((S 2 ^^^ S 7 ^^^ S 12 : Nat) : Int) ((S 17 : Nat) : Int) = ((S 2 ^^^ S 7 ^^^ S 12 ^^^ S 17 : Nat) : Int) := xor_nat (xor_lt (xor_lt (hS 2 (by omega)) (hS 7 (by omega))) (hS 12 (by omega))) (hS 17 (by omega))
  have x24 : bits .xor .u64 ((S 2 ^^^ S 7 ^^^ S 12 ^^^ S 17 : Nat) : Int) ((S 22 : Nat) : Int) = ((col S 2 : Nat) : Int) := xor_nat (xor_lt (xor_lt (xor_lt (hS 2 (by omega)) (hS 7 (by omega))) (hS 12 (by omega))) (hS 17 (by omega))) (hS 22 (by omega))
  have x31 : bits .xor .u64 ((S 3 : Nat) : Int) ((S 8 : Nat) : Int) = ((S 3 ^^^ S 8 : Nat) : Int) := xor_nat (hS 3 (by omega)) (hS 8 (by omega))
  have x32 : bits .xor .u64 ((S 3 ^^^ S 8 : Nat) : Int) ((S 13 : Nat) : Int) = ((S 3 ^^^ S 8 ^^^ S 13 : Nat) : Int) := xor_nat (xor_lt (hS 3 (by omega)) (hS 8 (by omega))) (hS 13 (by omega))
  have x33 : bits .xor .u64 ((S 3 ^^^ S 8 ^^^ S 13 : Nat) : Int) ((S 18 : Nat) : Int) = ((S 3 ^^^ S 8 ^^^ S 13 ^^^ S 18 : Nat) : Int) := xor_nat (xor_lt (xor_lt (hS 3 (by omega)) (hS 8 (by omega))) (hS 13 (by omega))) (hS 18 (by omega))
  have x34 : bits .xor .u64 ((S 3 ^^^ S 8 ^^^ S 13 ^^^ S 18 : Nat) : Int) ((S 23 : Nat) : Int) = ((col S 3 : Nat) : Int) := xor_nat (xor_lt (xor_lt (xor_lt (hS 3 (by omega)) (hS 8 (by omega))) (hS 13 (by omega))) (hS 18 (by omega))) (hS 23 (by omega))
  have x41 : bits .xor .u64 ((S 4 : Nat) : Int) ((S 9 : Nat) : Int) = ((S 4 ^^^ S 9 : Nat) : Int) := xor_nat (hS 4 (by omega)) (hS 9 (by omega))
  have x42 : bits .xor .u64 ((S 4 ^^^ S 9 : Nat) : Int) ((S 14 : Nat) : Int) = ((S 4 ^^^ S 9 ^^^ S 14 : Nat) : Int) := xor_nat (xor_lt (hS 4 (by omega)) (hS 9 (by omega))) (hS 14 (by omega))
  have x43 : bits .xor .u64 ((S 4 ^^^ S 9 ^^^ S 14 : Nat) : Int) ((S 19 : Nat) : Int) = ((S 4 ^^^ S 9 ^^^ S 14 ^^^ S 19 : Nat) : Int) := xor_nat (xor_lt (xor_lt (hS 4 (by omega)) (hS 9 (by omega))) (hS 14 (by omega))) (hS 19 (by omega))
  have x44 : bits .xor .u64 ((S 4 ^^^ S 9 ^^^ S 14 ^^^ S 19 : Nat) : Int) ((S 24 : Nat) : Int) = ((col S 4 : Nat) : Int) := xor_nat (xor_lt (xor_lt (xor_lt (hS 4 (by omega)) (hS 9 (by omega))) (hS 14 (by omega))) (hS 19 (by omega))) (hS 24 (by omega))
  have HS := Lib.hid hS
  have HW := Lib.hid hb
  clear hS hb
  go_enter Tryd.func21, Tryd.ntmps21
  go_wp2_with fail
  go_quiet (fail)
  go_wp2_with fail
  go_quiet (fail)
  go_wp2_with fail
  go_quiet (fail)
  go_wp2_with fail
  go_quiet (fail)
  go_wp2_with fail
  go_quiet (fail)
  go_wp2_with fail
  clear x01 x02 x03 x04
  clear x11 x12 x13 x14
  clear x21 x22 x23 x24
  clear x31 x32 x33 x34
  clear x41 x42 x43 x44
  clear c0 c1 c2 c3 c4 c5 c6 c7 c8 c9 c10 c11 c12 c13 c14 c15 c16 c17 c18 c19 c20 c21 c22 c23 c24
  rename_i n3 n2 n1 n0
  have hw : Wrote b w (((((w.drewN n3).drewN n2).drewN n1).drewN n0).drewN nq) := ⟨rfl, rfl, rfl, Nat.le_refl _, fun _ _ _ => rfl⟩
  have f0 : (((((w.drewN n3).drewN n2).drewN n1).drewN n0).drewN nq).heap[b]? = some (.cells (sa (upto (th S) S 0)) 23) := by rw [upto_start]; exact HW.out
  clear HW
  generalize (((((w.drewN n3).drewN n2).drewN n1).drewN n0).drewN nq) = W at *
  go_loopw [7] (fun i wr => ∃ y q : Nat, Hid (y = 5 * q) ∧ y ≤ 25 ∧ i = .int .i64 y ∧ Wrote b w wr ∧ wr.heap[b]? = some (.cells (sa (upto (th S) S y)) 23)) (fun i _ => 25 - (intOf i).toNat)
  case atStart => exact ⟨0, 0, Lib.hid rfl, by omega, rfl, hw, f0⟩
  case round =>
    clear hw f0
    obtain ⟨y, q, hy, hle, rfl, hw, f0⟩ := hrel
    by_cases hlt : y < 25
    · have hy20 : y ≤ 20 := by have := hy.out; omega
      have HWr := Lib.hid hw
      clear hw
      go_wp2_with fail
      have HF0 := Lib.hid f0
      clear f0
      have v0 : bits .xor .u64 ((S y : Nat) : Int) ((col S 4 ^^^ rl (col S 1) 1 : Nat) : Int) = ((th S y : Nat) : Int) := by
        rw [show th S y = _ from hy.out ▸ th_at (S := S) (q := q) (x := 0) (by omega)]
        have := hy.out
        exact xor_nat (HS.out _ (by omega)) (xor_lt (col_lt HS.out (by omega)) (rl_lt _ (col_lt HS.out (by omega))))
      have u0 : bits .xor .u64 ((col S 4 : Nat) : Int) ((rl (col S 1) 1 : Nat) : Int) = ((col S 4 ^^^ rl (col S 1) 1 : Nat) : Int) := xor_nat (col_lt HS.out (by omega)) (rl_lt _ (col_lt HS.out (by omega)))
      have l0 : col S 1 < B := col_lt HS.out (by omega)
      try simp only [Act.put, List.setIfInBounds_toArray, List.set_cons_succ, List.set_cons_zero]
      refine region_last2 (aQ := ?aQ0) 12 (by kernel_rfl) (by kernel_rfl) (fun w1 => ?hq0) (fun w0' hb' => ?hh0)
      case hq0 =>
        have cx : ∀ g : Ext w1.on, g.on.cell? ⟨b, y, none⟩ = some (.int .u64 ((S y : Nat) : Int)) := fun g => by
          have := blk_cell (g.block (w1.block HF0.out)) (sa_get (i := y) (by omega))
          rwa [upto_here] at this
        simp only [List.take_succ_cons, List.take_zero]
        repeat (go_big_quiet_step ((go_at_call 25; exact calls_ext ((rot _ 1 _ l0 (by decide)).mono fun _ w' ⟨a, b⟩ => ⟨a, by subst b; exact Below.refl _ _⟩))))
        refine wpQuiet_nil ?_
        rfl
      have g0 : w0'.heap[b]? = some (.cells (sa (upto (th S) S y)) 23) := Ext.block ⟨w0', hb'⟩ HF0.out
      replace HWr := Lib.hid (HWr.out.trans (Wrote.of_below hb'))
      clear HF0 hb'
      have cx := blk_cell g0 (sa_get (i := y) (by omega))
      have fz := blk_frozen (j := y) g0
      have h0 : (w0'.setCell ⟨b, y, none⟩ (.int .u64 ((th S y : Nat) : Int))).heap[b]? = _ := blk_set g0 _
      rw [upto_next _ _ (by omega)] at h0
      have HH := Lib.hid h0
      have HG := Lib.hid g0
      clear h0 g0
      simp only [List.drop_succ_cons, List.drop_zero]
      go_wp2_with fail
      replace HWr := Lib.hid (HWr.out.trans (Wrote.put (j := y) w0' (.int .u64 ((th S y : Nat) : Int))))
      have f1 := HH.out
      clear HH HG cx fz v0 u0 l0
      generalize w0'.setCell ⟨b, y, none⟩ (.int .u64 ((th S y : Nat) : Int)) = W1 at *
      have HF1 := Lib.hid f1
      clear f1
      have v1 : bits .xor .u64 ((S (y + 1) : Nat) : Int) ((col S 0 ^^^ rl (col S 2) 1 : Nat) : Int) = ((th S (y + 1) : Nat) : Int) := by
        rw [show th S (y + 1) = _ from hy.out ▸ th_at (S := S) (q := q) (x := 1) (by omega)]
        have := hy.out
        exact xor_nat (HS.out _ (by omega)) (xor_lt (col_lt HS.out (by omega)) (rl_lt _ (col_lt HS.out (by omega))))
      have u1 : bits .xor .u64 ((col S 0 : Nat) : Int) ((rl (col S 2) 1 : Nat) : Int) = ((col S 0 ^^^ rl (col S 2) 1 : Nat) : Int) := xor_nat (col_lt HS.out (by omega)) (rl_lt _ (col_lt HS.out (by omega)))
      have l1 : col S 2 < B := col_lt HS.out (by omega)
      try simp only [Act.put, List.setIfInBounds_toArray, List.set_cons_succ, List.set_cons_zero]
      refine region_last2 (aQ := ?aQ1) 13 (by kernel_rfl) (by kernel_rfl) (fun w1 => ?hq1) (fun w1' hb' => ?hh1)
      case hq1 =>
        have cx : ∀ g : Ext w1.on, g.on.cell? ⟨b, (y + 1), none⟩ = some (.int .u64 ((S (y + 1) : Nat) : Int)) := fun g => by
          have := blk_cell (g.block (w1.block HF1.out)) (sa_get (i := (y + 1)) (by omega))
          rwa [upto_here] at this
        simp only [List.take_succ_cons, List.take_zero]
        repeat (go_big_quiet_step ((go_at_call 25; exact calls_ext ((rot _ 1 _ l1 (by decide)).mono fun _ w' ⟨a, b⟩ => ⟨a, by subst b; exact Below.refl _ _⟩))))
        refine wpQuiet_nil ?_
        rfl
      have g1 : w1'.heap[b]? = some (.cells (sa (upto (th S) S (y + 1))) 23) := Ext.block ⟨w1', hb'⟩ HF1.out
      replace HWr := Lib.hid (HWr.out.trans (Wrote.of_below hb'))
      clear HF1 hb'
      have cx := blk_cell g1 (sa_get (i := (y + 1)) (by omega))
      have fz := blk_frozen (j := (y + 1)) g1
      have h1 : (w1'.setCell ⟨b, (y + 1), none⟩ (.int .u64 ((th S (y + 1) : Nat) : Int))).heap[b]? = _ := blk_set g1 _
      rw [upto_next _ _ (by omega)] at h1
      have HH := Lib.hid h1
      have HG := Lib.hid g1
      clear h1 g1
      simp only [List.drop_succ_cons, List.drop_zero]
      go_wp2_with fail
      replace HWr := Lib.hid (HWr.out.trans (Wrote.put (j := (y + 1)) w1' (.int .u64 ((th S (y + 1) : Nat) : Int))))
      have f2 := HH.out
      clear HH HG cx fz v1 u1 l1
      generalize w1'.setCell ⟨b, (y + 1), none⟩ (.int .u64 ((th S (y + 1) : Nat) : Int)) = W2 at *
      have HF2 := Lib.hid f2
      clear f2
      have v2 : bits .xor .u64 ((S (y + 2) : Nat) : Int) ((col S 1 ^^^ rl (col S 3) 1 : Nat) : Int) = ((th S (y + 2) : Nat) : Int) := by
        rw [show th S (y + 2) = _ from hy.out ▸ th_at (S := S) (q := q) (x := 2) (by omega)]
        have := hy.out
        exact xor_nat (HS.out _ (by omega)) (xor_lt (col_lt HS.out (by omega)) (rl_lt _ (col_lt HS.out (by omega))))
      have u2 : bits .xor .u64 ((col S 1 : Nat) : Int) ((rl (col S 3) 1 : Nat) : Int) = ((col S 1 ^^^ rl (col S 3) 1 : Nat) : Int) := xor_nat (col_lt HS.out (by omega)) (rl_lt _ (col_lt HS.out (by omega)))
      have l2 : col S 3 < B := col_lt HS.out (by omega)
      try simp only [Act.put, List.setIfInBounds_toArray, List.set_cons_succ, List.set_cons_zero]
      refine region_last2 (aQ := ?aQ2) 13 (by kernel_rfl) (by kernel_rfl) (fun w1 => ?hq2) (fun w2' hb' => ?hh2)
      case hq2 =>
        have cx : ∀ g : Ext w1.on, g.on.cell? ⟨b, (y + 2), none⟩ = some (.int .u64 ((S (y + 2) : Nat) : Int)) := fun g => by
          have := blk_cell (g.block (w1.block HF2.out)) (sa_get (i := (y + 2)) (by omega))
          rwa [upto_here] at this
        simp only [List.take_succ_cons, List.take_zero]
        repeat (go_big_quiet_step ((go_at_call 25; exact calls_ext ((rot _ 1 _ l2 (by decide)).mono fun _ w' ⟨a, b⟩ => ⟨a, by subst b; exact Below.refl _ _⟩))))
        refine wpQuiet_nil ?_
        rfl
      have g2 : w2'.heap[b]? = some (.cells (sa (upto (th S) S (y + 2))) 23) := Ext.block ⟨w2', hb'⟩ HF2.out
      replace HWr := Lib.hid (HWr.out.trans (Wrote.of_below hb'))
      clear HF2 hb'
      have cx := blk_cell g2 (sa_get (i := (y + 2)) (by omega))
      have fz := blk_frozen (j := (y + 2)) g2
      have h2 : (w2'.setCell ⟨b, (y + 2), none⟩ (.int .u64 ((th S (y + 2) : Nat) : Int))).heap[b]? = _ := blk_set g2 _
      rw [upto_next _ _ (by omega)] at h2
      have HH := Lib.hid h2
      have HG := Lib.hid g2
      clear h2 g2
      simp only [List.drop_succ_cons, List.drop_zero]
      go_wp2_with fail
      replace HWr := Lib.hid (HWr.out.trans (Wrote.put (j := (y + 2)) w2' (.int .u64 ((th S (y + 2) : Nat) : Int))))
      have f3 := HH.out
      clear HH HG cx fz v2 u2 l2
      generalize w2'.setCell ⟨b, (y + 2), none⟩ (.int .u64 ((th S (y + 2) : Nat) : Int)) = W3 at *
      have HF3 := Lib.hid f3
      clear f3
      have v3 : bits .xor .u64 ((S (y + 3) : Nat) : Int) ((col S 2 ^^^ rl (col S 4) 1 : Nat) : Int) = ((th S (y + 3) : Nat) : Int) := by
        rw [show th S (y + 3) = _ from hy.out ▸ th_at (S := S) (q := q) (x := 3) (by omega)]
        have := hy.out
        exact xor_nat (HS.out _ (by omega)) (xor_lt (col_lt HS.out (by omega)) (rl_lt _ (col_lt HS.out (by omega))))
      have u3 : bits .xor .u64 ((col S 2 : Nat) : Int) ((rl (col S 4) 1 : Nat) : Int) = ((col S 2 ^^^ rl (col S 4) 1 : Nat) : Int) := xor_nat (col_lt HS.out (by omega)) (rl_lt _ (col_lt HS.out (by omega)))
      have l3 : col S 4 < B := col_lt HS.out (by omega)
      try simp only [Act.put, List.setIfInBounds_toArray, List.set_cons_succ, List.set_cons_zero]
      refine region_last2 (aQ := ?aQ3) 13 (by kernel_rfl) (by kernel_rfl) (fun w1 => ?hq3) (fun w3' hb' => ?hh3)
      case hq3 =>
        have cx : ∀ g : Ext w1.on, g.on.cell? ⟨b, (y + 3), none⟩ = some (.int .u64 ((S (y + 3) : Nat) : Int)) := fun g => by
          have := blk_cell (g.block (w1.block HF3.out)) (sa_get (i := (y + 3)) (by omega))
          rwa [upto_here] at this
        simp only [List.take_succ_cons, List.take_zero]
        repeat (go_big_quiet_step ((go_at_call 25; exact calls_ext ((rot _ 1 _ l3 (by decide)).mono fun _ w' ⟨a, b⟩ => ⟨a, by subst b; exact Below.refl _ _⟩))))
        refine wpQuiet_nil ?_
        rfl
      have g3 : w3'.heap[b]? = some (.cells (sa (upto (th S) S (y + 3))) 23) := Ext.block ⟨w3', hb'⟩ HF3.out
      replace HWr := Lib.hid (HWr.out.trans (Wrote.of_below hb'))
      clear HF3 hb'
      have cx := blk_cell g3 (sa_get (i := (y + 3)) (by omega))
      have fz := blk_frozen (j := (y + 3)) g3
      have h3 : (w3'.setCell ⟨b, (y + 3), none⟩ (.int .u64 ((th S (y + 3) : Nat) : Int))).heap[b]? = _ := blk_set g3 _
      rw [upto_next _ _ (by omega)] at h3
      have HH := Lib.hid h3
      have HG := Lib.hid g3
      clear h3 g3
      simp only [List.drop_succ_cons, List.drop_zero]
      go_wp2_with fail
      replace HWr := Lib.hid (HWr.out.trans (Wrote.put (j := (y + 3)) w3' (.int .u64 ((th S (y + 3) : Nat) : Int))))
      have f4 := HH.out
      clear HH HG cx fz v3 u3 l3
      generalize w3'.setCell ⟨b, (y + 3), none⟩ (.int .u64 ((th S (y + 3) : Nat) : Int)) = W4 at *
      have HF4 := Lib.hid f4
      clear f4
      have v4 : bits .xor .u64 ((S (y + 4) : Nat) : Int) ((col S 3 ^^^ rl (col S 0) 1 : Nat) : Int) = ((th S (y + 4) : Nat) : Int) := by
        rw [show th S (y + 4) = _ from hy.out ▸ th_at (S := S) (q := q) (x := 4) (by omega)]
        have := hy.out
        exact xor_nat (HS.out _ (by omega)) (xor_lt (col_lt HS.out (by omega)) (rl_lt _ (col_lt HS.out (by omega))))
      have u4 : bits .xor .u64 ((col S 3 : Nat) : Int) ((rl (col S 0) 1 : Nat) : Int) = ((col S 3 ^^^ rl (col S 0) 1 : Nat) : Int) := xor_nat (col_lt HS.out (by omega)) (rl_lt _ (col_lt HS.out (by omega)))
      have l4 : col S 0 < B := col_lt HS.out (by omega)
      try simp only [Act.put, List.setIfInBounds_toArray, List.set_cons_succ, List.set_cons_zero]
      refine region_last2 (aQ := ?aQ4) 13 (by kernel_rfl) (by kernel_rfl) (fun w1 => ?hq4) (fun w4' hb' => ?hh4)
      case hq4 =>
        have cx : ∀ g : Ext w1.on, g.on.cell? ⟨b, (y + 4), none⟩ = some (.int .u64 ((S (y + 4) : Nat) : Int)) := fun g => by
          have := blk_cell (g.block (w1.block HF4.out)) (sa_get (i := (y + 4)) (by omega))
          rwa [upto_here] at this
        simp only [List.take_succ_cons, List.take_zero]
        repeat (go_big_quiet_step ((go_at_call 25; exact calls_ext ((rot _ 1 _ l4 (by decide)).mono fun _ w' ⟨a, b⟩ => ⟨a, by subst b; exact Below.refl _ _⟩))))
        refine wpQuiet_nil ?_
        rfl
      have g4 : w4'.heap[b]? = some (.cells (sa (upto (th S) S (y + 4))) 23) := Ext.block ⟨w4', hb'⟩ HF4.out
      replace HWr := Lib.hid (HWr.out.trans (Wrote.of_below hb'))
      clear HF4 hb'
      have cx := blk_cell g4 (sa_get (i := (y + 4)) (by omega))
      have fz := blk_frozen (j := (y + 4)) g4
      have h4 : (w4'.setCell ⟨b, (y + 4), none⟩ (.int .u64 ((th S (y + 4) : Nat) : Int))).heap[b]? = _ := blk_set g4 _
      rw [upto_next _ _ (by omega)] at h4
      have HH := Lib.hid h4
      have HG := Lib.hid g4
      clear h4 g4
      simp only [List.drop_succ_cons, List.drop_zero]
      go_wp2_with fail
      replace HWr := Lib.hid (HWr.out.trans (Wrote.put (j := (y + 4)) w4' (.int .u64 ((th S (y + 4) : Nat) : Int))))
      have f5 := HH.out
      clear HH HG cx fz v4 u4 l4
      generalize w4'.setCell ⟨b, (y + 4), none⟩ (.int .u64 ((th S (y + 4) : Nat) : Int)) = W5 at *
      go_wp2_with fail
      refine ⟨⟨y + 5, q + 1, Lib.hid (by have := hy.out; omega), by omega, by go_num, HWr.out, f5⟩, by simp [intOf]; omega⟩
    · obtain rfl : y = 25 := by omega
      rw [upto_end] at f0
      clear hy
      have HF := Lib.hid f0
      have HWr := Lib.hid hw
      clear f0 hw
      go_wp2_with fail
      first | go_ret | go_end0
      exact ⟨rfl, HWr.out, HF.out⟩
end Go.Proofs.YtgejfdbbapjpmaaDoor
