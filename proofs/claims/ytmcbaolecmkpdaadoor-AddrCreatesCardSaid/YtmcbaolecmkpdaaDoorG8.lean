/- Keccak's walks, to begin with: turning a lane's bits; a state in memory; a world in which one block has changed. -/
import Derived.Test.YtmcbaolecmkpdaaDoorG0
import Derived.Test.YtmcbaolecmkpdaaDoorG2
import Derived.Deep.LoopGhost
import Derived.Deep.CutRange
namespace Go.Proofs.YtmcbaolecmkpdaaDoor
open Go.RowKit SmWord
set_option maxRecDepth 100000

theorem and_63 (n : Nat) (hn : n < B) : bits .and .u64 (n : Int) 63 = ((n % 64 : Nat) : Int) := by
  have h := u64_and_nat n 63 hn (by decide)
  rw [show ((63 : Nat) : Int) = 63 from rfl] at h
  rw [h, show (63 : Nat) = 2 ^ 6 - 1 from rfl, Nat.and_two_pow_sub_one_eq_mod]
theorem rot_val {x s : Nat} (hx : x < B) : bits .or .u64 (IntKind.u64.wrap ((x : Int) * 2 ^ s)) ((x : Int) / 2 ^ (64 - s)) = (((x * 2 ^ s % B) ||| (x / 2 ^ (64 - s)) : Nat) : Int) := by
  have e1 : IntKind.u64.wrap ((x : Int) * 2 ^ s) = ((x * 2 ^ s % B : Nat) : Int) := by
    rw [IntKind.wrap_u64, show (x : Int) * 2 ^ s = ((x * 2 ^ s : Nat) : Int) by simp]
    generalize x * 2 ^ s = y
    simp only [B]
    omega
  have e2 : (x : Int) / 2 ^ (64 - s) = ((x / 2 ^ (64 - s) : Nat) : Int) := by simp
  rw [e1, e2, u64_or_nat _ _ (Nat.mod_lt _ (by decide)) (Nat.lt_of_le_of_lt (Nat.div_le_self _ _) hx)]
theorem rot_walk (x n s : Nat) (w : World) (hx : x < B) (hn : n < 1000) (hs : n % 64 = s) :
    Calls Tryd.prog 63 #[.int .u64 (x : Int), .int .i64 (n : Int)] w fun e w' => e = .returned (.int .u64 ((rl x n : Nat) : Int)) ∧ w' = w := by
  have ha := and_63 n (by simp only [B]; omega)
  have hr : rl x n = (x * 2 ^ s % B) ||| (x / 2 ^ (64 - s)) := by rw [rl, hs]
  rw [hs] at ha
  have hs2 : s < 64 := by omega
  rw [hr]
  clear hr hs
  go_enter Tryd.func63, Tryd.ntmps63
  go_wp2_with fail
  rw [rot_val hx]
  go_ret
  exact ⟨rfl, rfl⟩
theorem rot (x n : Nat) (w : World) (hx : x < B) (hn : n < 1000) :
    Calls Tryd.prog 63 #[.int .u64 (x : Int), .int .i64 (n : Int)] w fun e w' => e = .returned (.int .u64 ((rl x n : Nat) : Int)) ∧ w' = w := rot_walk x n _ w hx hn rfl
theorem up_zero (x n : Nat) (w : World) (hn : n < 1000) (hs : (n : Int) % 64 = 0) :
    Calls Tryd.prog 62 #[.int .u64 (x : Int), .int .i64 (n : Int)] w fun e w' => e = .returned (.int .u64 (x : Int)) ∧ Below w.heap.size w w' := by
  go_enter Tryd.func62, Tryd.ntmps62
  go_wp2_with fail
  go_ret
  exact ⟨rfl, Below.refl _ _⟩
theorem below_drewN (w : World) (n : Nat) : Below w.heap.size w (w.drewN n) := ⟨rfl, rfl, rfl, Nat.le_refl _, fun _ _ => rfl⟩
theorem up_more (x n s : Nat) (w : World) (hx : x < B) (hn : n < 1000) (hs : (n : Int) % 64 = (s : Int)) (h0 : (((s : Nat) : Int) == 0) = false) :
    Calls Tryd.prog 62 #[.int .u64 (x : Int), .int .i64 (n : Int)] w fun e w' => e = .returned (.int .u64 (((x * 2 ^ s % B) ||| (x / 2 ^ (64 - s)) : Nat) : Int)) ∧ Below w.heap.size w w' := by
  have hv := rot_val (s := s) hx
  go_enter Tryd.func62, Tryd.ntmps62
  go_wp2_with fail
  go_quiet (fail)
  go_wp2_with fail
  go_ret
  exact ⟨rfl, below_drewN _ _⟩
theorem up_rot (x n : Nat) (w : World) (hx : x < B) (hn : n < 1000) :
    Calls Tryd.prog 62 #[.int .u64 (x : Int), .int .i64 (n : Int)] w fun e w' => e = .returned (.int .u64 ((rl x n : Nat) : Int)) ∧ Below w.heap.size w w' := by
  by_cases h : n % 64 = 0
  · rw [rl_zero n hx h]
    exact up_zero x n w hn (by omega)
  · have := up_more x n (n % 64) w hx hn (by omega) (by simp; omega)
    rwa [rl]

/-- The lanes of a state. -/
def sa (S : Nat → Nat) : Array Value := arr .u64 25 (fun i => ((S i : Nat) : Int))
def zS : Array Value := sa fun _ => 0
theorem sa_get {S : Nat → Nat} {i : Nat} (h : i < 25) : (sa S)[i]? = some (.int .u64 ((S i : Nat) : Int)) := arr_get _ _ h
theorem sa_set {S : Nat → Nat} {i : Nat} (h : i < 25) (x : Nat) : (sa S).setIfInBounds i (.int .u64 ((x : Nat) : Int)) = sa (fun j => if j = i then x else S j) := by
  unfold sa
  rw [arr_set _ _ _ h]
  refine arr_congr fun j _ => ?_
  by_cases e : j = i <;> simp [e]
theorem sa_congr {S T : Nat → Nat} (h : eqS S T) : sa S = sa T := arr_congr fun i hi => by rw [h i hi]
theorem Tryd.infoS : (Tryd.prog.info? 72).map (fun i => (i.zero, i.size)) = some (some (.agg zS), 25) := by kernel_rfl
theorem zS_run (w : World) : (zeroValue 72).run Tryd.prog w = .ok (.agg zS) w := (zero_of_info Tryd.infoS).1 w
theorem infoArrS (S : Nat → Nat) : (Tryd.prog.info? 72).map (·.size) = some (sa S).size := by rw [sa, arr_size]; exact (zero_of_info Tryd.infoS).2

/-- Of what lay in w only block b may lie otherwise in w'. -/
structure Wrote (b : Nat) (w w' : World) : Prop where
  os : w'.os = w.os
  tape : w'.tape = w.tape
  output : w'.output = w.output
  size : w.heap.size ≤ w'.heap.size
  block : ∀ k, k < w.heap.size → k ≠ b → w'.heap[k]? = w.heap[k]?
theorem Wrote.refl (b : Nat) (w : World) : Wrote b w w := ⟨rfl, rfl, rfl, Nat.le_refl _, fun _ _ _ => rfl⟩
theorem Wrote.trans {b : Nat} {x y z : World} (h : Wrote b x y) (k : Wrote b y z) : Wrote b x z :=
  ⟨k.os.trans h.os, k.tape.trans h.tape, k.output.trans h.output, Nat.le_trans h.size k.size, fun i hi hne => (k.block i (Nat.lt_of_lt_of_le hi h.size) hne).trans (h.block i hi hne)⟩
theorem Wrote.of_below {b : Nat} {w w' : World} (h : Below w.heap.size w w') : Wrote b w w' := ⟨h.os, h.tape, h.output, h.size, fun k hk _ => h.block k hk⟩
theorem Wrote.put {b j : Nat} (w : World) (v : Value) : Wrote b w (w.setCell ⟨b, j, none⟩ v) := ⟨rfl, rfl, rfl, by simp [World.setCell], fun k _ hne => Below.heap_setCell _ _ _ _ hne⟩
theorem Wrote.row {b : Nat} (w : World) (c : Array Value) : Wrote b w (w.setRow b c) := by
  have h := below_setRow (Below.refl b w) (Nat.le_refl b) c
  exact ⟨h.os, h.tape, h.output, h.size, fun k _ hne => setRow_other _ _ _ _ hne⟩
theorem Wrote.below {b B : Nat} {w w' : World} (h : Wrote b w w') (hb : B ≤ b) (hB : B ≤ w.heap.size) : Below B w w' :=
  ⟨h.os, h.tape, h.output, h.size, fun k hk => h.block k (by omega) (by omega)⟩
theorem Wrote.other {b b' : Nat} {w w' : World} {o : Obj} (h : Wrote b w w') (hb : w.heap[b']? = some o) (hne : b' ≠ b) : w'.heap[b']? = some o := by
  rw [h.block b' (Array.getElem?_eq_some_iff.1 hb).1 hne, hb]
theorem Wrote.cell {b : Nat} {w w' : World} {p : Addr} (h : Wrote b w w') (hp : p.block < w.heap.size) (hne : p.block ≠ b) : w'.cell? p = w.cell? p := World.cell?_of_block (w := w) (h.block p.block hp hne)

/-- The two tables lie there. -/
structure Tab (w : World) : Prop where
  two : 0 + 2 + 1 ≤ w.heap.size
  const : ∀ k, k < 24 → w.cell? ⟨0, k, none⟩ = some (.int .u64 ((kc k : Nat) : Int))
  way : ∀ k, k < 24 → w.cell? ⟨2, k, none⟩ = some (.int .i64 ((pos (k + 1) : Nat) : Int))
theorem Tab.below {w w' : World} (h : Tab w) (hb : Below w.heap.size w w') : Tab w' :=
  ⟨Nat.le_trans h.two hb.size, fun k hk => (hb.cell (p := ⟨0, k, none⟩) (Nat.lt_of_lt_of_le (by simp) h.two)).trans (h.const k hk),
    fun k hk => (hb.cell (p := ⟨2, k, none⟩) (Nat.lt_of_lt_of_le (by simp) h.two)).trans (h.way k hk)⟩
theorem Tab.wrote {b : Nat} {w w' : World} (h : Tab w) (hw : Wrote b w w') (hb : 0 + 2 + 1 ≤ b) : Tab w' :=
  ⟨Nat.le_trans h.two hw.size, fun k hk => (hw.cell (p := ⟨0, k, none⟩) (Nat.lt_of_lt_of_le (by simp) h.two) (show 0 ≠ b by omega)).trans (h.const k hk),
    fun k hk => (hw.cell (p := ⟨2, k, none⟩) (Nat.lt_of_lt_of_le (by simp) h.two) (show 2 ≠ b by omega)).trans (h.way k hk)⟩
end Go.Proofs.YtmcbaolecmkpdaaDoor
/- What the function mixColumns of package keccak does: a state in memory is behind the first step; nothing else of what lay before changes. -/
namespace Go.Proofs.YtmcbaolecmkpdaaDoor
open Go.RowKit SmWord
set_option maxRecDepth 100000

theorem xor_nat {x y : Nat} (hx : x < B) (hy : y < B) : bits .xor .u64 (x : Int) (y : Int) = ((x ^^^ y : Nat) : Int) := u64_xor_nat x y hx hy
/-- T below m, S from m on. -/
def upto (T S : Nat → Nat) (m i : Nat) : Nat := if i < m then T i else S i
theorem upto_next (T S : Nat → Nat) {m : Nat} (h : m < 25) : (sa (upto T S m)).setIfInBounds m (.int .u64 ((T m : Nat) : Int)) = sa (upto T S (m + 1)) := by
  rw [sa_set h]
  refine sa_congr fun i _ => ?_
  unfold upto
  by_cases e : i = m
  · subst e; simp
  · by_cases l : i < m
    · simp [e, l, show i < m + 1 by omega]
    · simp [e, l, show ¬ i < m + 1 by omega]
theorem upto_start (T S : Nat → Nat) : sa (upto T S 0) = sa S := sa_congr fun i _ => by simp [upto]
theorem upto_end (T S : Nat → Nat) : sa (upto T S 25) = sa T := sa_congr fun i hi => by simp [upto, hi]
theorem upto_here (T S : Nat → Nat) (m : Nat) : upto T S m m = S m := by simp [upto]
theorem th_at {S : Nat → Nat} {q x : Nat} (hx : x < 5) : th S (5 * q + x) = S (5 * q + x) ^^^ (col S ((x + 4) % 5) ^^^ rl (col S ((x + 1) % 5)) 1) := by
  unfold th
  rw [show (5 * q + x) % 5 = x by omega]
set_option maxHeartbeats 4000000 in
theorem mixc_walk (b : Nat) (S : Nat → Nat) (w : World) (hS : okS S) (hb : w.heap[b]? = some (.cells (sa S) 72)) :
    Calls Tryd.prog 56 #[.pointer (some ⟨b, 0, none⟩)] w fun e w' => e = .returned (.tuple #[]) ∧ Wrote b w w' ∧ w'.heap[b]? = some (.cells (sa (th S)) 72) := by
  have c0 := blk_cell hb (sa_get (S := S) (i := 0) (by omega))
  have c1 := blk_cell hb (sa_get (S := S) (i := 1) (by omega))
  have c2 := blk_cell hb (sa_get (S := S) (i := 2) (by omega))
  have c3 := blk_cell hb (sa_get (S := S) (i := 3) (by omega))
  have c4 := blk_cell hb (sa_get (S := S) (i := 4) (by omega))
  have c5 := blk_cell hb (sa_get (S := S) (i := 5) (by omega))
  have c6 := blk_cell hb (sa_get (S := S) (i := 6) (by omega))
  have c7 := blk_cell hb (sa_get (S := S) (i := 7) (by omega))
  have c8 := blk_cell hb (sa_get (S := S) (i := 8) (by omega))
  have c9 := blk_cell hb (sa_get (S := S) (i := 9) (by omega))
  have c10 := blk_cell hb (sa_get (S := S) (i := 10) (by omega))
  have c11 := blk_cell hb (sa_get (S := S) (i := 11) (by omega))
  have c12 := blk_cell hb (sa_get (S := S) (i := 12) (by omega))
  have c13 := blk_cell hb (sa_get (S := S) (i := 13) (by omega))
  have c14 := blk_cell hb (sa_get (S := S) (i := 14) (by omega))
  have c15 := blk_cell hb (sa_get (S := S) (i := 15) (by omega))
  have c16 := blk_cell hb (sa_get (S := S) (i := 16) (by omega))
  have c17 := blk_cell hb (sa_get (S := S) (i := 17) (by omega))
  have c18 := blk_cell hb (sa_get (S := S) (i := 18) (by omega))
  have c19 := blk_cell hb (sa_get (S := S) (i := 19) (by omega))
  have c20 := blk_cell hb (sa_get (S := S) (i := 20) (by omega))
  have c21 := blk_cell hb (sa_get (S := S) (i := 21) (by omega))
  have c22 := blk_cell hb (sa_get (S := S) (i := 22) (by omega))
  have c23 := blk_cell hb (sa_get (S := S) (i := 23) (by omega))
  have c24 := blk_cell hb (sa_get (S := S) (i := 24) (by omega))
  have x01 : bits .xor .u64 ((S 0 : Nat) : Int) ((S 5 : Nat) : Int) = ((S 0 ^^^ S 5 : Nat) : Int) := xor_nat (hS 0 (by omega)) (hS 5 (by omega))
  have x02 : bits .xor .u64 ((S 0 ^^^ S 5 : Nat) : Int) ((S 10 : Nat) : Int) = ((S 0 ^^^ S 5 ^^^ S 10 : Nat) : Int) := xor_nat (xor_lt (hS 0 (by omega)) (hS 5 (by omega))) (hS 10 (by omega))
  have x03 : bits .xor .u64 ((S 0 ^^^ S 5 ^^^ S 10 : Nat) : Int) ((S 15 : Nat) : Int) = ((S 0 ^^^ S 5 ^^^ S 10 ^^^ S 15 : Nat) : Int) := xor_nat (xor_lt (xor_lt (hS 0 (by omega)) (hS 5 (by omega))) (hS 10 (by omega))) (hS 15 (by omega))
  have x04 : bits .xor .u64 ((S 0 ^^^ S 5 ^^^ S 10 ^^^ S 15 : Nat) : Int) ((S 20 : Nat) : Int) = ((col S 0 : Nat) : Int) := xor_nat (xor_lt (xor_lt (xor_lt (hS 0 (by omega)) (hS 5 (by omega))) (hS 10 (by omega))) (hS 15 (by omega))) (hS 20 (by omega))
  have x11 : bits .xor .u64 ((S 1 : Nat) : Int) ((S 6 : Nat) : Int) = ((S 1 ^^^ S 6 : Nat) : Int) := xor_nat (hS 1 (by omega)) (hS 6 (by omega))
  have x12 : bits .xor .u64 ((S 1 ^^^ S 6 : Nat) : Int) ((S 11 : Nat) : Int) = ((S 1 ^^^ S 6 ^^^ S 11 : Nat) : Int) := xor_nat (xor_lt (hS 1 (by omega)) (hS 6 (by omega))) (hS 11 (by omega))
  have x13 : bits .xor .u64 ((S 1 ^^^ S 6 ^^^ S 11 : Nat) : Int) ((S 16 : Nat) : Int) = ((S 1 ^^^ S 6 ^^^ S 11 ^^^ S 16 : Nat) : Int) := xor_nat (xor_lt (xor_lt (hS 1 (by omega)) (hS 6 (by omega))) (hS 11 (by omega))) (hS 16 (by omega))
  have x14 : bits .xor .u64 ((S 1 ^^^ S 6 ^^^ S 11 ^^^ S 16 : Nat) : Int) ((S 21 : Nat) : Int) = ((col S 1 : Nat) : Int) := xor_nat (xor_lt (xor_lt (xor_lt (hS 1 (by omega)) (hS 6 (by omega))) (hS 11 (by omega))) (hS 16 (by omega))) (hS 21 (by omega))
  have x21 : bits .xor .u64 ((S 2 : Nat) : Int) ((S 7 : Nat) : Int) = ((S 2 ^^^ S 7 : Nat) : Int) := xor_nat (hS 2 (by omega)) (hS 7 (by omega))
  have x22 : bits .xor .u64 ((S 2 ^^^ S 7 : Nat) : Int) ((S 12 : Nat) : Int) = ((S 2 ^^^ S 7 ^^^ S 12 : Nat) : Int) := xor_nat (xor_lt (hS 2 (by omega)) (hS 7 (by omega))) (hS 12 (by omega))
  have x23 : bits .xor .u64 ((S 2 ^^^ S 7 ^^^ S 12 : Nat) : Int) ((S 17 : Nat) : Int) = ((S 2 ^^^ S 7 ^^^ S 12 ^^^ S 17 : Nat) : Int) := xor_nat (xor_lt (xor_lt (hS 2 (by omega)) (hS 7 (by omega))) (hS 12 (by omega))) (hS 17 (by omega))
  have x24 : bits .xor .u64 ((S 2 ^^^ S 7 ^^^ S 12 ^^^ S 17 : Nat) : Int) ((S 22 : Nat) : Int) = ((col S 2 : Nat) : Int) := xor_nat (xor_lt (xor_lt (xor_lt (hS 2 (by omega)) (hS 7 (by omega))) (hS 12 (by omega))) (hS 17 (by omega))) (hS 22 (by omega))
  have x31 : bits .xor .u64 ((S 3 : Nat) : Int) ((S 8 : Nat) : Int) = ((S 3 ^^^ S 8 : Nat) : Int) := xor_nat (hS 3 (by omega)) (hS 8 (by omega))
  have x32 : bits .xor .u64 ((S 3 ^^^ S 8 : Nat) : Int) ((S 13 : Nat) : Int) = ((S 3 ^^^ S 8 ^^^ S 13 : Nat) : Int) := xor_nat (xor_lt (hS 3 (by omega)) (hS 8 (by omega))) (hS 13 (by omega))
  have x33 : bits .xor .u64 ((S 3 ^^^ S 8 ^^^ S 13 : Nat) : Int) ((S 18 : Nat) : Int) = ((S 3 ^^^ S 8 ^^^ S 13 ^^^ S 18 : Nat) : Int) := xor_nat (xor_lt (xor_lt (hS 3 (by omega)) (hS 8 (by omega))) (hS 13 (by omega))) (hS 18 (by omega))
  have x34 : bits .xor .u64 ((S 3 ^^^ S 8 ^^^ S 13 ^^^ S 18 : Nat) : Int) ((S 23 : Nat) : Int) = ((col S 3 : Nat) : Int) := xor_nat (xor_lt (xor_lt (xor_lt (hS 3 (by omega)) (hS 8 (by omega))) (hS 13 (by omega))) (hS 18 (by omega))) (hS 23 (by omega))
  have x41 : bits .xor .u64 ((S 4 : Nat) : Int) ((S 9 : Nat) : Int) = ((S 4 ^^^ S 9 : Nat) : Int) := xor_nat (hS 4 (by omega)) (hS 9 (by omega))
  have x42 : bits .xor .u64 ((S 4 ^^^ S 9 : Nat) : Int) ((S 14 : Nat) : Int) = ((S 4 ^^^ S 9 ^^^ S 14 : Nat) : Int) := xor_nat (xor_lt (hS 4 (by omega)) (hS 9 (by omega))) (hS 14 (by omega))
  have x43 : bits .xor .u64 ((S 4 ^^^ S 9 ^^^ S 14 : Nat) : Int) ((S 19 : Nat) : Int) = ((S 4 ^^^ S 9 ^^^ S 14 ^^^ S 19 : Nat) : Int) := xor_nat (xor_lt (xor_lt (hS 4 (by omega)) (hS 9 (by omega))) (hS 14 (by omega))) (hS 19 (by omega))
  have x44 : bits .xor .u64 ((S 4 ^^^ S 9 ^^^ S 14 ^^^ S 19 : Nat) : Int) ((S 24 : Nat) : Int) = ((col S 4 : Nat) : Int) := xor_nat (xor_lt (xor_lt (xor_lt (hS 4 (by omega)) (hS 9 (by omega))) (hS 14 (by omega))) (hS 19 (by omega))) (hS 24 (by omega))
  have HS := Lib.hid hS
  have HW := Lib.hid hb
  clear hS hb
  go_enter Tryd.func56, Tryd.ntmps56
  go_wp2_with fail
  go_quiet (fail)
  go_wp2_with fail
  go_quiet (fail)
  go_wp2_with fail
  go_quiet (fail)
  go_wp2_with fail
  go_quiet (fail)
  go_wp2_with fail
  go_quiet (fail)
  go_wp2_with fail
  clear x01 x02 x03 x04
  clear x11 x12 x13 x14
  clear x21 x22 x23 x24
  clear x31 x32 x33 x34
  clear x41 x42 x43 x44
  clear c0 c1 c2 c3 c4 c5 c6 c7 c8 c9 c10 c11 c12 c13 c14 c15 c16 c17 c18 c19 c20 c21 c22 c23 c24
  rename_i n3 n2 n1 n0
  have hw : Wrote b w (((((w.drewN n3).drewN n2).drewN n1).drewN n0).drewN nq) := ⟨rfl, rfl, rfl, Nat.le_refl _, fun _ _ _ => rfl⟩
  have f0 : (((((w.drewN n3).drewN n2).drewN n1).drewN n0).drewN nq).heap[b]? = some (.cells (sa (upto (th S) S 0)) 72) := by rw [upto_start]; exact HW.out
  clear HW
  generalize (((((w.drewN n3).drewN n2).drewN n1).drewN n0).drewN nq) = W at *
  go_loopw [7] (fun i wr => ∃ y q : Nat, Hid (y = 5 * q) ∧ y ≤ 25 ∧ i = .int .i64 y ∧ Wrote b w wr ∧ wr.heap[b]? = some (.cells (sa (upto (th S) S y)) 72)) (fun i _ => 25 - (intOf i).toNat)
  case atStart => exact ⟨0, 0, Lib.hid rfl, by omega, rfl, hw, f0⟩
  case round =>
    clear hw f0
    obtain ⟨y, q, hy, hle, rfl, hw, f0⟩ := hrel
    by_cases hlt : y < 25
    · have hy20 : y ≤ 20 := by have := hy.out; omega
      have HWr := Lib.hid hw
      clear hw
      go_wp2_with fail
      have HF0 := Lib.hid f0
      clear f0
      have v0 : bits .xor .u64 ((S y : Nat) : Int) ((col S 4 ^^^ rl (col S 1) 1 : Nat) : Int) = ((th S y : Nat) : Int) := by
        rw [show th S y = _ from hy.out ▸ th_at (S := S) (q := q) (x := 0) (by omega)]
        have := hy.out
        exact xor_nat (HS.out _ (by omega)) (xor_lt (col_lt HS.out (by omega)) (rl_lt _ (col_lt HS.out (by omega))))
      have u0 : bits .xor .u64 ((col S 4 : Nat) : Int) ((rl (col S 1) 1 : Nat) : Int) = ((col S 4 ^^^ rl (col S 1) 1 : Nat) : Int) := xor_nat (col_lt HS.out (by omega)) (rl_lt _ (col_lt HS.out (by omega)))
      have l0 : col S 1 < B := col_lt HS.out (by omega)
      try simp only [Act.put, List.setIfInBounds_toArray, List.set_cons_succ, List.set_cons_zero]
      refine region_last2 (aQ := ?aQ0) 12 (by kernel_rfl) (by kernel_rfl) (fun w1 => ?hq0) (fun w0' hb' => ?hh0)
      case hq0 =>
        have cx : ∀ g : Ext w1.on, g.on.cell? ⟨b, y, none⟩ = some (.int .u64 ((S y : Nat) : Int)) := fun g => by
          have := blk_cell (g.block (w1.block HF0.out)) (sa_get (i := y) (by omega))
          rwa [upto_here] at this
        simp only [List.take_succ_cons, List.take_zero]
        repeat (go_big_quiet_step ((go_at_call 63; exact calls_ext ((rot _ 1 _ l0 (by decide)).mono fun _ w' ⟨a, b⟩ => ⟨a, by subst b; exact Below.refl _ _⟩))))
        refine wpQuiet_nil ?_
        rfl
      have g0 : w0'.heap[b]? = some (.cells (sa (upto (th S) S y)) 72) := Ext.block ⟨w0', hb'⟩ HF0.out
      replace HWr := Lib.hid (HWr.out.trans (Wrote.of_below hb'))
      clear HF0 hb'
      have cx := blk_cell g0 (sa_get (i := y) (by omega))
      have fz := blk_frozen (j := y) g0
      have h0 : (w0'.setCell ⟨b, y, none⟩ (.int .u64 ((th S y : Nat) : Int))).heap[b]? = _ := blk_set g0 _
      rw [upto_next _ _ (by omega)] at h0
      have HH := Lib.hid h0
      have HG := Lib.hid g0
      clear h0 g0
      simp only [List.drop_succ_cons, List.drop_zero]
      go_wp2_with fail
      replace HWr := Lib.hid (HWr.out.trans (Wrote.put (j := y) w0' (.int .u64 ((th S y : Nat) : Int))))
      have f1 := HH.out
      clear HH HG cx fz v0 u0 l0
      generalize w0'.setCell ⟨b, y, none⟩ (.int .u64 ((th S y : Nat) : Int)) = W1 at *
      have HF1 := Lib.hid f1
      clear f1
      have v1 : bits .xor .u64 ((S (y + 1) : Nat) : Int) ((col S 0 ^^^ rl (col S 2) 1 : Nat) : Int) = ((th S (y + 1) : Nat) : Int) := by
        rw [show th S (y + 1) = _ from hy.out ▸ th_at (S := S) (q := q) (x := 1) (by omega)]
        have := hy.out
        exact xor_nat (HS.out _ (by omega)) (xor_lt (col_lt HS.out (by omega)) (rl_lt _ (col_lt HS.out (by omega))))
      have u1 : bits .xor .u64 ((col S 0 : Nat) : Int) ((rl (col S 2) 1 : Nat) : Int) = ((col S 0 ^^^ rl (col S 2) 1 : Nat) : Int) := xor_nat (col_lt HS.out (by omega)) (rl_lt _ (col_lt HS.out (by omega)))
      have l1 : col S 2 < B := col_lt HS.out (by omega)
      try simp only [Act.put, List.setIfInBounds_toArray, List.set_cons_succ, List.set_cons_zero]
      refine region_last2 (aQ := ?aQ1) 13 (by kernel_rfl) (by kernel_rfl) (fun w1 => ?hq1) (fun w1' hb' => ?hh1)
      case hq1 =>
        have cx : ∀ g : Ext w1.on, g.on.cell? ⟨b, (y + 1), none⟩ = some (.int .u64 ((S (y + 1) : Nat) : Int)) := fun g => by
          have := blk_cell (g.block (w1.block HF1.out)) (sa_get (i := (y + 1)) (by omega))
          rwa [upto_here] at this
        simp only [List.take_succ_cons, List.take_zero]
        repeat (go_big_quiet_step ((go_at_call 63; exact calls_ext ((rot _ 1 _ l1 (by decide)).mono fun _ w' ⟨a, b⟩ => ⟨a, by subst b; exact Below.refl _ _⟩))))
        refine wpQuiet_nil ?_
        rfl
      have g1 : w1'.heap[b]? = some (.cells (sa (upto (th S) S (y + 1))) 72) := Ext.block ⟨w1', hb'⟩ HF1.out
      replace HWr := Lib.hid (HWr.out.trans (Wrote.of_below hb'))
      clear HF1 hb'
      have cx := blk_cell g1 (sa_get (i := (y + 1)) (by omega))
      have fz := blk_frozen (j := (y + 1)) g1
      have h1 : (w1'.setCell ⟨b, (y + 1), none⟩ (.int .u64 ((th S (y + 1) : Nat) : Int))).heap[b]? = _ := blk_set g1 _
      rw [upto_next _ _ (by omega)] at h1
      have HH := Lib.hid h1
      have HG := Lib.hid g1
      clear h1 g1
      simp only [List.drop_succ_cons, List.drop_zero]
      go_wp2_with fail
      replace HWr := Lib.hid (HWr.out.trans (Wrote.put (j := (y + 1)) w1' (.int .u64 ((th S (y + 1) : Nat) : Int))))
      have f2 := HH.out
      clear HH HG cx fz v1 u1 l1
      generalize w1'.setCell ⟨b, (y + 1), none⟩ (.int .u64 ((th S (y + 1) : Nat) : Int)) = W2 at *
      have HF2 := Lib.hid f2
      clear f2
      have v2 : bits .xor .u64 ((S (y + 2) : Nat) : Int) ((col S 1 ^^^ rl (col S 3) 1 : Nat) : Int) = ((th S (y + 2) : Nat) : Int) := by
        rw [show th S (y + 2) = _ from hy.out ▸ th_at (S := S) (q := q) (x := 2) (by omega)]
        have := hy.out
        exact xor_nat (HS.out _ (by omega)) (xor_lt (col_lt HS.out (by omega)) (rl_lt _ (col_lt HS.out (by omega))))
      have u2 : bits .xor .u64 ((col S 1 : Nat) : Int) ((rl (col S 3) 1 : Nat) : Int) = ((col S 1 ^^^ rl (col S 3) 1 : Nat) : Int) := xor_nat (col_lt HS.out (by omega)) (rl_lt _ (col_lt HS.out (by omega)))
      have l2 : col S 3 < B := col_lt HS.out (by omega)
      try simp only [Act.put, List.setIfInBounds_toArray, List.set_cons_succ, List.set_cons_zero]
      refine region_last2 (aQ := ?aQ2) 13 (by kernel_rfl) (by kernel_rfl) (fun w1 => ?hq2) (fun w2' hb' => ?hh2)
      case hq2 =>
        have cx : ∀ g : Ext w1.on, g.on.cell? ⟨b, (y + 2), none⟩ = some (.int .u64 ((S (y + 2) : Nat) : Int)) := fun g => by
          have := blk_cell (g.block (w1.block HF2.out)) (sa_get (i := (y + 2)) (by omega))
          rwa [upto_here] at this
        simp only [List.take_succ_cons, List.take_zero]
        repeat (go_big_quiet_step ((go_at_call 63; exact calls_ext ((rot _ 1 _ l2 (by decide)).mono fun _ w' ⟨a, b⟩ => ⟨a, by subst b; exact Below.refl _ _⟩))))
        refine wpQuiet_nil ?_
        rfl
      have g2 : w2'.heap[b]? = some (.cells (sa (upto (th S) S (y + 2))) 72) := Ext.block ⟨w2', hb'⟩ HF2.out
      replace HWr := Lib.hid (HWr.out.trans (Wrote.of_below hb'))
      clear HF2 hb'
      have cx := blk_cell g2 (sa_get (i := (y + 2)) (by omega))
      have fz := blk_frozen (j := (y + 2)) g2
      have h2 : (w2'.setCell ⟨b, (y + 2), none⟩ (.int .u64 ((th S (y + 2) : Nat) : Int))).heap[b]? = _ := blk_set g2 _
      rw [upto_next _ _ (by omega)] at h2
      have HH := Lib.hid h2
      have HG := Lib.hid g2
      clear h2 g2
      simp only [List.drop_succ_cons, List.drop_zero]
      go_wp2_with fail
      replace HWr := Lib.hid (HWr.out.trans (Wrote.put (j := (y + 2)) w2' (.int .u64 ((th S (y + 2) : Nat) : Int))))
      have f3 := HH.out
      clear HH HG cx fz v2 u2 l2
      generalize w2'.setCell ⟨b, (y + 2), none⟩ (.int .u64 ((th S (y + 2) : Nat) : Int)) = W3 at *
      have HF3 := Lib.hid f3
      clear f3
      have v3 : bits .xor .u64 ((S (y + 3) : Nat) : Int) ((col S 2 ^^^ rl (col S 4) 1 : Nat) : Int) = ((th S (y + 3) : Nat) : Int) := by
        rw [show th S (y + 3) = _ from hy.out ▸ th_at (S := S) (q := q) (x := 3) (by omega)]
        have := hy.out
        exact xor_nat (HS.out _ (by omega)) (xor_lt (col_lt HS.out (by omega)) (rl_lt _ (col_lt HS.out (by omega))))
      have u3 : bits .xor .u64 ((col S 2 : Nat) : Int) ((rl (col S 4) 1 : Nat) : Int) = ((col S 2 ^^^ rl (col S 4) 1 : Nat) : Int) := xor_nat (col_lt HS.out (by omega)) (rl_lt _ (col_lt HS.out (by omega)))
      have l3 : col S 4 < B := col_lt HS.out (by omega)
      try simp only [Act.put, List.setIfInBounds_toArray, List.set_cons_succ, List.set_cons_zero]
      refine region_last2 (aQ := ?aQ3) 13 (by kernel_rfl) (by kernel_rfl) (fun w1 => ?hq3) (fun w3' hb' => ?hh3)
      case hq3 =>
        have cx : ∀ g : Ext w1.on, g.on.cell? ⟨b, (y + 3), none⟩ = some (.int .u64 ((S (y + 3) : Nat) : Int)) := fun g => by
          have := blk_cell (g.block (w1.block HF3.out)) (sa_get (i := (y + 3)) (by omega))
          rwa [upto_here] at this
        simp only [List.take_succ_cons, List.take_zero]
        repeat (go_big_quiet_step ((go_at_call 63; exact calls_ext ((rot _ 1 _ l3 (by decide)).mono fun _ w' ⟨a, b⟩ => ⟨a, by subst b; exact Below.refl _ _⟩))))
        refine wpQuiet_nil ?_
        rfl
      have g3 : w3'.heap[b]? = some (.cells (sa (upto (th S) S (y + 3))) 72) := Ext.block ⟨w3', hb'⟩ HF3.out
      replace HWr := Lib.hid (HWr.out.trans (Wrote.of_below hb'))
      clear HF3 hb'
      have cx := blk_cell g3 (sa_get (i := (y + 3)) (by omega))
      have fz := blk_frozen (j := (y + 3)) g3
      have h3 : (w3'.setCell ⟨b, (y + 3), none⟩ (.int .u64 ((th S (y + 3) : Nat) : Int))).heap[b]? = _ := blk_set g3 _
      rw [upto_next _ _ (by omega)] at h3
      have HH := Lib.hid h3
      have HG := Lib.hid g3
      clear h3 g3
      simp only [List.drop_succ_cons, List.drop_zero]
      go_wp2_with fail
      replace HWr := Lib.hid (HWr.out.trans (Wrote.put (j := (y + 3)) w3' (.int .u64 ((th S (y + 3) : Nat) : Int))))
      have f4 := HH.out
      clear HH HG cx fz v3 u3 l3
      generalize w3'.setCell ⟨b, (y + 3), none⟩ (.int .u64 ((th S (y + 3) : Nat) : Int)) = W4 at *
      have HF4 := Lib.hid f4
      clear f4
      have v4 : bits .xor .u64 ((S (y + 4) : Nat) : Int) ((col S 3 ^^^ rl (col S 0) 1 : Nat) : Int) = ((th S (y + 4) : Nat) : Int) := by
        rw [show th S (y + 4) = _ from hy.out ▸ th_at (S := S) (q := q) (x := 4) (by omega)]
        have := hy.out
        exact xor_nat (HS.out _ (by omega)) (xor_lt (col_lt HS.out (by omega)) (rl_lt _ (col_lt HS.out (by omega))))
      have u4 : bits .xor .u64 ((col S 3 : Nat) : Int) ((rl (col S 0) 1 : Nat) : Int) = ((col S 3 ^^^ rl (col S 0) 1 : Nat) : Int) := xor_nat (col_lt HS.out (by omega)) (rl_lt _ (col_lt HS.out (by omega)))
      have l4 : col S 0 < B := col_lt HS.out (by omega)
      try simp only [Act.put, List.setIfInBounds_toArray, List.set_cons_succ, List.set_cons_zero]
      refine region_last2 (aQ := ?aQ4) 13 (by kernel_rfl) (by kernel_rfl) (fun w1 => ?hq4) (fun w4' hb' => ?hh4)
      case hq4 =>
        have cx : ∀ g : Ext w1.on, g.on.cell? ⟨b, (y + 4), none⟩ = some (.int .u64 ((S (y + 4) : Nat) : Int)) := fun g => by
          have := blk_cell (g.block (w1.block HF4.out)) (sa_get (i := (y + 4)) (by omega))
          rwa [upto_here] at this
        simp only [List.take_succ_cons, List.take_zero]
        repeat (go_big_quiet_step ((go_at_call 63; exact calls_ext ((rot _ 1 _ l4 (by decide)).mono fun _ w' ⟨a, b⟩ => ⟨a, by subst b; exact Below.refl _ _⟩))))
        refine wpQuiet_nil ?_
        rfl
      have g4 : w4'.heap[b]? = some (.cells (sa (upto (th S) S (y + 4))) 72) := Ext.block ⟨w4', hb'⟩ HF4.out
      replace HWr := Lib.hid (HWr.out.trans (Wrote.of_below hb'))
      clear HF4 hb'
      have cx := blk_cell g4 (sa_get (i := (y + 4)) (by omega))
      have fz := blk_frozen (j := (y + 4)) g4
      have h4 : (w4'.setCell ⟨b, (y + 4), none⟩ (.int .u64 ((th S (y + 4) : Nat) : Int))).heap[b]? = _ := blk_set g4 _
      rw [upto_next _ _ (by omega)] at h4
      have HH := Lib.hid h4
      have HG := Lib.hid g4
      clear h4 g4
      simp only [List.drop_succ_cons, List.drop_zero]
      go_wp2_with fail
      replace HWr := Lib.hid (HWr.out.trans (Wrote.put (j := (y + 4)) w4' (.int .u64 ((th S (y + 4) : Nat) : Int))))
      have f5 := HH.out
      clear HH HG cx fz v4 u4 l4
      generalize w4'.setCell ⟨b, (y + 4), none⟩ (.int .u64 ((th S (y + 4) : Nat) : Int)) = W5 at *
      go_wp2_with fail
      refine ⟨⟨y + 5, q + 1, Lib.hid (by have := hy.out; omega), by omega, by go_num, HWr.out, f5⟩, by simp [intOf]; omega⟩
    · obtain rfl : y = 25 := by omega
      rw [upto_end] at f0
      clear hy
      have HF := Lib.hid f0
      have HWr := Lib.hid hw
      clear f0 hw
      go_wp2_with fail
      first | go_ret | go_end0
      exact ⟨rfl, HWr.out, HF.out⟩
end Go.Proofs.YtmcbaolecmkpdaaDoor
/- What the function moveLanes of package keccak does: a state in memory is behind the second step; nothing else of what lay before changes. -/
namespace Go.Proofs.YtmcbaolecmkpdaaDoor
open Go.RowKit SmWord
set_option maxRecDepth 100000

theorem tri_le : ∀ k, k < 24 → (k + 1) * (k + 2) ≤ 600 := by decide
theorem mv_put (S : Nat → Nat) {k : Nat} (hk : k < 24) : (sa (mv S S k)).setIfInBounds (pos (k + 1)) (.int .u64 ((rl (S (pos k)) ((k + 1) * (k + 2) / 2) : Nat) : Int)) = sa (mv S S (k + 1)) := by
  rw [sa_set (pos_lt _ (by omega))]
  rfl
set_option maxHeartbeats 2000000 in
theorem move_walk (b : Nat) (S : Nat → Nat) (w : World) (hS : okS S) (hT : Tab w) (h2 : 0 + 2 + 1 ≤ b) (hb : w.heap[b]? = some (.cells (sa S) 72)) :
    Calls Tryd.prog 57 #[.pointer (some ⟨b, 0, none⟩)] w fun e w' => e = .returned (.tuple #[]) ∧ Wrote b w w' ∧ w'.heap[b]? = some (.cells (sa (rp S)) 72) := by
  have c1 := blk_cell hb (sa_get (S := S) (i := 1) (by omega))
  have HS := Lib.hid hS
  have HT := Lib.hid hT
  have HW := Lib.hid hb
  clear hS hb hT
  go_enter Tryd.func57, Tryd.ntmps57
  go_wp2_with fail
  clear c1
  go_loopw [9, 2] (fun i h wr => ∃ k : Nat, k ≤ 24 ∧ i = .int .i64 k ∧ h = .int .u64 ((S (pos k) : Nat) : Int) ∧ Wrote b w wr ∧ wr.heap[b]? = some (.cells (sa (mv S S k)) 72)) (fun i _ _ => 24 - (intOf i).toNat)
  case atStart => exact ⟨0, by omega, rfl, rfl, Wrote.refl _ _, HW.out⟩
  case round =>
    clear HW
    obtain ⟨k, hk, rfl, rfl, hw, f0⟩ := hrel
    by_cases hlt : k < 24
    · obtain ⟨m, hm⟩ : ∃ m, (k + 1) * (k + 2) = m := ⟨_, rfl⟩
      have hm6 : m ≤ 600 := by rw [← hm]; exact tri_le k hlt
      have hmI : ((k : Int) + 1) * ((k : Int) + 2) = (m : Int) := by rw [← hm]; simp
      have cw := (HT.out.wrote hw h2).way k hlt
      have hp := pos_lt (k + 1) (by omega)
      have l0 : S (pos k) < B := HS.out _ (pos_lt k (by omega))
      have HM := Lib.hid hm
      have HWr := Lib.hid hw
      have HF := Lib.hid f0
      clear hw f0 hm
      go_wp2_with fail
      clear cw
      refine region_last2 (aQ := ?aQ) 18 (by kernel_rfl) (by kernel_rfl) (fun w1 => ?hq) (fun w0' hb' => ?hh)
      case hq =>
        have cg : ∀ g : Ext w1.on, g.on.cell? ⟨b, pos (k + 1), none⟩ = some (.int .u64 ((S (pos (k + 1)) : Nat) : Int)) := fun g => by
          have := blk_cell (g.block (w1.block HF.out)) (sa_get (i := pos (k + 1)) hp)
          rwa [mv_next S hlt] at this
        simp only [List.take_succ_cons, List.take_zero]
        repeat (go_big_quiet_step ((go_at_call 63; exact calls_ext ((rot _ (m / 2) _ l0 (by omega)).mono fun _ w' ⟨a, b⟩ => ⟨a, by subst b; exact Below.refl _ _⟩))))
        refine wpQuiet_nil ?_
        rfl
      have g0 : w0'.heap[b]? = some (.cells (sa (mv S S k)) 72) := Ext.block ⟨w0', hb'⟩ HF.out
      replace HWr := Lib.hid (HWr.out.trans (Wrote.of_below hb'))
      clear HF hb'
      have cx := blk_cell g0 (sa_get (i := pos (k + 1)) hp)
      have fz := blk_frozen (j := pos (k + 1)) g0
      have h0 : (w0'.setCell ⟨b, pos (k + 1), none⟩ (.int .u64 ((rl (S (pos k)) (m / 2) : Nat) : Int))).heap[b]? = _ := blk_set g0 _
      rw [← HM.out, mv_put S hlt, HM.out] at h0
      have HH := Lib.hid h0
      clear h0 g0
      simp only [List.drop_succ_cons, List.drop_zero]
      go_wp2_with fail
      refine ⟨⟨k + 1, by omega, by go_num, rfl, HWr.out.trans (Wrote.put _ _), HH.out⟩, by simp [intOf]; omega⟩
    · obtain rfl : k = 24 := by omega
      have HF := Lib.hid f0
      have HWr := Lib.hid hw
      clear f0 hw
      go_wp2_with fail
      first | go_ret | go_end0
      exact ⟨rfl, HWr.out, HF.out⟩
end Go.Proofs.YtmcbaolecmkpdaaDoor
/- What the function mixRows of package keccak does: a state in memory is behind the third step; nothing else of what lay before changes. -/
namespace Go.Proofs.YtmcbaolecmkpdaaDoor
open Go.RowKit SmWord
set_option maxRecDepth 100000

theorem ch_at {S : Nat → Nat} {q x : Nat} (hx : x < 5) : ch S (5 * q + x) = S (5 * q + x) ^^^ (S (5 * q + (x + 2) % 5) &&& (18446744073709551615 - S (5 * q + (x + 1) % 5))) := by
  unfold ch
  rw [show (5 * q + x) % 5 = x by omega, show (5 * q + x) / 5 * 5 = 5 * q by omega, Nat.and_comm]; rfl
theorem and_lt {x y : Nat} (hx : x < B) : x &&& y < B := Nat.lt_of_le_of_lt Nat.and_le_left hx
set_option maxHeartbeats 4000000 in
theorem mixr_walk (b : Nat) (S : Nat → Nat) (w : World) (hS : okS S) (hb : w.heap[b]? = some (.cells (sa S) 72)) :
    Calls Tryd.prog 58 #[.pointer (some ⟨b, 0, none⟩)] w fun e w' => e = .returned (.tuple #[]) ∧ Wrote b w w' ∧ w'.heap[b]? = some (.cells (sa (ch S)) 72) := by
  have HS := Lib.hid hS
  have HW := Lib.hid hb
  clear hS hb
  go_enter Tryd.func58, Tryd.ntmps58
  go_wp2_with fail
  go_loopw [2] (fun i wr => ∃ y q : Nat, Hid (y = 5 * q) ∧ y ≤ 25 ∧ i = .int .i64 y ∧ Wrote b w wr ∧ wr.heap[b]? = some (.cells (sa (upto (ch S) S y)) 72)) (fun i _ => 25 - (intOf i).toNat)
  case atStart => exact ⟨0, 0, Lib.hid rfl, by omega, rfl, Wrote.refl _ _, by rw [upto_start]; exact HW.out⟩
  case round =>
    clear HW
    obtain ⟨y, q, hy, hle, rfl, hw, f0⟩ := hrel
    by_cases hlt : y < 25
    · have hy20 : y ≤ 20 := by have := hy.out; omega
      have HWr := Lib.hid hw
      have cu : ∀ j, y ≤ j → j < 25 → wr.cell? ⟨b, j, none⟩ = some (.int .u64 ((S j : Nat) : Int)) := fun j hj h25 => by
        have := blk_cell f0 (sa_get (S := upto (ch S) S y) (i := j) h25)
        rwa [show upto (ch S) S y j = S j by unfold upto; rw [if_neg (by omega)]] at this
      have c0 := cu y (by omega) (by omega)
      have c1 := cu (y + 1) (by omega) (by omega)
      have c2 := cu (y + 2) (by omega) (by omega)
      have c3 := cu (y + 3) (by omega) (by omega)
      have c4 := cu (y + 4) (by omega) (by omega)
      have HF := Lib.hid f0
      clear hw f0 cu
      go_wp2_with fail
      go_quiet (fail)
      go_upto_region 4 with fail
      clear c0 c1 c2 c3 c4
      replace HWr : Hid (Wrote b w (wr.drewN nq)) := Lib.hid (HWr.out.trans ⟨rfl, rfl, rfl, Nat.le_refl _, fun _ _ _ => rfl⟩)
      replace HF : Hid ((wr.drewN nq).heap[b]? = some (.cells (sa (upto (ch S) S y)) 72)) := HF
      generalize wr.drewN nq = W0 at *
      have n0 : bits .andNot .u64 ((S (y + 2) : Nat) : Int) ((S (y + 1) : Nat) : Int) = ((S (y + 2) &&& (18446744073709551615 - S (y + 1)) : Nat) : Int) := u64_andNot_nat _ _ (HS.out _ (by omega)) (HS.out _ (by omega))
      have v0 : bits .xor .u64 ((S y : Nat) : Int) ((S (y + 2) &&& (18446744073709551615 - S (y + 1)) : Nat) : Int) = ((ch S y : Nat) : Int) := by
        rw [show ch S y = _ from hy.out ▸ ch_at (S := S) (q := q) (x := 0) (by omega)]
        have := hy.out
        exact xor_nat (HS.out _ (by omega)) (and_lt (HS.out _ (by omega)))
      have cx := blk_cell HF.out (sa_get (i := y) (by omega))
      have fz := blk_frozen (j := y) HF.out
      have h0 : (W0.setCell ⟨b, y, none⟩ (.int .u64 ((ch S y : Nat) : Int))).heap[b]? = _ := blk_set HF.out _
      rw [upto_next _ _ (by omega)] at h0
      replace HF := Lib.hid h0
      clear h0
      go_upto_region 5 with fail
      clear cx fz n0 v0
      replace HWr := Lib.hid (HWr.out.trans (Wrote.put (j := y) W0 (.int .u64 ((ch S y : Nat) : Int))))
      generalize W0.setCell ⟨b, y, none⟩ (.int .u64 ((ch S y : Nat) : Int)) = W1 at *
      have n1 : bits .andNot .u64 ((S (y + 3) : Nat) : Int) ((S (y + 2) : Nat) : Int) = ((S (y + 3) &&& (18446744073709551615 - S (y + 2)) : Nat) : Int) := u64_andNot_nat _ _ (HS.out _ (by omega)) (HS.out _ (by omega))
      have v1 : bits .xor .u64 ((S (y + 1) : Nat) : Int) ((S (y + 3) &&& (18446744073709551615 - S (y + 2)) : Nat) : Int) = ((ch S (y + 1) : Nat) : Int) := by
        rw [show ch S (y + 1) = _ from hy.out ▸ ch_at (S := S) (q := q) (x := 1) (by omega)]
        have := hy.out
        exact xor_nat (HS.out _ (by omega)) (and_lt (HS.out _ (by omega)))
      have cx := blk_cell HF.out (sa_get (i := y + 1) (by omega))
      have fz := blk_frozen (j := y + 1) HF.out
      have h0 : (W1.setCell ⟨b, y + 1, none⟩ (.int .u64 ((ch S (y + 1) : Nat) : Int))).heap[b]? = _ := blk_set HF.out _
      rw [upto_next _ _ (by omega)] at h0
      replace HF := Lib.hid h0
      clear h0
      go_upto_region 6 with fail
      clear cx fz n1 v1
      replace HWr := Lib.hid (HWr.out.trans (Wrote.put (j := y + 1) W1 (.int .u64 ((ch S (y + 1) : Nat) : Int))))
      generalize W1.setCell ⟨b, y + 1, none⟩ (.int .u64 ((ch S (y + 1) : Nat) : Int)) = W2 at *
      have n2 : bits .andNot .u64 ((S (y + 4) : Nat) : Int) ((S (y + 3) : Nat) : Int) = ((S (y + 4) &&& (18446744073709551615 - S (y + 3)) : Nat) : Int) := u64_andNot_nat _ _ (HS.out _ (by omega)) (HS.out _ (by omega))
      have v2 : bits .xor .u64 ((S (y + 2) : Nat) : Int) ((S (y + 4) &&& (18446744073709551615 - S (y + 3)) : Nat) : Int) = ((ch S (y + 2) : Nat) : Int) := by
        rw [show ch S (y + 2) = _ from hy.out ▸ ch_at (S := S) (q := q) (x := 2) (by omega)]
        have := hy.out
        exact xor_nat (HS.out _ (by omega)) (and_lt (HS.out _ (by omega)))
      have cx := blk_cell HF.out (sa_get (i := y + 2) (by omega))
      have fz := blk_frozen (j := y + 2) HF.out
      have h0 : (W2.setCell ⟨b, y + 2, none⟩ (.int .u64 ((ch S (y + 2) : Nat) : Int))).heap[b]? = _ := blk_set HF.out _
      rw [upto_next _ _ (by omega)] at h0
      replace HF := Lib.hid h0
      clear h0
      go_upto_region 7 with fail
      clear cx fz n2 v2
      replace HWr := Lib.hid (HWr.out.trans (Wrote.put (j := y + 2) W2 (.int .u64 ((ch S (y + 2) : Nat) : Int))))
      generalize W2.setCell ⟨b, y + 2, none⟩ (.int .u64 ((ch S (y + 2) : Nat) : Int)) = W3 at *
      have n3 : bits .andNot .u64 ((S y : Nat) : Int) ((S (y + 4) : Nat) : Int) = ((S y &&& (18446744073709551615 - S (y + 4)) : Nat) : Int) := u64_andNot_nat _ _ (HS.out _ (by omega)) (HS.out _ (by omega))
      have v3 : bits .xor .u64 ((S (y + 3) : Nat) : Int) ((S y &&& (18446744073709551615 - S (y + 4)) : Nat) : Int) = ((ch S (y + 3) : Nat) : Int) := by
        rw [show ch S (y + 3) = _ from hy.out ▸ ch_at (S := S) (q := q) (x := 3) (by omega)]
        have := hy.out
        exact xor_nat (HS.out _ (by omega)) (and_lt (HS.out _ (by omega)))
      have cx := blk_cell HF.out (sa_get (i := y + 3) (by omega))
      have fz := blk_frozen (j := y + 3) HF.out
      have h0 : (W3.setCell ⟨b, y + 3, none⟩ (.int .u64 ((ch S (y + 3) : Nat) : Int))).heap[b]? = _ := blk_set HF.out _
      rw [upto_next _ _ (by omega)] at h0
      replace HF := Lib.hid h0
      clear h0
      go_upto_region 8 with fail
      clear cx fz n3 v3
      replace HWr := Lib.hid (HWr.out.trans (Wrote.put (j := y + 3) W3 (.int .u64 ((ch S (y + 3) : Nat) : Int))))
      generalize W3.setCell ⟨b, y + 3, none⟩ (.int .u64 ((ch S (y + 3) : Nat) : Int)) = W4 at *
      have n4 : bits .andNot .u64 ((S (y + 1) : Nat) : Int) ((S y : Nat) : Int) = ((S (y + 1) &&& (18446744073709551615 - S y) : Nat) : Int) := u64_andNot_nat _ _ (HS.out _ (by omega)) (HS.out _ (by omega))
      have v4 : bits .xor .u64 ((S (y + 4) : Nat) : Int) ((S (y + 1) &&& (18446744073709551615 - S y) : Nat) : Int) = ((ch S (y + 4) : Nat) : Int) := by
        rw [show ch S (y + 4) = _ from hy.out ▸ ch_at (S := S) (q := q) (x := 4) (by omega)]
        have := hy.out
        exact xor_nat (HS.out _ (by omega)) (and_lt (HS.out _ (by omega)))
      have cx := blk_cell HF.out (sa_get (i := y + 4) (by omega))
      have fz := blk_frozen (j := y + 4) HF.out
      have h0 : (W4.setCell ⟨b, y + 4, none⟩ (.int .u64 ((ch S (y + 4) : Nat) : Int))).heap[b]? = _ := blk_set HF.out _
      rw [upto_next _ _ (by omega)] at h0
      replace HF := Lib.hid h0
      clear h0
      go_wp2_with fail
      refine ⟨⟨y + 5, q + 1, Lib.hid (by have := hy.out; omega), by omega, by go_num, HWr.out.trans (Wrote.put _ _), HF.out⟩, by simp [intOf]; omega⟩
    · obtain rfl : y = 25 := by omega
      rw [upto_end] at f0
      clear hy
      have HF := Lib.hid f0
      have HWr := Lib.hid hw
      clear f0 hw
      go_wp2_with fail
      first | go_ret | go_end0
      exact ⟨rfl, HWr.out, HF.out⟩
end Go.Proofs.YtmcbaolecmkpdaaDoor
/- What the functions turn and Turn of package keccak do: a state behind 24 rounds. -/
namespace Go.Proofs.YtmcbaolecmkpdaaDoor
open Go.RowKit SmWord
set_option maxRecDepth 100000

theorem io_put (T : Nat → Nat) (c : Nat) : (sa T).setIfInBounds 0 (.int .u64 ((T 0 ^^^ c : Nat) : Int)) = sa (io c T) := by
  rw [sa_set (by omega)]
  rfl
set_option maxHeartbeats 2000000 in
theorem turn_walk (b : Nat) (S : Nat → Nat) (w : World) (hS : okS S) (hT : Tab w) (h2 : 0 + 2 + 1 ≤ b) (hb : w.heap[b]? = some (.cells (sa S) 72)) :
    Calls Tryd.prog 44 #[.pointer (some ⟨b, 0, none⟩)] w fun e w' => e = .returned (.tuple #[]) ∧ Wrote b w w' ∧ w'.heap[b]? = some (.cells (sa (tn S 24)) 72) := by
  have HS := Lib.hid hS
  have HT := Lib.hid hT
  have HW := Lib.hid hb
  clear hS hb hT
  go_enter Tryd.func44, Tryd.ntmps44
  go_wp2_with fail
  go_loopw [3] (fun i wr => ∃ k : Nat, k ≤ 24 ∧ i = .int .i64 k ∧ Wrote b w wr ∧ wr.heap[b]? = some (.cells (sa (tn S k)) 72)) (fun i _ => 24 - (intOf i).toNat)
  case atStart => exact ⟨0, by omega, rfl, Wrote.refl _ _, HW.out⟩
  case round =>
    clear HW
    obtain ⟨k, hk, rfl, hw, f0⟩ := hrel
    by_cases hlt : k < 24
    · obtain ⟨T, hTk⟩ : ∃ T, T = tn S k := ⟨_, rfl⟩
      have hok : okS T := by rw [hTk]; exact tn_lt HS.out k hk
      rw [← hTk] at f0
      have HK := Lib.hid hTk
      have HF := Lib.hid f0
      have HWr := Lib.hid hw
      have HO := Lib.hid hok
      clear hTk f0 hw hok
      go_wp2_with fail
      refine (mixc_walk b T wr HO.out HF.out).mono ?_
      rintro e w1 ⟨rfl, b1, f1⟩
      replace HWr := Lib.hid (HWr.out.trans b1)
      have HF1 := Lib.hid f1
      clear b1 f1 HF
      go_wp2_with fail
      refine (move_walk b (th T) w1 (th_lt HO.out) (HT.out.wrote HWr.out h2) h2 HF1.out).mono ?_
      rintro e w2 ⟨rfl, b2, f2⟩
      replace HWr := Lib.hid (HWr.out.trans b2)
      have HF2 := Lib.hid f2
      clear b2 f2 HF1
      go_wp2_with fail
      refine (mixr_walk b (rp (th T)) w2 (mv_lt (th_lt HO.out) (th_lt HO.out) 24 (by omega)) HF2.out).mono ?_
      rintro e w3 ⟨rfl, b3, f3⟩
      replace HWr := Lib.hid (HWr.out.trans b3)
      have HF3 := Lib.hid f3
      clear b3 f3 HF2
      have hU : okS (ch (rp (th T))) := ch_lt (mv_lt (th_lt HO.out) (th_lt HO.out) 24 (by omega))
      have HE : Hid (rdk (kc k) T = io (kc k) (ch (rp (th T)))) := Lib.hid rfl
      generalize ch (rp (th T)) = U at *
      have hx : bits .xor .u64 ((U 0 : Nat) : Int) ((kc k : Nat) : Int) = ((U 0 ^^^ kc k : Nat) : Int) := xor_nat (hU 0 (by omega)) (kc_lt k hlt)
      clear hU
      go_wp2_with fail
      refine region_last2 (aQ := ?aQ) 10 (by kernel_rfl) (by kernel_rfl) (fun w1 => ?hq) (fun w0' hb' => ?hh)
      case hq =>
        have cg : ∀ g : Ext w1.on, g.on.cell? ⟨b, 0, none⟩ = some (.int .u64 ((U 0 : Nat) : Int)) := fun g =>
          blk_cell (g.block (w1.block HF3.out)) (sa_get (S := U) (i := 0) (by omega))
        have ck : ∀ g : Ext w1.on, g.on.cell? ⟨0, k, none⟩ = some (.int .u64 ((kc k : Nat) : Int)) := fun g =>
          (((HT.out.wrote HWr.out h2).below (Below.refl _ _).drew).below w1.below |>.below g.below).const k hlt
        simp only [List.take_succ_cons, List.take_zero]
        repeat (go_big_quiet_step (fail))
        refine wpQuiet_nil ?_
        rfl
      have g0 : w0'.heap[b]? = some (.cells (sa U) 72) := Ext.block ⟨w0', hb'⟩ HF3.out
      replace HWr := Lib.hid (HWr.out.trans (Wrote.of_below hb'))
      clear HF3 hb'
      have cx := blk_cell g0 (sa_get (i := 0) (by omega))
      have fz := blk_frozen (j := 0) g0
      have h0 : (w0'.setCell ⟨b, 0, none⟩ (.int .u64 ((U 0 ^^^ kc k : Nat) : Int))).heap[b]? = _ := blk_set g0 _
      rw [io_put, ← HE.out] at h0
      have HH := Lib.hid h0
      clear h0 g0
      simp only [List.drop_succ_cons, List.drop_zero]
      go_wp2_with fail
      refine ⟨⟨k + 1, by omega, by go_num, HWr.out.trans (Wrote.put _ _), by rw [tn, ← HK.out]; exact HH.out⟩, by simp [intOf]; omega⟩
    · obtain rfl : k = 24 := by omega
      have HF := Lib.hid f0
      have HWr := Lib.hid hw
      clear f0 hw
      go_wp2_with fail
      first | go_ret | go_end0
      exact ⟨rfl, HWr.out, HF.out⟩
end Go.Proofs.YtmcbaolecmkpdaaDoor
