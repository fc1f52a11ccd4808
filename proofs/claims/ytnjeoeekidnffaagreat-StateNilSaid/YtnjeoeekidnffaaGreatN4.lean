/- A word as an argument of a statement: it reads as the four parts of a number. -/
import Derived.Test.YtnjeoeekidnffaaGreatN0
import Derived.ProofKit
import Derived.Laws.IdiomArrays
import Derived.Lib.SmallJoins
import Derived.Test.YtnjeoeekidnffaaGreatShelf
import Derived.Lib.Hide
import Derived.LoopN
import Derived.StillTailTactics
namespace Go.Proofs.YtnjeoeekidnffaaGreat
open Go.ChangeShapes Go.WideShapes Go.ChangeAt Go.RowKit SmWord
set_option maxRecDepth 100000

theorem Tryz.own : ownKnob Tryz.prog.godebug = none := by kernel_rfl
theorem Tryz.cellsW : Tryz.prog.cellsOf 44 = 4 := by kernel_rfl

/-- A word that is written out: 0. -/
def w0000 : Value := .agg #[.int .u64 0, .int .u64 0, .int .u64 0, .int .u64 0]
def dw {H : Type} (n : Nat) : DataW H := .agg [.lit (.int .u64 ((l0 n : Nat) : Int)), .lit (.int .u64 ((l1 n : Nat) : Int)), .lit (.int .u64 ((l2 n : Nat) : Int)), .lit (.int .u64 ((l3 n : Nat) : Int))]

theorem wf_u64 {x : Int} (h : (Lit.int .u64 x).wf = true) : ∃ n : Nat, x = (n : Int) ∧ n < B := by
  have h2 : 0 ≤ x ∧ x ≤ 18446744073709551615 := by simpa [Lit.wf, IntKind.min, IntKind.max, IntKind.signed, IntKind.bits] using h
  exact ⟨x.toNat, by omega, by simp only [B]; omega⟩
theorem nat_wf_u64 {n : Nat} (h : n < B) : (Lit.int .u64 (n : Int)).wf = true := by
  have h2 : (0 : Int) ≤ (n : Int) ∧ (n : Int) ≤ 18446744073709551615 := by simp only [B] at h; omega
  simpa [Lit.wf, IntKind.min, IntKind.max, IntKind.signed, IntKind.bits] using h2

theorem open_word {H : Type} {enc : TypeId × Value → H} {W : World} {base : Nat} {v : Value} {d : DataW H} {p : List MemPlace} {sp : Nat → Bool} {hd : Bool}
    (hv : Value.okWide Tryz.prog W .any base 44 v) (h : DataW.Trod enc Tryz.prog W 0 sp hd 44 v d p) : ∃ n : Nat, v = wd n ∧ d = dw n ∧ p = [] := by
  obtain ⟨cs, rfl, hsz, _⟩ : ∃ cs, v = .agg cs ∧ cs.size = Tryz.prog.cellsOf 44 ∧ Row.okWide Tryz.prog W .any base 44 cs := by
    simpa [Value.okWide, Tryz.underlying44] using hv
  rw [Tryz.cellsW] at hsz
  obtain ⟨c0, c1, c2, c3, rfl⟩ := Joins.array4 hsz
  obtain ⟨fuel, hf⟩ := h
  obtain ⟨y0, y1, y2, y3, m, hx, hy0, hy1, hy2, hy3⟩ := trod_array4 Tryz.underlying44 Tryz.cells42 hf
  obtain ⟨x0, e0, rfl, w0⟩ := DataW.trod_int Tryz.underlying42 hy0
  obtain ⟨x1, e1, rfl, w1⟩ := DataW.trod_int Tryz.underlying42 hy1
  obtain ⟨x2, e2, rfl, w2⟩ := DataW.trod_int Tryz.underlying42 hy2
  obtain ⟨x3, e3, rfl, w3⟩ := DataW.trod_int Tryz.underlying42 hy3
  simp at e0 e1 e2 e3
  subst e0 e1 e2 e3
  simp only [Prod.mk.injEq] at hx
  obtain ⟨rfl, rfl⟩ := hx
  obtain ⟨n0, rfl, b0⟩ := wf_u64 w0
  obtain ⟨n1, rfl, b1⟩ := wf_u64 w1
  obtain ⟨n2, rfl, b2⟩ := wf_u64 w2
  obtain ⟨n3, rfl, b3⟩ := wf_u64 w3
  obtain ⟨h0, h1, h2, h3⟩ := parts_num b0 b1 b2 b3
  refine ⟨num n0 n1 n2 n3, (wd_num b0 b1 b2 b3).symm, ?_, rfl⟩
  unfold dw
  rw [h0, h1, h2, h3]
theorem shut_word {H : Type} {enc : TypeId × Value → H} (n : Nat) (W : World) (sp : Nat → Bool) {base : Nat} {hd : Bool} : DataW.Trod enc Tryz.prog W base sp hd 44 (wd n) (dw n) [] := by
  obtain ⟨A0, A1, A2, A3⟩ := l_lt n
  exact ⟨2, by simp [DataW.trod, Value.cells, wa, dw, Tryz.underlying44, Tryz.underlying42, Tryz.cellsW, Tryz.cells42, show List.range 4 = [0, 1, 2, 3] from rfl, nat_wf_u64 A0, nat_wf_u64 A1, nat_wf_u64 A2, nat_wf_u64 A3]⟩
end Go.Proofs.YtnjeoeekidnffaaGreat
/- What the functions Compare and Len of package word do, for every word: Compare returns -1, 0 or 1 as the first is less, the same or more; Len returns how many bits the word has; all older memory is as it was. -/
namespace Go.Proofs.YtnjeoeekidnffaaGreat
open Go.RowKit SmWord
set_option maxRecDepth 100000

theorem below_N {B : Nat} {a w : World} (h : Below B a w) (n : Nat) : Below B a (w.drewN n) := ⟨h.os, h.tape, h.output, h.size, h.block⟩

set_option maxHeartbeats 1000000 in
theorem isNaN_walk (x : Int) (w : World) : Calls Tryz.prog 152 #[.int .u64 x] w fun e w' => e = .returned (.bool false) ∧ w = w' := by
  have h : (x != x) = false := by simp
  go_enter Tryz.func152, Tryz.ntmps152
  go_wp2
  go_ret
  exact ⟨rfl, rfl⟩
def cmpI (x y : Int) : Int := if x < y then -1 else if y < x then 1 else 0
set_option maxHeartbeats 1000000 in
theorem cmp64_walk (x y : Int) (w : World) : Calls Tryz.prog 140 #[.int .u64 x, .int .u64 y] w fun e w' => e = .returned (.int .i64 (cmpI x y)) ∧ w = w' := by
  unfold cmpI
  by_cases h1 : x < y
  · rw [if_pos h1]
    go_enter Tryz.func140, Tryz.ntmps140
    go_wp2_with (go_at_call 152; refine (isNaN_walk _ _).mono ?_; rintro e w' ⟨rfl, rfl⟩)
    go_ret
    exact ⟨rfl, rfl⟩
  · rw [if_neg h1]
    by_cases h2 : y < x
    · rw [if_pos h2]
      go_enter Tryz.func140, Tryz.ntmps140
      go_wp2_with (go_at_call 152; refine (isNaN_walk _ _).mono ?_; rintro e w' ⟨rfl, rfl⟩)
      go_ret
      exact ⟨rfl, rfl⟩
    · rw [if_neg h2]
      go_enter Tryz.func140, Tryz.ntmps140
      go_wp2_with (go_at_call 152; refine (isNaN_walk _ _).mono ?_; rintro e w' ⟨rfl, rfl⟩)
      go_ret
      exact ⟨rfl, rfl⟩

set_option maxHeartbeats 1000000 in
theorem cmp_walkE (a0 a1 a2 a3 b0 b1 b2 b3 : Int) (w : World) (hg : Tryz.prog.eqGuardType Tryz.prog.depth 44 = false)
    (hE : ∀ w : World, (Op.equalIn 10000 44 (.agg #[.int .u64 a0, .int .u64 a1, .int .u64 a2, .int .u64 a3]) (.agg #[.int .u64 b0, .int .u64 b1, .int .u64 b2, .int .u64 b3])).run Tryz.prog w = .ok true w) :
    Calls Tryz.prog 126 #[.agg #[.int .u64 a0, .int .u64 a1, .int .u64 a2, .int .u64 a3], .agg #[.int .u64 b0, .int .u64 b1, .int .u64 b2, .int .u64 b3]] w fun e w' => e = .returned (.int .i64 0) ∧ Below w.heap.size w w' := by
  go_enter Tryz.func126, Tryz.ntmps126
  go_wp2
  go_ret
  refine ⟨rfl, ?_⟩
  repeat (first | exact Below.refl _ _ | refine Below.drew ?_ | refine below_N ?_ _ | refine Below.alloc ?_ (by simp; try omega) _ | refine Below.setCell ?_ (by simp; try omega) _)

set_option maxHeartbeats 1000000 in
theorem cmp_walk3 (a0 a1 a2 a3 b0 b1 b2 b3 v : Int) (w : World) (hg : Tryz.prog.eqGuardType Tryz.prog.depth 44 = false)
    (hE : ∀ w : World, (Op.equalIn 10000 44 (.agg #[.int .u64 a0, .int .u64 a1, .int .u64 a2, .int .u64 a3]) (.agg #[.int .u64 b0, .int .u64 b1, .int .u64 b2, .int .u64 b3])).run Tryz.prog w = .ok false w)
    (h3 : (a3 == b3) = false)
    (H : Hid (∀ w : World, Calls Tryz.prog 140 #[.int .u64 a3, .int .u64 b3] w fun e w' => e = .returned (.int .i64 v) ∧ w = w')) :
    Calls Tryz.prog 126 #[.agg #[.int .u64 a0, .int .u64 a1, .int .u64 a2, .int .u64 a3], .agg #[.int .u64 b0, .int .u64 b1, .int .u64 b2, .int .u64 b3]] w fun e w' => e = .returned (.int .i64 v) ∧ Below w.heap.size w w' := by
  go_enter Tryz.func126, Tryz.ntmps126
  go_wp2
  refine wp_loop_rounds 5 ?_
  rw [rounds_succ]
  go_wp2
  go_quiet (fail)
  go_wp2
  go_quiet ((go_at_call 140; refine (H.out _).mono ?_; rintro e w2 ⟨rfl, rfl⟩; exact ⟨rfl, _, rfl⟩))
  go_wp2
  go_ret
  refine ⟨rfl, ?_⟩
  repeat (first | exact Below.refl _ _ | refine Below.drew ?_ | refine below_N ?_ _ | refine Below.alloc ?_ (by simp; try omega) _ | refine Below.setCell ?_ (by simp; try omega) _)

set_option maxHeartbeats 1000000 in
theorem cmp_walk2 (a0 a1 a2 a3 b0 b1 b2 b3 v : Int) (w : World) (hg : Tryz.prog.eqGuardType Tryz.prog.depth 44 = false)
    (hE : ∀ w : World, (Op.equalIn 10000 44 (.agg #[.int .u64 a0, .int .u64 a1, .int .u64 a2, .int .u64 a3]) (.agg #[.int .u64 b0, .int .u64 b1, .int .u64 b2, .int .u64 b3])).run Tryz.prog w = .ok false w)
    (h3 : (a3 == b3) = true) (h2 : (a2 == b2) = false)
    (H : Hid (∀ w : World, Calls Tryz.prog 140 #[.int .u64 a2, .int .u64 b2] w fun e w' => e = .returned (.int .i64 v) ∧ w = w')) :
    Calls Tryz.prog 126 #[.agg #[.int .u64 a0, .int .u64 a1, .int .u64 a2, .int .u64 a3], .agg #[.int .u64 b0, .int .u64 b1, .int .u64 b2, .int .u64 b3]] w fun e w' => e = .returned (.int .i64 v) ∧ Below w.heap.size w w' := by
  go_enter Tryz.func126, Tryz.ntmps126
  go_wp2
  refine wp_loop_rounds 5 ?_
  rw [rounds_succ]
  go_wp2
  go_quiet (fail)
  go_wp2
  rw [rounds_succ]
  go_wp2
  go_quiet (fail)
  go_wp2
  go_quiet ((go_at_call 140; refine (H.out _).mono ?_; rintro e w2 ⟨rfl, rfl⟩; exact ⟨rfl, _, rfl⟩))
  go_wp2
  go_ret
  refine ⟨rfl, ?_⟩
  repeat (first | exact Below.refl _ _ | refine Below.drew ?_ | refine below_N ?_ _ | refine Below.alloc ?_ (by simp; try omega) _ | refine Below.setCell ?_ (by simp; try omega) _)

set_option maxHeartbeats 1000000 in
theorem cmp_walk1 (a0 a1 a2 a3 b0 b1 b2 b3 v : Int) (w : World) (hg : Tryz.prog.eqGuardType Tryz.prog.depth 44 = false)
    (hE : ∀ w : World, (Op.equalIn 10000 44 (.agg #[.int .u64 a0, .int .u64 a1, .int .u64 a2, .int .u64 a3]) (.agg #[.int .u64 b0, .int .u64 b1, .int .u64 b2, .int .u64 b3])).run Tryz.prog w = .ok false w)
    (h3 : (a3 == b3) = true) (h2 : (a2 == b2) = true) (h1 : (a1 == b1) = false)
    (H : Hid (∀ w : World, Calls Tryz.prog 140 #[.int .u64 a1, .int .u64 b1] w fun e w' => e = .returned (.int .i64 v) ∧ w = w')) :
    Calls Tryz.prog 126 #[.agg #[.int .u64 a0, .int .u64 a1, .int .u64 a2, .int .u64 a3], .agg #[.int .u64 b0, .int .u64 b1, .int .u64 b2, .int .u64 b3]] w fun e w' => e = .returned (.int .i64 v) ∧ Below w.heap.size w w' := by
  go_enter Tryz.func126, Tryz.ntmps126
  go_wp2
  refine wp_loop_rounds 5 ?_
  rw [rounds_succ]
  go_wp2
  go_quiet (fail)
  go_wp2
  rw [rounds_succ]
  go_wp2
  go_quiet (fail)
  go_wp2
  rw [rounds_succ]
  go_wp2
  go_quiet (fail)
  go_wp2
  go_quiet ((go_at_call 140; refine (H.out _).mono ?_; rintro e w2 ⟨rfl, rfl⟩; exact ⟨rfl, _, rfl⟩))
  go_wp2
  go_ret
  refine ⟨rfl, ?_⟩
  repeat (first | exact Below.refl _ _ | refine Below.drew ?_ | refine below_N ?_ _ | refine Below.alloc ?_ (by simp; try omega) _ | refine Below.setCell ?_ (by simp; try omega) _)

set_option maxHeartbeats 1000000 in
theorem cmp_walk0 (a0 a1 a2 a3 b0 b1 b2 b3 v : Int) (w : World) (hg : Tryz.prog.eqGuardType Tryz.prog.depth 44 = false)
    (hE : ∀ w : World, (Op.equalIn 10000 44 (.agg #[.int .u64 a0, .int .u64 a1, .int .u64 a2, .int .u64 a3]) (.agg #[.int .u64 b0, .int .u64 b1, .int .u64 b2, .int .u64 b3])).run Tryz.prog w = .ok false w)
    (h3 : (a3 == b3) = true) (h2 : (a2 == b2) = true) (h1 : (a1 == b1) = true)
    (H : Hid (∀ w : World, Calls Tryz.prog 140 #[.int .u64 a0, .int .u64 b0] w fun e w' => e = .returned (.int .i64 v) ∧ w = w')) :
    Calls Tryz.prog 126 #[.agg #[.int .u64 a0, .int .u64 a1, .int .u64 a2, .int .u64 a3], .agg #[.int .u64 b0, .int .u64 b1, .int .u64 b2, .int .u64 b3]] w fun e w' => e = .returned (.int .i64 v) ∧ Below w.heap.size w w' := by
  go_enter Tryz.func126, Tryz.ntmps126
  go_wp2
  refine wp_loop_rounds 5 ?_
  rw [rounds_succ]
  go_wp2
  go_quiet (fail)
  go_wp2
  rw [rounds_succ]
  go_wp2
  go_quiet (fail)
  go_wp2
  rw [rounds_succ]
  go_wp2
  go_quiet (fail)
  go_wp2
  rw [rounds_succ]
  go_wp2
  go_quiet (fail)
  go_wp2
  go_quiet ((go_at_call 140; refine (H.out _).mono ?_; rintro e w2 ⟨rfl, rfl⟩; exact ⟨rfl, _, rfl⟩))
  go_wp2
  go_ret
  refine ⟨rfl, ?_⟩
  repeat (first | exact Below.refl _ _ | refine Below.drew ?_ | refine below_N ?_ _ | refine Below.alloc ?_ (by simp; try omega) _ | refine Below.setCell ?_ (by simp; try omega) _)

theorem Tryz.guardW : Tryz.prog.eqGuardType Tryz.prog.depth 44 = false := by kernel_rfl
/-- -1, 0, 1. -/
def cmpN (m n : Nat) : Int := if m < n then -1 else if n < m then 1 else 0
theorem cmpI_nat (m n : Nat) : cmpI (m : Int) (n : Int) = cmpN m n := by
  unfold cmpI cmpN
  simp only [Int.ofNat_lt]
theorem cmp_top {a0 a1 a2 a3 b0 b1 b2 b3 : Nat} (A0 : a0 < B) (A1 : a1 < B) (A2 : a2 < B) (C0 : b0 < B) (C1 : b1 < B) (C2 : b2 < B) :
    (a3 ≠ b3 → cmpN (num a0 a1 a2 a3) (num b0 b1 b2 b3) = cmpN a3 b3) ∧ (a3 = b3 → a2 ≠ b2 → cmpN (num a0 a1 a2 a3) (num b0 b1 b2 b3) = cmpN a2 b2) ∧
    (a3 = b3 → a2 = b2 → a1 ≠ b1 → cmpN (num a0 a1 a2 a3) (num b0 b1 b2 b3) = cmpN a1 b1) ∧ (a3 = b3 → a2 = b2 → a1 = b1 → cmpN (num a0 a1 a2 a3) (num b0 b1 b2 b3) = cmpN a0 b0) := by
  unfold cmpN num
  simp only [B] at *
  refine ⟨fun h => ?_, fun h h' => ?_, fun h h' h'' => ?_, fun h h' h'' => ?_⟩
  all_goals (repeat' split) <;> omega
theorem compare_wd (m n : Nat) (w : World) :
    Calls Tryz.prog 126 #[wd m, wd n] w fun e w' => e = .returned (.int .i64 (cmpN (m % M) (n % M))) ∧ Below w.heap.size w w' := by
  obtain ⟨A0, A1, A2, A3⟩ := l_lt m
  obtain ⟨C0, C1, C2, C3⟩ := l_lt n
  have hq := fun w => equal_wa m n w
  by_cases he : m % M = n % M
  · have hv : cmpN (m % M) (n % M) = 0 := by rw [he]; unfold cmpN; simp
    rw [hv]
    rw [decide_eq_true he] at hq
    exact cmp_walkE _ _ _ _ _ _ _ _ w Tryz.guardW hq
  · rw [decide_eq_false he] at hq
    obtain ⟨t3, t2, t1, t0⟩ := cmp_top (a3 := l3 m) (b3 := l3 n) A0 A1 A2 C0 C1 C2
    rw [num_parts, num_parts] at t3 t2 t1 t0
    by_cases h3 : l3 m = l3 n
    · by_cases h2 : l2 m = l2 n
      · by_cases h1 : l1 m = l1 n
        · rw [t0 h3 h2 h1, ← cmpI_nat]
          exact cmp_walk0 _ _ _ _ _ _ _ _ _ w Tryz.guardW hq (by simp [h3]) (by simp [h2]) (by simp [h1]) (fun w => cmp64_walk _ _ w)
        · rw [t1 h3 h2 h1, ← cmpI_nat]
          exact cmp_walk1 _ _ _ _ _ _ _ _ _ w Tryz.guardW hq (by simp [h3]) (by simp [h2]) (beq_eq_false_iff_ne.2 (by omega)) (fun w => cmp64_walk _ _ w)
      · rw [t2 h3 h2, ← cmpI_nat]
        exact cmp_walk2 _ _ _ _ _ _ _ _ _ w Tryz.guardW hq (by simp [h3]) (beq_eq_false_iff_ne.2 (by omega)) (fun w => cmp64_walk _ _ w)
    · rw [t3 h3, ← cmpI_nat]
      exact cmp_walk3 _ _ _ _ _ _ _ _ _ w Tryz.guardW hq (beq_eq_false_iff_ne.2 (by omega)) (fun w => cmp64_walk _ _ w)

theorem len64_nat (x : Nat) (w : World) (h : x < B) : Calls Tryz.prog 124 #[.int .u64 (x : Int)] w fun e w' => e = .returned (.int .i64 ((Lib.bitLen x : Nat) : Int)) ∧ w = w' :=
  (Tryz.bits_Len64 x w (by omega) (by simp only [B] at h; omega)).mono fun e w' ⟨h1, h2⟩ => ⟨by rw [h1, Int.toNat_natCast], h2.symm⟩

end Go.Proofs.YtnjeoeekidnffaaGreat
/- What the functions Not, And, Or, Xor and mulAdd of package word do, for every word: each returns the word it should, and leaves all older memory as it was. -/
namespace Go.Proofs.YtnjeoeekidnffaaGreat
open Go.RowKit SmWord
set_option maxRecDepth 100000

theorem xor_ones (a : Nat) (ha : a < B) : bits .xor .u64 IntKind.u64.max (a : Int) = ((B - 1 - a : Nat) : Int) := by
  have h := u64_xor_nat (B - 1) a (by decide) ha
  have e : (IntKind.u64.max : Int) = ((B - 1 : Nat) : Int) := by decide
  rw [e, h]
  congr 1
  apply Nat.eq_of_testBit_eq
  intro i
  have h1 : (B - 1).testBit i = decide (i < 64) := Nat.testBit_two_pow_sub_one 64 i
  have h2 : (B - 1 - a).testBit i = (decide (i < 64) && !a.testBit i) := by
    have := Nat.testBit_two_pow_sub_succ (n := 64) (x := a) ha i
    rw [← this]; congr 1; simp only [B]; omega
  rw [Nat.testBit_xor, h1, h2]
  by_cases hi : i < 64
  · simp [hi]
  · have : a.testBit i = false := Nat.testBit_lt_two_pow (Nat.lt_of_lt_of_le ha (Nat.pow_le_pow_right (n := 2) (i := 64) (by decide) (by omega)))
    simp [hi, this]
end Go.Proofs.YtnjeoeekidnffaaGreat
/- What the function Mul of package word does, for every two words: it returns their product, going round, and leaves all older memory as it was. -/
namespace Go.Proofs.YtnjeoeekidnffaaGreat
open Go.RowKit SmWord
set_option maxRecDepth 100000

theorem region_tail {P : Program} {id : Nat} {Q : Exit → Act → World → Prop} {a : Act} {w : World} {l : List Oper} (n : Nat) (hm : P.follows .mixedOrders = true) (hB : Region.lexTailB .any l.toArray n = true)
    (h : wpStill P l.toArray w.drew (fun a' => wpList P l.toArray Q (l.drop n) a' w.drew) (l.take n) a) : (Code.region id l.toArray true).wp P Q a w := wp_region_still_tail n hm hB h

end Go.Proofs.YtnjeoeekidnffaaGreat
