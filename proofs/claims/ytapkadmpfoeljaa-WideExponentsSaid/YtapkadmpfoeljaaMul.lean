/- What the function Mul of package word does, for every two words: it returns their product, going round, and leaves all older memory as it was. -/
import Derived.Test.YtapkadmpfoeljaaWordB
import Derived.StillTailTactics
namespace Go.Proofs.Ytapkadmpfoeljaa
open Go.RowKit SmWord
set_option maxRecDepth 100000

theorem region_tail {P : Program} {id : Nat} {Q : Exit → Act → World → Prop} {a : Act} {w : World} {l : List Oper} (n : Nat) (hm : P.follows .mixedOrders = true) (hB : Region.lexTailB .any l.toArray n = true)
    (h : wpStill P l.toArray w.drew (fun a' => wpList P l.toArray Q (l.drop n) a' w.drew) (l.take n) a) : (Code.region id l.toArray true).wp P Q a w := wp_region_still_tail n hm hB h

set_option maxHeartbeats 4000000 in
theorem mul_walk (a0 a1 a2 a3 b0 b1 b2 b3 p00 c00 p01 c01 p02 c02 p03 c03 p10 c10 p11 c11 p12 c12 p20 c20 p21 c21 p30 c30 : Int) (w : World)
    (q00 : Hid (∀ w : World, Calls Try.prog 47 #[.int .u64 a0, .int .u64 b0, .int .u64 0, .int .u64 0] w fun e w' => e = .returned (.tuple #[.int .u64 c00, .int .u64 p00]) ∧ w' = w))
    (q01 : Hid (∀ w : World, Calls Try.prog 47 #[.int .u64 a0, .int .u64 b1, .int .u64 0, .int .u64 c00] w fun e w' => e = .returned (.tuple #[.int .u64 c01, .int .u64 p01]) ∧ w' = w))
    (q02 : Hid (∀ w : World, Calls Try.prog 47 #[.int .u64 a0, .int .u64 b2, .int .u64 0, .int .u64 c01] w fun e w' => e = .returned (.tuple #[.int .u64 c02, .int .u64 p02]) ∧ w' = w))
    (q03 : Hid (∀ w : World, Calls Try.prog 47 #[.int .u64 a0, .int .u64 b3, .int .u64 0, .int .u64 c02] w fun e w' => e = .returned (.tuple #[.int .u64 c03, .int .u64 p03]) ∧ w' = w))
    (q10 : Hid (∀ w : World, Calls Try.prog 47 #[.int .u64 a1, .int .u64 b0, .int .u64 p01, .int .u64 0] w fun e w' => e = .returned (.tuple #[.int .u64 c10, .int .u64 p10]) ∧ w' = w))
    (q11 : Hid (∀ w : World, Calls Try.prog 47 #[.int .u64 a1, .int .u64 b1, .int .u64 p02, .int .u64 c10] w fun e w' => e = .returned (.tuple #[.int .u64 c11, .int .u64 p11]) ∧ w' = w))
    (q12 : Hid (∀ w : World, Calls Try.prog 47 #[.int .u64 a1, .int .u64 b2, .int .u64 p03, .int .u64 c11] w fun e w' => e = .returned (.tuple #[.int .u64 c12, .int .u64 p12]) ∧ w' = w))
    (q20 : Hid (∀ w : World, Calls Try.prog 47 #[.int .u64 a2, .int .u64 b0, .int .u64 p11, .int .u64 0] w fun e w' => e = .returned (.tuple #[.int .u64 c20, .int .u64 p20]) ∧ w' = w))
    (q21 : Hid (∀ w : World, Calls Try.prog 47 #[.int .u64 a2, .int .u64 b1, .int .u64 p12, .int .u64 c20] w fun e w' => e = .returned (.tuple #[.int .u64 c21, .int .u64 p21]) ∧ w' = w))
    (q30 : Hid (∀ w : World, Calls Try.prog 47 #[.int .u64 a3, .int .u64 b0, .int .u64 p21, .int .u64 0] w fun e w' => e = .returned (.tuple #[.int .u64 c30, .int .u64 p30]) ∧ w' = w)) :
    Calls Try.prog 36 #[.agg #[.int .u64 a0, .int .u64 a1, .int .u64 a2, .int .u64 a3], .agg #[.int .u64 b0, .int .u64 b1, .int .u64 b2, .int .u64 b3]] w fun e w' =>
      e = .returned (.agg #[.int .u64 p00, .int .u64 p10, .int .u64 p20, .int .u64 p30]) ∧ Below w.heap.size w w' := by
  have z0 : IntKind.i64.wrap 0 = 0 := by decide
  have z1 : IntKind.i64.wrap 1 = 1 := by decide
  have z2 : IntKind.i64.wrap 2 = 2 := by decide
  have z3 : IntKind.i64.wrap 3 = 3 := by decide
  go_enter Try.func36, Try.ntmps36
  go_wp2
  refine wp_loop_rounds 5 ?_
  rw [rounds_succ]
  go_wp2
  refine wp_loop_rounds 5 ?_
  rw [rounds_succ]
  go_wp2
  refine region_tail 20 (by kernel_rfl) (by kernel_rfl) ?_
  simp only [List.take_succ_cons, List.take_zero, List.drop_succ_cons, List.drop_zero]
  repeat still_step
  still_call (q00.out _)
  repeat still_step
  refine wpStill_nil ?_
  go_wp2
  rw [rounds_succ]
  go_wp2
  refine region_tail 20 (by kernel_rfl) (by kernel_rfl) ?_
  simp only [List.take_succ_cons, List.take_zero, List.drop_succ_cons, List.drop_zero]
  repeat still_step
  still_call (q01.out _)
  repeat still_step
  refine wpStill_nil ?_
  go_wp2
  rw [rounds_succ]
  go_wp2
  refine region_tail 20 (by kernel_rfl) (by kernel_rfl) ?_
  simp only [List.take_succ_cons, List.take_zero, List.drop_succ_cons, List.drop_zero]
  repeat still_step
  still_call (q02.out _)
  repeat still_step
  refine wpStill_nil ?_
  go_wp2
  rw [rounds_succ]
  go_wp2
  refine region_tail 20 (by kernel_rfl) (by kernel_rfl) ?_
  simp only [List.take_succ_cons, List.take_zero, List.drop_succ_cons, List.drop_zero]
  repeat still_step
  still_call (q03.out _)
  repeat still_step
  refine wpStill_nil ?_
  go_wp2
  rw [rounds_succ]
  go_wp2
  rw [rounds_succ]
  go_wp2
  refine wp_loop_rounds 5 ?_
  rw [rounds_succ]
  go_wp2
  refine region_tail 20 (by kernel_rfl) (by kernel_rfl) ?_
  simp only [List.take_succ_cons, List.take_zero, List.drop_succ_cons, List.drop_zero]
  repeat still_step
  still_call (q10.out _)
  repeat still_step
  refine wpStill_nil ?_
  go_wp2
  rw [rounds_succ]
  go_wp2
  refine region_tail 20 (by kernel_rfl) (by kernel_rfl) ?_
  simp only [List.take_succ_cons, List.take_zero, List.drop_succ_cons, List.drop_zero]
  repeat still_step
  still_call (q11.out _)
  repeat still_step
  refine wpStill_nil ?_
  go_wp2
  rw [rounds_succ]
  go_wp2
  refine region_tail 20 (by kernel_rfl) (by kernel_rfl) ?_
  simp only [List.take_succ_cons, List.take_zero, List.drop_succ_cons, List.drop_zero]
  repeat still_step
  still_call (q12.out _)
  repeat still_step
  refine wpStill_nil ?_
  go_wp2
  rw [rounds_succ]
  go_wp2
  rw [rounds_succ]
  go_wp2
  refine wp_loop_rounds 5 ?_
  rw [rounds_succ]
  go_wp2
  refine region_tail 20 (by kernel_rfl) (by kernel_rfl) ?_
  simp only [List.take_succ_cons, List.take_zero, List.drop_succ_cons, List.drop_zero]
  repeat still_step
  still_call (q20.out _)
  repeat still_step
  refine wpStill_nil ?_
  go_wp2
  rw [rounds_succ]
  go_wp2
  refine region_tail 20 (by kernel_rfl) (by kernel_rfl) ?_
  simp only [List.take_succ_cons, List.take_zero, List.drop_succ_cons, List.drop_zero]
  repeat still_step
  still_call (q21.out _)
  repeat still_step
  refine wpStill_nil ?_
  go_wp2
  rw [rounds_succ]
  go_wp2
  rw [rounds_succ]
  go_wp2
  refine wp_loop_rounds 5 ?_
  rw [rounds_succ]
  go_wp2
  refine region_tail 20 (by kernel_rfl) (by kernel_rfl) ?_
  simp only [List.take_succ_cons, List.take_zero, List.drop_succ_cons, List.drop_zero]
  repeat still_step
  still_call (q30.out _)
  repeat still_step
  refine wpStill_nil ?_
  go_wp2
  rw [rounds_succ]
  go_wp2
  rw [rounds_succ]
  go_wp2
  refine bodyPost_ret (v := .agg #[.int .u64 p00, .int .u64 p10, .int .u64 p20, .int .u64 p30]) (by simp [results, Try.results36, go_sem]) rfl ⟨rfl, ?_⟩
  repeat (first | exact Below.refl _ _ | refine Below.drew ?_ | refine Below.alloc ?_ (by simp; try omega) _ | refine Below.setCell ?_ (by simp; try omega) _)

theorem mul_wd (m n : Nat) (w : World) :
    Calls Try.prog 36 #[wd m, wd n] w fun e w' => e = .returned (wd (m * n)) ∧ Below w.heap.size w w' := by
  obtain ⟨A0, A1, A2, A3⟩ := l_lt m
  obtain ⟨C0, C1, C2, C3⟩ := l_lt n
  have q00 := fun w : World => mulAdd_nat (l0 m) (l0 n) 0 0 A0 C0 (by decide) (by decide) w
  have e00 := ml_mh (l0 m) (l0 n) 0 0
  have L00 := ml_lt (l0 m) (l0 n) 0 0
  have H00 := mh_lt A0 C0 (m := 0) (n := 0) (by decide) (by decide)
  generalize ml (l0 m) (l0 n) 0 0 = p00 at *
  generalize mh (l0 m) (l0 n) 0 0 = c00 at *
  have q01 := fun w : World => mulAdd_nat (l0 m) (l1 n) 0 c00 A0 C1 (by decide) H00 w
  have e01 := ml_mh (l0 m) (l1 n) 0 c00
  have L01 := ml_lt (l0 m) (l1 n) 0 c00
  have H01 := mh_lt A0 C1 (m := 0) (n := c00) (by decide) H00
  generalize ml (l0 m) (l1 n) 0 c00 = p01 at *
  generalize mh (l0 m) (l1 n) 0 c00 = c01 at *
  have q02 := fun w : World => mulAdd_nat (l0 m) (l2 n) 0 c01 A0 C2 (by decide) H01 w
  have e02 := ml_mh (l0 m) (l2 n) 0 c01
  have L02 := ml_lt (l0 m) (l2 n) 0 c01
  have H02 := mh_lt A0 C2 (m := 0) (n := c01) (by decide) H01
  generalize ml (l0 m) (l2 n) 0 c01 = p02 at *
  generalize mh (l0 m) (l2 n) 0 c01 = c02 at *
  have q03 := fun w : World => mulAdd_nat (l0 m) (l3 n) 0 c02 A0 C3 (by decide) H02 w
  have e03 := ml_mh (l0 m) (l3 n) 0 c02
  have L03 := ml_lt (l0 m) (l3 n) 0 c02
  have H03 := mh_lt A0 C3 (m := 0) (n := c02) (by decide) H02
  generalize ml (l0 m) (l3 n) 0 c02 = p03 at *
  generalize mh (l0 m) (l3 n) 0 c02 = c03 at *
  have q10 := fun w : World => mulAdd_nat (l1 m) (l0 n) p01 0 A1 C0 L01 (by decide) w
  have e10 := ml_mh (l1 m) (l0 n) p01 0
  have L10 := ml_lt (l1 m) (l0 n) p01 0
  have H10 := mh_lt A1 C0 (m := p01) (n := 0) L01 (by decide)
  generalize ml (l1 m) (l0 n) p01 0 = p10 at *
  generalize mh (l1 m) (l0 n) p01 0 = c10 at *
  have q11 := fun w : World => mulAdd_nat (l1 m) (l1 n) p02 c10 A1 C1 L02 H10 w
  have e11 := ml_mh (l1 m) (l1 n) p02 c10
  have L11 := ml_lt (l1 m) (l1 n) p02 c10
  have H11 := mh_lt A1 C1 (m := p02) (n := c10) L02 H10
  generalize ml (l1 m) (l1 n) p02 c10 = p11 at *
  generalize mh (l1 m) (l1 n) p02 c10 = c11 at *
  have q12 := fun w : World => mulAdd_nat (l1 m) (l2 n) p03 c11 A1 C2 L03 H11 w
  have e12 := ml_mh (l1 m) (l2 n) p03 c11
  have L12 := ml_lt (l1 m) (l2 n) p03 c11
  have H12 := mh_lt A1 C2 (m := p03) (n := c11) L03 H11
  generalize ml (l1 m) (l2 n) p03 c11 = p12 at *
  generalize mh (l1 m) (l2 n) p03 c11 = c12 at *
  have q20 := fun w : World => mulAdd_nat (l2 m) (l0 n) p11 0 A2 C0 L11 (by decide) w
  have e20 := ml_mh (l2 m) (l0 n) p11 0
  have L20 := ml_lt (l2 m) (l0 n) p11 0
  have H20 := mh_lt A2 C0 (m := p11) (n := 0) L11 (by decide)
  generalize ml (l2 m) (l0 n) p11 0 = p20 at *
  generalize mh (l2 m) (l0 n) p11 0 = c20 at *
  have q21 := fun w : World => mulAdd_nat (l2 m) (l1 n) p12 c20 A2 C1 L12 H20 w
  have e21 := ml_mh (l2 m) (l1 n) p12 c20
  have L21 := ml_lt (l2 m) (l1 n) p12 c20
  have H21 := mh_lt A2 C1 (m := p12) (n := c20) L12 H20
  generalize ml (l2 m) (l1 n) p12 c20 = p21 at *
  generalize mh (l2 m) (l1 n) p12 c20 = c21 at *
  have q30 := fun w : World => mulAdd_nat (l3 m) (l0 n) p21 0 A3 C0 L21 (by decide) w
  have e30 := ml_mh (l3 m) (l0 n) p21 0
  have L30 := ml_lt (l3 m) (l0 n) p21 0
  have H30 := mh_lt A3 C0 (m := p21) (n := 0) L21 (by decide)
  generalize ml (l3 m) (l0 n) p21 0 = p30 at *
  generalize mh (l3 m) (l0 n) p21 0 = c30 at *
  have e := mul_num e00 e01 e02 e03 e10 e11 e12 e20 e21 e30
  rw [num_parts, num_parts, ← Nat.mul_mod] at e
  rw [← wd_congr e, wd_num L00 L10 L20 L30]
  exact mul_walk _ _ _ _ _ _ _ _ _ _ _ _ _ _ _ _ _ _ _ _ _ _ _ _ _ _ _ _ w q00 q01 q02 q03 q10 q11 q12 q20 q21 q30
end Go.Proofs.Ytapkadmpfoeljaa
