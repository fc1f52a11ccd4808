/- What the functions Not, And, Or, Xor and mulAdd of package word do, for every word: each returns the word it should, and leaves all older memory as it was. -/
import Derived.Test.YtlobchkbkdjccaaWordA
import Derived.Lib.Hide
namespace Go.Proofs.Ytlobchkbkdjccaa
open Go.RowKit SmWord
set_option maxRecDepth 100000

set_option maxHeartbeats 400000 in
theorem not_walk (a b c d : Int) (w : World) :
    Calls Try.prog 42 #[.agg #[.int .u64 a, .int .u64 b, .int .u64 c, .int .u64 d]] w fun e w' =>
      e = .returned (.agg #[.int .u64 (bits .xor .u64 IntKind.u64.max a), .int .u64 (bits .xor .u64 IntKind.u64.max b), .int .u64 (bits .xor .u64 IntKind.u64.max c), .int .u64 (bits .xor .u64 IntKind.u64.max d)]) ∧ Below w.heap.size w w' := by
  have hs : IntKind.u64.signed = false := rfl
  go_enter Try.func42, Try.ntmps42
  go_wp2
  refine bodyPost_ret (v := .agg #[.int .u64 (bits .xor .u64 IntKind.u64.max a), .int .u64 (bits .xor .u64 IntKind.u64.max b), .int .u64 (bits .xor .u64 IntKind.u64.max c), .int .u64 (bits .xor .u64 IntKind.u64.max d)]) (by simp [results, Try.results42, go_sem]) rfl ⟨rfl, ?_⟩
  repeat (first | exact Below.refl _ _ | refine Below.drew ?_ | refine Below.alloc ?_ (by simp; try omega) _ | refine Below.setCell ?_ (by simp; try omega) _)

set_option maxHeartbeats 400000 in
theorem or_walk (a b c d a' b' c' d' : Int) (w : World) :
    Calls Try.prog 54 #[.agg #[.int .u64 a, .int .u64 b, .int .u64 c, .int .u64 d], .agg #[.int .u64 a', .int .u64 b', .int .u64 c', .int .u64 d']] w fun e w' =>
      e = .returned (.agg #[.int .u64 (bits .or .u64 a a'), .int .u64 (bits .or .u64 b b'), .int .u64 (bits .or .u64 c c'), .int .u64 (bits .or .u64 d d')]) ∧ Below w.heap.size w w' := by
  go_enter Try.func54, Try.ntmps54
  go_wp2
  refine bodyPost_ret (v := .agg #[.int .u64 (bits .or .u64 a a'), .int .u64 (bits .or .u64 b b'), .int .u64 (bits .or .u64 c c'), .int .u64 (bits .or .u64 d d')]) (by simp [results, Try.results54, go_sem]) rfl ⟨rfl, ?_⟩
  repeat (first | exact Below.refl _ _ | refine Below.drew ?_ | refine Below.alloc ?_ (by simp; try omega) _ | refine Below.setCell ?_ (by simp; try omega) _)

theorem or_wd (m n : Nat) (w : World) : Calls Try.prog 54 #[wd m, wd n] w fun e w' =>
    e = .returned (wd (num (l0 m ||| l0 n) (l1 m ||| l1 n) (l2 m ||| l2 n) (l3 m ||| l3 n))) ∧ Below w.heap.size w w' := by
  obtain ⟨A0, A1, A2, A3⟩ := l_lt m
  obtain ⟨C0, C1, C2, C3⟩ := l_lt n
  have key := or_walk (l0 m) (l1 m) (l2 m) (l3 m) (l0 n) (l1 n) (l2 n) (l3 n) w
  rw [u64_or_nat _ _ A0 C0, u64_or_nat _ _ A1 C1, u64_or_nat _ _ A2 C2, u64_or_nat _ _ A3 C3] at key
  rw [wd_num (Nat.or_lt_two_pow (n := 64) A0 C0) (Nat.or_lt_two_pow (n := 64) A1 C1) (Nat.or_lt_two_pow (n := 64) A2 C2) (Nat.or_lt_two_pow (n := 64) A3 C3)]
  exact key
theorem xor_ones (a : Nat) (ha : a < B) : bits .xor .u64 IntKind.u64.max (a : Int) = ((B - 1 - a : Nat) : Int) := by
  have h := u64_xor_nat (B - 1) a (by decide) ha
  have e : (IntKind.u64.max : Int) = ((B - 1 : Nat) : Int) := by decide
  rw [e, h]
  congr 1
  apply Nat.eq_of_testBit_eq
  intro i
  have h1 : (B - 1).testBit i = decide (i < 64) := Nat.testBit_two_pow_sub_one 64 i
  have h2 : (B - 1 - a).testBit i = (decide (i < 64) && !a.testBit i) := by
    have := Nat.testBit_two_pow_sub_succ (n := 64) (x := a) ha i
    rw [← this]; congr 1; simp only [B]; omega
  rw [Nat.testBit_xor, h1, h2]
  by_cases hi : i < 64
  · simp [hi]
  · have : a.testBit i = false := Nat.testBit_lt_two_pow (Nat.lt_of_lt_of_le ha (Nat.pow_le_pow_right (n := 2) (i := 64) (by decide) (by omega)))
    simp [hi, this]
theorem not_wd (m : Nat) (w : World) : Calls Try.prog 42 #[wd m] w fun e w' => e = .returned (wd (M - 1 - m % M)) ∧ Below w.heap.size w w' := by
  obtain ⟨A0, A1, A2, A3⟩ := l_lt m
  have key := not_walk (l0 m) (l1 m) (l2 m) (l3 m) w
  rw [xor_ones _ A0, xor_ones _ A1, xor_ones _ A2, xor_ones _ A3] at key
  rw [not_num A0 A1 A2 A3 (num_parts m), wd_num (by omega) (by omega) (by omega) (by omega)]
  exact key
end Go.Proofs.Ytlobchkbkdjccaa
