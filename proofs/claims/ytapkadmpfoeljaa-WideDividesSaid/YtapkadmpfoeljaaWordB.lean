/- What the functions Not, And, Or, Xor and mulAdd of package word do, for every word: each returns the word it should, and leaves all older memory as it was. -/
import Derived.Test.YtapkadmpfoeljaaWordA
import Derived.Lib.Hide
namespace Go.Proofs.Ytapkadmpfoeljaa
open Go.RowKit SmWord
set_option maxRecDepth 100000

set_option maxHeartbeats 400000 in
theorem or_walk (a b c d a' b' c' d' : Int) (w : World) :
    Calls Try.prog 40 #[.agg #[.int .u64 a, .int .u64 b, .int .u64 c, .int .u64 d], .agg #[.int .u64 a', .int .u64 b', .int .u64 c', .int .u64 d']] w fun e w' =>
      e = .returned (.agg #[.int .u64 (bits .or .u64 a a'), .int .u64 (bits .or .u64 b b'), .int .u64 (bits .or .u64 c c'), .int .u64 (bits .or .u64 d d')]) ∧ Below w.heap.size w w' := by
  go_enter Try.func40, Try.ntmps40
  go_wp2
  refine bodyPost_ret (v := .agg #[.int .u64 (bits .or .u64 a a'), .int .u64 (bits .or .u64 b b'), .int .u64 (bits .or .u64 c c'), .int .u64 (bits .or .u64 d d')]) (by simp [results, Try.results40, go_sem]) rfl ⟨rfl, ?_⟩
  repeat (first | exact Below.refl _ _ | refine Below.drew ?_ | refine Below.alloc ?_ (by simp; try omega) _ | refine Below.setCell ?_ (by simp; try omega) _)

set_option maxHeartbeats 400000 in
theorem mulAdd_walk (x y m n h l l1 c1 l2 c2 : Int) (w : World)
    (hm : ∀ w : World, Calls Try.prog 43 #[.int .u64 x, .int .u64 y] w fun e w' => e = .returned (.tuple #[.int .u64 h, .int .u64 l]) ∧ w = w')
    (k1 : ∀ w : World, (callFunc 44 #[.int .u64 l, .int .u64 m, .int .u64 0]).run Try.prog w = .ok (.value (.tuple #[.int .u64 l1, .int .u64 c1])) w)
    (k2 : ∀ w : World, (callFunc 44 #[.int .u64 l1, .int .u64 n, .int .u64 0]).run Try.prog w = .ok (.value (.tuple #[.int .u64 l2, .int .u64 c2])) w) :
    Calls Try.prog 47 #[.int .u64 x, .int .u64 y, .int .u64 m, .int .u64 n] w fun e w' =>
      e = .returned (.tuple #[.int .u64 (IntKind.u64.wrap (IntKind.u64.wrap (h + c1) + c2)), .int .u64 l2]) ∧ w = w' := by
  have H := Lib.hid hm
  clear hm
  go_enter Try.func47, Try.ntmps47
  go_wp2_with (go_at_call 43; refine (H.out _).mono ?_; rintro e w' ⟨rfl, rfl⟩)
  go_ret2
  exact ⟨rfl, rfl⟩

theorem mulAdd_nat (x y m n : Nat) (hx : x < B) (hy : y < B) (hm : m < B) (hn : n < B) (w : World) :
    Calls Try.prog 47 #[.int .u64 (x : Int), .int .u64 (y : Int), .int .u64 (m : Int), .int .u64 (n : Int)] w fun e w' =>
      e = .returned (.tuple #[.int .u64 ((mh x y m n : Nat) : Int), .int .u64 ((ml x y m n : Nat) : Int)]) ∧ w' = w := by
  obtain ⟨e1, e2⟩ := mulAdd_num (x := x) (y := y) (m := m) (n := n)
  have hb := mh_lt hx hy hm hn
  have key := mulAdd_walk x y m n _ _ _ _ _ _ w (fun w => (Try.bits_Mul64 x y hx hy w).mono fun e w' ⟨h1, h2⟩ => ⟨h1, h2.symm⟩)
    (add64_run (x * y % B) m 0 (Nat.zero_le _)) (add64_run (lo (x * y % B) m 0) n 0 (Nat.zero_le _))
  have hw : IntKind.u64.wrap (IntKind.u64.wrap (((x * y / B : Nat) : Int) + ((hi (x * y % B) m 0 : Nat) : Int)) + ((hi (lo (x * y % B) m 0) n 0 : Nat) : Int)) = ((mh x y m n : Nat) : Int) := by
    rw [IntKind.wrap_u64, IntKind.wrap_u64]
    generalize hi (x * y % B) m 0 = u at *
    generalize hi (lo (x * y % B) m 0) n 0 = v at *
    generalize mh x y m n = z at *
    generalize x * y / B = q at *
    simp only [B] at hb
    omega
  refine key.mono fun e w' ⟨h1, h2⟩ => ⟨?_, h2.symm⟩
  rw [h1, e1]
  exact congrArg (fun z => Ending.returned (.tuple #[.int .u64 z, .int .u64 ((ml x y m n : Nat) : Int)])) hw

theorem or_wd (m n : Nat) (w : World) : Calls Try.prog 40 #[wd m, wd n] w fun e w' =>
    e = .returned (wd (num (l0 m ||| l0 n) (l1 m ||| l1 n) (l2 m ||| l2 n) (l3 m ||| l3 n))) ∧ Below w.heap.size w w' := by
  obtain ⟨A0, A1, A2, A3⟩ := l_lt m
  obtain ⟨C0, C1, C2, C3⟩ := l_lt n
  have key := or_walk (l0 m) (l1 m) (l2 m) (l3 m) (l0 n) (l1 n) (l2 n) (l3 n) w
  rw [u64_or_nat _ _ A0 C0, u64_or_nat _ _ A1 C1, u64_or_nat _ _ A2 C2, u64_or_nat _ _ A3 C3] at key
  rw [wd_num (Nat.or_lt_two_pow (n := 64) A0 C0) (Nat.or_lt_two_pow (n := 64) A1 C1) (Nat.or_lt_two_pow (n := 64) A2 C2) (Nat.or_lt_two_pow (n := 64) A3 C3)]
  exact key
theorem xor_ones (a : Nat) (ha : a < B) : bits .xor .u64 IntKind.u64.max (a : Int) = ((B - 1 - a : Nat) : Int) := by
  have h := u64_xor_nat (B - 1) a (by decide) ha
  have e : (IntKind.u64.max : Int) = ((B - 1 : Nat) : Int) := by decide
  rw [e, h]
  congr 1
  apply Nat.eq_of_testBit_eq
  intro i
  have h1 : (B - 1).testBit i = decide (i < 64) := Nat.testBit_two_pow_sub_one 64 i
  have h2 : (B - 1 - a).testBit i = (decide (i < 64) && !a.testBit i) := by
    have := Nat.testBit_two_pow_sub_succ (n := 64) (x := a) ha i
    rw [← this]; congr 1; simp only [B]; omega
  rw [Nat.testBit_xor, h1, h2]
  by_cases hi : i < 64
  · simp [hi]
  · have : a.testBit i = false := Nat.testBit_lt_two_pow (Nat.lt_of_lt_of_le ha (Nat.pow_le_pow_right (n := 2) (i := 64) (by decide) (by omega)))
    simp [hi, this]
end Go.Proofs.Ytapkadmpfoeljaa
