/- What the function addTimes of package wide does, for every two words and every part: it returns the one and the other times the part, the lowest 256 bits and what is above them, and leaves all older memory as it was. -/
import Derived.Test.YtlobchkbkdjccaaFixed
import Derived.Test.YtlobchkbkdjccaaKn
namespace Go.Proofs.Ytlobchkbkdjccaa
open Go.RowKit SmWord
set_option maxRecDepth 100000

set_option maxHeartbeats 4000000 in
theorem addTimes_walk (a0 a1 a2 a3 s0 s1 s2 s3 n h0 l0 p0 m0 r0 t0 h1 l1 p1 m1 r1 t1 h2 l2 p2 m2 r2 t2 h3 l3 p3 m3 r3 t3 : Int) (w : World)
    (q0 : Hid (∀ w : World, Calls Try.prog 62 #[.int .u64 a0, .int .u64 n] w fun e w' => e = .returned (.tuple #[.int .u64 h0, .int .u64 l0]) ∧ w = w'))
    (j0 : ∀ w : World, (callFunc 63 #[.int .u64 l0, .int .u64 s0, .int .u64 0]).run Try.prog w = .ok (.value (.tuple #[.int .u64 p0, .int .u64 m0])) w)
    (k0 : ∀ w : World, (callFunc 63 #[.int .u64 p0, .int .u64 0, .int .u64 0]).run Try.prog w = .ok (.value (.tuple #[.int .u64 r0, .int .u64 t0])) w)
    (q1 : Hid (∀ w : World, Calls Try.prog 62 #[.int .u64 a1, .int .u64 n] w fun e w' => e = .returned (.tuple #[.int .u64 h1, .int .u64 l1]) ∧ w = w'))
    (j1 : ∀ w : World, (callFunc 63 #[.int .u64 l1, .int .u64 s1, .int .u64 0]).run Try.prog w = .ok (.value (.tuple #[.int .u64 p1, .int .u64 m1])) w)
    (k1 : ∀ w : World, (callFunc 63 #[.int .u64 p1, .int .u64 (IntKind.u64.wrap (IntKind.u64.wrap (h0 + m0) + t0)), .int .u64 0]).run Try.prog w = .ok (.value (.tuple #[.int .u64 r1, .int .u64 t1])) w)
    (q2 : Hid (∀ w : World, Calls Try.prog 62 #[.int .u64 a2, .int .u64 n] w fun e w' => e = .returned (.tuple #[.int .u64 h2, .int .u64 l2]) ∧ w = w'))
    (j2 : ∀ w : World, (callFunc 63 #[.int .u64 l2, .int .u64 s2, .int .u64 0]).run Try.prog w = .ok (.value (.tuple #[.int .u64 p2, .int .u64 m2])) w)
    (k2 : ∀ w : World, (callFunc 63 #[.int .u64 p2, .int .u64 (IntKind.u64.wrap (IntKind.u64.wrap (h1 + m1) + t1)), .int .u64 0]).run Try.prog w = .ok (.value (.tuple #[.int .u64 r2, .int .u64 t2])) w)
    (q3 : Hid (∀ w : World, Calls Try.prog 62 #[.int .u64 a3, .int .u64 n] w fun e w' => e = .returned (.tuple #[.int .u64 h3, .int .u64 l3]) ∧ w = w'))
    (j3 : ∀ w : World, (callFunc 63 #[.int .u64 l3, .int .u64 s3, .int .u64 0]).run Try.prog w = .ok (.value (.tuple #[.int .u64 p3, .int .u64 m3])) w)
    (k3 : ∀ w : World, (callFunc 63 #[.int .u64 p3, .int .u64 (IntKind.u64.wrap (IntKind.u64.wrap (h2 + m2) + t2)), .int .u64 0]).run Try.prog w = .ok (.value (.tuple #[.int .u64 r3, .int .u64 t3])) w) :
    Calls Try.prog 59 #[.agg #[.int .u64 s0, .int .u64 s1, .int .u64 s2, .int .u64 s3], .agg #[.int .u64 a0, .int .u64 a1, .int .u64 a2, .int .u64 a3], .int .u64 n] w fun e w' =>
      e = .returned (.tuple #[.agg #[.int .u64 r0, .int .u64 r1, .int .u64 r2, .int .u64 r3], .int .u64 (IntKind.u64.wrap (IntKind.u64.wrap (h3 + m3) + t3))]) ∧ Below w.heap.size w w' := by
  go_enter Try.func59, Try.ntmps59
  go_wp2
  refine wp_loop_rounds 5 ?_
  rw [rounds_succ]
  go_wp2_with (go_at_call 62; refine (q0.out _).mono ?_; rintro e w' ⟨rfl, rfl⟩)
  rw [rounds_succ]
  go_wp2_with (go_at_call 62; refine (q1.out _).mono ?_; rintro e w' ⟨rfl, rfl⟩)
  rw [rounds_succ]
  go_wp2_with (go_at_call 62; refine (q2.out _).mono ?_; rintro e w' ⟨rfl, rfl⟩)
  rw [rounds_succ]
  go_wp2_with (go_at_call 62; refine (q3.out _).mono ?_; rintro e w' ⟨rfl, rfl⟩)
  rw [rounds_succ]
  go_wp2
  refine bodyPost_ret (v := .tuple #[.agg #[.int .u64 r0, .int .u64 r1, .int .u64 r2, .int .u64 r3], .int .u64 (IntKind.u64.wrap (IntKind.u64.wrap (h3 + m3) + t3))]) (by simp [results, Try.results59, go_sem]) rfl ⟨rfl, ?_⟩
  repeat (first | exact Below.refl _ _ | refine Below.drew ?_ | refine Below.alloc ?_ (by simp; try omega) _ | refine Below.setCell ?_ (by simp; try omega) _)

theorem wrap_mh {x y m n : Nat} (hx : x < B) (hy : y < B) (hm : m < B) (hn : n < B) :
    IntKind.u64.wrap (IntKind.u64.wrap (((x * y / B : Nat) : Int) + ((hi (x * y % B) m 0 : Nat) : Int)) + ((hi (lo (x * y % B) m 0) n 0 : Nat) : Int)) = ((mh x y m n : Nat) : Int) := by
  obtain ⟨_, e2⟩ := mulAdd_num (x := x) (y := y) (m := m) (n := n)
  have hb := mh_lt hx hy hm hn
  rw [IntKind.wrap_u64, IntKind.wrap_u64]
  generalize hi (x * y % B) m 0 = u at *
  generalize hi (lo (x * y % B) m 0) n 0 = v at *
  generalize mh x y m n = z at *
  generalize x * y / B = q at *
  simp only [B] at hb
  omega

theorem at_num {a0 a1 a2 a3 s0 s1 s2 s3 n p0 p1 p2 p3 c0 c1 c2 c3 : Nat} (e0 : p0 + B * c0 = a0 * n + s0 + 0) (e1 : p1 + B * c1 = a1 * n + s1 + c0) (e2 : p2 + B * c2 = a2 * n + s2 + c1) (e3 : p3 + B * c3 = a3 * n + s3 + c2) :
    num s0 s1 s2 s3 + num a0 a1 a2 a3 * n = num p0 p1 p2 p3 + M * c3 := by
  have hM : M = B * (B * (B * B)) := by decide
  have ex : num a0 a1 a2 a3 * n = num (a0 * n) (a1 * n) (a2 * n) (a3 * n) := by
    unfold num; generalize B = b; grind
  rw [ex, hM]
  generalize a0 * n = x0 at *
  generalize a1 * n = x1 at *
  generalize a2 * n = x2 at *
  generalize a3 * n = x3 at *
  unfold num
  simp only [B] at *
  omega

theorem addTimes_wd (s a n : Nat) (hn : n < B) (w : World) :
    Calls Try.prog 59 #[wd s, wd a, .int .u64 (n : Int)] w fun e w' =>
      e = .returned (.tuple #[wd (s % M + a % M * n), .int .u64 (((s % M + a % M * n) / M : Nat) : Int)]) ∧ Below w.heap.size w w' := by
  obtain ⟨A0, A1, A2, A3⟩ := l_lt a
  obtain ⟨C0, C1, C2, C3⟩ := l_lt s
  have b0 := mh_lt A0 hn C0 (show 0 < B by decide)
  have b1 := mh_lt A1 hn C1 b0
  have b2 := mh_lt A2 hn C2 b1
  have d0 := mulAdd_num (x := l0 a) (y := n) (m := l0 s) (n := 0)
  have d1 := mulAdd_num (x := l1 a) (y := n) (m := l1 s) (n := mh (l0 a) n (l0 s) 0)
  have d2 := mulAdd_num (x := l2 a) (y := n) (m := l2 s) (n := mh (l1 a) n (l1 s) (mh (l0 a) n (l0 s) 0))
  have d3 := mulAdd_num (x := l3 a) (y := n) (m := l3 s) (n := mh (l2 a) n (l2 s) (mh (l1 a) n (l1 s) (mh (l0 a) n (l0 s) 0)))
  have w0 := wrap_mh A0 hn C0 (show 0 < B by decide)
  have w1 := wrap_mh A1 hn C1 b0
  have w2 := wrap_mh A2 hn C2 b1
  have w3 := wrap_mh A3 hn C3 b2
  have key := at_num (ml_mh (l0 a) n (l0 s) 0) (ml_mh (l1 a) n (l1 s) _) (ml_mh (l2 a) n (l2 s) _) (ml_mh (l3 a) n (l3 s) _)
  rw [num_parts, num_parts] at key
  have z := ml_lt (l0 a) n (l0 s) 0
  have hlt := num_lt z (ml_lt (l1 a) n (l1 s) (mh (l0 a) n (l0 s) 0)) (ml_lt (l2 a) n (l2 s) (mh (l1 a) n (l1 s) (mh (l0 a) n (l0 s) 0))) (ml_lt (l3 a) n (l3 s) (mh (l2 a) n (l2 s) (mh (l1 a) n (l1 s) (mh (l0 a) n (l0 s) 0))))
  have e1 : wd (s % M + a % M * n) = wd (num (ml (l0 a) n (l0 s) 0) (ml (l1 a) n (l1 s) (mh (l0 a) n (l0 s) 0)) (ml (l2 a) n (l2 s) (mh (l1 a) n (l1 s) (mh (l0 a) n (l0 s) 0))) (ml (l3 a) n (l3 s) (mh (l2 a) n (l2 s) (mh (l1 a) n (l1 s) (mh (l0 a) n (l0 s) 0))))) := by
    apply wd_congr; rw [key, Nat.add_mul_mod_self_left]
  have e2 : (s % M + a % M * n) / M = mh (l3 a) n (l3 s) (mh (l2 a) n (l2 s) (mh (l1 a) n (l1 s) (mh (l0 a) n (l0 s) 0))) := by
    rw [key, Nat.add_mul_div_left _ _ (by decide), Nat.div_eq_of_lt hlt, Nat.zero_add]
  rw [e1, e2, wd_num (ml_lt _ _ _ _) (ml_lt _ _ _ _) (ml_lt _ _ _ _) (ml_lt _ _ _ _)]
  have g := addTimes_walk (l0 a) (l1 a) (l2 a) (l3 a) (l0 s) (l1 s) (l2 s) (l3 s) n _ _ _ _ _ _ _ _ _ _ _ _ _ _ _ _ _ _ _ _ _ _ _ _ w
    (Lib.hid fun w => (Try.bits_Mul64 _ _ A0 hn w).mono fun e w' ⟨h1, h2⟩ => ⟨h1, h2.symm⟩) (add64_run _ (l0 s) 0 (Nat.zero_le _)) (add64_run _ 0 0 (Nat.zero_le _))
    (Lib.hid fun w => (Try.bits_Mul64 _ _ A1 hn w).mono fun e w' ⟨h1, h2⟩ => ⟨h1, h2.symm⟩) (add64_run _ (l1 s) 0 (Nat.zero_le _)) (by rw [w0]; exact add64_run _ _ 0 (Nat.zero_le _))
    (Lib.hid fun w => (Try.bits_Mul64 _ _ A2 hn w).mono fun e w' ⟨h1, h2⟩ => ⟨h1, h2.symm⟩) (add64_run _ (l2 s) 0 (Nat.zero_le _)) (by rw [w1]; exact add64_run _ _ 0 (Nat.zero_le _))
    (Lib.hid fun w => (Try.bits_Mul64 _ _ A3 hn w).mono fun e w' ⟨h1, h2⟩ => ⟨h1, h2.symm⟩) (add64_run _ (l3 s) 0 (Nat.zero_le _)) (by rw [w2]; exact add64_run _ _ 0 (Nat.zero_le _))
  rw [w3, d0.1, d1.1, d2.1, d3.1] at g
  exact g
end Go.Proofs.Ytlobchkbkdjccaa
