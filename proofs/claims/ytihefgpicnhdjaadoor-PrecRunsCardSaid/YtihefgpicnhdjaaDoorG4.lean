/- What the function addTimes of package wide does, for every two words and every part: it returns the one and the other times the part, the lowest 256 bits and what is above them, and leaves all older memory as it was. -/
import Derived.Test.YtihefgpicnhdjaaDoorG1
import Derived.Test.YtihefgpicnhdjaaDoorG0
import Derived.Deep.DeepCutAuto
import Derived.Deep.CutBlock
import Derived.Test.YtihefgpicnhdjaaDoorG3
namespace Go.Proofs.YtihefgpicnhdjaaDoor
open Go.RowKit SmWord
set_option maxRecDepth 100000

set_option maxHeartbeats 4000000 in
theorem addTimes_walk (a0 a1 a2 a3 s0 s1 s2 s3 n h0 l0 p0 m0 r0 t0 h1 l1 p1 m1 r1 t1 h2 l2 p2 m2 r2 t2 h3 l3 p3 m3 r3 t3 : Int) (w : World)
    (q0 : Hid (∀ w : World, Calls Tryd.prog 84 #[.int .u64 a0, .int .u64 n] w fun e w' => e = .returned (.tuple #[.int .u64 h0, .int .u64 l0]) ∧ w = w'))
    (j0 : ∀ w : World, (callFunc 57 #[.int .u64 l0, .int .u64 s0, .int .u64 0]).run Tryd.prog w = .ok (.value (.tuple #[.int .u64 p0, .int .u64 m0])) w)
    (k0 : ∀ w : World, (callFunc 57 #[.int .u64 p0, .int .u64 0, .int .u64 0]).run Tryd.prog w = .ok (.value (.tuple #[.int .u64 r0, .int .u64 t0])) w)
    (q1 : Hid (∀ w : World, Calls Tryd.prog 84 #[.int .u64 a1, .int .u64 n] w fun e w' => e = .returned (.tuple #[.int .u64 h1, .int .u64 l1]) ∧ w = w'))
    (j1 : ∀ w : World, (callFunc 57 #[.int .u64 l1, .int .u64 s1, .int .u64 0]).run Tryd.prog w = .ok (.value (.tuple #[.int .u64 p1, .int .u64 m1])) w)
    (k1 : ∀ w : World, (callFunc 57 #[.int .u64 p1, .int .u64 (IntKind.u64.wrap (IntKind.u64.wrap (h0 + m0) + t0)), .int .u64 0]).run Tryd.prog w = .ok (.value (.tuple #[.int .u64 r1, .int .u64 t1])) w)
    (q2 : Hid (∀ w : World, Calls Tryd.prog 84 #[.int .u64 a2, .int .u64 n] w fun e w' => e = .returned (.tuple #[.int .u64 h2, .int .u64 l2]) ∧ w = w'))
    (j2 : ∀ w : World, (callFunc 57 #[.int .u64 l2, .int .u64 s2, .int .u64 0]).run Tryd.prog w = .ok (.value (.tuple #[.int .u64 p2, .int .u64 m2])) w)
    (k2 : ∀ w : World, (callFunc 57 #[.int .u64 p2, .int .u64 (IntKind.u64.wrap (IntKind.u64.wrap (h1 + m1) + t1)), .int .u64 0]).run Tryd.prog w = .ok (.value (.tuple #[.int .u64 r2, .int .u64 t2])) w)
    (q3 : Hid (∀ w : World, Calls Tryd.prog 84 #[.int .u64 a3, .int .u64 n] w fun e w' => e = .returned (.tuple #[.int .u64 h3, .int .u64 l3]) ∧ w = w'))
    (j3 : ∀ w : World, (callFunc 57 #[.int .u64 l3, .int .u64 s3, .int .u64 0]).run Tryd.prog w = .ok (.value (.tuple #[.int .u64 p3, .int .u64 m3])) w)
    (k3 : ∀ w : World, (callFunc 57 #[.int .u64 p3, .int .u64 (IntKind.u64.wrap (IntKind.u64.wrap (h2 + m2) + t2)), .int .u64 0]).run Tryd.prog w = .ok (.value (.tuple #[.int .u64 r3, .int .u64 t3])) w) :
    Calls Tryd.prog 89 #[.agg #[.int .u64 s0, .int .u64 s1, .int .u64 s2, .int .u64 s3], .agg #[.int .u64 a0, .int .u64 a1, .int .u64 a2, .int .u64 a3], .int .u64 n] w fun e w' =>
      e = .returned (.tuple #[.agg #[.int .u64 r0, .int .u64 r1, .int .u64 r2, .int .u64 r3], .int .u64 (IntKind.u64.wrap (IntKind.u64.wrap (h3 + m3) + t3))]) ∧ Below w.heap.size w w' := by
  go_enter Tryd.func89, Tryd.ntmps89
  go_wp2
  refine wp_loop_rounds 5 ?_
  rw [rounds_succ]
  go_wp2_with (go_at_call 84; refine (q0.out _).mono ?_; rintro e w' ⟨rfl, rfl⟩)
  rw [rounds_succ]
  go_wp2_with (go_at_call 84; refine (q1.out _).mono ?_; rintro e w' ⟨rfl, rfl⟩)
  rw [rounds_succ]
  go_wp2_with (go_at_call 84; refine (q2.out _).mono ?_; rintro e w' ⟨rfl, rfl⟩)
  rw [rounds_succ]
  go_wp2_with (go_at_call 84; refine (q3.out _).mono ?_; rintro e w' ⟨rfl, rfl⟩)
  rw [rounds_succ]
  go_wp2
  refine bodyPost_ret (v := .tuple #[.agg #[.int .u64 r0, .int .u64 r1, .int .u64 r2, .int .u64 r3], .int .u64 (IntKind.u64.wrap (IntKind.u64.wrap (h3 + m3) + t3))]) (by simp [results, Tryd.results89, go_sem]) rfl ⟨rfl, ?_⟩
  repeat (first | exact Below.refl _ _ | refine Below.drew ?_ | refine Below.alloc ?_ (by simp; try omega) _ | refine Below.setCell ?_ (by simp; try omega) _)

theorem wrap_mh {x y m n : Nat} (hx : x < B) (hy : y < B) (hm : m < B) (hn : n < B) :
    IntKind.u64.wrap (IntKind.u64.wrap (((x * y / B : Nat) : Int) + ((hi (x * y % B) m 0 : Nat) : Int)) + ((hi (lo (x * y % B) m 0) n 0 : Nat) : Int)) = ((mh x y m n : Nat) : Int) := by
  obtain ⟨_, e2⟩ := mulAdd_num (x := x) (y := y) (m := m) (n := n)
  have hb := mh_lt hx hy hm hn
  rw [IntKind.wrap_u64, IntKind.wrap_u64]
  generalize hi (x * y % B) m 0 = u at *
  generalize hi (lo (x * y % B) m 0) n 0 = v at *
  generalize mh x y m n = z at *
  generalize x * y / B = q at *
  simp only [B] at hb
  omega

theorem at_num {a0 a1 a2 a3 s0 s1 s2 s3 n p0 p1 p2 p3 c0 c1 c2 c3 : Nat} (e0 : p0 + B * c0 = a0 * n + s0 + 0) (e1 : p1 + B * c1 = a1 * n + s1 + c0) (e2 : p2 + B * c2 = a2 * n + s2 + c1) (e3 : p3 + B * c3 = a3 * n + s3 + c2) :
    num s0 s1 s2 s3 + num a0 a1 a2 a3 * n = num p0 p1 p2 p3 + M * c3 := by
  have hM : M = B * (B * (B * B)) := by decide
  have ex : num a0 a1 a2 a3 * n = num (a0 * n) (a1 * n) (a2 * n) (a3 * n) := by
    unfold num; generalize B = b; grind
  rw [ex, hM]
  generalize a0 * n = x0 at *
  generalize a1 * n = x1 at *
  generalize a2 * n = x2 at *
  generalize a3 * n = x3 at *
  unfold num
  simp only [B] at *
  omega

theorem addTimes_wd (s a n : Nat) (hn : n < B) (w : World) :
    Calls Tryd.prog 89 #[wd s, wd a, .int .u64 (n : Int)] w fun e w' =>
      e = .returned (.tuple #[wd (s % M + a % M * n), .int .u64 (((s % M + a % M * n) / M : Nat) : Int)]) ∧ Below w.heap.size w w' := by
  obtain ⟨A0, A1, A2, A3⟩ := l_lt a
  obtain ⟨C0, C1, C2, C3⟩ := l_lt s
  have b0 := mh_lt A0 hn C0 (show 0 < B by decide)
  have b1 := mh_lt A1 hn C1 b0
  have b2 := mh_lt A2 hn C2 b1
  have d0 := mulAdd_num (x := l0 a) (y := n) (m := l0 s) (n := 0)
  have d1 := mulAdd_num (x := l1 a) (y := n) (m := l1 s) (n := mh (l0 a) n (l0 s) 0)
  have d2 := mulAdd_num (x := l2 a) (y := n) (m := l2 s) (n := mh (l1 a) n (l1 s) (mh (l0 a) n (l0 s) 0))
  have d3 := mulAdd_num (x := l3 a) (y := n) (m := l3 s) (n := mh (l2 a) n (l2 s) (mh (l1 a) n (l1 s) (mh (l0 a) n (l0 s) 0)))
  have w0 := wrap_mh A0 hn C0 (show 0 < B by decide)
  have w1 := wrap_mh A1 hn C1 b0
  have w2 := wrap_mh A2 hn C2 b1
  have w3 := wrap_mh A3 hn C3 b2
  have key := at_num (ml_mh (l0 a) n (l0 s) 0) (ml_mh (l1 a) n (l1 s) _) (ml_mh (l2 a) n (l2 s) _) (ml_mh (l3 a) n (l3 s) _)
  rw [num_parts, num_parts] at key
  have z := ml_lt (l0 a) n (l0 s) 0
  have hlt := num_lt z (ml_lt (l1 a) n (l1 s) (mh (l0 a) n (l0 s) 0)) (ml_lt (l2 a) n (l2 s) (mh (l1 a) n (l1 s) (mh (l0 a) n (l0 s) 0))) (ml_lt (l3 a) n (l3 s) (mh (l2 a) n (l2 s) (mh (l1 a) n (l1 s) (mh (l0 a) n (l0 s) 0))))
  have e1 : wd (s % M + a % M * n) = wd (num (ml (l0 a) n (l0 s) 0) (ml (l1 a) n (l1 s) (mh (l0 a) n (l0 s) 0)) (ml (l2 a) n (l2 s) (mh (l1 a) n (l1 s) (mh (l0 a) n (l0 s) 0))) (ml (l3 a) n (l3 s) (mh (l2 a) n (l2 s) (mh (l1 a) n (l1 s) (mh (l0 a) n (l0 s) 0))))) := by
    apply wd_congr; rw [key, Nat.add_mul_mod_self_left]
  have e2 : (s % M + a % M * n) / M = mh (l3 a) n (l3 s) (mh (l2 a) n (l2 s) (mh (l1 a) n (l1 s) (mh (l0 a) n (l0 s) 0))) := by
    rw [key, Nat.add_mul_div_left _ _ (by decide), Nat.div_eq_of_lt hlt, Nat.zero_add]
  rw [e1, e2, wd_num (ml_lt _ _ _ _) (ml_lt _ _ _ _) (ml_lt _ _ _ _) (ml_lt _ _ _ _)]
  have g := addTimes_walk (l0 a) (l1 a) (l2 a) (l3 a) (l0 s) (l1 s) (l2 s) (l3 s) n _ _ _ _ _ _ _ _ _ _ _ _ _ _ _ _ _ _ _ _ _ _ _ _ w
    (Lib.hid fun w => (Tryd.bits_Mul64 _ _ A0 hn w).mono fun e w' ⟨h1, h2⟩ => ⟨h1, h2.symm⟩) (add64_run _ (l0 s) 0 (Nat.zero_le _)) (add64_run _ 0 0 (Nat.zero_le _))
    (Lib.hid fun w => (Tryd.bits_Mul64 _ _ A1 hn w).mono fun e w' ⟨h1, h2⟩ => ⟨h1, h2.symm⟩) (add64_run _ (l1 s) 0 (Nat.zero_le _)) (by rw [w0]; exact add64_run _ _ 0 (Nat.zero_le _))
    (Lib.hid fun w => (Tryd.bits_Mul64 _ _ A2 hn w).mono fun e w' ⟨h1, h2⟩ => ⟨h1, h2.symm⟩) (add64_run _ (l2 s) 0 (Nat.zero_le _)) (by rw [w1]; exact add64_run _ _ 0 (Nat.zero_le _))
    (Lib.hid fun w => (Tryd.bits_Mul64 _ _ A3 hn w).mono fun e w' ⟨h1, h2⟩ => ⟨h1, h2.symm⟩) (add64_run _ (l3 s) 0 (Nat.zero_le _)) (by rw [w2]; exact add64_run _ _ 0 (Nat.zero_le _))
  rw [w3, d0.1, d1.1, d2.1, d3.1] at g
  exact g
end Go.Proofs.YtihefgpicnhdjaaDoor
/- Plain arithmetic on a division of two parts by one (math/bits.Div64, a divisor whose highest bit is 1): no program is named here. -/
namespace Go.Proofs.YtihefgpicnhdjaaDoor.SmWord

/-- One half of the division: x * 2^32 + l divided by y = y1 * 2^32 + y0 is Q. -/
structure Half (x l y y1 y0 Q : Int) : Prop where
  hy : y = y1 * 4294967296 + y0
  hy0 : 0 ≤ y0
  hy0' : y0 < 4294967296
  hy1 : 2147483648 ≤ y1
  hy1' : y1 < 4294967296
  hl : 0 ≤ l
  hl' : l < 4294967296
  hx : 0 ≤ x
  hx' : x < y
  hQ : Q * y ≤ x * 4294967296 + l
  hQ' : x * 4294967296 + l < Q * y + y
  hQ0 : 0 ≤ Q
structure DInv (x y1 Q q r : Int) : Prop where
  he : q * y1 + r = x
  hr : 0 ≤ r
  hr' : r < 4294967296
  hq : Q ≤ q
  hq' : q ≤ 4294967297

variable {x l y y1 y0 Q q r : Int}

theorem Half.Qb (h : Half x l y y1 y0 Q) : Q < 4294967296 := by
  refine Int.lt_of_mul_lt_mul_right (a := y) ?_ (by have := h.hx; have := h.hx'; omega)
  have := h.hQ; have := h.hx'; have := h.hl'
  omega
theorem half_mul (h : Half x l y y1 y0 Q) (i : DInv x y1 Q q r) : q * y = x * 4294967296 - r * 4294967296 + q * y0 := by
  have e := i.he
  have : q * y = q * y1 * 4294967296 + q * y0 := by rw [h.hy, Int.mul_add, Int.mul_assoc]
  rw [this, ← e]; generalize q * y1 = z; omega
theorem half_test (h : Half x l y y1 y0 Q) (i : DInv x y1 Q q r) (hq : Q < q) : 4294967296 * r + l < q * y0 := by
  have e := half_mul h i
  have hy : 0 ≤ y := by have := h.hx; have := h.hx'; omega
  have h1 : (Q + 1) * y ≤ q * y := Int.mul_le_mul_of_nonneg_right (by omega) hy
  rw [Int.add_mul, Int.one_mul] at h1
  have := h.hQ'
  omega
theorem half_stop (h : Half x l y y1 y0 Q) (i : DInv x y1 Q Q r) : Q * y0 ≤ 4294967296 * r + l := by
  have e := half_mul h i
  have := h.hQ
  omega
theorem half_q0 (h : Half x l y y1 y0 Q) (i : DInv x y1 Q q r) (hq : q < 4294967296) : 0 ≤ q * y0 ∧ q * y0 < 18446744073709551616 := by
  have h1 := h.hQ0
  have h2 := i.hq
  refine ⟨Int.mul_nonneg (by omega) h.hy0, ?_⟩
  have h3 : q * y0 ≤ 4294967295 * 4294967295 := Int.mul_le_mul (by omega) (by have := h.hy0'; omega) h.hy0 (by omega)
  omega
theorem half_break (h : Half x l y y1 y0 Q) (i : DInv x y1 Q q r) (hq : Q < q) (hr : 4294967296 ≤ r + y1) : q - 1 = Q := by
  have i' : (q - 1) * y1 + (r + y1) = x := by rw [Int.sub_mul]; have := i.he; omega
  have e : (q - 1) * y = x * 4294967296 - (r + y1) * 4294967296 + (q - 1) * y0 := by
    have : (q - 1) * y = (q - 1) * y1 * 4294967296 + (q - 1) * y0 := by rw [h.hy, Int.mul_add, Int.mul_assoc]
    rw [this, ← i']; generalize (q - 1) * y1 = z; omega
  have h1 := h.hQ0
  have h2 := i.hq'
  have h3 : (q - 1) * y0 ≤ 4294967296 * 4294967295 := Int.mul_le_mul (by omega) (by have := h.hy0'; omega) h.hy0 (by omega)
  have h4 : (q - 1) * y < (Q + 1) * y := by
    rw [Int.add_mul, Int.one_mul]
    have := h.hQ'; have := h.hl
    omega
  have h5 := Int.lt_of_mul_lt_mul_right h4 (by have := h.hx; have := h.hx'; omega)
  omega
theorem half_next (i : DInv x y1 Q q r) (y1p : 0 ≤ y1) (hq : Q < q) (hr : r + y1 < 4294967296) : DInv x y1 Q (q - 1) (r + y1) :=
  ⟨by rw [Int.sub_mul]; have := i.he; omega, by have := i.hr; omega, hr, by omega, by have := i.hq'; omega⟩
theorem half_start (h : Half x l y y1 y0 Q) : DInv x y1 Q (x / y1) (x - x / y1 * y1) := by
  have p : 0 < y1 := by have := h.hy1; omega
  have e := Int.mul_ediv_add_emod x y1
  have m0 := Int.emod_nonneg x (show y1 ≠ 0 by omega)
  have m1 := Int.emod_lt_of_pos x p
  rw [Int.mul_comm] at e
  have hr : x - x / y1 * y1 = x % y1 := by omega
  rw [hr]
  refine ⟨e, m0, by have := h.hy1'; omega, ?_, ?_⟩
  · rw [Int.le_ediv_iff_mul_le p]
    have h1 : Q * y1 * 4294967296 ≤ Q * y := by
      rw [h.hy, Int.mul_add, Int.mul_assoc]
      have := Int.mul_nonneg h.hQ0 h.hy0
      omega
    have := h.hQ; have := h.hl'
    omega
  · have h1 : x / y1 * y1 < 4294967298 * y1 := by
      have := h.hx'; have := h.hy; have := h.hy0'; have := h.hy1
      omega
    have := Int.lt_of_mul_lt_mul_right h1 (by omega)
    omega
theorem half_div (h : Half x l y y1 y0 Q) : 0 ≤ x / y1 ∧ x / y1 ≤ 4294967297 ∧ 0 ≤ x / y1 * y1 ∧ x / y1 * y1 ≤ x := by
  have s := half_start h
  have h1 := s.hq
  have h2 := h.hQ0
  have h3 := s.hr
  refine ⟨by omega, s.hq', Int.mul_nonneg (by omega) (by have := h.hy1; omega), by omega⟩
/-- What is left of the half. -/
theorem half_left (h : Half x l y y1 y0 Q) (hy : y < 18446744073709551616) :
    (((x * 4294967296) % 18446744073709551616 + l) % 18446744073709551616 - (Q * y) % 18446744073709551616) % 18446744073709551616 = x * 4294967296 + l - Q * y := by
  have h1 := h.hQ
  have h2 := h.hQ'
  generalize Q * y = z at *
  omega
theorem div_of {a m q : Nat} (h1 : q * m ≤ a) (h2 : a < q * m + m) : a / m = q := by
  have hm : 0 < m := by omega
  refine Nat.div_eq_of_lt_le h1 ?_
  rw [Nat.succ_mul]; exact h2
end Go.Proofs.YtihefgpicnhdjaaDoor.SmWord
/- What math/bits.Div64 does, for every divisor whose highest bit is 1 and every upper part below it: it returns the quotient, cut down, and what is left. -/
namespace Go.Proofs.YtihefgpicnhdjaaDoor
open Go.RowKit SmWord
set_option maxRecDepth 100000

set_option maxHeartbeats 2000000 in
theorem div64_walk (x l y y1 y0 l1 l0 Q1 u Q0 v : Int) (w : World) (hx : 1 ≤ x) (hxy : x < y) (hy : y < 18446744073709551616) (hy2 : 9223372036854775808 ≤ y) (_hl0 : 0 ≤ l) (_hl : l < 18446744073709551616)
   (_by1 : 2147483648 ≤ y1) (_by2 : y1 < 4294967296) (_by3 : 0 ≤ y0) (_by4 : y0 < 4294967296) (_bl1 : 0 ≤ l1) (_bl2 : l1 < 4294967296) (_bl3 : 0 ≤ l0) (_bl4 : l0 < 4294967296)
   (ey1 : y / 4294967296 = y1) (ey0 : bits .and .u64 y 4294967295 = y0) (eor : bits .or .u64 x (l / 18446744073709551616) = x) (el1 : l / 4294967296 = l1) (el0 : bits .and .u64 l 4294967295 = l0)
   (h : Hid (Half x l1 y y1 y0 Q1)) (g : Hid (Half u l0 y y1 y0 Q0))
   (_bx1 : 0 ≤ x / y1) (_bx2 : x / y1 ≤ 4294967297) (_bx3 : 0 ≤ x / y1 * y1) (_bx4 : x / y1 * y1 ≤ x)
   (eu : IntKind.u64.wrap (IntKind.u64.wrap (IntKind.u64.wrap (x * 4294967296) + l1) - IntKind.u64.wrap (Q1 * y)) = u)
   (_bu1 : 0 ≤ u / y1) (_bu2 : u / y1 ≤ 4294967297) (_bu3 : 0 ≤ u / y1 * y1) (_bu4 : u / y1 * y1 ≤ u)
   (ev : IntKind.u64.wrap (IntKind.u64.wrap (IntKind.u64.wrap (u * 4294967296) + l0) - IntKind.u64.wrap (Q0 * y)) = v)
   (H : Hid (∀ w : World, Calls Tryd.prog 77 #[.int .u64 y] w fun e w' => e = .returned (.int .i64 0) ∧ w = w')) :
    Calls Tryd.prog 92 #[.int .u64 x, .int .u64 l, .int .u64 y] w fun e w' => e = .returned (.tuple #[.int .u64 (Q1 * 4294967296 + Q0), .int .u64 v]) ∧ w = w' := by
  have h1 : (y == 0) = false := by rw [beq_eq_false_iff_ne]; omega
  have h2 : decide (y ≤ x) = false := by simp; omega
  have h3 : (x == 0) = false := by rw [beq_eq_false_iff_ne]; omega
  go_enter Tryd.func92, Tryd.ntmps92
  go_upto_block 0 with (go_at_call 77; refine (H.out _).mono ?_; rintro e w' ⟨rfl, rfl⟩)
  go_cut [15] (fun s15 wx => s15 = .int .u64 Q1 ∧ w = wx)
  case first =>
    go_wp2_with fail
    go_loop [15, 16] (fun q r => ∃ a b : Int, q = .int .u64 a ∧ r = .int .u64 b ∧ Hid (DInv x y1 Q1 a b)) (fun q _ => (intOf q).toNat)
    case atStart => exact ⟨_, _, rfl, rfl, Lib.hid (half_start h.out)⟩
    case round =>
      obtain ⟨a, b, rfl, rfl, i⟩ := hrel
      have i1 := i.out.hr
      have i2 := i.out.hr'
      have i3 := i.out.hq
      have i4 := i.out.hq'
      have i5 := h.out.hQ0
      have i6 := h.out.Qb
      by_cases hq : Q1 < a
      · have t := half_test h.out i.out hq
        have HB : Hid (4294967296 ≤ b + y1 → a - 1 = Q1) := Lib.hid (half_break h.out i.out hq)
        have HN : Hid (b + y1 < 4294967296 → DInv x y1 Q1 (a - 1) (b + y1)) := Lib.hid (half_next i.out (by omega) hq)
        by_cases ha : a < 4294967296
        · obtain ⟨p0, p1⟩ := half_q0 h.out i.out ha
          have c1 : decide (4294967296 ≤ a) = false := by simp; omega
          have c2 : decide (4294967296 * b + l1 < a * y0) = true := by simp; omega
          by_cases hb : b + y1 < 4294967296
          · have c3 : decide (4294967296 ≤ b + y1) = false := by simp; omega
            go_wp2_with fail
            go_round
            case rel => exact ⟨_, _, rfl, rfl, Lib.hid (HN.out hb)⟩
            case measure => simp [intOf]; omega
          · have c3 : decide (4294967296 ≤ b + y1) = true := by simp; omega
            go_wp2_with fail
            go_meet
            exact ⟨by rw [HB.out (by omega)], rfl⟩
        · have c1 : decide (4294967296 ≤ a) = true := by simp; omega
          by_cases hb : b + y1 < 4294967296
          · have c3 : decide (4294967296 ≤ b + y1) = false := by simp; omega
            go_wp2_with fail
            go_round
            case rel => exact ⟨_, _, rfl, rfl, Lib.hid (HN.out hb)⟩
            case measure => simp [intOf]; omega
          · have c3 : decide (4294967296 ≤ b + y1) = true := by simp; omega
            go_wp2_with fail
            go_meet
            exact ⟨by rw [HB.out (by omega)], rfl⟩
      · obtain rfl : a = Q1 := by omega
        have t := half_stop h.out i.out
        obtain ⟨p0, p1⟩ := half_q0 h.out i.out i6
        have c1 : decide (4294967296 ≤ a) = false := by simp; omega
        have c2 : decide (4294967296 * b + l1 < a * y0) = false := by simp; omega
        go_wp2_with fail
        go_meet
        exact ⟨rfl, rfl⟩
  case rest =>
    obtain ⟨rfl, rfl⟩ := hcut
    have j1 := g.out.hx
    have j2 := g.out.hx'
    go_upto_block 2 with fail
    go_cut [18] (fun s18 wx => s18 = .int .u64 Q0 ∧ w = wx)
    case first =>
      go_wp2_with fail
      go_loop [18, 16] (fun q r => ∃ a b : Int, q = .int .u64 a ∧ r = .int .u64 b ∧ Hid (DInv u y1 Q0 a b)) (fun q _ => (intOf q).toNat)
      case atStart => exact ⟨_, _, rfl, rfl, Lib.hid (half_start g.out)⟩
      case round =>
        obtain ⟨a, b, rfl, rfl, i⟩ := hrel
        have i1 := i.out.hr
        have i2 := i.out.hr'
        have i3 := i.out.hq
        have i4 := i.out.hq'
        have i5 := g.out.hQ0
        have i6 := g.out.Qb
        by_cases hq : Q0 < a
        · have t := half_test g.out i.out hq
          have HB : Hid (4294967296 ≤ b + y1 → a - 1 = Q0) := Lib.hid (half_break g.out i.out hq)
          have HN : Hid (b + y1 < 4294967296 → DInv u y1 Q0 (a - 1) (b + y1)) := Lib.hid (half_next i.out (by omega) hq)
          by_cases ha : a < 4294967296
          · obtain ⟨p0, p1⟩ := half_q0 g.out i.out ha
            have c1 : decide (4294967296 ≤ a) = false := by simp; omega
            have c2 : decide (4294967296 * b + l0 < a * y0) = true := by simp; omega
            by_cases hb : b + y1 < 4294967296
            · have c3 : decide (4294967296 ≤ b + y1) = false := by simp; omega
              go_wp2_with fail
              go_round
              case rel => exact ⟨_, _, rfl, rfl, Lib.hid (HN.out hb)⟩
              case measure => simp [intOf]; omega
            · have c3 : decide (4294967296 ≤ b + y1) = true := by simp; omega
              go_wp2_with fail
              go_meet
              exact ⟨by rw [HB.out (by omega)], rfl⟩
          · have c1 : decide (4294967296 ≤ a) = true := by simp; omega
            by_cases hb : b + y1 < 4294967296
            · have c3 : decide (4294967296 ≤ b + y1) = false := by simp; omega
              go_wp2_with fail
              go_round
              case rel => exact ⟨_, _, rfl, rfl, Lib.hid (HN.out hb)⟩
              case measure => simp [intOf]; omega
            · have c3 : decide (4294967296 ≤ b + y1) = true := by simp; omega
              go_wp2_with fail
              go_meet
              exact ⟨by rw [HB.out (by omega)], rfl⟩
        · obtain rfl : a = Q0 := by omega
          have t := half_stop g.out i.out
          obtain ⟨p0, p1⟩ := half_q0 g.out i.out i6
          have c1 : decide (4294967296 ≤ a) = false := by simp; omega
          have c2 : decide (4294967296 * b + l0 < a * y0) = false := by simp; omega
          go_wp2_with fail
          go_meet
          exact ⟨rfl, rfl⟩
    case rest =>
      obtain ⟨rfl, rfl⟩ := hcut
      have k1 := h.out.hQ0
      have k2 := h.out.Qb
      have k3 := g.out.hQ0
      have k4 := g.out.Qb
      go_wp2_with fail
      go_ret2
      exact ⟨rfl, rfl⟩

set_option maxHeartbeats 1000000 in
theorem div64_walk0 (l y : Int) (w : World) (_hl0 : 0 ≤ l) (_hl : l < 18446744073709551616) (hy : 1 ≤ y) (_e1 : IntKind.u64.wrap (l / y) = l / y) (_e2 : IntKind.u64.wrap (l % y) = l % y) :
    Calls Tryd.prog 92 #[.int .u64 0, .int .u64 l, .int .u64 y] w fun e w' => e = .returned (.tuple #[.int .u64 (l / y), .int .u64 (l % y)]) ∧ Below w.heap.size w w' := by
  have h1 : (y == 0) = false := by rw [beq_eq_false_iff_ne]; omega
  have h2 : decide (y ≤ 0) = false := by simp; omega
  go_enter Tryd.func92, Tryd.ntmps92
  go_wp2_with fail
  go_region
  go_wp2_with fail
  go_ret2
  exact ⟨rfl, (Below.refl _ _).drew⟩
end Go.Proofs.YtihefgpicnhdjaaDoor
/- What math/bits.Div64 does in numbers, where the divisor's highest bit is 1; and what the function guessDigit of package wide does: it returns the guess, and leaves all older memory as it was. -/
namespace Go.Proofs.YtihefgpicnhdjaaDoor
open Go.RowKit SmWord
set_option maxRecDepth 100000

theorem and_low (y : Nat) (hy : y < B) : bits .and .u64 (y : Int) 4294967295 = ((y % 4294967296 : Nat) : Int) := by
  have h := u64_and_nat y 4294967295 hy (by decide)
  have e : y &&& 4294967295 = y % 4294967296 := Nat.and_two_pow_sub_one_eq_mod y 32
  rw [e] at h
  exact h
theorem or_none (x l : Nat) (hx : x < B) (hl : l < B) : bits .or .u64 (x : Int) ((l : Int) / 18446744073709551616) = (x : Int) := by
  have e : (l : Int) / 18446744073709551616 = ((0 : Nat) : Int) := by simp only [B] at hl; omega
  rw [e, u64_or_nat x 0 hx (by decide), Nat.or_zero]
theorem half_nat {x l y : Nat} (hx : x < y) (hy : y < B) (hy2 : 9223372036854775808 ≤ y) (hl : l < 4294967296) :
    Half (x : Int) (l : Int) (y : Int) ((y / 4294967296 : Nat) : Int) ((y % 4294967296 : Nat) : Int) (((x * 4294967296 + l) / y : Nat) : Int) := by
  have h0 : 0 < y := by omega
  have e := Nat.div_add_mod (x * 4294967296 + l) y
  have f := Nat.mod_lt (x * 4294967296 + l) h0
  rw [Nat.mul_comm] at e
  generalize (x * 4294967296 + l) / y = q at *
  have c : ((q * y : Nat) : Int) = (q : Int) * (y : Int) := Int.natCast_mul _ _
  simp only [B] at hy
  refine ⟨by omega, by omega, by omega, by omega, by omega, by omega, by omega, by omega, by omega, ?_, ?_, by omega⟩
  · rw [← c]; omega
  · rw [← c]; omega
theorem half_rest {x l y : Nat} (hx : x < y) (hy : y < B) (hy2 : 9223372036854775808 ≤ y) (hl : l < 4294967296) :
    IntKind.u64.wrap (IntKind.u64.wrap (IntKind.u64.wrap ((x : Int) * 4294967296) + (l : Int)) - IntKind.u64.wrap ((((x * 4294967296 + l) / y : Nat) : Int) * (y : Int))) = (((x * 4294967296 + l) % y : Nat) : Int) := by
  have h := half_left (half_nat hx hy hy2 hl) (by simp only [B] at hy; omega)
  rw [IntKind.wrap_u64, IntKind.wrap_u64, IntKind.wrap_u64, IntKind.wrap_u64, h]
  have e := Nat.div_add_mod (x * 4294967296 + l) y
  rw [Nat.mul_comm] at e
  generalize (x * 4294967296 + l) / y = q at *
  generalize (x * 4294967296 + l) % y = r at *
  have c : ((q * y : Nat) : Int) = (q : Int) * (y : Int) := Int.natCast_mul _ _
  rw [← c]; omega
theorem top_zeros (y : Nat) (hy : y < B) (hy2 : 9223372036854775808 ≤ y) (w : World) :
    Calls Tryd.prog 77 #[.int .u64 (y : Int)] w fun e w' => e = .returned (.int .i64 0) ∧ w = w' := by
  refine (Tryd.bits_LeadingZeros64 y w (by omega) (by simp only [B] at hy; omega)).mono fun e w' ⟨h1, h2⟩ => ⟨?_, h2.symm⟩
  rw [h1, Int.toNat_natCast, bl_lib hy, bl_eq (k := 63) hy2 hy]
  rfl
theorem two_halves {x l y : Nat} (hy : 0 < y) :
    (x * 4294967296 + l / 4294967296) / y * 4294967296 + ((x * 4294967296 + l / 4294967296) % y * 4294967296 + l % 4294967296) / y = (x * B + l) / y ∧
    ((x * 4294967296 + l / 4294967296) % y * 4294967296 + l % 4294967296) % y = (x * B + l) % y := by
  have e := Nat.div_add_mod (x * 4294967296 + l / 4294967296) y
  have key : x * B + l = (x * 4294967296 + l / 4294967296) % y * 4294967296 + l % 4294967296 + y * ((x * 4294967296 + l / 4294967296) / y * 4294967296) := by
    rw [← Nat.mul_assoc]
    generalize (x * 4294967296 + l / 4294967296) % y = r at *
    generalize y * ((x * 4294967296 + l / 4294967296) / y) = z at *
    simp only [B]; omega
  rw [key, Nat.add_mul_div_left _ _ hy, Nat.add_mul_mod_self_left]
  exact ⟨Nat.add_comm _ _, rfl⟩

theorem div64_nat (x l y : Nat) (hx : x < y) (hl : l < B) (hy : y < B) (hy2 : 9223372036854775808 ≤ y) (w : World) :
    Calls Tryd.prog 92 #[.int .u64 (x : Int), .int .u64 (l : Int), .int .u64 (y : Int)] w fun e w' =>
      e = .returned (.tuple #[.int .u64 (((x * B + l) / y : Nat) : Int), .int .u64 (((x * B + l) % y : Nat) : Int)]) ∧ Below w.heap.size w w' := by
  have hp : 0 < y := by omega
  rcases Nat.eq_zero_or_pos x with h0 | h0
  · subst h0
    rw [Nat.zero_mul, Nat.zero_add]
    have g := div64_walk0 l y w (by omega) (by simp only [B] at hl; omega) (by omega)
      (by rw [IntKind.wrap_u64, ← Int.natCast_ediv]; have := Nat.div_le_self l y; generalize l / y = z at *; simp only [B] at hl; omega)
      (by rw [IntKind.wrap_u64, ← Int.natCast_emod]; have := Nat.mod_lt l hp; simp only [B] at hy; omega)
    rw [← Int.natCast_ediv, ← Int.natCast_emod] at g
    exact g
  · obtain ⟨t1, t2⟩ := two_halves (x := x) (l := l) hp
    have d1 : l / 4294967296 < 4294967296 := by simp only [B] at hl; omega
    have d2 : l % 4294967296 < 4294967296 := Nat.mod_lt _ (by decide)
    have d3 := Nat.mod_lt (x * 4294967296 + l / 4294967296) hp
    have H1 := half_nat hx hy hy2 d1
    have H2 := half_nat d3 hy hy2 d2
    have R1 := half_rest hx hy hy2 d1
    have R2 := half_rest d3 hy hy2 d2
    obtain ⟨a1, a2, a3, a4⟩ := half_div H1
    obtain ⟨b1, b2, b3, b4⟩ := half_div H2
    have g := div64_walk x l y _ _ _ _ _ _ _ _ w (by omega) (by omega) (by simp only [B] at hy; omega) (by omega) (by omega) (by simp only [B] at hl; omega)
      H1.hy1 H1.hy1' H1.hy0 H1.hy0' H1.hl H1.hl' H2.hl H2.hl' (by omega) (and_low y hy) (or_none x l (by omega) hl) (by omega) (and_low l hl)
      (Lib.hid H1) (Lib.hid H2) a1 a2 a3 a4 R1 b1 b2 b3 b4 R2 (Lib.hid (top_zeros y hy hy2))
    refine g.mono fun e w' ⟨h1, h2⟩ => ⟨?_, h2 ▸ Below.refl _ _⟩
    rw [h1, t2, ← t1]
    rfl

set_option maxHeartbeats 1000000 in
theorem guess_walk0 (a0 a1 a2 a3 b0 b1 b2 b3 : Int) (w : World) (h : b3 ≤ a3) :
    Calls Tryd.prog 88 #[.agg #[.int .u64 a0, .int .u64 a1, .int .u64 a2, .int .u64 a3], .agg #[.int .u64 b0, .int .u64 b1, .int .u64 b2, .int .u64 b3]] w fun e w' => e = .returned (.int .u64 18446744073709551615) ∧ Below w.heap.size w w' := by
  go_enter Tryd.func88, Tryd.ntmps88
  go_wp2
  go_ret
  exact ⟨rfl, ((Below.refl _ _).alloc (Nat.le_refl _) _).alloc (by simp) _⟩
set_option maxHeartbeats 1000000 in
theorem guess_walk1 (a0 a1 a2 a3 b0 b1 b2 b3 q r : Int) (w : World) (h : a3 < b3)
    (H : Hid (∀ w : World, Calls Tryd.prog 92 #[.int .u64 a3, .int .u64 a2, .int .u64 b3] w fun e w' => e = .returned (.tuple #[.int .u64 q, .int .u64 r]) ∧ Below w.heap.size w w')) :
    Calls Tryd.prog 88 #[.agg #[.int .u64 a0, .int .u64 a1, .int .u64 a2, .int .u64 a3], .agg #[.int .u64 b0, .int .u64 b1, .int .u64 b2, .int .u64 b3]] w fun e w' => e = .returned (.int .u64 q) ∧ Below w.heap.size w w' := by
  go_enter Tryd.func88, Tryd.ntmps88
  go_wp2_with (go_at_call 92; refine (H.out _).mono ?_; rintro e w' ⟨rfl, hb⟩)
  go_ret
  exact ⟨rfl, (((Below.refl _ _).alloc (Nat.le_refl _) _).alloc (by simp) _).trans (hb.mono (by simp; try omega))⟩
theorem guess_wd (r m : Nat) (hm : 9223372036854775808 ≤ l3 m) (w : World) :
    Calls Tryd.prog 88 #[wd r, wd m] w fun e w' => e = .returned (.int .u64 ((gs r m : Nat) : Int)) ∧ Below w.heap.size w w' := by
  unfold gs
  by_cases h : l3 m ≤ l3 r
  · rw [if_pos h]
    exact guess_walk0 _ _ _ _ _ _ _ _ w (by omega)
  · rw [if_neg h]
    exact guess_walk1 _ _ _ _ _ _ _ _ _ _ w (by omega) (Lib.hid fun w => div64_nat (l3 r) (l2 r) (l3 m) (by omega) (l_lt r).2.2.1 (l_lt m).2.2.2 hm w)
end Go.Proofs.YtihefgpicnhdjaaDoor
/- What the functions mulAdd and add of package modexp do: parts in memory, and sums of them. -/
namespace Go.Proofs.YtihefgpicnhdjaaDoor
open Go.RowKit SmWord
set_option maxRecDepth 100000

/-- Only block b has changed; what is new lies behind. -/
structure Wrote (b : Nat) (w w' : World) : Prop where
  os : w'.os = w.os
  tape : w'.tape = w.tape
  output : w'.output = w.output
  size : w.heap.size ≤ w'.heap.size
  block : ∀ k, k < w.heap.size → k ≠ b → w'.heap[k]? = w.heap[k]?
theorem Wrote.refl (b : Nat) (w : World) : Wrote b w w := ⟨rfl, rfl, rfl, Nat.le_refl _, fun _ _ _ => rfl⟩
theorem Wrote.trans {b : Nat} {x y z : World} (h : Wrote b x y) (k : Wrote b y z) : Wrote b x z :=
  ⟨k.os.trans h.os, k.tape.trans h.tape, k.output.trans h.output, Nat.le_trans h.size k.size, fun i hi hne => (k.block i (Nat.lt_of_lt_of_le hi h.size) hne).trans (h.block i hi hne)⟩
theorem Wrote.of_below {b : Nat} {w w' : World} (h : Below w.heap.size w w') : Wrote b w w' := ⟨h.os, h.tape, h.output, h.size, fun k hk _ => h.block k hk⟩
theorem Wrote.put {b j : Nat} (w : World) (v : Value) : Wrote b w (w.setCell ⟨b, j, none⟩ v) := ⟨rfl, rfl, rfl, by simp [World.setCell], fun k _ hne => Below.heap_setCell _ _ _ _ hne⟩
theorem Wrote.row {b : Nat} (w : World) (c : Array Value) : Wrote b w (w.setRow b c) := by
  have h := below_setRow (Below.refl b w) (Nat.le_refl b) c
  exact ⟨h.os, h.tape, h.output, h.size, fun k _ hne => setRow_other _ _ _ _ hne⟩
theorem Wrote.drew {b : Nat} {w w' : World} (h : Wrote b w w') : Wrote b w w'.drew := ⟨h.os, h.tape, h.output, h.size, h.block⟩
theorem Wrote.below {b B : Nat} {w w' : World} (h : Wrote b w w') (hb : B ≤ b) (hB : B ≤ w.heap.size) : Below B w w' :=
  ⟨h.os, h.tape, h.output, h.size, fun k hk => h.block k (by omega) (by omega)⟩
theorem Wrote.low {b B : Nat} {w w1 w2 : World} (h : Wrote b w w1) (hb : Below B w1 w2) (hB : w.heap.size ≤ B) : Wrote b w w2 :=
  ⟨hb.os.trans h.os, hb.tape.trans h.tape, hb.output.trans h.output, Nat.le_trans h.size hb.size, fun i hi hne => (hb.block i (by omega)).trans (h.block i hi hne)⟩
theorem Wrote.other {b b' : Nat} {w w' : World} {o : Obj} (h : Wrote b w w') (hb : w.heap[b']? = some o) (hne : b' ≠ b) : w'.heap[b']? = some o := by
  rw [h.block b' (Array.getElem?_eq_some_iff.1 hb).1 hne, hb]
theorem Wrote.cell {b : Nat} {w w' : World} {p : Addr} (h : Wrote b w w') (hp : p.block < w.heap.size) (hne : p.block ≠ b) : w'.cell? p = w.cell? p := World.cell?_of_block (w := w) (h.block p.block hp hne)

/-- n parts. -/
def ua (n : Nat) (F : Nat → Nat) : Array Value := arr .u64 n fun i => ((F i : Nat) : Int)
theorem ua_size (n : Nat) (F : Nat → Nat) : (ua n F).size = n := arr_size _ _ _
theorem ua_get {n : Nat} (F : Nat → Nat) {i : Nat} (h : i < n) : (ua n F)[i]? = some (.int .u64 ((F i : Nat) : Int)) := arr_get _ _ h
theorem ua_congr {n : Nat} {F G : Nat → Nat} (h : ∀ i, i < n → F i = G i) : ua n F = ua n G := arr_congr fun i hi => by rw [h i hi]
theorem ua_set {n : Nat} (F : Nat → Nat) {i : Nat} (x : Nat) (h : i < n) : (ua n F).setIfInBounds i (.int .u64 (x : Int)) = ua n fun j => if j = i then x else F j := by
  unfold ua
  rw [arr_set _ _ _ h]
  exact arr_congr fun j _ => by
    by_cases e : j = i
    · simp only [if_pos e]
    · simp only [if_neg e]
theorem ua_pt {n : Nat} (F : Nat → Nat) {o k X : Nat} (h : o + k < n) : (ua n (pt F o k X)).setIfInBounds (o + k) (.int .u64 ((lb X k : Nat) : Int)) = ua n (pt F o (k + 1) X) := by
  rw [ua_set _ _ h, pt_succ]
theorem Ext.cell {w : World} (g : Ext w) {b o : Nat} {v : Value} (h : w.cell? ⟨b, o, none⟩ = some v) : g.on.cell? ⟨b, o, none⟩ = some v :=
  (g.below.cell (p := ⟨b, o, none⟩) (by simpa using World.block_lt_of_cell? w _ h)).trans h
/-- Parts that are read. -/
structure Us (w : World) (b off n : Nat) (G : Nat → Nat) : Prop where
  small : ∀ i, i < n → G i < B
  here : b < w.heap.size
  cells : ∀ i, i < n → w.cell? ⟨b, off + i, none⟩ = some (.int .u64 ((G i : Nat) : Int))
theorem Us.wrote {w w' : World} {b off n c : Nat} {G : Nat → Nat} (h : Us w b off n G) (hw : Wrote c w w') (hne : b ≠ c) : Us w' b off n G :=
  ⟨h.small, Nat.lt_of_lt_of_le h.here hw.size, fun i hi => (hw.cell (p := ⟨b, off + i, none⟩) h.here hne).trans (h.cells i hi)⟩
theorem Us.drew {w : World} {b off n : Nat} {G : Nat → Nat} (h : Us w b off n G) : Us w.drew b off n G := ⟨h.small, h.here, h.cells⟩
theorem Us.below {w w' : World} {b off n : Nat} {G : Nat → Nat} (h : Us w b off n G) (hw : Below w.heap.size w w') : Us w' b off n G :=
  ⟨h.small, Nat.lt_of_lt_of_le h.here hw.size, fun i hi => (hw.cell (p := ⟨b, off + i, none⟩) h.here).trans (h.cells i hi)⟩

set_option maxHeartbeats 400000 in
theorem mulAddM_walk (x y m n h l l1 c1 l2 c2 : Int) (w : World)
    (hm : ∀ w : World, Calls Tryd.prog 84 #[.int .u64 x, .int .u64 y] w fun e w' => e = .returned (.tuple #[.int .u64 h, .int .u64 l]) ∧ w = w')
    (k1 : ∀ w : World, (callFunc 57 #[.int .u64 l, .int .u64 m, .int .u64 0]).run Tryd.prog w = .ok (.value (.tuple #[.int .u64 l1, .int .u64 c1])) w)
    (k2 : ∀ w : World, (callFunc 57 #[.int .u64 l1, .int .u64 n, .int .u64 0]).run Tryd.prog w = .ok (.value (.tuple #[.int .u64 l2, .int .u64 c2])) w) :
    Calls Tryd.prog 95 #[.int .u64 x, .int .u64 y, .int .u64 m, .int .u64 n] w fun e w' =>
      e = .returned (.tuple #[.int .u64 (IntKind.u64.wrap (IntKind.u64.wrap (h + c1) + c2)), .int .u64 l2]) ∧ w = w' := by
  have H := Lib.hid hm
  clear hm
  go_enter Tryd.func95, Tryd.ntmps95
  go_wp2_with (go_at_call 84; refine (H.out _).mono ?_; rintro e w' ⟨rfl, rfl⟩)
  go_ret2
  exact ⟨rfl, rfl⟩
theorem mulAddM (x y m n : Nat) (hx : x < B) (hy : y < B) (hm : m < B) (hn : n < B) (w : World) :
    Calls Tryd.prog 95 #[.int .u64 (x : Int), .int .u64 (y : Int), .int .u64 (m : Int), .int .u64 (n : Int)] w fun e w' =>
      e = .returned (.tuple #[.int .u64 ((mh x y m n : Nat) : Int), .int .u64 ((ml x y m n : Nat) : Int)]) ∧ w' = w := by
  obtain ⟨e1, e2⟩ := mulAdd_num (x := x) (y := y) (m := m) (n := n)
  have hb := mh_lt hx hy hm hn
  have key := mulAddM_walk x y m n _ _ _ _ _ _ w (fun w => (Tryd.bits_Mul64 x y hx hy w).mono fun e w' ⟨h1, h2⟩ => ⟨h1, h2.symm⟩)
    (add64_run (x * y % B) m 0 (Nat.zero_le _)) (add64_run (lo (x * y % B) m 0) n 0 (Nat.zero_le _))
  have hw : IntKind.u64.wrap (IntKind.u64.wrap (((x * y / B : Nat) : Int) + ((hi (x * y % B) m 0 : Nat) : Int)) + ((hi (lo (x * y % B) m 0) n 0 : Nat) : Int)) = ((mh x y m n : Nat) : Int) := by
    rw [IntKind.wrap_u64, IntKind.wrap_u64]
    generalize hi (x * y % B) m 0 = u at *
    generalize hi (lo (x * y % B) m 0) n 0 = v at *
    generalize mh x y m n = z at *
    generalize x * y / B = q at *
    simp only [B] at hb
    omega
  refine key.mono fun e w' ⟨h1, h2⟩ => ⟨?_, h2.symm⟩
  rw [h1, e1]
  exact congrArg (fun z => Ending.returned (.tuple #[.int .u64 z, .int .u64 ((ml x y m n : Nat) : Int)])) hw

set_option maxHeartbeats 1000000 in
theorem addM_walk (ba o n k ca bb ob cb : Nat) (F G : Nat → Nat) (t : TypeId) (w : World) (hn : o + k ≤ n) (hF : ∀ i, i < n → F i < B) (ha : w.heap[ba]? = some (.cells (ua n F) t)) (hb : Us w bb ob k G) (hne : bb ≠ ba) (na : Nat) (hk : k ≤ na) (hk2 : na ≤ 100) :
    Calls Tryd.prog 94 #[.slice (some ⟨ba, o, none⟩) na ca, .slice (some ⟨bb, ob, none⟩) k cb] w fun e w' =>
      e = .returned (.int .u64 ((mc (vp F o k) (vp G 0 k) 1 k : Nat) : Int)) ∧ w'.heap[ba]? = some (.cells (ua n (pt F o k (vp F o k + vp G 0 k))) t) ∧ Wrote ba w w' := by
  have hG := hb.small
  have hF' : ∀ i, i < k → F (o + i) < B := fun i hi => hF _ (by omega)
  have hLA : ∀ i, i < k → lb (vp F o k) i = F (o + i) := fun i hi => lb_vp hF' hi
  have hLG : ∀ i, i < k → lb (vp G 0 k) i = G i := fun i hi => (lb_vp (fun i hi => by rw [Nat.zero_add]; exact hG i hi) hi).trans (by rw [Nat.zero_add])
  generalize vp F o k = A at *
  generalize vp G 0 k = Gv at *
  go_enter Tryd.func94, Tryd.ntmps94
  go_wp2_with fail
  go_loopw [10, 5] (fun i c wr => ∃ j : Nat, j ≤ k ∧ i = .int .i64 (j : Int) ∧ c = .int .u64 ((mc A Gv 1 j : Nat) : Int) ∧ wr.heap[ba]? = some (.cells (ua n (pt F o j (A + Gv))) t) ∧ Wrote ba w wr) (fun i _ _ => k - (intOf i).toNat)
  case atStart => exact ⟨0, Nat.zero_le _, rfl, by rw [mc_zero]; rfl, by rw [pt_zero]; exact ha, Wrote.refl _ _⟩
  case round =>
    obtain ⟨j, hj, rfl, rfl, h1, h2⟩ := hrel
    by_cases hlt : j < k
    · have c1 := blk_cell h1 (ua_get _ (show o + j < n by omega))
      rw [pt_out F (by omega), ← hLA j hlt] at c1
      have c2 := (hb.wrote h2 hne).cells j hlt
      rw [← hLG j hlt] at c2
      have c3 := blk_frozen (j := o + j) h1
      obtain ⟨s1, s2⟩ := sum_step A Gv j
      have r1 := add64_run (lb A j) (lb Gv j) (mc A Gv 1 j) (mc_one _ _ _)
      rw [s1, s2] at r1
      have H1 := Lib.hid h1
      have H2 := Lib.hid h2
      clear h1 h2 hLA hLG hF hF' hG hb ha s1 s2
      go_wp2_with fail
      refine ⟨⟨j + 1, by omega, by go_num, rfl, ?_, H2.out.trans (Wrote.put _ _)⟩, by simp only [intOf]; omega⟩
      rw [← ua_pt F (by omega)]
      exact blk_set H1.out _
    · obtain rfl : j = k := by omega
      go_wp2_with fail
      go_ret
      exact ⟨rfl, h1, h2⟩
end Go.Proofs.YtihefgpicnhdjaaDoor
/- What the functions addTimes and subTimes of package modexp do. -/
namespace Go.Proofs.YtihefgpicnhdjaaDoor
open Go.RowKit SmWord
set_option maxRecDepth 100000

set_option maxHeartbeats 1000000 in
theorem addTimesM_walk (ba o n k ca bb ob cb x : Nat) (F G : Nat → Nat) (t : TypeId) (w : World) (hn : o + k + 1 ≤ n) (hF : ∀ i, i < n → F i < B) (ha : w.heap[ba]? = some (.cells (ua n F) t)) (hb : Us w bb ob k G) (hne : bb ≠ ba) (hx : x < B) (hk2 : k ≤ 100) :
    Calls Tryd.prog 87 #[.slice (some ⟨ba, o, none⟩) (k + 1) ca, .slice (some ⟨bb, ob, none⟩) k cb, .int .u64 (x : Int)] w fun e w' =>
      e = .returned (.tuple #[]) ∧ w'.heap[ba]? = some (.cells (ua n (pt F o (k + 1) (vp F o k + vp G 0 k * x))) t) ∧ Wrote ba w w' := by
  have hG := hb.small
  have hF' : ∀ i, i < k → F (o + i) < B := fun i hi => hF _ (by omega)
  have hLA : ∀ i, i < k → lb (vp F o k) i = F (o + i) := fun i hi => lb_vp hF' hi
  have hLG : ∀ i, i < k → lb (vp G 0 k) i = G i := fun i hi => (lb_vp (fun i hi => by rw [Nat.zero_add]; exact hG i hi) hi).trans (by rw [Nat.zero_add])
  have hA := vp_lt hF'
  have hGv := vp_lt (F := G) (o := 0) (k := k) (fun i hi => by rw [Nat.zero_add]; exact hG i hi)
  have hT := mc_top hx hA hGv
  clear hA hGv
  generalize vp F o k = A at *
  generalize vp G 0 k = Gv at *
  go_enter Tryd.func87, Tryd.ntmps87
  go_wp2_with fail
  go_loopw [11, 6] (fun i c wr => ∃ j : Nat, j ≤ k ∧ i = .int .i64 (j : Int) ∧ c = .int .u64 ((mc A Gv x j : Nat) : Int) ∧ wr.heap[ba]? = some (.cells (ua n (pt F o j (A + Gv * x))) t) ∧ Wrote ba w wr) (fun i _ _ => k - (intOf i).toNat)
  case atStart => exact ⟨0, Nat.zero_le _, rfl, by rw [mc_zero]; rfl, by rw [pt_zero]; exact ha, Wrote.refl _ _⟩
  case round =>
    obtain ⟨j, hj, rfl, rfl, h1, h2⟩ := hrel
    by_cases hlt : j < k
    · have c1 := blk_cell h1 (ua_get _ (show o + j < n by omega))
      rw [pt_out F (by omega), ← hLA j hlt] at c1
      have c2 := (hb.wrote h2 hne).cells j hlt
      rw [← hLG j hlt] at c2
      have c3 := blk_frozen (j := o + j) h1
      obtain ⟨s1, s2⟩ := mc_step A Gv x j
      have r1 := fun w => mulAddM (lb Gv j) x (lb A j) (mc A Gv x j) (lb_lt _ _) hx (lb_lt _ _) (mc_lt hx j) w
      rw [s1, s2] at r1
      have R := Lib.hid r1
      have H1 := Lib.hid h1
      have H2 := Lib.hid h2
      clear h1 h2 hLA hLG hF hF' hG hb ha s1 s2 r1 hT hx
      go_wp2_with (go_at_call 95; refine (R.out _).mono ?_; rintro e w' ⟨rfl, rfl⟩)
      refine ⟨⟨j + 1, by omega, by go_num, rfl, ?_, H2.out.trans (Wrote.put _ _)⟩, by simp only [intOf]; omega⟩
      rw [← ua_pt F (by omega)]
      exact blk_set H1.out _
    · obtain rfl : j = k := by omega
      have c3 := blk_frozen (j := o + j) h1
      have c1 := blk_cell h1 (ua_get _ (show o + j < n by omega))
      have H1 := Lib.hid h1
      have H2 := Lib.hid h2
      clear h1 h2 hLA hLG hF hF' hG hb ha
      rw [hT]
      clear hT hx
      go_wp2_with fail
      go_end0
      refine ⟨rfl, ?_, H2.out.trans (Wrote.put _ _)⟩
      rw [← ua_pt F (by omega)]
      exact blk_set H1.out _

set_option maxHeartbeats 1000000 in
theorem subTimesM_walk (ba o n k na ca bb ob cb x X : Nat) (F G : Nat → Nat) (t : TypeId) (w : World) (hn : o + k ≤ n) (hF : ∀ i, i < n → F i < B) (ha : w.heap[ba]? = some (.cells (ua n F) t)) (hb : Us w bb ob k G) (hne : bb ≠ ba) (hx : x < B) (hk : k ≤ na) (hk2 : na ≤ 100)
    (hX : (X + vp G 0 k * x) % B ^ k = vp F o k % B ^ k) :
    Calls Tryd.prog 93 #[.slice (some ⟨ba, o, none⟩) na ca, .slice (some ⟨bb, ob, none⟩) k cb, .int .u64 (x : Int)] w fun e w' =>
      e = .returned (.int .u64 ((mc X (vp G 0 k) x k : Nat) : Int)) ∧ w'.heap[ba]? = some (.cells (ua n (pt F o k X)) t) ∧ Wrote ba w w' := by
  have hG := hb.small
  have hF' : ∀ i, i < k → F (o + i) < B := fun i hi => hF _ (by omega)
  have hLA : ∀ i, i < k → lb (vp F o k) i = F (o + i) := fun i hi => lb_vp hF' hi
  have hLG : ∀ i, i < k → lb (vp G 0 k) i = G i := fun i hi => (lb_vp (fun i hi => by rw [Nat.zero_add]; exact hG i hi) hi).trans (by rw [Nat.zero_add])
  generalize vp F o k = A at *
  generalize vp G 0 k = Gv at *
  go_enter Tryd.func93, Tryd.ntmps93
  go_wp2_with fail
  go_loopw [15, 7] (fun i c wr => ∃ j : Nat, j ≤ k ∧ i = .int .i64 (j : Int) ∧ c = .int .u64 ((mc X Gv x j : Nat) : Int) ∧ wr.heap[ba]? = some (.cells (ua n (pt F o j X)) t) ∧ Wrote ba w wr) (fun i _ _ => k - (intOf i).toNat)
  case atStart => exact ⟨0, Nat.zero_le _, rfl, by rw [mc_zero]; rfl, by rw [pt_zero]; exact ha, Wrote.refl _ _⟩
  case round =>
    obtain ⟨j, hj, rfl, rfl, h1, h2⟩ := hrel
    by_cases hlt : j < k
    · have c1 := blk_cell h1 (ua_get _ (show o + j < n by omega))
      rw [pt_out F (by omega), ← hLA j hlt] at c1
      have c2 := (hb.wrote h2 hne).cells j hlt
      rw [← hLG j hlt] at c2
      have c3 := blk_frozen (j := o + j) h1
      obtain ⟨s1, s2⟩ := sub_step (j := j) hX hlt
      have r1 := fun w => mulAddM (lb Gv j) x (mc X Gv x j) 0 (lb_lt _ _) hx (mc_lt hx j) (by decide) w
      have r2 : ∀ w : World, (callFunc 97 #[.int .u64 ((lb A j : Nat) : Int), .int .u64 ((ml (lb Gv j) x (mc X Gv x j) 0 : Nat) : Int), .int .u64 0]).run Tryd.prog w = .ok (.value (.tuple #[.int .u64 ((dlo (lb A j) (ml (lb Gv j) x (mc X Gv x j) 0) 0 : Nat) : Int), .int .u64 ((dhi (lb A j) (ml (lb Gv j) x (mc X Gv x j) 0) 0 : Nat) : Int)])) w := fun w => sub64_run (lb A j) (ml (lb Gv j) x (mc X Gv x j) 0) 0 (Nat.zero_le _) w
      have s3 := mc_lt (A := X) (G := Gv) hx (j + 1)
      rw [s1] at r2
      have e1 : IntKind.u64.wrap (((mh (lb Gv j) x (mc X Gv x j) 0 : Nat) : Int) + ((dhi (lb A j) (ml (lb Gv j) x (mc X Gv x j) 0) 0 : Nat) : Int)) = ((mc X Gv x (j + 1) : Nat) : Int) := by
        rw [← s2] at s3 ⊢
        rw [IntKind.wrap_u64]
        simp only [B] at s3
        omega
      generalize mh (lb Gv j) x (mc X Gv x j) 0 = hi' at *
      generalize ml (lb Gv j) x (mc X Gv x j) 0 = lo' at *
      generalize dhi (lb A j) lo' 0 = bo at *
      have R := Lib.hid r1
      have H1 := Lib.hid h1
      have H2 := Lib.hid h2
      clear h1 h2 hLA hLG hF hF' hG hb ha s1 s2 r1 hX hx s3
      go_wp2_with (go_at_call 95; refine (R.out _).mono ?_; rintro e w' ⟨rfl, rfl⟩)
      refine ⟨⟨j + 1, by omega, by go_num, ?_, ?_, H2.out.trans (Wrote.put _ _)⟩, by simp only [intOf]; omega⟩
      · first | rfl | rw [e1]
      · rw [← ua_pt F (by omega)]
        exact blk_set H1.out _
    · obtain rfl : j = k := by omega
      go_wp2_with fail
      go_ret
      exact ⟨rfl, h1, h2⟩
end Go.Proofs.YtihefgpicnhdjaaDoor
