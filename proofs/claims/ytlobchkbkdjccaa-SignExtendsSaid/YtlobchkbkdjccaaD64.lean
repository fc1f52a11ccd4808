/- What math/bits.Div64 does, for every divisor whose highest bit is 1 and every upper part below it: it returns the quotient, cut down, and what is left. -/
import Derived.Test.YtlobchkbkdjccaaAddT
import Derived.Test.YtlobchkbkdjccaaD64M
import Derived.Deep.DeepCutAuto
import Derived.Deep.CutBlock
namespace Go.Proofs.Ytlobchkbkdjccaa
open Go.RowKit SmWord
set_option maxRecDepth 100000

set_option maxHeartbeats 2000000 in
theorem div64_walk (x l y y1 y0 l1 l0 Q1 u Q0 v : Int) (w : World) (hx : 1 ≤ x) (hxy : x < y) (hy : y < 18446744073709551616) (hy2 : 9223372036854775808 ≤ y) (_hl0 : 0 ≤ l) (_hl : l < 18446744073709551616)
   (_by1 : 2147483648 ≤ y1) (_by2 : y1 < 4294967296) (_by3 : 0 ≤ y0) (_by4 : y0 < 4294967296) (_bl1 : 0 ≤ l1) (_bl2 : l1 < 4294967296) (_bl3 : 0 ≤ l0) (_bl4 : l0 < 4294967296)
   (ey1 : y / 4294967296 = y1) (ey0 : bits .and .u64 y 4294967295 = y0) (eor : bits .or .u64 x (l / 18446744073709551616) = x) (el1 : l / 4294967296 = l1) (el0 : bits .and .u64 l 4294967295 = l0)
   (h : Hid (Half x l1 y y1 y0 Q1)) (g : Hid (Half u l0 y y1 y0 Q0))
   (_bx1 : 0 ≤ x / y1) (_bx2 : x / y1 ≤ 4294967297) (_bx3 : 0 ≤ x / y1 * y1) (_bx4 : x / y1 * y1 ≤ x)
   (eu : IntKind.u64.wrap (IntKind.u64.wrap (IntKind.u64.wrap (x * 4294967296) + l1) - IntKind.u64.wrap (Q1 * y)) = u)
   (_bu1 : 0 ≤ u / y1) (_bu2 : u / y1 ≤ 4294967297) (_bu3 : 0 ≤ u / y1 * y1) (_bu4 : u / y1 * y1 ≤ u)
   (ev : IntKind.u64.wrap (IntKind.u64.wrap (IntKind.u64.wrap (u * 4294967296) + l0) - IntKind.u64.wrap (Q0 * y)) = v)
   (H : Hid (∀ w : World, Calls Try.prog 64 #[.int .u64 y] w fun e w' => e = .returned (.int .i64 0) ∧ w = w')) :
    Calls Try.prog 61 #[.int .u64 x, .int .u64 l, .int .u64 y] w fun e w' => e = .returned (.tuple #[.int .u64 (Q1 * 4294967296 + Q0), .int .u64 v]) ∧ w = w' := by
  have h1 : (y == 0) = false := by rw [beq_eq_false_iff_ne]; omega
  have h2 : decide (y ≤ x) = false := by simp; omega
  have h3 : (x == 0) = false := by rw [beq_eq_false_iff_ne]; omega
  go_enter Try.func61, Try.ntmps61
  go_upto_block 0 with (go_at_call 64; refine (H.out _).mono ?_; rintro e w' ⟨rfl, rfl⟩)
  go_cut [15] (fun s15 wx => s15 = .int .u64 Q1 ∧ w = wx)
  case first =>
    go_wp2_with fail
    go_loop [15, 16] (fun q r => ∃ a b : Int, q = .int .u64 a ∧ r = .int .u64 b ∧ Hid (DInv x y1 Q1 a b)) (fun q _ => (intOf q).toNat)
    case atStart => exact ⟨_, _, rfl, rfl, Lib.hid (half_start h.out)⟩
    case round =>
      obtain ⟨a, b, rfl, rfl, i⟩ := hrel
      have i1 := i.out.hr
      have i2 := i.out.hr'
      have i3 := i.out.hq
      have i4 := i.out.hq'
      have i5 := h.out.hQ0
      have i6 := h.out.Qb
      by_cases hq : Q1 < a
      · have t := half_test h.out i.out hq
        have HB : Hid (4294967296 ≤ b + y1 → a - 1 = Q1) := Lib.hid (half_break h.out i.out hq)
        have HN : Hid (b + y1 < 4294967296 → DInv x y1 Q1 (a - 1) (b + y1)) := Lib.hid (half_next i.out (by omega) hq)
        by_cases ha : a < 4294967296
        · obtain ⟨p0, p1⟩ := half_q0 h.out i.out ha
          have c1 : decide (4294967296 ≤ a) = false := by simp; omega
          have c2 : decide (4294967296 * b + l1 < a * y0) = true := by simp; omega
          by_cases hb : b + y1 < 4294967296
          · have c3 : decide (4294967296 ≤ b + y1) = false := by simp; omega
            go_wp2_with fail
            go_round
            case rel => exact ⟨_, _, rfl, rfl, Lib.hid (HN.out hb)⟩
            case measure => simp [intOf]; omega
          · have c3 : decide (4294967296 ≤ b + y1) = true := by simp; omega
            go_wp2_with fail
            go_meet
            exact ⟨by rw [HB.out (by omega)], rfl⟩
        · have c1 : decide (4294967296 ≤ a) = true := by simp; omega
          by_cases hb : b + y1 < 4294967296
          · have c3 : decide (4294967296 ≤ b + y1) = false := by simp; omega
            go_wp2_with fail
            go_round
            case rel => exact ⟨_, _, rfl, rfl, Lib.hid (HN.out hb)⟩
            case measure => simp [intOf]; omega
          · have c3 : decide (4294967296 ≤ b + y1) = true := by simp; omega
            go_wp2_with fail
            go_meet
            exact ⟨by rw [HB.out (by omega)], rfl⟩
      · obtain rfl : a = Q1 := by omega
        have t := half_stop h.out i.out
        obtain ⟨p0, p1⟩ := half_q0 h.out i.out i6
        have c1 : decide (4294967296 ≤ a) = false := by simp; omega
        have c2 : decide (4294967296 * b + l1 < a * y0) = false := by simp; omega
        go_wp2_with fail
        go_meet
        exact ⟨rfl, rfl⟩
  case rest =>
    obtain ⟨rfl, rfl⟩ := hcut
    have j1 := g.out.hx
    have j2 := g.out.hx'
    go_upto_block 2 with fail
    go_cut [18] (fun s18 wx => s18 = .int .u64 Q0 ∧ w = wx)
    case first =>
      go_wp2_with fail
      go_loop [18, 16] (fun q r => ∃ a b : Int, q = .int .u64 a ∧ r = .int .u64 b ∧ Hid (DInv u y1 Q0 a b)) (fun q _ => (intOf q).toNat)
      case atStart => exact ⟨_, _, rfl, rfl, Lib.hid (half_start g.out)⟩
      case round =>
        obtain ⟨a, b, rfl, rfl, i⟩ := hrel
        have i1 := i.out.hr
        have i2 := i.out.hr'
        have i3 := i.out.hq
        have i4 := i.out.hq'
        have i5 := g.out.hQ0
        have i6 := g.out.Qb
        by_cases hq : Q0 < a
        · have t := half_test g.out i.out hq
          have HB : Hid (4294967296 ≤ b + y1 → a - 1 = Q0) := Lib.hid (half_break g.out i.out hq)
          have HN : Hid (b + y1 < 4294967296 → DInv u y1 Q0 (a - 1) (b + y1)) := Lib.hid (half_next i.out (by omega) hq)
          by_cases ha : a < 4294967296
          · obtain ⟨p0, p1⟩ := half_q0 g.out i.out ha
            have c1 : decide (4294967296 ≤ a) = false := by simp; omega
            have c2 : decide (4294967296 * b + l0 < a * y0) = true := by simp; omega
            by_cases hb : b + y1 < 4294967296
            · have c3 : decide (4294967296 ≤ b + y1) = false := by simp; omega
              go_wp2_with fail
              go_round
              case rel => exact ⟨_, _, rfl, rfl, Lib.hid (HN.out hb)⟩
              case measure => simp [intOf]; omega
            · have c3 : decide (4294967296 ≤ b + y1) = true := by simp; omega
              go_wp2_with fail
              go_meet
              exact ⟨by rw [HB.out (by omega)], rfl⟩
          · have c1 : decide (4294967296 ≤ a) = true := by simp; omega
            by_cases hb : b + y1 < 4294967296
            · have c3 : decide (4294967296 ≤ b + y1) = false := by simp; omega
              go_wp2_with fail
              go_round
              case rel => exact ⟨_, _, rfl, rfl, Lib.hid (HN.out hb)⟩
              case measure => simp [intOf]; omega
            · have c3 : decide (4294967296 ≤ b + y1) = true := by simp; omega
              go_wp2_with fail
              go_meet
              exact ⟨by rw [HB.out (by omega)], rfl⟩
        · obtain rfl : a = Q0 := by omega
          have t := half_stop g.out i.out
          obtain ⟨p0, p1⟩ := half_q0 g.out i.out i6
          have c1 : decide (4294967296 ≤ a) = false := by simp; omega
          have c2 : decide (4294967296 * b + l0 < a * y0) = false := by simp; omega
          go_wp2_with fail
          go_meet
          exact ⟨rfl, rfl⟩
    case rest =>
      obtain ⟨rfl, rfl⟩ := hcut
      have k1 := h.out.hQ0
      have k2 := h.out.Qb
      have k3 := g.out.hQ0
      have k4 := g.out.Qb
      go_wp2_with fail
      go_ret2
      exact ⟨rfl, rfl⟩

set_option maxHeartbeats 1000000 in
theorem div64_walk0 (l y : Int) (w : World) (_hl0 : 0 ≤ l) (_hl : l < 18446744073709551616) (hy : 1 ≤ y) (_e1 : IntKind.u64.wrap (l / y) = l / y) (_e2 : IntKind.u64.wrap (l % y) = l % y) :
    Calls Try.prog 61 #[.int .u64 0, .int .u64 l, .int .u64 y] w fun e w' => e = .returned (.tuple #[.int .u64 (l / y), .int .u64 (l % y)]) ∧ Below w.heap.size w w' := by
  have h1 : (y == 0) = false := by rw [beq_eq_false_iff_ne]; omega
  have h2 : decide (y ≤ 0) = false := by simp; omega
  go_enter Try.func61, Try.ntmps61
  go_wp2_with fail
  go_region
  go_wp2_with fail
  go_ret2
  exact ⟨rfl, (Below.refl _ _).drew⟩
end Go.Proofs.Ytlobchkbkdjccaa
