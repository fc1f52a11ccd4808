/- What the document's power of an input, and whether it is a short one, are. -/
import Derived.Test.YtihefgpicnhdjaaDoorPcC
namespace Go.Proofs.YtihefgpicnhdjaaDoor
open Go.RowKit SmWord
set_option maxRecDepth 100000

set_option maxHeartbeats 8000000 in
theorem rpower_core (A : Option Addr) (n c : Nat) (g g1 g2 g3 : Nat → Nat) (w : World) (x y z b10 b12 ok : Bool) (L0 L1 L2 m R a2 a3 : Nat)
    (H0 : Hid (∀ w', Below w.heap.size w w' → Calls Tryd.prog 12 #[.slice A n c, .int .i64 0] w' (LenV L0 x w')))
    (H1 : Hid (∀ w', Below w.heap.size w w' → Calls Tryd.prog 12 #[.slice A n c, .int .i64 1] w' (LenV L1 y w')))
    (H2 : Hid (∀ w', Below w.heap.size w w' → Calls Tryd.prog 12 #[.slice A n c, .int .i64 2] w' (LenV L2 z w')))
    (h10 : Hid ((b10 = true ∧ x = true ∧ z = true ∧ L0 = 0 ∧ L2 = 0) ∨ (b10 = false ∧ x = false) ∨ (b10 = false ∧ x = true ∧ z = false) ∨ (b10 = false ∧ x = true ∧ z = true ∧ L0 ≠ 0) ∨ (b10 = false ∧ x = true ∧ z = true ∧ L0 = 0 ∧ L2 ≠ 0)))
    (h12 : Hid ((b12 = true ∧ x = false) ∨ (b12 = true ∧ x = true ∧ y = false) ∨ (b12 = true ∧ x = true ∧ y = true ∧ z = false) ∨ (b12 = true ∧ x = true ∧ y = true ∧ z = true ∧ 64 < L0) ∨ (b12 = true ∧ x = true ∧ y = true ∧ z = true ∧ ¬ 64 < L0 ∧ 64 < L1) ∨ (b12 = true ∧ x = true ∧ y = true ∧ z = true ∧ ¬ 64 < L0 ∧ ¬ 64 < L1 ∧ 64 < L2) ∨ (b12 = false ∧ x = true ∧ y = true ∧ z = true ∧ ¬ 64 < L0 ∧ ¬ 64 < L1 ∧ ¬ 64 < L2)))
    (r1 : Hid (b10 = true → m = 0 ∧ ok = true)) (r2 : Hid (b10 = false → b12 = true → m = 0 ∧ ok = false)) (r3 : Hid (b10 = false → b12 = false → m = L2 ∧ ok = true ∧ L0 ≤ 64 ∧ L1 ≤ 64 ∧ L2 ≤ 64 ∧ ∀ i, g i = dig R (L2 - 1 - i)))
    (ha2 : Hid (96 + L0 = a2)) (ha3 : Hid (a2 + L1 = a3))
    (HP1 : Hid (L0 ≤ 64 → ∀ w', Below w.heap.size w w' → Calls Tryd.prog 20 #[.slice A n c, .int .i64 96, .int .i64 (L0 : Int)] w' (RetB L0 g1 w')))
    (HP2 : Hid (L0 ≤ 64 → L1 ≤ 64 → ∀ w', Below w.heap.size w w' → Calls Tryd.prog 20 #[.slice A n c, .int .i64 (a2 : Int), .int .i64 (L1 : Int)] w' (RetB L1 g2 w')))
    (HP3 : Hid (L0 ≤ 64 → L1 ≤ 64 → L2 ≤ 64 → ∀ w', Below w.heap.size w w' → Calls Tryd.prog 20 #[.slice A n c, .int .i64 (a3 : Int), .int .i64 (L2 : Int)] w' (RetB L2 g3 w')))
    (HPow : Hid (L0 ≤ 64 → L1 ≤ 64 → L2 ≤ 64 → ∀ w' A1 A2 A3 c1 c2 c3, Sl w' A1 L0 g1 → Sl w' A2 L1 g2 → Sl w' A3 L2 g3 → Calls Tryd.prog 25 #[.slice A1 L0 c1, .slice A2 L1 c2, .slice A3 L2 c3] w' (RetB L2 (fun i => dig R (L2 - 1 - i)) w'))) :
    Calls Tryd.prog 15 #[.slice A n c] w (AnsIs m ok g w) := by
  have BW2 := Lib.hid (Below.refl w.heap.size w)
  have HL := Lib.hid (H0.out _ BW2.out)
  clear H0
  go_enter Tryd.func15, Tryd.ntmps15
  go_wp2_with fail
  refine (HL.out).mono ?_
  rintro _ w2 ⟨rfl, b1⟩
  have BW := Lib.hid (BW2.out.trans (b1.mono BW2.out.size))
  have HL2 := Lib.hid (H1.out _ BW.out)
  clear HL b1 H1 BW2
  go_wp2_with fail
  refine (HL2.out).mono ?_
  rintro _ w3 ⟨rfl, b1⟩
  have BW2 := Lib.hid (BW.out.trans (b1.mono BW.out.size))
  have HL := Lib.hid (H2.out _ BW2.out)
  clear HL2 b1 H2 BW
  go_wp2_with fail
  refine (HL.out).mono ?_
  rintro _ w4 ⟨rfl, b1⟩
  have BW := Lib.hid (BW2.out.trans (b1.mono BW2.out.size))
  clear HL b1 BW2
  go_upto_region 5 with fail
  have B5 : Below w.heap.size w (w4.alloc (.cells #[] 5)) := BW.out.alloc BW.out.size _
  have BW2 := Lib.hid B5
  have HSN : Hid (Sl (w4.alloc (.cells #[] 5)) (some ⟨w4.heap.size, 0, none⟩) 0 g) := Lib.hid ⟨fun i hi => by omega, fun h => by omega⟩
  clear B5 BW
  obtain ⟨w5, hw5⟩ : ∃ w5, w4.alloc (.cells #[] 5) = w5 := ⟨_, rfl⟩
  rw [hw5] at BW2 HSN ⊢
  generalize w4.heap.size = bn at *
  clear hw5
  go_cut [40] (fun v wx => v = .bool b10 ∧ w5 = wx)
  case first =>
    rcases h10.out with ⟨rfl, rfl, rfl, rfl, rfl⟩ | ⟨rfl, rfl⟩ | ⟨rfl, rfl, rfl⟩ | ⟨rfl, rfl, rfl, hz⟩ | ⟨rfl, rfl, rfl, rfl, hz⟩
    · clear h10 h12 r1 r2 r3
      go_wp2_with fail
      go_meet
      exact ⟨rfl, rfl⟩
    · clear h10 h12 r1 r2 r3
      go_wp2_with fail
      go_meet
      exact ⟨rfl, rfl⟩
    · clear h10 h12 r1 r2 r3
      go_wp2_with fail
      go_meet
      exact ⟨rfl, rfl⟩
    · have e2 : (((L0 : Nat) : Int) == 0) = false := by rw [beq_eq_false_iff_ne]; omega
      clear h10 h12 r1 r2 r3 hz
      go_wp2_with fail
      go_meet
      exact ⟨rfl, rfl⟩
    · have e2 : (((L2 : Nat) : Int) == 0) = false := by rw [beq_eq_false_iff_ne]; omega
      clear h10 h12 r1 r2 r3 hz
      go_wp2_with fail
      go_meet
      exact ⟨rfl, rfl⟩
  case rest =>
    obtain ⟨rfl, rfl⟩ := hcut
    cases b10 with
    | true =>
      obtain ⟨rfl, rfl⟩ := r1.out rfl
      clear h10 h12 r1 r2 r3
      go_wp2_with fail
      go_ret2
      exact ⟨_, _, rfl, HSN.out, BW2.out⟩
    | false =>
      have R2 := Lib.hid (r2.out rfl)
      have R3 := Lib.hid (r3.out rfl)
      clear h10 r1 r2 r3
      go_upto_region 7 with fail
      go_cut [63] (fun v wx => v = .bool b12 ∧ w5 = wx)
      case first =>
        rcases h12.out with ⟨rfl, rfl⟩ | ⟨rfl, rfl, rfl⟩ | ⟨rfl, rfl, rfl, rfl⟩ | ⟨rfl, rfl, rfl, rfl, hz⟩ | ⟨rfl, rfl, rfl, rfl, hy, hz⟩ | ⟨rfl, rfl, rfl, rfl, hx, hy, hz⟩ | ⟨rfl, rfl, rfl, rfl, hx, hy, hz⟩
        all_goals
          clear h12 R2 R3
          go_wp2_with fail
          go_meet
          first | exact ⟨rfl, rfl⟩ | exact ⟨congrArg Value.bool (by simp; omega), rfl⟩
      case rest =>
        obtain ⟨rfl, rfl⟩ := hcut
        cases b12 with
        | true =>
          obtain ⟨rfl, rfl⟩ := R2.out rfl
          clear h12 R2 R3
          go_wp2_with fail
          go_ret2
          exact ⟨_, _, rfl, HSN.out, BW2.out⟩
        | false =>
          obtain ⟨rfl, rfl, l0, l1, l2, hg⟩ := R3.out rfl
          have P1 := Lib.hid (HP1.out l0)
          have P2 := Lib.hid (HP2.out l0 l1)
          have P3 := Lib.hid (HP3.out l0 l1 l2)
          have PW := Lib.hid (HPow.out l0 l1 l2)
          have HG := Lib.hid hg
          have A2 := ha2.out
          have A3 := ha3.out
          clear h12 R2 R3 hg HP1 HP2 HP3 HPow HSN
          have q0 : IntKind.i64.wrap (L0 : Int) = (L0 : Int) := by rw [IntKind.wrap_i64]; omega
          have q1 : IntKind.i64.wrap (L1 : Int) = (L1 : Int) := by rw [IntKind.wrap_i64]; omega
          have q2 : IntKind.i64.wrap (m : Int) = (m : Int) := by rw [IntKind.wrap_i64]; omega
          have q3 : 96 + (L0 : Int) = (a2 : Int) := by omega
          have q4 : (a2 : Int) + (L1 : Int) = (a3 : Int) := by omega
          have q5 : IntKind.i64.wrap (a2 : Int) = (a2 : Int) := by rw [IntKind.wrap_i64]; omega
          have q6 : IntKind.i64.wrap (a3 : Int) = (a3 : Int) := by rw [IntKind.wrap_i64]; omega
          clear A2 A3
          go_wp2_with fail
          refine (P1.out _ BW2.out).mono ?_
          rintro _ w6 ⟨B1, k1, rfl, _, _, s1, b1⟩
          have BW := Lib.hid (BW2.out.trans (b1.mono BW2.out.size))
          have HB1 := Lib.hid s1
          have HL := Lib.hid (P2.out _ BW.out)
          clear P1 BW2 s1 b1 P2
          go_wp2_with fail
          refine (HL.out).mono ?_
          rintro _ w7 ⟨B2, k2, rfl, _, _, s2, b1⟩
          have BW2 := Lib.hid (BW.out.trans (b1.mono BW.out.size))
          have HB12 := Lib.hid (HB1.out.below b1)
          have HB2 := Lib.hid s2
          have HL2 := Lib.hid (P3.out _ BW2.out)
          clear HL BW s2 b1 P3 HB1
          go_wp2_with fail
          refine (HL2.out).mono ?_
          rintro _ w8 ⟨B3, k3, rfl, _, _, s3, b1⟩
          have BW := Lib.hid (BW2.out.trans (b1.mono BW2.out.size))
          have HL := Lib.hid (PW.out _ B1 B2 B3 k1 k2 k3 (HB12.out.below b1) (HB2.out.below b1) s3)
          clear HL2 BW2 s3 b1 PW HB12 HB2 q0 q1 q2 q3 q4 q5 q6
          go_wp2_with fail
          refine (HL.out).mono ?_
          rintro _ w9 ⟨B4, k4, rfl, _, _, s4, b1⟩
          have BW2 := Lib.hid (BW.out.trans (b1.mono BW.out.size))
          have S4 := Lib.hid s4
          clear HL BW s4 b1
          go_wp2_with fail
          go_ret2
          exact ⟨_, _, rfl, ⟨fun i hi => by rw [HG.out]; exact dig_lt' _ _, fun h0 => by
            obtain ⟨b, off, q1, q2, q3⟩ := S4.out.cells h0
            exact ⟨b, off, q1, q2, fun i hi => by rw [HG.out]; exact q3 i hi⟩⟩, BW2.out⟩
set_option maxHeartbeats 8000000 in
theorem short_core (A : Option Addr) (n c : Nat) (w : World) (x y z b12 b6 : Bool) (L0 L1 L2 : Nat)
    (H0 : Hid (∀ w', Below w.heap.size w w' → Calls Tryd.prog 12 #[.slice A n c, .int .i64 0] w' (LenV L0 x w')))
    (H1 : Hid (∀ w', Below w.heap.size w w' → Calls Tryd.prog 12 #[.slice A n c, .int .i64 1] w' (LenV L1 y w')))
    (H2 : Hid (∀ w', Below w.heap.size w w' → Calls Tryd.prog 12 #[.slice A n c, .int .i64 2] w' (LenV L2 z w')))
    (h12 : Hid ((b12 = true ∧ x = false) ∨ (b12 = true ∧ x = true ∧ y = false) ∨ (b12 = true ∧ x = true ∧ y = true ∧ z = false) ∨ (b12 = true ∧ x = true ∧ y = true ∧ z = true ∧ 64 < L0) ∨ (b12 = true ∧ x = true ∧ y = true ∧ z = true ∧ ¬ 64 < L0 ∧ 64 < L1) ∨ (b12 = true ∧ x = true ∧ y = true ∧ z = true ∧ ¬ 64 < L0 ∧ ¬ 64 < L1 ∧ 64 < L2) ∨ (b12 = false ∧ x = true ∧ y = true ∧ z = true ∧ ¬ 64 < L0 ∧ ¬ 64 < L1 ∧ ¬ 64 < L2)))
    (h6 : Hid ((b6 = false ∧ ¬ L0 ≤ 20) ∨ (b6 = false ∧ L0 ≤ 20 ∧ ¬ L1 ≤ 5) ∨ (b6 = false ∧ L0 ≤ 20 ∧ L1 ≤ 5 ∧ ¬ L2 ≤ 9) ∨ (b6 = true ∧ L0 ≤ 20 ∧ L1 ≤ 5 ∧ L2 ≤ 9))) :
    Calls Tryd.prog 5 #[.slice A n c] w fun e w' => e = .returned (.bool (b12 || b6)) ∧ Below w.heap.size w w' := by
  have BW2 := Lib.hid (Below.refl w.heap.size w)
  have HL := Lib.hid (H0.out _ BW2.out)
  clear H0
  go_enter Tryd.func5, Tryd.ntmps5
  go_wp2_with fail
  refine (HL.out).mono ?_
  rintro _ w2 ⟨rfl, b1⟩
  have BW := Lib.hid (BW2.out.trans (b1.mono BW2.out.size))
  have HL2 := Lib.hid (H1.out _ BW.out)
  clear HL b1 H1 BW2
  go_wp2_with fail
  refine (HL2.out).mono ?_
  rintro _ w3 ⟨rfl, b1⟩
  have BW2 := Lib.hid (BW.out.trans (b1.mono BW.out.size))
  have HL := Lib.hid (H2.out _ BW2.out)
  clear HL2 b1 H2 BW
  go_wp2_with fail
  refine (HL.out).mono ?_
  rintro _ w5 ⟨rfl, b1⟩
  have BW := Lib.hid (BW2.out.trans (b1.mono BW2.out.size))
  clear HL b1 BW2
  go_upto_region 4 with fail
  go_cut [45] (fun v wx => v = .bool b12 ∧ w5 = wx)
  case first =>
    clear h6
    rcases h12.out with ⟨rfl, rfl⟩ | ⟨rfl, rfl, rfl⟩ | ⟨rfl, rfl, rfl, rfl⟩ | ⟨rfl, rfl, rfl, rfl, hz⟩ | ⟨rfl, rfl, rfl, rfl, hy, hz⟩ | ⟨rfl, rfl, rfl, rfl, hx, hy, hz⟩ | ⟨rfl, rfl, rfl, rfl, hx, hy, hz⟩
    all_goals
      clear h12
      go_wp2_with fail
      go_meet
      first | exact ⟨rfl, rfl⟩ | exact ⟨congrArg Value.bool (by simp; omega), rfl⟩
  case rest =>
    obtain ⟨rfl, rfl⟩ := hcut
    clear h12
    cases b12 with
    | true =>
      clear h6
      go_wp2_with fail
      go_ret
      exact ⟨rfl, BW.out⟩
    | false =>
      rcases h6.out with ⟨rfl, hx⟩ | ⟨rfl, hx, hy⟩ | ⟨rfl, hx, hy, hz⟩ | ⟨rfl, hx, hy, hz⟩
      all_goals
        clear h6
        go_wp2_with fail
        go_ret
        exact ⟨congrArg Ending.returned (congrArg Value.bool (by first | rfl | (simp; done) | (simp; omega))), BW.out⟩
end Go.Proofs.YtihefgpicnhdjaaDoor
