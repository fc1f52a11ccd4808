/- The statement on inputs: its walk. -/
import Derived.Test.YtflpdlpfclbcgaaMyG
import Derived.Test.YtflpdlpfclbcgaaGb
namespace Go.Proofs.Ytflpdlpfclbcgaa
open Go.RowKit SmWord
set_option maxRecDepth 100000

set_option maxHeartbeats 2000000 in
theorem runs_far (A : Option Addr) (n c : Nat) (w : World) (hn : n ≤ maxLen) (h : 2000 < n) : Calls Try.prog 7 #[.slice A n c] w fun e w' => e = .returned (.bool true) ∧ Below w.heap.size w w' := by
  have hl : n ≤ 9223372036854775807 := hn
  go_enter Try.func7, Try.ntmps7
  go_wp2_with fail
  refine (fixed_walk _).mono ?_
  rintro e w1 ⟨rfl, b1⟩
  go_wp2_with fail
  go_ret
  exact ⟨rfl, b1⟩
/-- What answers bytes and an error. -/
def RetE (m E : Nat) (g : Nat → Nat) (w : World) (e : Ending) (w' : World) : Prop := ∃ X cx, e = .returned (.tuple #[.slice X m cx, .int .i64 (E : Int)]) ∧ Sl w' X m g ∧ Below w.heap.size w w'
set_option maxHeartbeats 8000000 in
theorem runs_core (A : Option Addr) (n c : Nat) (f g g1 g2 g3 : Nat → Nat) (w : World) (x y z b10 b12 : Bool) (L0 L1 L2 m E R a2 a3 : Nat) (h : n ≤ 2000) (hA : A = none → n = 0 ∧ c = 0) (hs : Sl w A n f)
    (HRun : Hid (∀ w' Y d, n ≤ d → (Y = none → n = 0 ∧ d = 0) → Sl w' Y n f → Calls Try.prog 19 #[.slice Y n d] w' (RetE m E g w')))
    (H0 : Hid (∀ w', Below w.heap.size w w' → Calls Try.prog 20 #[.slice A n c, .int .i64 0] w' (LenV L0 x w')))
    (H1 : Hid (∀ w', Below w.heap.size w w' → Calls Try.prog 20 #[.slice A n c, .int .i64 1] w' (LenV L1 y w')))
    (H2 : Hid (∀ w', Below w.heap.size w w' → Calls Try.prog 20 #[.slice A n c, .int .i64 2] w' (LenV L2 z w')))
    (h10 : Hid ((b10 = true ∧ x = true ∧ z = true ∧ L0 = 0 ∧ L2 = 0) ∨ (b10 = false ∧ x = false) ∨ (b10 = false ∧ x = true ∧ z = false) ∨ (b10 = false ∧ x = true ∧ z = true ∧ L0 ≠ 0) ∨ (b10 = false ∧ x = true ∧ z = true ∧ L0 = 0 ∧ L2 ≠ 0)))
    (h12 : Hid ((b12 = true ∧ x = false) ∨ (b12 = true ∧ x = true ∧ y = false) ∨ (b12 = true ∧ x = true ∧ y = true ∧ z = false) ∨ (b12 = true ∧ x = true ∧ y = true ∧ z = true ∧ 64 < L0) ∨ (b12 = true ∧ x = true ∧ y = true ∧ z = true ∧ ¬ 64 < L0 ∧ 64 < L1) ∨ (b12 = true ∧ x = true ∧ y = true ∧ z = true ∧ ¬ 64 < L0 ∧ ¬ 64 < L1 ∧ 64 < L2) ∨ (b12 = false ∧ x = true ∧ y = true ∧ z = true ∧ ¬ 64 < L0 ∧ ¬ 64 < L1 ∧ ¬ 64 < L2)))
    (r1 : Hid (b10 = true → m = 0 ∧ E = 0)) (r2 : Hid (b10 = false → b12 = true → m = 0 ∧ E = 4)) (r3 : Hid (b10 = false → b12 = false → m = L2 ∧ E = 0 ∧ L0 ≤ 64 ∧ L1 ≤ 64 ∧ L2 ≤ 64 ∧ ∀ i, g i = dig R (L2 - 1 - i)))
    (ha2 : Hid (96 + L0 = a2)) (ha3 : Hid (a2 + L1 = a3))
    (HP1 : Hid (L0 ≤ 64 → ∀ w', Below w.heap.size w w' → Calls Try.prog 21 #[.slice A n c, .int .i64 96, .int .i64 (L0 : Int)] w' (RetB L0 g1 w')))
    (HP2 : Hid (L0 ≤ 64 → L1 ≤ 64 → ∀ w', Below w.heap.size w w' → Calls Try.prog 21 #[.slice A n c, .int .i64 (a2 : Int), .int .i64 (L1 : Int)] w' (RetB L1 g2 w')))
    (HP3 : Hid (L0 ≤ 64 → L1 ≤ 64 → L2 ≤ 64 → ∀ w', Below w.heap.size w w' → Calls Try.prog 21 #[.slice A n c, .int .i64 (a3 : Int), .int .i64 (L2 : Int)] w' (RetB L2 g3 w')))
    (HPow : Hid (L0 ≤ 64 → L1 ≤ 64 → L2 ≤ 64 → ∀ w' A1 A2 A3 c1 c2 c3, Sl w' A1 L0 g1 → Sl w' A2 L1 g2 → Sl w' A3 L2 g3 → Calls Try.prog 8 #[.slice A1 L0 c1, .slice A2 L1 c2, .slice A3 L2 c3] w' (PowIs L2 R w'))) :
    Calls Try.prog 7 #[.slice A n c] w fun e w' => e = .returned (.bool true) ∧ Below w.heap.size w w' := by
  have HS0 := Lib.hid hs
  have HA0 := Lib.hid hA
  have e1 := empty_own w (Nat.le_refl _)
  have be1 : Below w.heap.size w (w.alloc (.cells #[] 5)) := (Below.refl _ _).alloc (Nat.le_refl _) _
  have z1 : w.heap.size ≤ (w.alloc (.cells #[] 5)).heap.size := be1.size
  have S1 := hs.below be1
  clear hs
  go_enter Try.func7, Try.ntmps7
  go_wp2_with (at_builtin; refine append_sl rfl _ _ rfl w.heap.size _ 0 [] rfl e1 A n c f rfl hA S1 (by omega) z1 ?_; intro v1 x1 o1 q1; refine Hid.out ?_)
  have bx1 : Below w.heap.size w x1 := be1.grown q1 z1 (fun b hb' => (e1.lt b hb').1)
  rw [Nat.zero_add, List.nil_append] at o1
  obtain ⟨Y, d, rfl, hd, hY, sy⟩ := own_sl o1 HS0.out.small
  have HSY := Lib.hid sy
  have HRY := Lib.hid (HRun.out _ Y d hd hY sy)
  have BW := Lib.hid bx1
  clear e1 be1 z1 S1 q1 bx1 o1 hd hY sy HRun hA
  refine Lib.hid ?_
  go_wp2_with fail
  refine (HRY.out).mono ?_
  rintro _ w1 ⟨X, cx, rfl, sX, b1⟩
  have HSX := Lib.hid sX
  have HSY2 := Lib.hid (HSY.out.below b1)
  have BW2 := Lib.hid (BW.out.trans (b1.mono BW.out.size))
  have HL := Lib.hid (H0.out _ BW2.out)
  clear HRY sX b1 HSY BW H0
  go_wp2_with fail
  refine (HL.out).mono ?_
  rintro _ w2 ⟨rfl, b1⟩
  have BW := Lib.hid (BW2.out.trans (b1.mono BW2.out.size))
  have HSX2 := Lib.hid (HSX.out.below b1)
  have HSY := Lib.hid (HSY2.out.below b1)
  have HL2 := Lib.hid (H1.out _ BW.out)
  clear HL b1 H1 BW2 HSX HSY2
  go_wp2_with fail
  refine (HL2.out).mono ?_
  rintro _ w3 ⟨rfl, b1⟩
  have BW2 := Lib.hid (BW.out.trans (b1.mono BW.out.size))
  have HSX := Lib.hid (HSX2.out.below b1)
  have HSY2 := Lib.hid (HSY.out.below b1)
  have HL := Lib.hid (H2.out _ BW2.out)
  clear HL2 b1 H2 BW HSX2 HSY
  go_wp2_with fail
  refine (HL.out).mono ?_
  rintro _ w4 ⟨rfl, b1⟩
  have BW := Lib.hid (BW2.out.trans (b1.mono BW2.out.size))
  have HSX2 := Lib.hid (HSX.out.below b1)
  have HSY := Lib.hid (HSY2.out.below b1)
  clear HL b1 BW2 HSX HSY2
  go_wp2_with fail
  refine (fixed_walk _).mono ?_
  rintro e w5 ⟨rfl, b1⟩
  have BW2 := Lib.hid (BW.out.trans (b1.mono BW.out.size))
  have HSX := Lib.hid (HSX2.out.below b1)
  have cy := conv_sl (c := d) (HSY.out.below b1)
  have ci := conv_sl (c := c) (HS0.out.below BW2.out)
  generalize str (bs f n) = S at *
  clear b1 BW HSX2 HSY
  go_upto_region 10 with fail
  clear cy ci
  go_cut [64] (fun v wx => v = .bool b10 ∧ w5 = wx)
  case first =>
    rcases h10.out with ⟨rfl, rfl, rfl, rfl, rfl⟩ | ⟨rfl, rfl⟩ | ⟨rfl, rfl, rfl⟩ | ⟨rfl, rfl, rfl, hz⟩ | ⟨rfl, rfl, rfl, rfl, hz⟩
    · clear h10 h12 r1 r2 r3
      go_wp2_with fail
      go_meet
      exact ⟨rfl, rfl⟩
    · clear h10 h12 r1 r2 r3
      go_wp2_with fail
      go_meet
      exact ⟨rfl, rfl⟩
    · clear h10 h12 r1 r2 r3
      go_wp2_with fail
      go_meet
      exact ⟨rfl, rfl⟩
    · have e2 : (((L0 : Nat) : Int) == 0) = false := by rw [beq_eq_false_iff_ne]; omega
      clear h10 h12 r1 r2 r3 hz
      go_wp2_with fail
      go_meet
      exact ⟨rfl, rfl⟩
    · have e2 : (((L2 : Nat) : Int) == 0) = false := by rw [beq_eq_false_iff_ne]; omega
      clear h10 h12 r1 r2 r3 hz
      go_wp2_with fail
      go_meet
      exact ⟨rfl, rfl⟩
  case rest =>
    obtain ⟨rfl, rfl⟩ := hcut
    cases b10 with
    | true =>
      obtain ⟨rfl, rfl⟩ := r1.out rfl
      clear h10 h12 r1 r2 r3
      go_wp2_with fail
      go_ret
      exact ⟨rfl, BW2.out⟩
    | false =>
      have R2 := Lib.hid (r2.out rfl)
      have R3 := Lib.hid (r3.out rfl)
      clear h10 r1 r2 r3
      go_upto_region 12 with fail
      go_cut [93] (fun v wx => v = .bool b12 ∧ w5 = wx)
      case first =>
        rcases h12.out with ⟨rfl, rfl⟩ | ⟨rfl, rfl, rfl⟩ | ⟨rfl, rfl, rfl, rfl⟩ | ⟨rfl, rfl, rfl, rfl, hz⟩ | ⟨rfl, rfl, rfl, rfl, hy, hz⟩ | ⟨rfl, rfl, rfl, rfl, hx, hy, hz⟩ | ⟨rfl, rfl, rfl, rfl, hx, hy, hz⟩
        all_goals
          clear h12 R2 R3
          go_wp2_with fail
          go_meet
          first | exact ⟨rfl, rfl⟩ | exact ⟨congrArg Value.bool (by simp; omega), rfl⟩
      case rest =>
        obtain ⟨rfl, rfl⟩ := hcut
        cases b12 with
        | true =>
          obtain ⟨rfl, rfl⟩ := R2.out rfl
          clear h12 R2 R3
          go_wp2_with fail
          go_ret
          exact ⟨rfl, BW2.out⟩
        | false =>
          obtain ⟨rfl, rfl, l0, l1, l2, hg⟩ := R3.out rfl
          have hsx := HSX.out
          have sX : Sl w5 X m (fun i => dig R (m - 1 - i)) := ⟨fun i _ => dig_lt' _ _, fun h0 => by
            obtain ⟨b, off, q1, q2, q3⟩ := hsx.cells h0
            exact ⟨b, off, q1, q2, fun i hi => by rw [← hg i]; exact q3 i hi⟩⟩
          have HSX2 := Lib.hid sX
          have P1 := Lib.hid (HP1.out l0)
          have P2 := Lib.hid (HP2.out l0 l1)
          have P3 := Lib.hid (HP3.out l0 l1 l2)
          have PW := Lib.hid (HPow.out l0 l1 l2)
          have A2 := ha2.out
          have A3 := ha3.out
          clear h12 R2 R3 hsx sX hg HP1 HP2 HP3 HPow HSX
          have q0 : IntKind.i64.wrap (L0 : Int) = (L0 : Int) := by rw [IntKind.wrap_i64]; omega
          have q1 : IntKind.i64.wrap (L1 : Int) = (L1 : Int) := by rw [IntKind.wrap_i64]; omega
          have q2 : IntKind.i64.wrap (m : Int) = (m : Int) := by rw [IntKind.wrap_i64]; omega
          have q3 : 96 + (L0 : Int) = (a2 : Int) := by omega
          have q4 : (a2 : Int) + (L1 : Int) = (a3 : Int) := by omega
          have q5 : IntKind.i64.wrap (a2 : Int) = (a2 : Int) := by rw [IntKind.wrap_i64]; omega
          have q6 : IntKind.i64.wrap (a3 : Int) = (a3 : Int) := by rw [IntKind.wrap_i64]; omega
          clear A2 A3
          go_wp2_with fail
          refine (P1.out _ BW2.out).mono ?_
          rintro _ w6 ⟨B1, k1, rfl, _, _, s1, b1⟩
          have BW := Lib.hid (BW2.out.trans (b1.mono BW2.out.size))
          have HSX := Lib.hid (HSX2.out.below b1)
          have HB1 := Lib.hid s1
          have HL := Lib.hid (P2.out _ BW.out)
          clear P1 BW2 HSX2 s1 b1 P2
          go_wp2_with fail
          refine (HL.out).mono ?_
          rintro _ w7 ⟨B2, k2, rfl, _, _, s2, b1⟩
          have BW2 := Lib.hid (BW.out.trans (b1.mono BW.out.size))
          have HSX2 := Lib.hid (HSX.out.below b1)
          have HB12 := Lib.hid (HB1.out.below b1)
          have HB2 := Lib.hid s2
          have HL2 := Lib.hid (P3.out _ BW2.out)
          clear HL BW HSX s2 b1 P3 HB1
          go_wp2_with fail
          refine (HL2.out).mono ?_
          rintro _ w8 ⟨B3, k3, rfl, _, _, s3, b1⟩
          have BW := Lib.hid (BW2.out.trans (b1.mono BW2.out.size))
          have HSX := Lib.hid (HSX2.out.below b1)
          have HL := Lib.hid (PW.out _ B1 B2 B3 k1 k2 k3 (HB12.out.below b1) (HB2.out.below b1) s3)
          clear HL2 BW2 HSX2 s3 b1 PW HB12 HB2 q0 q1 q2 q3 q4 q5 q6
          go_wp2_with fail
          refine (HL.out).mono ?_
          intro _ w9 hp
          obtain ⟨B4, rfl, _, s4, b1⟩ := powIs_sl hp
          have cx2 := conv_sl (c := cx) (HSX.out.below b1)
          have cy2 := conv_sl (c := m) s4
          have BW2 := Lib.hid (BW.out.trans (b1.mono BW.out.size))
          generalize str (bs (fun i => dig R (m - 1 - i)) m) = T at *
          clear hp s4 b1 BW HSX HL l0 l1 l2
          go_wp2_with fail
          go_ret
          exact ⟨rfl, BW2.out⟩
theorem runs_walk (A : Option Addr) (n c : Nat) (f : Nat → Nat) (w : World) (hn : n ≤ maxLen) (hA : A = none → n = 0 ∧ c = 0) (hs : Sl w A n f) : Calls Try.prog 7 #[.slice A n c] w fun e w' => e = .returned (.bool true) ∧ Below w.heap.size w w' := by
  by_cases h : 2000 < n
  · exact runs_far A n c w hn h
  have hn' : n ≤ 100000 := by omega
  have HLen : ∀ k : Nat, k ≤ 2 → ∀ w', Below w.heap.size w w' → Calls Try.prog 20 #[.slice A n c, .int .i64 (k : Int)] w' (LenV (if askV f n k < B then askV f n k else 0) (decide (askV f n k < B)) w') := fun k hk w' hb =>
    (rlen_walk A n c k f w' hn' hk (hs.below hb)).mono fun e w'' h => lenV_any h
  have HL0 := HLen 0 (by omega)
  have HL1 := HLen 1 (by omega)
  have HL2 := HLen 2 (by omega)
  have hB : (64 : Nat) < B := by decide
  have HP : ∀ at' m, at' ≤ 1000 → m ≤ 64 → ∀ w', Below w.heap.size w w' → Calls Try.prog 21 #[.slice A n c, .int .i64 ((at' : Nat) : Int), .int .i64 ((m : Nat) : Int)] w' (RetB m (pf f n at') w') := fun at' m ha hm w' hb => rpart_walk A n c at' m f w' hn' (by omega) (by omega) (hs.below hb)
  have d10 : (∃ b10 : Bool, b10 = decide (askV f n 0 = 0 ∧ askV f n 2 = 0)) := ⟨_, rfl⟩
  obtain ⟨b10, e10⟩ := d10
  obtain ⟨b12, e12⟩ : ∃ b12 : Bool, b12 = !(okL (askV f n) 64) := ⟨_, rfl⟩
  have hcase : ∀ k, (decide (askV f n k < B) = false) ∨ (decide (askV f n k < B) = true ∧ (if askV f n k < B then askV f n k else 0) = askV f n k) := fun k => by
    by_cases hk : askV f n k < B
    · exact .inr ⟨decide_eq_true hk, if_pos hk⟩
    · exact .inl (decide_eq_false hk)
  have hfar : ∀ k, decide (askV f n k < B) = false → 64 < askV f n k := fun k hk => by
    have := of_decide_eq_false hk
    omega
  have h10 : (b10 = true ∧ decide (askV f n 0 < B) = true ∧ decide (askV f n 2 < B) = true ∧ (if askV f n 0 < B then askV f n 0 else 0) = 0 ∧ (if askV f n 2 < B then askV f n 2 else 0) = 0) ∨ (b10 = false ∧ decide (askV f n 0 < B) = false) ∨ (b10 = false ∧ decide (askV f n 0 < B) = true ∧ decide (askV f n 2 < B) = false) ∨ (b10 = false ∧ decide (askV f n 0 < B) = true ∧ decide (askV f n 2 < B) = true ∧ (if askV f n 0 < B then askV f n 0 else 0) ≠ 0) ∨ (b10 = false ∧ decide (askV f n 0 < B) = true ∧ decide (askV f n 2 < B) = true ∧ (if askV f n 0 < B then askV f n 0 else 0) = 0 ∧ (if askV f n 2 < B then askV f n 2 else 0) ≠ 0) := by
    rcases hcase 0 with c0 | ⟨c0, v0⟩
    · exact .inr (.inl ⟨e10.trans (decide_eq_false fun hh => by have := hfar 0 c0; omega), c0⟩)
    rcases hcase 2 with c2 | ⟨c2, v2⟩
    · exact .inr (.inr (.inl ⟨e10.trans (decide_eq_false fun hh => by have := hfar 2 c2; omega), c0, c2⟩))
    rw [v0, v2]
    by_cases z0 : askV f n 0 = 0
    · by_cases z2 : askV f n 2 = 0
      · exact .inl ⟨e10.trans (decide_eq_true ⟨z0, z2⟩), c0, c2, z0, z2⟩
      · exact .inr (.inr (.inr (.inr ⟨e10.trans (decide_eq_false fun hh => z2 hh.2), c0, c2, z0, z2⟩)))
    · exact .inr (.inr (.inr (.inl ⟨e10.trans (decide_eq_false fun hh => z0 hh.1), c0, c2, z0⟩)))
  have hno : ∀ k, k < 3 → 64 < askV f n k → b12 = true := fun k hk hv => by
    rw [e12]
    cases ho : okL (askV f n) 64 with
    | false => rfl
    | true => have := (okL_iff (askV f n) 64).1 ho k hk; omega
  have h12 : (b12 = true ∧ decide (askV f n 0 < B) = false) ∨ (b12 = true ∧ decide (askV f n 0 < B) = true ∧ decide (askV f n 1 < B) = false) ∨ (b12 = true ∧ decide (askV f n 0 < B) = true ∧ decide (askV f n 1 < B) = true ∧ decide (askV f n 2 < B) = false) ∨ (b12 = true ∧ decide (askV f n 0 < B) = true ∧ decide (askV f n 1 < B) = true ∧ decide (askV f n 2 < B) = true ∧ 64 < (if askV f n 0 < B then askV f n 0 else 0)) ∨ (b12 = true ∧ decide (askV f n 0 < B) = true ∧ decide (askV f n 1 < B) = true ∧ decide (askV f n 2 < B) = true ∧ ¬ 64 < (if askV f n 0 < B then askV f n 0 else 0) ∧ 64 < (if askV f n 1 < B then askV f n 1 else 0)) ∨ (b12 = true ∧ decide (askV f n 0 < B) = true ∧ decide (askV f n 1 < B) = true ∧ decide (askV f n 2 < B) = true ∧ ¬ 64 < (if askV f n 0 < B then askV f n 0 else 0) ∧ ¬ 64 < (if askV f n 1 < B then askV f n 1 else 0) ∧ 64 < (if askV f n 2 < B then askV f n 2 else 0)) ∨ (b12 = false ∧ decide (askV f n 0 < B) = true ∧ decide (askV f n 1 < B) = true ∧ decide (askV f n 2 < B) = true ∧ ¬ 64 < (if askV f n 0 < B then askV f n 0 else 0) ∧ ¬ 64 < (if askV f n 1 < B then askV f n 1 else 0) ∧ ¬ 64 < (if askV f n 2 < B then askV f n 2 else 0)) := by
    rcases hcase 0 with c0 | ⟨c0, v0⟩
    · exact .inl ⟨hno 0 (by omega) (hfar 0 c0), c0⟩
    rcases hcase 1 with c1 | ⟨c1, v1⟩
    · exact .inr (.inl ⟨hno 1 (by omega) (hfar 1 c1), c0, c1⟩)
    rcases hcase 2 with c2 | ⟨c2, v2⟩
    · exact .inr (.inr (.inl ⟨hno 2 (by omega) (hfar 2 c2), c0, c1, c2⟩))
    rw [v0, v1, v2]
    by_cases z0 : 64 < askV f n 0
    · exact .inr (.inr (.inr (.inl ⟨hno 0 (by omega) z0, c0, c1, c2, z0⟩)))
    by_cases z1 : 64 < askV f n 1
    · exact .inr (.inr (.inr (.inr (.inl ⟨hno 1 (by omega) z1, c0, c1, c2, z0, z1⟩))))
    by_cases z2 : 64 < askV f n 2
    · exact .inr (.inr (.inr (.inr (.inr (.inl ⟨hno 2 (by omega) z2, c0, c1, c2, z0, z1, z2⟩)))))
    · refine .inr (.inr (.inr (.inr (.inr (.inr ⟨?_, c0, c1, c2, z0, z1, z2⟩)))))
      rw [e12, (okL_iff (askV f n) 64).2 fun i hi => by
        have : i = 0 ∨ i = 1 ∨ i = 2 := by omega
        rcases this with rfl | rfl | rfl <;> omega]
      rfl
  have hL : b12 = false → (if askV f n 0 < B then askV f n 0 else 0) = askV f n 0 ∧ (if askV f n 1 < B then askV f n 1 else 0) = askV f n 1 ∧ (if askV f n 2 < B then askV f n 2 else 0) = askV f n 2 ∧ askV f n 0 ≤ 64 ∧ askV f n 1 ≤ 64 ∧ askV f n 2 ≤ 64 ∧ okL (askV f n) 64 = true := fun hb => by
    have ho : okL (askV f n) 64 = true := by
      rw [e12] at hb
      cases ho : okL (askV f n) 64 with
      | false => rw [ho] at hb; cases hb
      | true => rfl
    have ha := (okL_iff (askV f n) 64).1 ho
    have a0 := ha 0 (by omega)
    have a1 := ha 1 (by omega)
    have a2 := ha 2 (by omega)
    exact ⟨if_pos (by omega), if_pos (by omega), if_pos (by omega), a0, a1, a2, ho⟩
  generalize (if askV f n 0 < B then askV f n 0 else 0) = L0 at *
  generalize (if askV f n 1 < B then askV f n 1 else 0) = L1 at *
  generalize (if askV f n 2 < B then askV f n 2 else 0) = L2 at *
  have key : ∀ (m E : Nat) (g : Nat → Nat), (∀ w' Y d, n ≤ d → (Y = none → n = 0 ∧ d = 0) → Sl w' Y n f → Calls Try.prog 19 #[.slice Y n d] w' (RetE m E g w')) →
      (b10 = true → m = 0 ∧ E = 0) → (b10 = false → b12 = true → m = 0 ∧ E = 4) → (b10 = false → b12 = false → m = L2 ∧ E = 0 ∧ L0 ≤ 64 ∧ L1 ≤ 64 ∧ L2 ≤ 64 ∧ ∀ i, g i = dig (pw (bvl (pf f n 96) L0) (bvl (pf f n (96 + L0)) L1) (bvl (pf f n (96 + L0 + L1)) L2)) (L2 - 1 - i)) →
      Calls Try.prog 7 #[.slice A n c] w fun e w' => e = .returned (.bool true) ∧ Below w.heap.size w w' := fun m E g k1 k2 k3 k4 =>
    runs_core A n c f g (pf f n 96) (pf f n (96 + L0)) (pf f n (96 + L0 + L1)) w _ _ _ b10 b12 L0 L1 L2 m E _ (96 + L0) (96 + L0 + L1) (by omega) hA hs (Lib.hid k1) (Lib.hid HL0) (Lib.hid HL1) (Lib.hid HL2) (Lib.hid h10) (Lib.hid h12) (Lib.hid k2) (Lib.hid k3) (Lib.hid k4) (Lib.hid rfl) (Lib.hid rfl)
      (Lib.hid fun l0 => HP 96 L0 (by omega) l0) (Lib.hid fun l0 l1 => HP (96 + L0) L1 (by omega) l1) (Lib.hid fun l0 l1 l2 => HP (96 + L0 + L1) L2 (by omega) l2)
      (Lib.hid fun l0 l1 l2 w' A1 A2 A3 c1 c2 c3 s1 s2 s3 => pow_walk L0 L1 L2 c1 c2 c3 A1 A2 A3 _ _ _ w' l0 l1 l2 s1 s2 s3)
  clear h10 h12 HL0 HL1 HL2 HP HLen hcase hfar hno
  cases b10 with
  | true =>
    refine key 0 0 (fun _ => 0) (fun w' Y d hd hY sY => ?_) (fun _ => ⟨rfl, rfl⟩) (fun h => by cases h) (fun h => by cases h)
    refine (run_is_none Y n d f w' hn' hd sY (of_decide_eq_true e10.symm)).mono fun e w'' hr => ?_
    obtain ⟨rfl, hb⟩ := hr
    exact ⟨none, 0, rfl, sl_none _ _, hb⟩
  | false =>
    cases b12 with
    | true =>
      refine key 0 4 (fun _ => 0) (fun w' Y d hd hY sY => ?_) (fun h => by cases h) (fun _ _ => ⟨rfl, rfl⟩) (fun _ h => by cases h)
      refine (run_is_long Y n d f w' hn' hd sY (of_decide_eq_false e10.symm) (by simpa using e12)).mono fun e w'' hr => ?_
      obtain ⟨rfl, hb⟩ := hr
      exact ⟨none, 0, rfl, sl_none _ _, hb⟩
    | false =>
      obtain ⟨rfl, rfl, rfl, a0, a1, a2, ho⟩ := hL rfl
      refine key _ 0 _ (fun w' Y d hd hY sY => ?_) (fun h => by cases h) (fun _ h => by cases h) (fun _ _ => ⟨rfl, rfl, a0, a1, a2, fun i => rfl⟩)
      refine (run_is_near Y n d f w' hn' hd hY sY (of_decide_eq_false e10.symm) ho).mono fun e w'' hr => ?_
      obtain ⟨X, rfl, hX, hS, hb⟩ := hr
      rw [← Nat.add_assoc] at hS
      exact ⟨X, _, rfl, hS, hb⟩
end Go.Proofs.Ytflpdlpfclbcgaa
