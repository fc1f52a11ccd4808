/- What the document's Gas does: an input whose lengths are all small. -/
import Derived.Test.YtflpdlpfclbcgaaMyD
namespace Go.Proofs.Ytflpdlpfclbcgaa
open Go.RowKit SmWord
set_option maxRecDepth 100000

theorem ends_quo {q k : Nat} (h : q < 256 ^ k) : q / 256 ^ k = 0 := Nat.div_eq_of_lt h
theorem step_quo (q k : Nat) : q / 256 ^ k = q / 256 ^ (k + 1) * 256 + dig q k := by
  have := dig_up q k
  rw [this]
  omega
set_option maxHeartbeats 8000000 in
theorem rgas_near (A : Option Addr) (n c : Nat) (G L0 L1 L2 kk H T mx W0 r8 W C0 C Q at' : Nat) (g : Nat → Nat) (w : World)
    (b0 : L0 < 18446744073709551616) (b1 : L1 < 18446744073709551616) (b2 : L2 < 18446744073709551616)
    (H0 : Hid (Calls Try.prog 20 #[.slice A n c, .int .i64 0] w (LenV L0 true w)))
    (H1 : Hid (∀ w', Below w.heap.size w w' → Calls Try.prog 20 #[.slice A n c, .int .i64 1] w' (LenV L1 true w')))
    (H2 : Hid (∀ w', Below w.heap.size w w' → Calls Try.prog 20 #[.slice A n c, .int .i64 2] w' (LenV L2 true w')))
    (hz : Hid (¬ (L0 = 0 ∧ L2 = 0)))
    (hkk : min (L1 : Int) 32 = (kk : Int)) (hat : Hid (96 + L0 = at'))
    (HP : Hid (L0 < 1099511627776 → ∀ w', Below w.heap.size w w' → Calls Try.prog 21 #[.slice A n c, .int .i64 (at' : Int), .int .i64 (kk : Int)] w' (RetB kk g w')))
    (hH1 : Hid (L0 < 1099511627776 → bvl g kk = H)) (hH0 : Hid (¬ L0 < 1099511627776 → H = 0))
    (hT : Hid (bl H - 1 = T)) (hTB : Hid (T < B))
    (hmx : max (L0 : Int) (L2 : Int) = (mx : Int)) (hW0 : Hid (mx / 8 = W0)) (hr8 : Hid (mx % 8 = r8)) (hW : Hid ((if r8 = 0 then W0 else W0 + 1) = W)) (hWB : Hid (W < B))
    (hC0 : Hid (T + (if 32 < L1 then (L1 - 32) * 8 else 0) = C0)) (hC : Hid ((if C0 = 0 then 1 else C0) = C)) (hQ : Hid (W * W * C / 3 = Q))
    (hG : Hid ((if Q < 18446744073709551615 then max Q 200 else 18446744073709551615) = G)) :
    Calls Try.prog 18 #[.slice A n c] w fun e w' => e = .returned (.int .u64 (G : Int)) ∧ Below w.heap.size w w' := by
  go_enter Try.func18, Try.ntmps18
  go_wp2_with fail
  refine (H0.out).mono ?_
  rintro _ w1 ⟨rfl, b1⟩
  have HL := Lib.hid (H1.out _ b1)
  have BW := Lib.hid b1
  clear H0 H1 b1
  go_wp2_with fail
  refine (HL.out).mono ?_
  rintro _ w2 ⟨rfl, b1⟩
  have BW2 := Lib.hid (BW.out.trans (b1.mono BW.out.size))
  have HL2 := Lib.hid (H2.out _ BW2.out)
  clear HL BW b1 H2
  go_wp2_with fail
  refine (HL2.out).mono ?_
  rintro _ w3 ⟨rfl, b1⟩
  have BW := Lib.hid (BW2.out.trans (b1.mono BW2.out.size))
  clear HL2 BW2 b1
  go_upto_region 5 with fail
  go_cut [44] (fun v wx => v = .bool false ∧ w3 = wx)
  case first =>
    clear hkk hmx
    by_cases z0 : L0 = 0
    · have z2 : ¬ L2 = 0 := fun h => hz.out ⟨z0, h⟩
      have e2 : (((L2 : Nat) : Int) == 0) = false := by rw [beq_eq_false_iff_ne]; omega
      subst z0
      clear z2
      go_wp2_with fail
      go_meet
      exact ⟨rfl, rfl⟩
    · have e2 : (((L0 : Nat) : Int) == 0) = false := by rw [beq_eq_false_iff_ne]; omega
      clear z0
      go_wp2_with fail
      go_meet
      exact ⟨rfl, rfl⟩
  case rest =>
    obtain ⟨rfl, rfl⟩ := hcut
    go_upto_if 58 with fail
    have bE : Below w.heap.size w (w3.alloc (.cells #[] 5)) := BW.out.alloc BW.out.size _
    have sE : Sl (w3.alloc (.cells #[] 5)) (some ⟨w3.heap.size, 0, none⟩) 0 (fun _ => 0) := ⟨fun _ h => by omega, fun h => by omega⟩
    have BE := Lib.hid bE
    clear bE BW
    have hk32 : kk ≤ 32 := by omega
    have e1 : IntKind.i64.wrap (kk : Int) = (kk : Int) := by rw [IntKind.wrap_i64]; omega
    generalize hbe : w3.heap.size = be at *
    generalize w3.alloc (.cells #[] 5) = w4 at *
    clear hbe
    go_cut [10] (fun v wx => ∃ (A' : Option Addr) (k c' : Nat) (h : Nat → Nat), v = .slice A' k c' ∧ k ≤ 32 ∧ Hid (Sl wx A' k h) ∧ Hid (bvl h k = H) ∧ Hid (Below w.heap.size w wx))
    case first =>
      by_cases hb : L0 < 1099511627776
      · have HP' := Lib.hid (HP.out hb _ BE.out)
        have HH := Lib.hid (hH1.out hb)
        have HA := hat.out
        have e2 : IntKind.i64.wrap (L0 : Int) = (L0 : Int) := by rw [IntKind.wrap_i64]; omega
        have e3 : 96 + (L0 : Int) = (at' : Int) := by omega
        have e4 : IntKind.i64.wrap (at' : Int) = (at' : Int) := by rw [IntKind.wrap_i64]; omega
        have hbb : decide ((L0 : Int) < 1099511627776) = true := decide_eq_true (by omega)
        clear HP hH1 hH0 HA hmx sE hb hat hz b0 hW0 hr8 hW hC0 hC hG hQ
        rw [hbb]
        clear hbb
        go_wp2_with fail
        refine (HP'.out).mono ?_
        rintro _ w5 ⟨A5, c5, rfl, _, _, s5, b5⟩
        go_wp2_with fail
        go_meet
        exact ⟨A5, kk, c5, g, rfl, hk32, Lib.hid s5, HH, Lib.hid (BE.out.trans (b5.mono BE.out.size))⟩
      · have HH := Lib.hid (hH0.out hb)
        have hbb : decide ((L0 : Int) < 1099511627776) = false := decide_eq_false (by omega)
        clear HP hH1 hH0 hmx hb
        rw [hbb]
        clear hbb
        go_wp2_with fail
        go_meet
        exact ⟨_, 0, 0, fun _ => 0, rfl, by omega, Lib.hid sE, Lib.hid HH.out.symm, BE⟩
    case rest =>
      clear HP hH1 hH0 sE BE e1 hkk hk32 hat hz
      obtain ⟨A5, k5, c5, h5, rfl, hk5, S5, HH, BW⟩ := hcut
      go_wp2_with fail
      refine (top_ref A5 k5 c5 h5 _ hk5 S5.out).mono ?_
      rintro _ w5 ⟨rfl, bb⟩
      rw [HH.out, hT.out]
      have BE := Lib.hid (BW.out.trans (bb.mono BW.out.size))
      clear bb BW S5 hk5 HH hT
      have e2 : (mx : Int) / 8 = (W0 : Int) := by have := hW0.out; omega
      have e3 : (mx : Int).tdiv 8 = (W0 : Int) := by rw [Int.tdiv_eq_ediv_of_nonneg (by omega)]; exact e2
      have e4 : (mx : Int) % 8 = (r8 : Int) := by have := hr8.out; omega
      have e5 : (mx : Int).tmod 8 = (r8 : Int) := by rw [Int.tmod_eq_emod_of_nonneg (by omega)]; exact e4
      have hr := hW.out
      have hB8 : W0 < 18446744073709551615 := by have := hW0.out; omega
      go_upto_if 77 with fail
      go_cut [12] (fun v wx => v = .int .u64 (W : Int) ∧ w5 = wx)
      case first =>
        by_cases hz8 : r8 = 0
        · subst hz8
          rw [if_pos rfl] at hr
          subst hr
          go_wp2_with fail
          go_meet
          exact ⟨rfl, rfl⟩
        · rw [if_neg hz8] at hr
          have eW : (W0 : Int) + 1 = (W : Int) := by omega
          have ne8 : (((r8 : Nat) : Int) != 0) = true := by simp; omega
          have wW : IntKind.u64.wrap (W : Int) = (W : Int) := by rw [IntKind.wrap_u64]; omega
          clear hr
          go_wp2_with fail
          go_meet
          exact ⟨rfl, rfl⟩
      case rest =>
        obtain ⟨rfl, rfl⟩ := hcut
        clear e2 e3 e4 e5 hr hB8 hmx hW0 hr8 hW
        go_wp2_with fail
        refine (digits_ref T _ hTB.out).mono ?_
        rintro _ w6 ⟨v6, k6, rfl, hk6, g6, bb⟩
        have BW := Lib.hid (BE.out.trans (bb.mono BE.out.size))
        have G6 := Lib.hid g6
        clear bb BE g6 hTB
        have D8 : Hid (∀ w, Calls Try.prog 41 #[.int .u64 8] w (RetL 8 8 w)) := Lib.hid fun w => digits_ref 8 w (by decide)
        have hc0 := hC0.out
        clear hC0
        go_upto_if 83 with fail
        go_cut [13] (fun v wx => ∃ k : Nat, k ≤ 18 ∧ Hid (NumS wx v k C0) ∧ Hid (Below w.heap.size w wx))
        case first =>
          by_cases h32 : 32 < L1
          · rw [if_pos h32] at hc0
            have hxB : L1 - 32 < B := by simp only [B]; omega
            have e1 : (L1 : Int) - 32 = ((L1 - 32 : Nat) : Int) := by omega
            have e4 : decide ((32 : Int) < L1) = true := decide_eq_true (by omega)
            generalize L1 - 32 = x at *
            have e2 : IntKind.u64.wrap (x : Int) = (x : Int) := by rw [IntKind.wrap_u64]; simp only [B] at hxB; omega
            have DX := Lib.hid (fun w => digits_ref x w hxB)
            have HC0 := Lib.hid hc0
            clear hc0 hxB
            go_wp2_with fail
            refine (DX.out _).mono ?_
            rintro _ w7 ⟨v7, k7, rfl, hk7, g7, b7⟩
            go_wp2_with fail
            refine (D8.out _).mono ?_
            rintro _ w8 ⟨v8, k8, rfl, hk8, g8, b8⟩
            go_wp2_with fail
            refine (times_ref v7 v8 k7 k8 _ _ _ (g7.stays b8) g8 ⟨by omega, by omega⟩).mono ?_
            rintro _ w9 ⟨v9, rfl, g9, b9⟩
            have b10 := b7.trans (b8.mono b7.size)
            replace b10 := b10.trans (b9.mono b10.size)
            go_wp2_with fail
            refine (plus_ref v6 v9 k6 (k7 + k8 + 1) _ _ _ (G6.out.stays b10) g9 ⟨by omega, by omega⟩).mono ?_
            rintro _ w10 ⟨v10, rfl, g10, b11⟩
            replace b10 := b10.trans (b11.mono b10.size)
            rw [HC0.out] at g10
            go_wp2_with fail
            go_meet
            exact ⟨_, by omega, Lib.hid g10, Lib.hid (BW.out.trans (b10.mono BW.out.size))⟩
          · rw [if_neg h32, Nat.add_zero] at hc0
            have e4 : decide ((32 : Int) < L1) = false := decide_eq_false (by omega)
            subst hc0
            clear D8
            go_wp2_with fail
            go_meet
            exact ⟨k6, by omega, G6, BW⟩
        case rest =>
          clear G6 BW D8 hc0
          obtain ⟨kc, hkc, gc, BW⟩ := hcut
          go_wp2_with fail
          refine (zero_ref _ kc C0 _ gc.out).mono ?_
          rintro _ w7 ⟨rfl, rfl⟩
          have hc := hC.out
          obtain ⟨zb, hzb⟩ : ∃ zb, zb = decide (C0 = 0) := ⟨_, rfl⟩
          rw [← hzb]
          have HZB := Lib.hid hzb
          clear hzb
          have D1 : Hid (∀ w, Calls Try.prog 41 #[.int .u64 1] w (RetL 8 1 w)) := Lib.hid fun w => digits_ref 1 w (by decide)
          have BWX := Lib.hid BW.out
          have GCX := Lib.hid gc.out
          clear hC BW gc
          go_upto_if 92 with fail
          go_cut [13] (fun v wx => ∃ k : Nat, k ≤ 18 ∧ Hid (NumS wx v k C) ∧ Hid (Below w.heap.size w wx))
          case first =>
            cases zb with
            | true =>
              rw [if_pos (of_decide_eq_true HZB.out.symm)] at hc
              subst hc
              clear HZB
              go_wp2_with fail
              refine (D1.out _).mono ?_
              rintro _ w8 ⟨v8, k8, rfl, hk8, g8, b8⟩
              go_wp2_with fail
              go_meet
              exact ⟨k8, by omega, Lib.hid g8, Lib.hid (BWX.out.trans (b8.mono BWX.out.size))⟩
            | false =>
              rw [if_neg (of_decide_eq_false HZB.out.symm)] at hc
              subst hc
              clear HZB
              go_wp2_with fail
              go_meet
              exact ⟨kc, hkc, GCX, BWX⟩
          case rest =>
            clear HZB hc D1 GCX BWX
            obtain ⟨kc, hkc, gc, BW⟩ := hcut
            have DW := Lib.hid (fun w => digits_ref W w hWB.out)
            have D3 : Hid (∀ w, Calls Try.prog 41 #[.int .u64 3] w (RetL 8 3 w)) := Lib.hid fun w => digits_ref 3 w (by decide)
            go_wp2_with fail
            refine (DW.out _).mono ?_
            rintro _ w8 ⟨v8, k8, rfl, hk8, g8, b8⟩
            go_wp2_with fail
            refine (DW.out _).mono ?_
            rintro _ w9 ⟨v9, k9, rfl, hk9, g9, b9⟩
            replace g8 := g8.stays b9
            replace b8 := b8.trans (b9.mono b8.size)
            clear b9
            go_wp2_with fail
            refine (times_ref v8 v9 k8 k9 _ _ _ g8 g9 ⟨by omega, by omega⟩).mono ?_
            rintro _ w10 ⟨v10, rfl, g10, b9⟩
            replace b8 := b8.trans (b9.mono b8.size)
            clear b9 g8 g9
            go_wp2_with fail
            refine (times_ref v10 _ (k8 + k9 + 1) kc _ _ _ g10 (gc.out.stays b8) ⟨by omega, by omega⟩).mono ?_
            rintro _ w11 ⟨v11, rfl, g11, b9⟩
            replace b8 := b8.trans (b9.mono b8.size)
            clear b9 g10
            go_wp2_with fail
            refine (D3.out _).mono ?_
            rintro _ w12 ⟨v12, k12, rfl, hk12, g12, b9⟩
            replace b8 := b8.trans (b9.mono b8.size)
            replace g11 := g11.stays b9
            clear b9
            go_wp2_with fail
            refine (rdiv_posm v11 v12 (k8 + k9 + 1 + kc + 1) k12 _ 3 _ g11 g12 (by omega) ⟨by omega, by omega⟩).mono ?_
            rintro _ w13 ⟨v13, u13, k13, rfl, hk13, g13, _, b9⟩
            replace b8 := b8.trans (b9.mono b8.size)
            rw [hQ.out] at g13
            have BE := Lib.hid (BW.out.trans (b8.mono BW.out.size))
            clear b8 b9 BW gc g11 g12 DW D3 hWB hk13
            have hnq : k8 + k9 + 1 + kc + 1 ≤ 40 := by omega
            generalize k8 + k9 + 1 + kc + 1 = nq at *
            have G13 := Lib.hid g13
            have DN : Hid (∀ w, Calls Try.prog 41 #[.int .u64 18446744073709551615] w (RetL 8 18446744073709551615 w)) := Lib.hid fun w => digits_ref 18446744073709551615 w (by decide)
            clear g13 hk8 hk9 hk12 hkc
            go_wp2_with fail
            refine (DN.out _).mono ?_
            rintro _ w14 ⟨v14, k14, rfl, hk14, g14, b9⟩
            have BW := Lib.hid (BE.out.trans (b9.mono BE.out.size))
            have G15 := Lib.hid (G13.out.stays b9)
            clear DN BE G13 b9
            go_wp2_with fail
            refine (less_ref _ v14 _ k14 Q _ _ G15.out g14).mono ?_
            rintro _ w15 ⟨rfl, rfl⟩
            have hg := hG.out
            clear hG g14 hk14
            by_cases hq : Q < 18446744073709551615
            · rw [decide_eq_true hq]
              rw [if_pos hq] at hg
              have HG := Lib.hid hg
              clear hg
              obtain ⟨⟨A16, c16, rfl, hc16, hs⟩, hl, _⟩ := G15.out
              have HL := Lib.hid hl
              have HS := Lib.hid hs
              clear hl hs G15
              go_wp2_with fail
              go_loopw [16, 17] (fun v i wr => ∃ k : Nat, k ≤ nq ∧ i = .int .i64 ((k : Int) - 1) ∧ v = .int .u64 ((Q / 256 ^ k : Nat) : Int) ∧ w14 = wr) (fun _ i _ => (intOf i + 1).toNat)
              case atStart => exact ⟨nq, Nat.le_refl _, rfl, by rw [ends_quo HL.out]; rfl, rfl⟩
              case round =>
                obtain ⟨k, hk, rfl, rfl, rfl⟩ := hrel
                cases k with
                | zero =>
                  rw [Nat.pow_zero, Nat.div_one]
                  have em : max (Q : Int) 200 = (G : Int) := by have := HG.out; omega
                  go_wp2_with fail
                  go_ret
                  exact ⟨rfl, BW.out⟩
                | succ j =>
                  obtain ⟨b, off, rfl, _, hcs⟩ := HS.out (by omega)
                  have c1 := hcs j (by omega)
                  have hst := step_quo Q j
                  have hle : Q / 256 ^ j ≤ Q := Nat.div_le_self _ _
                  have hd := dig_lt Q j
                  generalize Q / 256 ^ (j + 1) = a at *
                  generalize hb : Q / 256 ^ j = b2 at *
                  have HBB := Lib.hid hb
                  clear hb hcs
                  have e1 : ((j + 1 : Nat) : Int) - 1 = (j : Int) := by omega
                  rw [e1]
                  have w1 : IntKind.u64.wrap ((a : Int) * 256) = ((a * 256 : Nat) : Int) := by rw [IntKind.wrap_u64]; omega
                  have w2 : IntKind.u64.wrap ((dig Q j : Nat) : Int) = ((dig Q j : Nat) : Int) := by rw [IntKind.wrap_u64]; omega
                  have w3 : IntKind.u64.wrap (((a * 256 : Nat) : Int) + ((dig Q j : Nat) : Int)) = (b2 : Int) := by rw [IntKind.wrap_u64]; omega
                  generalize dig Q j = d at *
                  have HST := Lib.hid hst
                  clear hst hle e1
                  go_wp2_with fail
                  exact ⟨⟨j, by omega, rfl, by rw [HBB.out]; refine congrArg (Value.int .u64) (Eq.trans (congrArg _ ?_) w3); rw [Int.natCast_mul]; rfl, by first | trivial | rfl⟩, by simp only [intOf]; omega⟩
            · rw [decide_eq_false hq]
              rw [if_neg hq] at hg
              have HG := Lib.hid hg
              clear hg hq
              go_wp2_with fail
              go_ret
              exact ⟨by rw [← HG.out]; rfl, BW.out⟩
end Go.Proofs.Ytflpdlpfclbcgaa
