/- The statement MemPlays at every row of calls: it returns true. -/
import Derived.Test.YtnffelnmlloonaaGg
import Derived.Test.YtnffelnmlloonaaGd
import Derived.Test.YtnffelnmlloonaaGb
namespace Go.Proofs.Ytnffelnmlloonaa
open Go.RowKit SmWord
set_option maxRecDepth 100000

theorem ROwn.blk {w : World} {base n : Nat} {u : Value} {f : Nat → Nat} (h : ROwn w base u n f) {g : Nat} (hg : u.ownBlock = some g) : base ≤ g ∧ g < w.heap.size := World.ownsRow.lt h g hg
theorem ROwn.keep {w w' : World} {base n : Nat} {u : Value} {f : Nat → Nat} (h : ROwn w base u n f) (hk : ∀ g, u.ownBlock = some g → w'.heap[g]? = w.heap[g]?) : ROwn w' base u n f := by
  refine ⟨h.1, ?_⟩
  rcases h.2 with h1 | ⟨g, cap, cur, rfl, h2, h3, h4⟩
  · exact .inl h1
  · exact .inr ⟨g, cap, cur, rfl, h2, (hk g rfl).trans h3, h4⟩
theorem ROwn.below {w w' : World} {base n : Nat} {u : Value} {f : Nat → Nat} (h : ROwn w base u n f) (hb : Below w.heap.size w w') : ROwn w' base u n f := own_below h hb
/-- A memory and the document's row of bytes that say the same, apart from each other. -/
structure Pair (w : World) (base mb : Nat) (v u : Value) (n : Nat) (f : Nat → Nat) : Prop where
  mem : MemAt w base mb v n f
  row : ROwn w base u n f
  dis : Dis v u
theorem Pair.below {w w' : World} {base mb n : Nat} {v u : Value} {f : Nat → Nat} (h : Pair w base mb v u n f) (hb : Below w.heap.size w w') : Pair w' base mb v u n f := ⟨h.mem.below hb, h.row.below hb, h.dis⟩
theorem ROwn.off {w w' : World} {base mb n m : Nat} {v u : Value} {f g : Nat → Nat} (h : ROwn w base u n f) (hs : MemAt w base mb v m g) (hd : Dis v u) (ho : Off base mb v w w') : ROwn w' base u n f :=
  h.keep fun k hk => ho.block k (h.blk hk).2 (fun e => own_ne h hs.blk (by decide) (by rw [hk, e])) (fun e => hd k e hk)
/-- Behind the document's step the row is a new one. -/
theorem Pair.turn {w w' : World} {base mb n : Nat} {v : Value} {f : Nat → Nat} {m : Nat} {F : Nat → Nat} {e : Ending} (h : MemAt w base mb v n f) (hm : m ≤ 4194304) (hr : RowIs m F w e w') : ∃ g, e = .returned (.slice (some ⟨g, 0, none⟩) m m) ∧ MemAt w' base mb v n f ∧ ROwn w' base (.slice (some ⟨g, 0, none⟩) m m) m F ∧ Dis v (.slice (some ⟨g, 0, none⟩) m m) ∧ Below w.heap.size w w' := by
  obtain ⟨g, rfl, hg, hc, hb⟩ := hr
  refine ⟨g, rfl, h.below hb, arr_own (Nat.le_trans h.base_le hg) (by unfold maxLen; omega) hc, fun k hk e => ?_, hb⟩
  cases e
  have := (World.ownsRow.lt h.own g hk).2
  omega
theorem ROwn.sl {w : World} {base n c : Nat} {A : Option Addr} {f : Nat → Nat} (h : ROwn w base (.slice A n c) n f) (hf : ∀ i, i < n → f i < 256) : Sl w A n f := by
  obtain ⟨A', c', e, _, _, hs⟩ := own_sl h hf
  cases e
  exact hs
theorem Dis.reach {w : World} {base n : Nat} {v v' u : Value} {f : Nat → Nat} (hd : Dis v u) (hu : ROwn w base u n f) (ho : v'.ownBlock = v.ownBlock ∨ ∃ g, v'.ownBlock = some g ∧ w.heap.size ≤ g) : Dis v' u := fun g hg => by
  rcases ho with h | ⟨g', h, hl⟩
  · exact hd g (h.symm.trans hg)
  · intro e
    rw [h] at hg
    cases hg
    have := (hu.blk e).2
    omega
theorem ext0_in (f : Nat → Nat) {n i : Nat} (h : i < n) : ext0 f n i = f i := if_pos h
set_option maxHeartbeats 32000000 in
theorem plays_walk {A : Option Addr} {n c : Nat} {X : Nat → OpV} (w : World) (hn : n ≤ maxLen) (hnc : n ≤ c) (hX : OpsS w A n X) :
    Calls Try.prog 3 #[.slice A n c] w fun e w' => e = .returned (.bool true) ∧ Below w.heap.size w w' := by
  have K0 := Lib.hid (mnew_walk w.heap.size w (Nat.le_refl _))
  have HX := Lib.hid hX
  have KF := Lib.hid mfixed_walk
  clear hX
  go_enter Try.func3, Try.ntmps3
  go_wp2_with fail
  refine K0.out.mono ?_
  rintro e w1 ⟨mb, rfl, _, hM, b1⟩
  have b1' : Below w1.heap.size w1 (w1.alloc (.cells #[] 5)) := (Below.refl _ _).alloc (Nat.le_refl _) _
  have HP : Hid (Pair (w1.alloc (.cells #[] 5)) w.heap.size mb (.slice none 0 0) (.slice (some ⟨w1.heap.size, 0, none⟩) 0 0) 0 (fun _ => 0)) := Lib.hid ⟨hM.below b1', World.ownsRow_made w1 #[] 0 b1.size (Nat.zero_le _) rfl, fun g hg => by cases hg⟩
  have HB := Lib.hid (b1.trans (b1'.mono b1.size))
  clear hM b1 b1' K0
  go_upto_region 3 with fail
  generalize w1.alloc (.cells #[] 5) = W1 at *
  generalize w1.heap.size = y1 at *
  go_upto_region 5 with (go_at_call 11; refine (KF.out _).mono ?_; rintro e w2 ⟨rfl, b2⟩)
  have HP2 := Lib.hid (HP.out.below b2)
  have HB2 := Lib.hid (HB.out.trans (b2.mono HB.out.size))
  have KC := Lib.hid (cut_walk w2 hn hnc (HX.out.below HB2.out))
  clear HP HB b2
  go_wp2_with fail
  refine KC.out.mono ?_
  rintro e w3 ⟨⟨m, c', rfl, hmn, hmc, _⟩, b3⟩
  have HP := Lib.hid (HP2.out.below b3)
  have HB := Lib.hid (HB2.out.trans (b3.mono HB2.out.size))
  have HX2 := Lib.hid (HX.out.le hmn)
  have hm63 : m ≤ 9223372036854775807 := Nat.le_trans hmn hn
  clear HP2 HB2 b3 KC HX hmn hn hnc
  go_wp2_with fail
  go_loopw [4, 22] (fun s i wr => ∃ (j N : Nat) (v u : Value) (f : Nat → Nat), j ≤ m ∧ i = .int .i64 (j : Int) ∧ u = s ∧ Hid (Pair wr w.heap.size mb v u N f) ∧ Hid (Below w.heap.size w wr)) (fun _ i _ => m - (intOf i).toNat)
  case atStart => exact ⟨0, 0, _, _, _, Nat.zero_le _, rfl, rfl, HP, HB⟩
  case round =>
    clear HP HB
    obtain ⟨j, N, v, u, f, hj, rfl, rfl, HP, HB⟩ := hrel
    have hN := HP.out.mem.len
    obtain ⟨UA, uc, rfl⟩ := own_val HP.out.row
    by_cases hlt : j < m
    · obtain ⟨b, off, rfl, hbl, hc⟩ := (HX2.out.below HB.out).cells (by omega)
      have hjn : (j : Int) < (m : Int) := by omega
      have OK := Lib.hid (HX2.out.ok j hlt)
      obtain ⟨q0, q1, q2, q3, q4, q5, q6, q7, q8, q9, q10, q11, q12⟩ := ops_cells hc hlt
      have fo := fold_o (X j)
      clear hc
      have s0 : (wr.alloc (.cells zO 32)).heap[wr.heap.size]? = some (.cells zO 32) := heap_alloc_new _ _
      go_upto_region 8 with (first | (refine wpList_alloc_row rfl 32 rfl zO zO_run ?_) | (refine wpList_store_row rfl 32 _ _ rfl _ zO (oa (X j)) rfl rfl s0 (infoO _) rfl (oa_one _) ?_))
      try simp only [Act.put]
      clear s0 q0 q1 q2 q3 q4 q5 q6 q7 q8 q9 q10 q11 q12 fo
      have F := Lib.hid (blk_row (c' := oa (X j)) (heap_alloc_new wr (.cells zO 32)))
      have b1 := below_setRow ((Below.refl wr.heap.size wr).alloc (Nat.le_refl _) (.cells zO 32)) (Nat.le_refl _) (oa (X j))
      replace HP := Lib.hid (HP.out.below b1)
      replace HB := Lib.hid (HB.out.trans (b1.mono HB.out.size))
      clear b1
      generalize X j = x at *
      generalize (wr.alloc (.cells zO 32)).setRow wr.heap.size (oa x) = W at *
      generalize wr.heap.size = z1 at *
      have fw := fold_w
      obtain ⟨p0, p1, p2, p3, p4, p5, p6, p7, p8, p9, p10, p11, p12⟩ := op_cells F.out
      have zn : x.n < 9223372036854775808 := by have := OK.out.n.2; omega
      have zm : x.m < 9223372036854775808 := by have := OK.out.m.2; omega
      by_cases k0 : x.kd = 0
      · have d0 : (x.kd == 0) = true := by simp [k0]
        have KR := Lib.hid (rreach_walk N x.a x.b W hN OK.out.a OK.out.b)
        have hdN := HP.out.mem.div
        cases hr : rok x.a x.b with
        | true =>
          rw [hr, if_pos rfl] at KR
          have hle := rlen_le hN hr
          have hge := rlen_ge N x.a x.b
          have hdL := rlen_32 (a := x.a) (k := x.b) hdN
          have hpm := pr_mono (wn_mono hge)
          have hp1 := pr_small (w := wn (rlen N x.a x.b)) (by unfold wn; omega)
          have e1 : ((rlen N x.a x.b : Nat) : Int) / 32 = ((wn (rlen N x.a x.b) : Nat) : Int) := by rw [wn_32 hdL]; omega
          have e2 : (N : Int) / 32 = ((wn N : Nat) : Int) := by rw [wn_32 hdN]; omega
          have e3 : ((pr (wn (rlen N x.a x.b)) : Nat) : Int) - ((pr (wn N) : Nat) : Int) = ((mco N x.a x.b : Nat) : Int) := by unfold mco; omega
          have e4 : IntKind.u64.wrap ((mco N x.a x.b : Nat) : Int) = ((mco N x.a x.b : Nat) : Int) := by rw [IntKind.wrap_u64]; unfold mco; omega
          have P1 := Lib.hid fun w => price_ref (wn (rlen N x.a x.b)) w (by unfold wn; omega)
          have P2 := Lib.hid fun w => price_ref (wn N) w (by unfold wn; omega)
          have hself : (((mco N x.a x.b : Nat) : Int) == ((mco N x.a x.b : Nat) : Int)) = true := by simp
          clear hdN hdL hpm
          go_wp2_with fail
          refine KR.out.mono ?_
          rintro e w4 ⟨rfl, b4⟩
          replace F := Lib.hid (stay b4 F.out)
          replace HB := Lib.hid (HB.out.trans (b4.mono HB.out.size))
          replace HP := Lib.hid (HP.out.below b4)
          clear b4 KR p0 p1 p2 p3 p4 p5 p6 p7 p8 p9 p10 p11 p12
          obtain ⟨p0, p1, p2, p3, p4, p5, p6, p7, p8, p9, p10, p11, p12⟩ := op_cells F.out
          go_wp2_with fail
          have KC := mcost_walk HP.out.mem x.a x.b OK.out.a OK.out.b
          rw [hr, if_pos rfl] at KC
          refine KC.mono ?_
          rintro e w5 ⟨rfl, b5⟩
          clear KC
          replace F := Lib.hid (stay b5 F.out)
          replace HB := Lib.hid (HB.out.trans (b5.mono HB.out.size))
          replace HP := Lib.hid (HP.out.below b5)
          clear b5 p0 p1 p2 p3 p4 p5 p6 p7 p8 p9 p10 p11 p12
          obtain ⟨p0, p1, p2, p3, p4, p5, p6, p7, p8, p9, p10, p11, p12⟩ := op_cells F.out
          have KM := mreach_walk HP.out.mem x.a x.b OK.out.a OK.out.b
          unfold ReachIs at KM
          rw [hr, if_pos rfl] at KM
          have KM' := Lib.hid KM
          clear KM hr
          generalize rlen N x.a x.b = L at *
          generalize mco N x.a x.b = C at *
          go_upto_region 17 with (first
            | (go_at_call_of 15 (Value.int .u64 ((wn L : Nat) : Int)); refine (P1.out _).mono ?_; rintro e w6 ⟨rfl, rfl⟩)
            | (go_at_call_of 15 (Value.int .u64 ((wn N : Nat) : Int)); refine (P2.out _).mono ?_; rintro e w7 ⟨rfl, rfl⟩)
            | (go_at_call 16; refine KM'.out.mono ?_; rintro e w8 ⟨rfl, v8, h8, o8, wh⟩; have H8 := Lib.hid h8; have O8 := Lib.hid o8; have WH := Lib.hid wh; clear h8 o8 wh))
          have R8 := HP.out.row.off HP.out.mem HP.out.dis O8.out
          have B8 := Lib.hid (HB.out.trans O8.out.below)
          have KG := Lib.hid (rgrow_walk (c := uc) w8 (R8.sl HP.out.mem.small) hge hle)
          clear R8 HB p0 p1 p2 p3 p4 p5 p6 p7 p8 p9 p10 p11 p12
          go_wp2_with (first
            | (go_at_call 17; refine KG.out.mono ?_; intro e wA hA; obtain ⟨gA, rfl, mA, rA, dA, bA⟩ := Pair.turn H8.out hle hA; have M9 := Lib.hid mA; have R9 := Lib.hid rA; have D9 := Lib.hid dA; have B9 := Lib.hid (B8.out.trans (bA.mono B8.out.size)); clear hA mA rA dA bA)
            | (go_at_call 27; refine (mlen_walk M9.out).mono ?_; rintro e w9 ⟨rfl, rfl⟩))
          exact ⟨⟨j + 1, L, v8, _, _, by omega, by go_num, rfl, Lib.hid ⟨M9.out, R9.out, D9.out⟩, B9⟩, by simp only [intOf]; omega⟩
        | false =>
          rw [hr, if_neg (by decide)] at KR
          clear hdN
          go_wp2_with fail
          refine KR.out.mono ?_
          rintro e w4 ⟨rfl, b4⟩
          replace F := Lib.hid (stay b4 F.out)
          replace HB := Lib.hid (HB.out.trans (b4.mono HB.out.size))
          replace HP := Lib.hid (HP.out.below b4)
          clear b4 KR p0 p1 p2 p3 p4 p5 p6 p7 p8 p9 p10 p11 p12
          obtain ⟨p0, p1, p2, p3, p4, p5, p6, p7, p8, p9, p10, p11, p12⟩ := op_cells F.out
          go_wp2_with fail
          have KC := mcost_walk HP.out.mem x.a x.b OK.out.a OK.out.b
          rw [hr, if_neg (by decide)] at KC
          refine KC.mono ?_
          rintro e w5 ⟨rfl, b5⟩
          clear KC
          replace F := Lib.hid (stay b5 F.out)
          replace HB := Lib.hid (HB.out.trans (b5.mono HB.out.size))
          replace HP := Lib.hid (HP.out.below b5)
          clear b5 p0 p1 p2 p3 p4 p5 p6 p7 p8 p9 p10 p11 p12
          obtain ⟨p0, p1, p2, p3, p4, p5, p6, p7, p8, p9, p10, p11, p12⟩ := op_cells F.out
          have KM := mreach_walk HP.out.mem x.a x.b OK.out.a OK.out.b
          unfold ReachIs at KM
          rw [hr, if_neg (by decide)] at KM
          have KM' := Lib.hid KM
          clear KM hr
          go_wp2_with (first
            | (go_at_call 16; refine KM'.out.mono ?_; rintro e w8 ⟨rfl, v8, h8, o8, wh⟩; have M9 := Lib.hid h8; have O8 := Lib.hid o8; have WH := Lib.hid wh; clear h8 o8 wh)
            | (go_at_call 27; refine (mlen_walk M9.out).mono ?_; rintro e w9 ⟨rfl, rfl⟩))
          exact ⟨⟨j + 1, N, v8, _, _, by omega, by go_num, rfl, Lib.hid ⟨M9.out, (HP.out.row.off HP.out.mem HP.out.dis O8.out).same fun i hi => ext0_in f hi, HP.out.dis.reach HP.out.row WH.out⟩, Lib.hid (HB.out.trans O8.out.below)⟩, by simp only [intOf]; omega⟩
      have d0 : (x.kd == 0) = false := by simp [k0]
      by_cases k1 : x.kd = 1
      · have d1 : (x.kd == 1) = true := by simp [k1]
        have KW := Lib.hid (mwrite_any HP.out.mem x.n zn x.dA x.dn x.dc x.df (OK.out.sl.below HB.out))
        go_upto_region 20 with (go_at_call 18; refine KW.out.mono ?_; rintro e w4 ⟨rfl, h4, o4⟩; have H4 := Lib.hid h4; have O4 := Lib.hid o4; clear h4 o4 p0 p1 p2 p3 p4 p5 p6 p7 p8 p9 p10 p11 p12)
        have F4 := O4.out.keep HP.out.mem F.out (by decide) (by decide)
        obtain ⟨p0, p1, p2, p3, p4, p5, p6, p7, p8, p9, p10, p11, p12⟩ := op_cells F4
        have R4 := HP.out.row.off HP.out.mem HP.out.dis O4.out
        have B4 := Lib.hid (HB.out.trans O4.out.below)
        have D4 := Lib.hid HP.out.dis
        have KR := Lib.hid (rwrite_any (c := uc) (d := x.dc) w4 x.n (R4.sl HP.out.mem.small) (OK.out.sl.below B4.out) hN OK.out.dn zn)
        clear F4 R4 HP KW O4 HB
        go_wp2_with (first
          | (go_at_call 19; refine KR.out.mono ?_; intro e w5 h5; obtain ⟨g5, rfl, m5, r5, d5, b5⟩ := Pair.turn H4.out hN h5; have M5 := Lib.hid m5; have R5 := Lib.hid r5; have D5 := Lib.hid d5; have B5 := Lib.hid (B4.out.trans (b5.mono B4.out.size)); clear h5 m5 r5 d5 b5)
          | (go_at_call 27; refine (mlen_walk M5.out).mono ?_; rintro e w6 ⟨rfl, rfl⟩))
        exact ⟨⟨j + 1, N, v, _, _, by omega, by go_num, rfl, Lib.hid ⟨M5.out, R5.out, D5.out⟩, B5⟩, by simp only [intOf]; omega⟩
      have d1 : (x.kd == 1) = false := by simp [k1]
      by_cases k2 : x.kd = 2
      · have d2 : (x.kd == 2) = true := by simp [k2]
        have KW := Lib.hid (mcopy_any HP.out.mem x.n x.m x.k zn zm)
        go_upto_region 23 with (go_at_call 20; refine KW.out.mono ?_; rintro e w4 ⟨rfl, h4, o4⟩; have H4 := Lib.hid h4; have O4 := Lib.hid o4; clear h4 o4 p0 p1 p2 p3 p4 p5 p6 p7 p8 p9 p10 p11 p12)
        have Fq := O4.out.keep HP.out.mem F.out (by decide) (by decide)
        have R4 := Lib.hid (HP.out.row.off HP.out.mem HP.out.dis O4.out)
        have B4 := Lib.hid (HB.out.trans O4.out.below)
        have hsm := Lib.hid HP.out.mem.small
        clear HP KW O4 HB F
        go_region_held3 (fun w' => w'.cell? ⟨z1, 1, none⟩ = some (.int .i64 x.n) ∧ w'.cell? ⟨z1, 2, none⟩ = some (.int .i64 x.m) ∧ w'.cell? ⟨z1, 3, none⟩ = some (.int .i64 x.k)) (exact ⟨(op_cells Fq).2.1, (op_cells Fq).2.2.1, (op_cells Fq).2.2.2.1⟩) (first
          | (go_at_call 21; refine (rread_any (c := uc) w4.drew x.m x.k ((R4.out.below (Below.refl _ w4).drew).sl hsm.out) hN zm).mono ?_; rintro e w5 ⟨A5, c5, rfl, _, _, s5, b5⟩; have S5 := Lib.hid s5; have b5' := (Below.refl w4.heap.size w4).drew.trans b5; replace Fq := stay b5' Fq; have M5 := Lib.hid (H4.out.below b5'); have R5 := Lib.hid (R4.out.below b5'); have B5 := Lib.hid (B4.out.trans (b5'.mono B4.out.size)); clear s5 b5 b5')
          | (go_at_call 19; refine (rwrite_any (c := uc) (d := c5) w5 x.n (R5.out.sl hsm.out) S5.out hN (Nat.le_trans (lenR_le _ _) (by decide)) zn).mono ?_; intro e w6 h6; obtain ⟨g6, rfl, m6, r6, d6, b6⟩ := Pair.turn M5.out hN h6; replace Fq := stay b6 Fq; have M9 := Lib.hid m6; have R9 := Lib.hid r6; have D9 := Lib.hid d6; have B9 := Lib.hid (B5.out.trans (b6.mono B5.out.size)); clear h6 m6 r6 d6 b6))
        all_goals
          go_wp2_with (go_at_call 27; refine (mlen_walk M9.out).mono ?_; rintro e w9 ⟨rfl, rfl⟩)
          exact ⟨⟨j + 1, N, v, _, _, by omega, by go_num, rfl, Lib.hid ⟨M9.out, R9.out, D9.out⟩, B9⟩, by simp only [intOf]; omega⟩
      have d2 : (x.kd == 2) = false := by simp [k2]
      by_cases k3 : x.kd = 3
      · have d3 : (x.kd == 3) = true := by simp [k3]
        have KW := Lib.hid (msetword_any HP.out.mem x.n zn x.a)
        go_upto_region 26 with (go_at_call 22; refine KW.out.mono ?_; rintro e w4 ⟨rfl, h4, o4⟩; have H4 := Lib.hid h4; have O4 := Lib.hid o4; clear h4 o4 p0 p1 p2 p3 p4 p5 p6 p7 p8 p9 p10 p11 p12)
        have F4 := O4.out.keep HP.out.mem F.out (by decide) (by decide)
        obtain ⟨p0, p1, p2, p3, p4, p5, p6, p7, p8, p9, p10, p11, p12⟩ := op_cells F4
        have R4 := HP.out.row.off HP.out.mem HP.out.dis O4.out
        have B4 := Lib.hid (HB.out.trans O4.out.below)
        have KR := Lib.hid (rsetword_any (c := uc) w4 x.n x.a (R4.sl HP.out.mem.small) hN zn)
        clear F4 R4 HP KW O4 HB
        go_wp2_with (first
          | (go_at_call 23; refine KR.out.mono ?_; intro e w5 h5; obtain ⟨g5, rfl, m5, r5, d5, b5⟩ := Pair.turn H4.out hN h5; have M9 := Lib.hid m5; have R9 := Lib.hid r5; have D9 := Lib.hid d5; have B9 := Lib.hid (B4.out.trans (b5.mono B4.out.size)); clear h5 m5 r5 d5 b5)
          | (go_at_call 27; refine (mlen_walk M9.out).mono ?_; rintro e w9 ⟨rfl, rfl⟩))
        exact ⟨⟨j + 1, N, v, _, _, by omega, by go_num, rfl, Lib.hid ⟨M9.out, R9.out, D9.out⟩, B9⟩, by simp only [intOf]; omega⟩
      have d3 : (x.kd == 3) = false := by simp [k3]
      have Fq := F.out
      have ew : ∀ (m : Nat) (w : World), (Op.equalIn 10000 30 (.agg (wa m)) (.agg (wa m))).run Try.prog w = .ok true w := fun m w => by rw [equal_wa]; simp
      have g1 := Try.guardW
      have hsm := Lib.hid HP.out.mem.small
      have KA := Lib.hid (mread_any (HP.out.mem.below (Below.refl _ W).drew) x.n x.k zn)
      obtain ⟨L, hL⟩ : ∃ L, L = lenR x.n x.k := ⟨_, rfl⟩
      obtain ⟨G, hG⟩ : ∃ G, G = rdb f N x.n.toNat := ⟨_, rfl⟩
      have KB := Lib.hid fun w5 (h : ROwn w5 w.heap.size (.slice UA N uc) N f) => rread_any (c := uc) w5 x.n x.k (h.sl hsm.out) hN zn
      rw [← hL, ← hG] at KA KB
      obtain ⟨S, hS⟩ : ∃ S, S = str (bs G L) := ⟨_, rfl⟩
      have HSS := Lib.hid hS
      clear hL hG hS F
      go_upto_region 9 with fail
      clear p0 p1 p2 p3 p4 p5 p6 p7 p8 p9 p10 p11 p12
      go_region_held (fun w' => w'.cell? ⟨z1, 1, none⟩ = some (.int .i64 x.n) ∧ w'.cell? ⟨z1, 3, none⟩ = some (.int .i64 x.k)) (exact ⟨(op_cells Fq).2.1, (op_cells Fq).2.2.2.1⟩) (first
        | (go_at_call 24; refine KA.out.mono ?_; rintro e w5 ⟨A5, c5, rfl, _, _, s5, b5⟩; have b5' := (Below.refl W.heap.size W).drew.trans b5; replace Fq := stay b5' Fq; have HP5 := Lib.hid (HP.out.below b5'); have B5 := Lib.hid (HB.out.trans (b5'.mono HB.out.size)); have CV := Lib.hid fun w' (hb : Below w5.heap.size w5 w') => conv_sl (c := c5) (s5.below hb); rw [← HSS.out] at CV; have cv5 := CV.out w5 (Below.refl _ _); clear s5 b5 b5')
        | (go_at_call 21; refine (KB.out w5 HP5.out.row).mono ?_; rintro e w6 ⟨A6, c6, rfl, _, _, s6, b6⟩; replace Fq := stay b6 Fq; have HP6 := Lib.hid (HP5.out.below b6); have B6 := Lib.hid (B5.out.trans (b6.mono B5.out.size)); have cv6 := CV.out w6 b6; have cv7 := conv_sl (c := c6) s6; rw [← HSS.out] at cv7; clear s6 b6)
        | (go_at_call 25; refine (mword_any HP6.out.mem x.n zn).mono ?_; rintro e w7 ⟨rfl, b7⟩; replace Fq := stay b7 Fq; have HP7 := Lib.hid (HP6.out.below b7); have B7 := Lib.hid (B6.out.trans (b7.mono B6.out.size)); clear b7)
        | (go_at_call 26; refine (rword_any (c := uc) w7 x.n (HP7.out.row.sl hsm.out) hN zn).mono ?_; rintro e w8 ⟨rfl, b8⟩; replace Fq := stay b8 Fq; have HP8 := Lib.hid (HP7.out.below b8); have B8 := Lib.hid (B7.out.trans (b8.mono B7.out.size)); clear b8))
      all_goals
        go_wp2_with (go_at_call 27; refine (mlen_walk HP8.out.mem).mono ?_; rintro e w9 ⟨rfl, rfl⟩)
        exact ⟨⟨j + 1, N, v, _, _, by omega, by go_num, rfl, HP8, B8⟩, by simp only [intOf]; omega⟩
    · obtain rfl : j = m := by omega
      have hsl := HP.out.row.sl HP.out.mem.small
      obtain ⟨S, hS⟩ : ∃ S, S = str (bs f N) := ⟨_, rfl⟩
      have CW := Lib.hid fun w' (hb : Below wr.heap.size wr w') => conv_sl (c := uc) (hsl.below hb)
      rw [← hS] at CW
      have HSS : Hid (str (bs (rdb f N 0) N) = S) := Lib.hid (by rw [hS, bs_congr (f := rdb f N 0) (g := f) (fun i hi => by unfold rdb; rw [Nat.zero_add, if_pos hi])])
      have bd := (Below.refl wr.heap.size wr).drew
      have KA := mread_any (HP.out.mem.below bd) 0 (N : Int) (by decide)
      have hlr : lenR 0 (N : Int) = N := by unfold lenR; rw [if_neg (by omega), Int.toNat_natCast]
      rw [hlr] at KA
      have KA' := Lib.hid KA
      clear KA hlr hsl hS
      go_upto_region 30 with fail
      go_region_held (fun w' => (convert 25 9 (.slice UA N uc)).run Try.prog w' = .ok (.string S) w') (exact CW.out _ bd) (first
        | (go_at_call 24; refine KA'.out.mono ?_; rintro e w5 ⟨A5, c5, rfl, _, _, s5, b5⟩; replace bd := bd.trans b5; have cv5 := conv_sl (c := c5) s5; rw [show (0 : Int).toNat = 0 from rfl, HSS.out] at cv5; clear s5 b5))
      all_goals
        go_wp2_with fail
        go_ret
        exact ⟨rfl, HB.out.trans (bd.mono HB.out.size)⟩
end Go.Proofs.Ytnffelnmlloonaa
