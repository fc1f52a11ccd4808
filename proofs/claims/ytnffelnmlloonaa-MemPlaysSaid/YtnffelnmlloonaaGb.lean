/- The statement MemSums at every row of calls: it returns true. -/
import Derived.Test.YtnffelnmlloonaaGa
namespace Go.Proofs.Ytnffelnmlloonaa
open Go.RowKit SmWord
set_option maxRecDepth 100000

theorem OpsS.le {w : World} {A : Option Addr} {n m : Nat} {X : Nat → OpV} (h : OpsS w A n X) (hm : m ≤ n) : OpsS w A m X :=
  ⟨fun i hi => h.ok i (by omega), fun h0 => by
    obtain ⟨b, off, e, hb, hc⟩ := h.cells (by omega)
    exact ⟨b, off, e, hb, fun i hi => hc i (by omega)⟩⟩
theorem pr_step (N a k : Nat) : pr (wn N) + mco N a k = pr (wn (rlen N a k)) := by
  have := pr_mono (wn_mono (rlen_ge N a k))
  unfold mco
  omega
set_option maxHeartbeats 2000000 in
theorem sums_walk {A : Option Addr} {n c : Nat} {X : Nat → OpV} (w : World) (hn : n ≤ maxLen) (hnc : n ≤ c) (hX : OpsS w A n X) :
    Calls Try.prog 8 #[.slice A n c] w fun e w' => e = .returned (.bool true) ∧ Below w.heap.size w w' := by
  have K0 := Lib.hid (mnew_walk w.heap.size w (Nat.le_refl _))
  have HX := Lib.hid hX
  have KF := Lib.hid mfixed_walk
  clear hX
  go_enter Try.func8, Try.ntmps8
  go_wp2_with fail
  refine K0.out.mono ?_
  rintro e w1 ⟨mb, rfl, _, hM, b1⟩
  have HM := Lib.hid hM
  have HB := Lib.hid b1
  have KC := Lib.hid (cut_walk w1 hn hnc (HX.out.below b1))
  clear hM b1 K0
  go_wp2_with fail
  refine KC.out.mono ?_
  rintro e w2 ⟨⟨m, c', rfl, hmn, hmc, hp⟩, b2⟩
  have HP := Lib.hid hp
  replace HM := Lib.hid (HM.out.below b2)
  replace HB := Lib.hid (HB.out.trans (b2.mono HB.out.size))
  have HX2 := Lib.hid (HX.out.le hmn)
  have hm63 : m ≤ 9223372036854775807 := Nat.le_trans hmn hn
  clear hp b2 KC HX hmn hn hnc
  go_wp2_with fail
  go_loopw [4, 15] (fun s i wr => ∃ (j N : Nat) (v : Value) (f : Nat → Nat), j ≤ m ∧ i = .int .i64 (j : Int) ∧ s = .int .u64 ((pr (wn N) : Nat) : Int) ∧ Hid (MemAt wr w.heap.size mb v N f) ∧ Hid (Below w.heap.size w wr)) (fun _ i _ => m - (intOf i).toNat)
  case atStart => exact ⟨0, 0, _, _, Nat.zero_le _, rfl, rfl, HM, HB⟩
  case round =>
    clear HM HB
    obtain ⟨j, N, v, f, hj, rfl, rfl, HM, HB⟩ := hrel
    have hN := HM.out.len
    have hpr := pr_small (w := wn N) (by unfold wn; omega)
    by_cases hlt : j < m
    · obtain ⟨b, off, rfl, hbl, hc⟩ := (HX2.out.below HB.out).cells (by omega)
      have hjn : (j : Int) < (m : Int) := by omega
      have OK := Lib.hid (HX2.out.ok j hlt)
      obtain ⟨q0, q1, q2, q3, q4, q5, q6, q7, q8, q9, q10, q11, q12⟩ := ops_cells hc hlt
      have fo := fold_o (X j)
      clear hc
      have s0 : (wr.alloc (.cells zO 32)).heap[wr.heap.size]? = some (.cells zO 32) := heap_alloc_new _ _
      go_upto_region 8 with (first | (refine wpList_alloc_row rfl 32 rfl zO zO_run ?_) | (refine wpList_store_row rfl 32 _ _ rfl _ zO (oa (X j)) rfl rfl s0 (infoO _) rfl (oa_one _) ?_))
      simp only [Act.put]
      clear s0 q0 q1 q2 q3 q4 q5 q6 q7 q8 q9 q10 q11 q12 fo
      have F := Lib.hid (blk_row (c' := oa (X j)) (heap_alloc_new wr (.cells zO 32)))
      have b1 := below_setRow ((Below.refl wr.heap.size wr).alloc (Nat.le_refl _) (.cells zO 32)) (Nat.le_refl _) (oa (X j))
      replace HM := Lib.hid (HM.out.below b1)
      replace HB := Lib.hid (HB.out.trans (b1.mono HB.out.size))
      clear b1
      generalize X j = x at *
      generalize (wr.alloc (.cells zO 32)).setRow wr.heap.size (oa x) = W at *
      generalize wr.heap.size = z at *
      have fw := fold_w
      obtain ⟨p0, p1, p2, p3, p4, p5, p6, p7, p8, p9, p10, p11, p12⟩ := op_cells F.out
      go_wp2_with fail
      refine (mcost_walk HM.out x.a x.b OK.out.a OK.out.b).mono ?_
      rintro e w3 ⟨rfl, b3⟩
      clear p0 p1 p2 p3 p4 p5 p6 p7 p8 p9 p10 p11 p12
      replace F := Lib.hid (stay b3 F.out)
      replace HB := Lib.hid (HB.out.trans (b3.mono HB.out.size))
      replace HM := Lib.hid (HM.out.below b3)
      clear b3
      obtain ⟨p0, p1, p2, p3, p4, p5, p6, p7, p8, p9, p10, p11, p12⟩ := op_cells F.out
      have KR := Lib.hid (mreach_walk HM.out x.a x.b OK.out.a OK.out.b)
      cases hr : rok x.a x.b with
      | true =>
        unfold ReachIs at KR
        rw [hr, if_pos rfl] at KR
        rw [if_pos rfl]
        have hle := rlen_le HM.out.len hr
        have hp2 := pr_small (w := wn (rlen N x.a x.b)) (by unfold wn; omega)
        have hst := pr_step N x.a x.b
        have e1 : ((pr (wn N) : Nat) : Int) + ((mco N x.a x.b : Nat) : Int) = ((pr (wn (rlen N x.a x.b)) : Nat) : Int) := by omega
        clear hr hle hst
        go_wp2_with (go_at_call 16; refine KR.out.mono ?_; rintro e w4 ⟨rfl, v', h4, h5, _⟩)
        exact ⟨⟨j + 1, _, v', _, by omega, by go_num, rfl, Lib.hid h4, Lib.hid (HB.out.trans h5.below)⟩, by simp only [intOf]; omega⟩
      | false =>
        unfold ReachIs at KR
        rw [hr, if_neg (by decide)] at KR
        rw [if_neg (by decide)]
        clear hr
        go_wp2_with (go_at_call 16; refine KR.out.mono ?_; rintro e w4 ⟨rfl, v', h4, h5, _⟩)
        exact ⟨⟨j + 1, _, v', _, by omega, by go_num, rfl, Lib.hid h4, Lib.hid (HB.out.trans h5.below)⟩, by simp only [intOf]; omega⟩
    · obtain rfl : j = m := by omega
      have hdv : wn N = N / 32 := wn_32 HM.out.div
      have hd2 := HM.out.div
      have KP := Lib.hid fun w => price_ref (N / 32) w (by omega)
      rw [← hdv] at KP
      have e1 : (N : Int) / 32 = ((wn N : Nat) : Int) := by omega
      have e2 : (N : Int) % 32 = 0 := by omega
      have hs : (((pr (wn N) : Nat) : Int) == ((pr (wn N) : Nat) : Int)) = true := by simp
      clear hdv hd2
      go_wp2_with (first | (go_at_call 11; refine (KF.out _).mono ?_; rintro e w5 ⟨rfl, b5⟩; have HM5 := Lib.hid (HM.out.below b5); have HB5 := Lib.hid (HB.out.trans (b5.mono HB.out.size)); clear b5) | (go_at_call 27; refine (mlen_walk HM5.out).mono ?_; rintro e w6 ⟨rfl, rfl⟩) | (go_at_call 15; refine (KP.out _).mono ?_; rintro e w7 ⟨rfl, rfl⟩))
      go_ret
      exact ⟨rfl, HB5.out⟩
end Go.Proofs.Ytnffelnmlloonaa
