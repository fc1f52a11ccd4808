/- What the function turn of package sha does: eight numbers in memory are turned by a piece; nothing else of what lay before changes. -/
import Derived.Test.YtnnodibjocilmaaDoorShB
import Derived.Deep.CutRange
namespace Go.Proofs.YtnnodibjocilmaaDoor
open Go.RowKit SmWord
set_option maxRecDepth 100000

theorem vs_congr {w w' : Nat → Nat} (v : Nat → Nat) : ∀ k, (∀ i, i < k → w i = w' i) → vs v w k = vs v w' k
  | 0, _ => rfl
  | k + 1, h => by rw [vs, vs, vs_congr v k fun i hi => h i (by omega), h k (by omega)]
theorem bk_mm (S f : Nat → Nat) (i : Nat) : (S i + vs S (sw (mm f) 48) 64 i) % D32 = bk S f i := by
  rw [bk, vs_congr S 64 fun i hi => sw_mm f 48 i (by omega)]
theorem chs_lt {e f g : Nat} (he : e < D32) : chs e f g < D32 := or_lt32 (and_lt32 he) (and_lt32 (by simp only [D32]; omega))
theorem maj_lt {a b c : Nat} (ha : a < D32) (hb : b < D32) : maj a b c < D32 := or_lt32 (or_lt32 (and_lt32 ha) (and_lt32 ha)) (and_lt32 hb)
theorem G0_lt {x : Nat} (h : x < D32) : G0 x < D32 := xor_lt32 (xor_lt32 (dn_lt _ h) (dn_lt _ h)) (dn_lt _ h)
theorem G1_lt {x : Nat} (h : x < D32) : G1 x < D32 := xor_lt32 (xor_lt32 (dn_lt _ h) (dn_lt _ h)) (dn_lt _ h)
/-- What a row of eight is while its first j numbers are done. -/
def upto (R S : Nat → Nat) (j i : Nat) : Nat := if i < j then R i else S i
theorem upto_start (R S : Nat → Nat) : va (upto R S 0) = va S := va_congr fun i _ => by simp [upto]
theorem upto_end (R S : Nat → Nat) : va (upto R S 8) = va R := va_congr fun i hi => by simp [upto, hi]
theorem upto_here (R S : Nat → Nat) (j : Nat) : upto R S j j = S j := by simp [upto]
theorem upto_next (R S : Nat → Nat) {j : Nat} (h : j < 8) : (va (upto R S j)).setIfInBounds j (.int .u32 ((R j : Nat) : Int)) = va (upto R S (j + 1)) := by
  rw [va_set h]
  refine va_congr fun i _ => ?_
  unfold upto
  by_cases e : i = j
  · subst e; simp
  · by_cases l : i < j
    · simp [e, l, show i < j + 1 by omega]
    · simp [e, l, show ¬ i < j + 1 by omega]
theorem ka_agg_inj {S T : Nat → Nat} (h : S = T) : ka S = ka T := by rw [h]
set_option maxHeartbeats 4000000 in
theorem turn_walk (b : Nat) (S f : Nat → Nat) (w : World) (hS : ok8 S) (hf : ∀ i, i < 64 → f i < 256) (hT : Tab w) (hb : w.heap[b]? = some (.cells (va S) 26)) :
    Calls Tryd.prog 11 #[.pointer (some ⟨b, 0, none⟩), .agg (pa f)] w fun e w' => e = .returned (.tuple #[]) ∧ Wrote b w w' ∧ w'.heap[b]? = some (.cells (va (bk S f)) 26) := by
  obtain ⟨X, hX⟩ : ∃ X, sw (mm f) 48 = X := ⟨_, rfl⟩
  have hXl : ∀ i, X i < D32 := by rw [← hX]; exact sw_lt (mm_lt hf) 48
  have hsp := fun w => spread_walk f w hf
  rw [hX] at hsp
  have hbk : bk S f = fun i => (S i + vs S X 64 i) % D32 := by rw [← hX]; exact funext fun i => (bk_mm S f i).symm
  rw [hbk]
  have hlb := (Array.getElem?_eq_some_iff.1 hb).1
  have HSP := Lib.hid hsp
  have HX := Lib.hid hXl
  have HS := Lib.hid hS
  have HT := Lib.hid hT
  have HW := Lib.hid hb
  clear hX hXl hsp hbk hS hT hb hf
  have f1 : (w.alloc (.cells (pa f) 41)).heap[w.heap.size]? = some (.cells (pa f) 41) := heap_alloc_new _ _
  go_enter Tryd.func11, Tryd.ntmps11
  go_wp2_with (first | (refine wpList_load_row rfl 41 _ rfl _ rfl 41 (pa f) (0, 0) _ f1 Tryd.underlying41 rfl (infoArrP _) ?_))
  have bW : Below w.heap.size w (w.alloc (.cells (pa f) 41)) := (Below.refl _ _).alloc (Nat.le_refl _) _
  clear f1
  generalize w.alloc (.cells (pa f) 41) = W at *
  refine (HSP.out W).mono ?_
  rintro e w1 ⟨rfl, b1⟩
  have HB := Lib.hid (bW.trans (b1.mono bW.size))
  clear bW b1 HSP
  have f2 : (w1.alloc (.cells zK 25)).heap[w1.heap.size]? = some (.cells zK 25) := heap_alloc_new _ _
  go_upto_region 2 with (first | (refine wpList_alloc_row rfl 25 rfl zK zK_run ?_) | (refine wpList_store_row rfl 25 _ _ rfl _ zK (ka X) rfl rfl f2 (infoArrK _) rfl (arr_one _ _ _) ?_))
  have g1 := blk_row (c' := ka X) f2
  clear f2
  have hsz := HB.out.size
  replace HB := Lib.hid (below_setRow (HB.out.alloc HB.out.size (.cells zK 25)) HB.out.size (ka X))
  obtain ⟨n, hn⟩ : ∃ n, w1.heap.size = n := ⟨_, rfl⟩
  have hnb : n ≠ b := by omega
  rw [hn] at g1 HB ⊢
  generalize (w1.alloc (.cells zK 25)).setRow n (ka X) = W2 at *
  have g0 : W2.heap[b]? = some (.cells (va S) 26) := by rw [HB.out.block b hlb]; exact HW.out
  have G0' := Lib.hid g0
  have G1' := Lib.hid g1
  have hc : ∀ i, i < 8 → W2.cell? ⟨b, i, none⟩ = some (.int .u32 ((S i : Nat) : Int)) := fun i hi => blk_cell g0 (va_get hi)
  have c0 := hc 0 (by decide)
  have c1 := hc 1 (by decide)
  have c2 := hc 2 (by decide)
  have c3 := hc 3 (by decide)
  have c4 := hc 4 (by decide)
  have c5 := hc 5 (by decide)
  have c6 := hc 6 (by decide)
  have c7 := hc 7 (by decide)
  clear hc g0 g1 hn hsz
  go_wp2_with fail
  go_quiet (fail)
  go_wp2_with fail
  clear c0 c1 c2 c3 c4 c5 c6 c7
  replace HB : Hid (Below w.heap.size w (W2.drewN nq)) := Lib.hid (HB.out.trans ((below_drewN W2 nq).mono HB.out.size))
  replace G0' : Hid ((W2.drewN nq).heap[b]? = some (.cells (va S) 26)) := Lib.hid G0'.out
  replace G1' : Hid ((W2.drewN nq).heap[n]? = some (.cells (ka X) 25)) := Lib.hid G1'.out
  generalize W2.drewN nq = W3 at *
  go_loopw [50, 5, 6, 7, 8, 9, 10, 11, 12] (fun i r0 r1 r2 r3 r4 r5 r6 r7 wr => ∃ k : Nat, k ≤ 64 ∧ i = .int .i64 k ∧ r0 = .int .u32 ((vs S X k 0 : Nat) : Int) ∧ r1 = .int .u32 ((vs S X k 1 : Nat) : Int) ∧ r2 = .int .u32 ((vs S X k 2 : Nat) : Int) ∧ r3 = .int .u32 ((vs S X k 3 : Nat) : Int) ∧ r4 = .int .u32 ((vs S X k 4 : Nat) : Int) ∧ r5 = .int .u32 ((vs S X k 5 : Nat) : Int) ∧ r6 = .int .u32 ((vs S X k 6 : Nat) : Int) ∧ r7 = .int .u32 ((vs S X k 7 : Nat) : Int) ∧ Hid (Below w.heap.size w wr) ∧ Hid (wr.heap[b]? = some (.cells (va S) 26)) ∧ Hid (wr.heap[n]? = some (.cells (ka X) 25))) (fun i _ _ _ _ _ _ _ _ _ => 64 - (intOf i).toNat)
  case atStart => exact ⟨0, by omega, rfl, rfl, rfl, rfl, rfl, rfl, rfl, rfl, rfl, HB, G0', G1'⟩
  case round =>
    clear HB G0' G1' HW
    obtain ⟨k, hk, rfl, rfl, rfl, rfl, rfl, rfl, rfl, rfl, rfl, HB, G0', G1'⟩ := hrel
    by_cases hlt : k < 64
    · have hV : ok8 (vs S X k) := vs_lt HS.out X k
      have hN : vs S X (k + 1) = rv (vs S X k) (ck k) (X k) := rfl
      have HN := Lib.hid hN
      clear hN
      generalize vs S X k = V at *
      have l0 : V 0 < D32 := hV 0 (by decide)
      have l1 : V 1 < D32 := hV 1 (by decide)
      have l2 : V 2 < D32 := hV 2 (by decide)
      have l3 : V 3 < D32 := hV 3 (by decide)
      have l4 : V 4 < D32 := hV 4 (by decide)
      have l5 : V 5 < D32 := hV 5 (by decide)
      have l6 : V 6 < D32 := hV 6 (by decide)
      have l7 : V 7 < D32 := hV 7 (by decide)
      clear hV
      obtain ⟨c, hc⟩ : ∃ c, ck k = c := ⟨_, rfl⟩
      obtain ⟨x, hx⟩ : ∃ x, X k = x := ⟨_, rfl⟩
      rw [hc, hx] at HN
      have x1 := xor32 (dn_lt 6 l4) (dn_lt 11 l4)
      have x2 : bits .xor .u32 ((dn (V 4) 6 ^^^ dn (V 4) 11 : Nat) : Int) ((dn (V 4) 25 : Nat) : Int) = ((G1 (V 4) : Nat) : Int) := xor32 (xor_lt32 (dn_lt 6 l4) (dn_lt 11 l4)) (dn_lt 25 l4)
      have a1 := and32 l4 l5
      have a2 := andNot32 l6 l4
      have a3 : bits .or .u32 ((V 4 &&& V 5 : Nat) : Int) ((V 6 &&& (4294967295 - V 4) : Nat) : Int) = ((chs (V 4) (V 5) (V 6) : Nat) : Int) := by
        rw [or32 (and_lt32 l4) (and_lt32 l6), chs, Nat.and_comm (V 6)]
      obtain ⟨t1, ht1⟩ : ∃ s, (V 7 + G1 (V 4)) % D32 = s := ⟨_, rfl⟩
      obtain ⟨t2, ht2⟩ : ∃ s, (t1 + chs (V 4) (V 5) (V 6)) % D32 = s := ⟨_, rfl⟩
      obtain ⟨t3, ht3⟩ : ∃ s, (t2 + c) % D32 = s := ⟨_, rfl⟩
      obtain ⟨t, ht⟩ : ∃ s, tt V c x = s := ⟨_, rfl⟩
      have q1 : ((V 7 : Int) + ((G1 (V 4) : Nat) : Int)) % 4294967296 = (t1 : Int) := by rw [← ht1]; exact sum32 _ _
      have q2 : ((t1 : Int) + ((chs (V 4) (V 5) (V 6) : Nat) : Int)) % 4294967296 = (t2 : Int) := by rw [← ht2]; exact sum32 _ _
      have q3 : ((t2 : Int) + (c : Int)) % 4294967296 = (t3 : Int) := by rw [← ht3]; exact sum32 _ _
      have q4 : ((t3 : Int) + (x : Int)) % 4294967296 = (t : Int) := by
        rw [sum32, ← ht, ← ht3, ← ht2, ← ht1, tt]
        simp only [D32]
        omega
      have y1 := xor32 (dn_lt 2 l0) (dn_lt 13 l0)
      have y2 : bits .xor .u32 ((dn (V 0) 2 ^^^ dn (V 0) 13 : Nat) : Int) ((dn (V 0) 22 : Nat) : Int) = ((G0 (V 0) : Nat) : Int) := xor32 (xor_lt32 (dn_lt 2 l0) (dn_lt 13 l0)) (dn_lt 22 l0)
      have b1 := and32 l0 l1
      have b2 := and32 l0 l2
      have b3 := or32 (and_lt32 (y := V 1) l0) (and_lt32 (y := V 2) l0)
      have b4 := and32 l1 l2
      have b5 : bits .or .u32 ((V 0 &&& V 1 ||| V 0 &&& V 2 : Nat) : Int) ((V 1 &&& V 2 : Nat) : Int) = ((maj (V 0) (V 1) (V 2) : Nat) : Int) := or32 (or_lt32 (and_lt32 l0) (and_lt32 l0)) (and_lt32 l1)
      obtain ⟨u, hu⟩ : ∃ s, uu V = s := ⟨_, rfl⟩
      have q5 : (((G0 (V 0) : Nat) : Int) + ((maj (V 0) (V 1) (V 2) : Nat) : Int)) % 4294967296 = (u : Int) := by rw [← hu]; exact sum32 _ _
      obtain ⟨n0, hn0⟩ : ∃ s, (t + u) % D32 = s := ⟨_, rfl⟩
      obtain ⟨n4, hn4⟩ : ∃ s, (V 3 + t) % D32 = s := ⟨_, rfl⟩
      have q6 : ((t : Int) + (u : Int)) % 4294967296 = (n0 : Int) := by rw [← hn0]; exact sum32 _ _
      have q7 : ((V 3 : Int) + (t : Int)) % 4294967296 = (n4 : Int) := by rw [← hn4]; exact sum32 _ _
      have e0 : rv V c x 0 = n0 := by rw [rv, if_pos rfl, ht, hu, hn0]
      have e4 : rv V c x 4 = n4 := by rw [rv, if_neg (by decide), if_pos rfl, ht, hn4]
      have E0 := Lib.hid e0
      have E4 := Lib.hid e4
      have HC := Lib.hid hc
      have HXX := Lib.hid hx
      clear ht1 ht2 ht3 ht hu hn0 hn4 e0 e4 hc hx
      go_wp2_with fail
      refine region_ext (by kernel_rfl) (by kernel_rfl) ?_
      have cK : ∀ g : Ext wr, g.on.cell? ⟨0, k, none⟩ = some (.int .u32 ((c : Nat) : Int)) := fun g => by
        rw [← HC.out]
        exact ((HT.out.below HB.out).below g.below).const k hlt
      have cX : ∀ g : Ext wr, g.on.cell? ⟨n, k, none⟩ = some (.int .u32 ((x : Nat) : Int)) := fun g => by
        rw [← HXX.out]
        exact blk_cell (g.block G1'.out) (ka_get hlt)
      have d1 := fun w => sd (V 4) 6 6 w rfl l4 (by decide) (by decide)
      have d2 := fun w => sd (V 4) 11 11 w rfl l4 (by decide) (by decide)
      have d3 := fun w => sd (V 4) 25 25 w rfl l4 (by decide) (by decide)
      repeat (go_big_quiet_step (first | (go_at_call 17; with_reducible exact calls_ext (d1 _)) | (go_at_call 17; with_reducible exact calls_ext (d2 _)) | (go_at_call 17; with_reducible exact calls_ext (d3 _))))
      refine wpQuiet_nil ?_
      rintro _ ⟨g1, rfl⟩
      rw [q4]
      replace HB := Lib.hid (HB.out.trans (g1.below.mono HB.out.size))
      replace G0' := Lib.hid (g1.block G0'.out)
      replace G1' := Lib.hid (g1.block G1'.out)
      generalize g1.on = w3 at *
      clear x1 x2 a1 a2 a3 q1 q2 q3 q4 cK cX d1 d2 d3 HC HXX
      go_wp2_with fail
      refine (sd (V 0) 2 2 w3 rfl l0 (by decide) (by decide)).mono ?_
      rintro e w4 ⟨rfl, b4⟩
      replace HB := Lib.hid (HB.out.trans (b4.mono HB.out.size))
      replace G0' := Lib.hid (stay b4 G0'.out)
      replace G1' := Lib.hid (stay b4 G1'.out)
      clear b4
      go_wp2_with fail
      refine (sd (V 0) 13 13 w4 rfl l0 (by decide) (by decide)).mono ?_
      rintro e w5 ⟨rfl, b5⟩
      replace HB := Lib.hid (HB.out.trans (b5.mono HB.out.size))
      replace G0' := Lib.hid (stay b5 G0'.out)
      replace G1' := Lib.hid (stay b5 G1'.out)
      clear b5
      go_wp2_with fail
      refine (sd (V 0) 22 22 w5 rfl l0 (by decide) (by decide)).mono ?_
      rintro e w6 ⟨rfl, b6⟩
      replace HB := Lib.hid (HB.out.trans (b6.mono HB.out.size))
      replace G0' := Lib.hid (stay b6 G0'.out)
      replace G1' := Lib.hid (stay b6 G1'.out)
      clear b6
      go_wp2_with fail
      refine ⟨⟨k + 1, by omega, by go_num, by rw [HN.out, E0.out, q6], by rw [HN.out]; rfl, by rw [HN.out]; rfl, by rw [HN.out]; rfl, by rw [HN.out, E4.out, q7], by rw [HN.out]; rfl, by rw [HN.out]; rfl, by rw [HN.out]; rfl, HB, G0', G1'⟩, by simp [intOf]; omega⟩
    · obtain rfl : k = 64 := by omega
      obtain ⟨V, hV⟩ : ∃ V, vs S X 64 = V := ⟨_, rfl⟩
      rw [hV]
      have HV := Lib.hid hV
      clear hV
      have R0 : Hid (wr.heap[b]? = some (.cells (va (upto (fun i => (S i + V i) % D32) S 0)) 26)) := Lib.hid (by rw [upto_start]; exact G0'.out)
      have HWr : Hid (Wrote b w wr) := Lib.hid (⟨HB.out.os, HB.out.tape, HB.out.output, HB.out.size, fun k hk _ => HB.out.block k hk⟩)
      obtain ⟨R, hR⟩ : ∃ R : Nat → Nat, R = fun i => (S i + V i) % D32 := ⟨_, rfl⟩
      have r : ∀ i, ((S i : Nat) : Int) + ((V i : Nat) : Int) = ((S i : Nat) : Int) + ((V i : Nat) : Int) := fun _ => rfl
      have hq : ∀ i, (((S i : Nat) : Int) + ((V i : Nat) : Int)) % 4294967296 = ((R i : Nat) : Int) := fun i => by rw [hR]; exact sum32 _ _
      rw [← hR] at R0
      have HRe := Lib.hid hR
      have HQ := Lib.hid hq
      have W0 := HWr
      clear HB G0' G1' r hq hR HWr
      go_wp2_with fail
      have q0 := HQ.out 0
      try simp only [Act.put, List.setIfInBounds_toArray, List.set_cons_succ, List.set_cons_zero]
      refine region_last2 (aQ := ?aQ0) 8 (by kernel_rfl) (by kernel_rfl) (fun w1 => ?hq0) (fun w' hb' => ?hh0)
      case hq0 =>
        have cx : ∀ g : Ext w1.on, g.on.cell? ⟨b, 0, none⟩ = some (.int .u32 ((S 0 : Nat) : Int)) := fun g => by
          have := blk_cell (g.block (w1.block R0.out)) (va_get (i := 0) (by decide))
          rwa [upto_here] at this
        simp only [List.take_succ_cons, List.take_zero]
        repeat (go_big_quiet_step (fail))
        refine wpQuiet_nil ?_
        rfl
      have g0 : w'.heap[b]? = some (.cells (va (upto R S 0)) 26) := Ext.block ⟨w', hb'⟩ R0.out
      have W1 := Lib.hid (W0.out.trans (Wrote.of_below hb'))
      clear R0 W0 hb'
      have cx := blk_cell g0 (va_get (i := 0) (by decide))
      have fz := blk_frozen (j := 0) g0
      have h0 : (w'.setCell ⟨b, 0, none⟩ (.int .u32 ((R 0 : Nat) : Int))).heap[b]? = _ := blk_set g0 _
      rw [upto_next _ _ (by decide)] at h0
      have R1 := Lib.hid h0
      clear h0 g0
      simp only [List.drop_succ_cons, List.drop_zero]
      go_wp2_with fail
      replace W1 := Lib.hid (W1.out.trans (Wrote.put (j := 0) w' (.int .u32 ((R 0 : Nat) : Int))))
      clear cx fz q0
      generalize w'.setCell ⟨b, 0, none⟩ (.int .u32 ((R 0 : Nat) : Int)) = V0 at *
      have q1 := HQ.out 1
      try simp only [Act.put, List.setIfInBounds_toArray, List.set_cons_succ, List.set_cons_zero]
      refine region_last2 (aQ := ?aQ1) 8 (by kernel_rfl) (by kernel_rfl) (fun w1 => ?hq1) (fun w' hb' => ?hh1)
      case hq1 =>
        have cx : ∀ g : Ext w1.on, g.on.cell? ⟨b, 1, none⟩ = some (.int .u32 ((S 1 : Nat) : Int)) := fun g => by
          have := blk_cell (g.block (w1.block R1.out)) (va_get (i := 1) (by decide))
          rwa [upto_here] at this
        simp only [List.take_succ_cons, List.take_zero]
        repeat (go_big_quiet_step (fail))
        refine wpQuiet_nil ?_
        rfl
      have g1 : w'.heap[b]? = some (.cells (va (upto R S 1)) 26) := Ext.block ⟨w', hb'⟩ R1.out
      have W2 := Lib.hid (W1.out.trans (Wrote.of_below hb'))
      clear R1 W1 hb'
      have cx := blk_cell g1 (va_get (i := 1) (by decide))
      have fz := blk_frozen (j := 1) g1
      have h1 : (w'.setCell ⟨b, 1, none⟩ (.int .u32 ((R 1 : Nat) : Int))).heap[b]? = _ := blk_set g1 _
      rw [upto_next _ _ (by decide)] at h1
      have R2 := Lib.hid h1
      clear h1 g1
      simp only [List.drop_succ_cons, List.drop_zero]
      go_wp2_with fail
      replace W2 := Lib.hid (W2.out.trans (Wrote.put (j := 1) w' (.int .u32 ((R 1 : Nat) : Int))))
      clear cx fz q1
      generalize w'.setCell ⟨b, 1, none⟩ (.int .u32 ((R 1 : Nat) : Int)) = V1 at *
      have q2 := HQ.out 2
      try simp only [Act.put, List.setIfInBounds_toArray, List.set_cons_succ, List.set_cons_zero]
      refine region_last2 (aQ := ?aQ2) 8 (by kernel_rfl) (by kernel_rfl) (fun w1 => ?hq2) (fun w' hb' => ?hh2)
      case hq2 =>
        have cx : ∀ g : Ext w1.on, g.on.cell? ⟨b, 2, none⟩ = some (.int .u32 ((S 2 : Nat) : Int)) := fun g => by
          have := blk_cell (g.block (w1.block R2.out)) (va_get (i := 2) (by decide))
          rwa [upto_here] at this
        simp only [List.take_succ_cons, List.take_zero]
        repeat (go_big_quiet_step (fail))
        refine wpQuiet_nil ?_
        rfl
      have g2 : w'.heap[b]? = some (.cells (va (upto R S 2)) 26) := Ext.block ⟨w', hb'⟩ R2.out
      have W3 := Lib.hid (W2.out.trans (Wrote.of_below hb'))
      clear R2 W2 hb'
      have cx := blk_cell g2 (va_get (i := 2) (by decide))
      have fz := blk_frozen (j := 2) g2
      have h2 : (w'.setCell ⟨b, 2, none⟩ (.int .u32 ((R 2 : Nat) : Int))).heap[b]? = _ := blk_set g2 _
      rw [upto_next _ _ (by decide)] at h2
      have R3 := Lib.hid h2
      clear h2 g2
      simp only [List.drop_succ_cons, List.drop_zero]
      go_wp2_with fail
      replace W3 := Lib.hid (W3.out.trans (Wrote.put (j := 2) w' (.int .u32 ((R 2 : Nat) : Int))))
      clear cx fz q2
      generalize w'.setCell ⟨b, 2, none⟩ (.int .u32 ((R 2 : Nat) : Int)) = V2 at *
      have q3 := HQ.out 3
      try simp only [Act.put, List.setIfInBounds_toArray, List.set_cons_succ, List.set_cons_zero]
      refine region_last2 (aQ := ?aQ3) 8 (by kernel_rfl) (by kernel_rfl) (fun w1 => ?hq3) (fun w' hb' => ?hh3)
      case hq3 =>
        have cx : ∀ g : Ext w1.on, g.on.cell? ⟨b, 3, none⟩ = some (.int .u32 ((S 3 : Nat) : Int)) := fun g => by
          have := blk_cell (g.block (w1.block R3.out)) (va_get (i := 3) (by decide))
          rwa [upto_here] at this
        simp only [List.take_succ_cons, List.take_zero]
        repeat (go_big_quiet_step (fail))
        refine wpQuiet_nil ?_
        rfl
      have g3 : w'.heap[b]? = some (.cells (va (upto R S 3)) 26) := Ext.block ⟨w', hb'⟩ R3.out
      have W4 := Lib.hid (W3.out.trans (Wrote.of_below hb'))
      clear R3 W3 hb'
      have cx := blk_cell g3 (va_get (i := 3) (by decide))
      have fz := blk_frozen (j := 3) g3
      have h3 : (w'.setCell ⟨b, 3, none⟩ (.int .u32 ((R 3 : Nat) : Int))).heap[b]? = _ := blk_set g3 _
      rw [upto_next _ _ (by decide)] at h3
      have R4 := Lib.hid h3
      clear h3 g3
      simp only [List.drop_succ_cons, List.drop_zero]
      go_wp2_with fail
      replace W4 := Lib.hid (W4.out.trans (Wrote.put (j := 3) w' (.int .u32 ((R 3 : Nat) : Int))))
      clear cx fz q3
      generalize w'.setCell ⟨b, 3, none⟩ (.int .u32 ((R 3 : Nat) : Int)) = V3 at *
      have q4 := HQ.out 4
      try simp only [Act.put, List.setIfInBounds_toArray, List.set_cons_succ, List.set_cons_zero]
      refine region_last2 (aQ := ?aQ4) 8 (by kernel_rfl) (by kernel_rfl) (fun w1 => ?hq4) (fun w' hb' => ?hh4)
      case hq4 =>
        have cx : ∀ g : Ext w1.on, g.on.cell? ⟨b, 4, none⟩ = some (.int .u32 ((S 4 : Nat) : Int)) := fun g => by
          have := blk_cell (g.block (w1.block R4.out)) (va_get (i := 4) (by decide))
          rwa [upto_here] at this
        simp only [List.take_succ_cons, List.take_zero]
        repeat (go_big_quiet_step (fail))
        refine wpQuiet_nil ?_
        rfl
      have g4 : w'.heap[b]? = some (.cells (va (upto R S 4)) 26) := Ext.block ⟨w', hb'⟩ R4.out
      have W5 := Lib.hid (W4.out.trans (Wrote.of_below hb'))
      clear R4 W4 hb'
      have cx := blk_cell g4 (va_get (i := 4) (by decide))
      have fz := blk_frozen (j := 4) g4
      have h4 : (w'.setCell ⟨b, 4, none⟩ (.int .u32 ((R 4 : Nat) : Int))).heap[b]? = _ := blk_set g4 _
      rw [upto_next _ _ (by decide)] at h4
      have R5 := Lib.hid h4
      clear h4 g4
      simp only [List.drop_succ_cons, List.drop_zero]
      go_wp2_with fail
      replace W5 := Lib.hid (W5.out.trans (Wrote.put (j := 4) w' (.int .u32 ((R 4 : Nat) : Int))))
      clear cx fz q4
      generalize w'.setCell ⟨b, 4, none⟩ (.int .u32 ((R 4 : Nat) : Int)) = V4 at *
      have q5 := HQ.out 5
      try simp only [Act.put, List.setIfInBounds_toArray, List.set_cons_succ, List.set_cons_zero]
      refine region_last2 (aQ := ?aQ5) 8 (by kernel_rfl) (by kernel_rfl) (fun w1 => ?hq5) (fun w' hb' => ?hh5)
      case hq5 =>
        have cx : ∀ g : Ext w1.on, g.on.cell? ⟨b, 5, none⟩ = some (.int .u32 ((S 5 : Nat) : Int)) := fun g => by
          have := blk_cell (g.block (w1.block R5.out)) (va_get (i := 5) (by decide))
          rwa [upto_here] at this
        simp only [List.take_succ_cons, List.take_zero]
        repeat (go_big_quiet_step (fail))
        refine wpQuiet_nil ?_
        rfl
      have g5 : w'.heap[b]? = some (.cells (va (upto R S 5)) 26) := Ext.block ⟨w', hb'⟩ R5.out
      have W6 := Lib.hid (W5.out.trans (Wrote.of_below hb'))
      clear R5 W5 hb'
      have cx := blk_cell g5 (va_get (i := 5) (by decide))
      have fz := blk_frozen (j := 5) g5
      have h5 : (w'.setCell ⟨b, 5, none⟩ (.int .u32 ((R 5 : Nat) : Int))).heap[b]? = _ := blk_set g5 _
      rw [upto_next _ _ (by decide)] at h5
      have R6 := Lib.hid h5
      clear h5 g5
      simp only [List.drop_succ_cons, List.drop_zero]
      go_wp2_with fail
      replace W6 := Lib.hid (W6.out.trans (Wrote.put (j := 5) w' (.int .u32 ((R 5 : Nat) : Int))))
      clear cx fz q5
      generalize w'.setCell ⟨b, 5, none⟩ (.int .u32 ((R 5 : Nat) : Int)) = V5 at *
      have q6 := HQ.out 6
      try simp only [Act.put, List.setIfInBounds_toArray, List.set_cons_succ, List.set_cons_zero]
      refine region_last2 (aQ := ?aQ6) 8 (by kernel_rfl) (by kernel_rfl) (fun w1 => ?hq6) (fun w' hb' => ?hh6)
      case hq6 =>
        have cx : ∀ g : Ext w1.on, g.on.cell? ⟨b, 6, none⟩ = some (.int .u32 ((S 6 : Nat) : Int)) := fun g => by
          have := blk_cell (g.block (w1.block R6.out)) (va_get (i := 6) (by decide))
          rwa [upto_here] at this
        simp only [List.take_succ_cons, List.take_zero]
        repeat (go_big_quiet_step (fail))
        refine wpQuiet_nil ?_
        rfl
      have g6 : w'.heap[b]? = some (.cells (va (upto R S 6)) 26) := Ext.block ⟨w', hb'⟩ R6.out
      have W7 := Lib.hid (W6.out.trans (Wrote.of_below hb'))
      clear R6 W6 hb'
      have cx := blk_cell g6 (va_get (i := 6) (by decide))
      have fz := blk_frozen (j := 6) g6
      have h6 : (w'.setCell ⟨b, 6, none⟩ (.int .u32 ((R 6 : Nat) : Int))).heap[b]? = _ := blk_set g6 _
      rw [upto_next _ _ (by decide)] at h6
      have R7 := Lib.hid h6
      clear h6 g6
      simp only [List.drop_succ_cons, List.drop_zero]
      go_wp2_with fail
      replace W7 := Lib.hid (W7.out.trans (Wrote.put (j := 6) w' (.int .u32 ((R 6 : Nat) : Int))))
      clear cx fz q6
      generalize w'.setCell ⟨b, 6, none⟩ (.int .u32 ((R 6 : Nat) : Int)) = V6 at *
      have q7 := HQ.out 7
      try simp only [Act.put, List.setIfInBounds_toArray, List.set_cons_succ, List.set_cons_zero]
      refine region_last2 (aQ := ?aQ7) 8 (by kernel_rfl) (by kernel_rfl) (fun w1 => ?hq7) (fun w' hb' => ?hh7)
      case hq7 =>
        have cx : ∀ g : Ext w1.on, g.on.cell? ⟨b, 7, none⟩ = some (.int .u32 ((S 7 : Nat) : Int)) := fun g => by
          have := blk_cell (g.block (w1.block R7.out)) (va_get (i := 7) (by decide))
          rwa [upto_here] at this
        simp only [List.take_succ_cons, List.take_zero]
        repeat (go_big_quiet_step (fail))
        refine wpQuiet_nil ?_
        rfl
      have g7 : w'.heap[b]? = some (.cells (va (upto R S 7)) 26) := Ext.block ⟨w', hb'⟩ R7.out
      have W8 := Lib.hid (W7.out.trans (Wrote.of_below hb'))
      clear R7 W7 hb'
      have cx := blk_cell g7 (va_get (i := 7) (by decide))
      have fz := blk_frozen (j := 7) g7
      have h7 : (w'.setCell ⟨b, 7, none⟩ (.int .u32 ((R 7 : Nat) : Int))).heap[b]? = _ := blk_set g7 _
      rw [upto_next _ _ (by decide)] at h7
      have R8 := Lib.hid h7
      clear h7 g7
      simp only [List.drop_succ_cons, List.drop_zero]
      go_wp2_with fail
      replace W8 := Lib.hid (W8.out.trans (Wrote.put (j := 7) w' (.int .u32 ((R 7 : Nat) : Int))))
      clear cx fz q7
      generalize w'.setCell ⟨b, 7, none⟩ (.int .u32 ((R 7 : Nat) : Int)) = V7 at *
      have r8 := R8.out
      rw [upto_end, HRe.out, ← HV.out] at r8
      first | go_ret | go_end0
      exact ⟨rfl, W8.out, r8⟩
end Go.Proofs.YtnnodibjocilmaaDoor
