/- Stage 14: an arm of the statements' do. -/
import Derived.Test.YtnjeoeekidnffaaGreatNr
namespace Go.Proofs.YtnjeoeekidnffaaGreat
open Go.RowKit SmWord Go.Maps
set_option maxRecDepth 100000

set_option maxHeartbeats 8000000 in
theorem do_1 {base : Nat} (sv mk : Value) (d : Dst) (o : OpD) (w : World) (P : World → Prop) (Q : Dst → World → Prop) (hk : o.kd = 1) (hb : base ≤ w.heap.size) (hmk : ∃ A n c, mk = .slice A n c)
    (H1 : Hid (∀ w1, Below w.heap.size w w1 → Calls Tryz.prog 42 #[sv, .agg (aN o.A), .agg (wa o.V)] w1 (CodeIs base w.heap.size (fun v w2 => v = .tuple #[] ∧ P w2) w1)))
    (H2 : Hid (∀ w1 w2, Below w.heap.size w w1 → Hold w.heap.size w1 w2 → P w2 → Calls Tryz.prog 43 #[.agg (dC d), .agg (aN o.A), .agg (wa o.V)] w2 (DocIs Q w2))) :
    Calls Tryz.prog 13 #[sv, .agg (dC d), mk, .agg (oC o).toArray] w (DoIs base true mk Q w) := by
  obtain ⟨mA, mn, mc, rfl⟩ := hmk
  obtain ⟨V, hV, f0, f1, f2, bW, sW⟩ := oboxes w d o
  have hsA := aN_size o.A
  have hsw := wa_size
  have F10 := f1
  have HB := Lib.hid bW
  have F0 := Lib.hid f0
  have F2 := Lib.hid f2
  have SV := Lib.hid sW
  have c00 : V.cell? ⟨w.heap.size + 1, 0, none⟩ = some (.int .i64 1) := blk_cell F10 (by simpa [hk] using oC_kd o)
  have cN0 : V.cell? ⟨w.heap.size + 1, 29, none⟩ = some (.int .u64 (o.N : Int)) := blk_cell F10 (by simpa using oC_N o)
  have cD0 : V.cell? ⟨w.heap.size + 1, 30, none⟩ = some o.dv := blk_cell F10 (by simpa using oC_dv o)
  have rg0 := rng_block (w := V) (cs := oC o) F10
  have rA0 := (oC_A rg0).at
  have rK0 := (oC_K rg0).at
  have rV0 := (oC_V rg0).at
  have KC := Lib.hid (H1.out V bW)
  clear f0 f1 f2 bW sW hk
  unfold CodeIs at KC
  go_enter Tryz.func13, Tryz.ntmps13
  go_upto_region 1 with (refine wpList_alloc_row rfl 37 rfl _ zeroD ?_)
  try rw [hV]
  clear hV
  go_upto_region 14 with (first
    | (refine wpList_load_mid rfl 41 _ rfl (w.heap.size + 1) 1 rfl (aN o.A).toList _ rA0 Tryz.underlying41 rfl (infoAd _) ?_; simp only [Array.toArray_toList])
    | (refine wpList_load_mid rfl 44 _ rfl (w.heap.size + 1) 21 rfl (wa o.K).toList _ rK0 Tryz.underlying44 rfl (infoW4 _) ?_; simp only [Array.toArray_toList])
    | (refine wpList_load_mid rfl 44 _ rfl (w.heap.size + 1) 25 rfl (wa o.V).toList _ rV0 Tryz.underlying44 rfl (infoW4 _) ?_; simp only [Array.toArray_toList])
    | (go_at_call 42; refine KC.out.mono ?_; rintro e w1 ⟨v, rfl, hH, hbB, hv, hP⟩; subst hv))
  have F11 := hH.blk (Nat.le_add_right _ _) F10
  have F01 := hH.blk (Nat.le_refl _) F0.out
  have F21 := Lib.hid (hH.blk (Nat.le_add_right _ _) F2.out)
  have cN1 : w1.cell? ⟨w.heap.size + 1, 29, none⟩ = some (.int .u64 (o.N : Int)) := blk_cell F11 (by simpa using oC_N o)
  have cD1 : w1.cell? ⟨w.heap.size + 1, 30, none⟩ = some o.dv := blk_cell F11 (by simpa using oC_dv o)
  have rg1 := rng_block (w := w1) (cs := oC o) F11
  have rA1 := (oC_A rg1).at
  have rK1 := (oC_K rg1).at
  have rV1 := (oC_V rg1).at
  have r01 := (rng_block (w := w1) (cs := (dC d).toList) (by simpa [dC] using F01)).at
  have KD := Lib.hid (H2.out V w1 HB.out hH hP)
  unfold DocIs at KD
  have HB1 := Lib.hid ((HB.out.mono hb).trans hbB)
  have S1 := Lib.hid (show w.heap.size + 3 ≤ w1.heap.size by have := hH.1; have := SV.out; omega)
  clear F10 c00 cN0 cD0 rg0 rA0 rK0 rV0 hH hbB hP KC F11 H1 H2
  go_upto_region 44 with (first
    | (refine wpList_load_mid rfl 37 _ rfl w.heap.size 0 rfl (dC d).toList _ r01 Tryz.underlying37 rfl infoD ?_)
    | (refine wpList_load_mid rfl 41 _ rfl (w.heap.size + 1) 1 rfl (aN o.A).toList _ rA1 Tryz.underlying41 rfl (infoAd _) ?_; simp only [Array.toArray_toList])
    | (refine wpList_load_mid rfl 44 _ rfl (w.heap.size + 1) 21 rfl (wa o.K).toList _ rK1 Tryz.underlying44 rfl (infoW4 _) ?_; simp only [Array.toArray_toList])
    | (refine wpList_load_mid rfl 44 _ rfl (w.heap.size + 1) 25 rfl (wa o.V).toList _ rV1 Tryz.underlying44 rfl (infoW4 _) ?_; simp only [Array.toArray_toList])
    | (go_at_call 43; refine KD.out.mono ?_; rintro e w3 ⟨d', rfl, hd1, b3, hQ⟩; have hone := hd1.arr)
    | (refine wpList_store_row rfl 37 _ _ rfl w.heap.size _ (dC d') rfl rfl (stay b3 F01) (by simpa using infoD (d := d')) rfl hone ?_))
  have s1 := S1.out
  have G27 := (setRow_other w3 w.heap.size (w.heap.size + 2) (dC d') (by omega)).trans (stay b3 F21.out)
  have g07 := blk_row (c' := dC d') (stay b3 F01)
  have r7 := (rng_block (w := w3.setRow w.heap.size (dC d')) (cs := (dC d').toList) (by simpa [dC] using g07)).at
  have B7 := (below_setRow (HB1.out.trans (b3.mono (by have := S1.out; omega))) hb (dC d')).drew
  obtain ⟨wz, hwz⟩ : ∃ wz, w3.setRow w.heap.size (dC d') = wz := ⟨_, rfl⟩
  rw [hwz] at G27 g07 B7 ⊢
  have q1d : wz.drew.heap[w.heap.size]? = some (.cells (dC d') 37) := g07
  have q0d : wz.drew.heap[w.heap.size + 2]? = some (.cells (dC dst0) 37) := G27
  have k1 := store_dst d' hd1 rfl q0d
  have q2 : (wz.drew.setRow (w.heap.size + 2) (dC d')).heap[w.heap.size]? = some (.cells (dC d') 37) := blk_row_other q1d (by omega)
  have Q3 := Lib.hid (blk_row (c' := dC d') q0d)
  obtain ⟨e0, e1, e2, e3, e4, e5, e6, e7⟩ := dst_cells q1d
  obtain ⟨g0, g1, g2, g3, g4, g5, g6, g7⟩ := dst_cells q2
  have hsz8 : ∀ d : Dst, (dC d).size = 8 := fun _ => rfl
  have ft : #[d'.w, d'.l, d'.wm, d'.sl, Value.int .i64 d'.rf, d'.lg, Value.bool d'.tr, d'.ps] = dC d' := rfl
  have fl : [d'.w, d'.l, d'.wm, d'.sl, Value.int .i64 d'.rf, d'.lg, Value.bool d'.tr, d'.ps] = (dC d').toList := rfl
  have HWZ := Lib.hid hwz
  have HQ := Lib.hid hQ
  have HD1 := Lib.hid hd1
  have BF := Lib.hid (below_setRow B7 (show base ≤ w.heap.size + 2 by omega) (dC d'))
  clear q1d q0d q2 G27 g07 B7 hwz hQ hd1 b3 hone r7 KD
  try simp only [Act.put]
  go_region
  go_wp2_with fail
  exact bodyPost_ret (v := .tuple #[.bool true, .agg (dC d'), .slice mA mn mc]) (results_tct rfl _ _ (w.heap.size + 2) 37 _ (0, 0) _ _ _ rfl Q3.out Tryz.underlying37 rfl (by simpa using infoD (d := d')) rfl rfl) rfl ⟨d', w3, rfl, HD1.out, HQ.out, ⟨by rw [setRow_size, ← HWZ.out]; exact setRow_size _ _ _, fun b h1 h2 => by rw [setRow_other _ _ _ _ h2, ← HWZ.out]; exact setRow_other _ _ _ _ h1⟩, BF.out⟩
end Go.Proofs.YtnjeoeekidnffaaGreat
