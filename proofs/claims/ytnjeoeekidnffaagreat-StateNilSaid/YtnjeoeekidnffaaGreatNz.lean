/- Stage 14: an arm of the statements' do. -/
import Derived.Test.YtnjeoeekidnffaaGreatNr
namespace Go.Proofs.YtnjeoeekidnffaaGreat
open Go.RowKit SmWord Go.Maps
set_option maxRecDepth 100000

set_option maxHeartbeats 8000000 in
theorem do_6 {base : Nat} (sv mk : Value) (d : Dst) (o : OpD) (w : World) (c1 c2 : Bool) (Q Q2 : Dst → World → Prop) (hk : o.kd = 6) (hb : base ≤ w.heap.size) (hmk : ∃ A n c, mk = .slice A n c)
    (H2 : Hid (∀ w1, Below w.heap.size w w1 → Calls Tryz.prog 49 #[.agg (dC d), .agg (aN o.A), .agg (wa o.K)] w1 fun e w2 => ∃ d', e = .returned (.tuple #[.bool c1, .agg (dC d')]) ∧ d'.One ∧ Below w1.heap.size w1 w2 ∧ Q d' w2))
    (H1 : Hid (∀ w1 w2 d', Below w.heap.size w w1 → Below w1.heap.size w1 w2 → Q d' w2 → Calls Tryz.prog 19 #[sv, .agg (aN o.A), .agg (wa o.K)] (w2.setRow w.heap.size (dC d')) (CodeIs base w.heap.size (fun v w3 => v = .bool c2 ∧ Q2 d' w3) (w2.setRow w.heap.size (dC d'))))) :
    Calls Tryz.prog 13 #[sv, .agg (dC d), mk, .agg (oC o).toArray] w (DoIs base (c2 == c1) mk Q2 w) := by
  obtain ⟨mA, mn, mc, rfl⟩ := hmk
  obtain ⟨V, hV, f0, f1, f2, bW, sW⟩ := oboxes w d o
  have hsA := aN_size o.A
  have hsw := wa_size
  have F10 := f1
  have HB := Lib.hid bW
  have F0 := Lib.hid f0
  have F2 := Lib.hid f2
  have SV := Lib.hid sW
  have c00 : V.cell? ⟨w.heap.size + 1, 0, none⟩ = some (.int .i64 6) := blk_cell F10 (by simpa [hk] using oC_kd o)
  have cN0 : V.cell? ⟨w.heap.size + 1, 29, none⟩ = some (.int .u64 (o.N : Int)) := blk_cell F10 (by simpa using oC_N o)
  have cD0 : V.cell? ⟨w.heap.size + 1, 30, none⟩ = some o.dv := blk_cell F10 (by simpa using oC_dv o)
  have rg0 := rng_block (w := V) (cs := oC o) F10
  have rA0 := (oC_A rg0).at
  have rK0 := (oC_K rg0).at
  have rV0 := (oC_V rg0).at
  have r00 := (rng_block (w := V) (cs := (dC d).toList) (by simpa [dC] using f0)).at
  have KD := Lib.hid (H2.out V bW)
  clear f0 f1 f2 bW sW hk
  go_enter Tryz.func13, Tryz.ntmps13
  go_upto_region 1 with (refine wpList_alloc_row rfl 37 rfl _ zeroD ?_)
  try rw [hV]
  clear hV
  go_upto_region 31 with (first
    | (refine wpList_load_mid rfl 37 _ rfl w.heap.size 0 rfl (dC d).toList _ r00 Tryz.underlying37 rfl infoD ?_)
    | (refine wpList_load_mid rfl 41 _ rfl (w.heap.size + 1) 1 rfl (aN o.A).toList _ rA0 Tryz.underlying41 rfl (infoAd _) ?_; simp only [Array.toArray_toList])
    | (refine wpList_load_mid rfl 44 _ rfl (w.heap.size + 1) 21 rfl (wa o.K).toList _ rK0 Tryz.underlying44 rfl (infoW4 _) ?_; simp only [Array.toArray_toList])
    | (go_at_call 49; refine KD.out.mono ?_; rintro e w2 ⟨d', rfl, hd1, b2, hQ⟩; have hone := hd1.arr)
    | (refine wpList_store_row rfl 37 _ _ rfl w.heap.size _ (dC d') rfl rfl (stay b2 F0.out) (by simpa using infoD (d := d')) rfl hone ?_))
  have KC := Lib.hid (H1.out V w2 d' HB.out b2 hQ)
  unfold CodeIs at KC
  have s2 := Lib.hid (show w.heap.size + 3 ≤ w2.heap.size by have := b2.size; have := SV.out; omega)
  have s2' := s2.out
  have F12 : (w2.setRow w.heap.size (dC d')).heap[w.heap.size + 1]? = some (.cells (oC o).toArray 47) := (setRow_other w2 w.heap.size (w.heap.size + 1) (dC d') (by omega)).trans (stay b2 F10)
  have F02 := Lib.hid (blk_row (c' := dC d') (stay b2 F0.out))
  have F22 := Lib.hid ((setRow_other w2 w.heap.size (w.heap.size + 2) (dC d') (by omega)).trans (stay b2 F2.out))
  have HB2 := Lib.hid (below_setRow ((HB.out.trans (b2.mono HB.out.size)).mono hb) hb (dC d'))
  obtain ⟨w2s, hw2s⟩ : ∃ w2s, w2.setRow w.heap.size (dC d') = w2s := ⟨_, rfl⟩
  rw [hw2s] at F12 F02 F22 HB2 KC ⊢
  have S2 := Lib.hid (show w.heap.size + 3 ≤ w2s.heap.size by rw [← hw2s, setRow_size]; exact s2')
  have cN2 : w2s.cell? ⟨w.heap.size + 1, 29, none⟩ = some (.int .u64 (o.N : Int)) := blk_cell F12 (by simpa using oC_N o)
  have cD2 : w2s.cell? ⟨w.heap.size + 1, 30, none⟩ = some o.dv := blk_cell F12 (by simpa using oC_dv o)
  have rg2 := rng_block (w := w2s) (cs := oC o) F12
  have rA2 := (oC_A rg2).at
  have rK2 := (oC_K rg2).at
  have rV2 := (oC_V rg2).at
  clear F10 c00 cN0 cD0 rg0 rA0 rK0 rV0 r00 b2 hQ hw2s s2 s2' H1 H2 KD F12 HB
  go_upto_region 44 with (first
    | (refine wpList_load_mid rfl 41 _ rfl (w.heap.size + 1) 1 rfl (aN o.A).toList _ rA2 Tryz.underlying41 rfl (infoAd _) ?_; simp only [Array.toArray_toList])
    | (refine wpList_load_mid rfl 44 _ rfl (w.heap.size + 1) 21 rfl (wa o.K).toList _ rK2 Tryz.underlying44 rfl (infoW4 _) ?_; simp only [Array.toArray_toList])
    | (go_at_call 19; refine KC.out.mono ?_; rintro e w3 ⟨v, rfl, hH, hbB, hv, hQ⟩; subst hv))
  have s1 := S2.out
  have G27 := hH.blk (Nat.le_add_right _ _) F22.out
  have g07 := hH.blk (Nat.le_refl _) F02.out
  have B7 := (HB2.out.trans hbB).drew
  clear cN2 cD2 rg2 rA2 rK2 rV2 hH hbB KC F02 F22 S2
  have b3 := True.intro
  have r7 := True.intro
  obtain ⟨wz, hwz⟩ : ∃ wz, w3 = wz := ⟨_, rfl⟩
  rw [hwz] at G27 g07 B7 hQ ⊢
  have q1d : wz.drew.heap[w.heap.size]? = some (.cells (dC d') 37) := g07
  have q0d : wz.drew.heap[w.heap.size + 2]? = some (.cells (dC dst0) 37) := G27
  have k1 := store_dst d' hd1 rfl q0d
  have q2 : (wz.drew.setRow (w.heap.size + 2) (dC d')).heap[w.heap.size]? = some (.cells (dC d') 37) := blk_row_other q1d (by omega)
  have Q3 := Lib.hid (blk_row (c' := dC d') q0d)
  obtain ⟨e0, e1, e2, e3, e4, e5, e6, e7⟩ := dst_cells q1d
  obtain ⟨g0, g1, g2, g3, g4, g5, g6, g7⟩ := dst_cells q2
  have hsz8 : ∀ d : Dst, (dC d).size = 8 := fun _ => rfl
  have ft : #[d'.w, d'.l, d'.wm, d'.sl, Value.int .i64 d'.rf, d'.lg, Value.bool d'.tr, d'.ps] = dC d' := rfl
  have fl : [d'.w, d'.l, d'.wm, d'.sl, Value.int .i64 d'.rf, d'.lg, Value.bool d'.tr, d'.ps] = (dC d').toList := rfl
  have HWZ := Lib.hid hwz
  have HQ := Lib.hid hQ
  have HD1 := Lib.hid hd1
  have BF := Lib.hid (below_setRow B7 (show base ≤ w.heap.size + 2 by omega) (dC d'))
  clear q1d q0d q2 G27 g07 B7 hwz hQ hd1 b3 hone r7
  try simp only [Act.put]
  go_region
  go_wp2_with fail
  exact bodyPost_ret (v := .tuple #[.bool (c2 == c1), .agg (dC d'), .slice mA mn mc]) (results_tct rfl _ _ (w.heap.size + 2) 37 _ (0, 0) _ _ _ rfl Q3.out Tryz.underlying37 rfl (by simpa using infoD (d := d')) rfl rfl) rfl ⟨d', wz, rfl, HD1.out, HQ.out, ⟨setRow_size _ _ _, fun b h1 h2 => setRow_other _ _ _ _ h2⟩, BF.out⟩
end Go.Proofs.YtnjeoeekidnffaaGreat
