/- Stage 14: an arm of the statements' do. -/
import Derived.Test.YtnjeoeekidnffaaGreatNr
namespace Go.Proofs.YtnjeoeekidnffaaGreat
open Go.RowKit SmWord Go.Maps
set_option maxRecDepth 100000

theorem run_bslice_2w (x0 x1 x2 x3 y0 y1 y2 y3 : Value) (w : World) : (Instr.buildSlice 58 2 #[(0, .agg #[x0, x1, x2, x3]), (1, .agg #[y0, y1, y2, y3])]).run Tryz.prog w = .ok (.slice (some ⟨w.heap.size, 0, none⟩) 2 2) (w.alloc (.cells #[x0, x1, x2, x3, y0, y1, y2, y3] 44)) := by kernel_rfl
theorem run_bslice_kv (k v : Nat) (w : World) : (Instr.buildSlice 58 2 #[(0, .agg (wa k)), (1, .agg (wa v))]).run Tryz.prog w = .ok (.slice (some ⟨w.heap.size, 0, none⟩) 2 2) (w.alloc (.cells (waL k ++ waL v).toArray 44)) := run_bslice_2w _ _ _ _ _ _ _ _ w
theorem wpList_bslice_kv {ops : Array Oper} {rest : List Oper} {o : Oper} {a : Act} {w : World} {Q : Exit → Act → World → Prop} (hg : o.guard = none) (p q : Operand) (ho : o.op = .buildSlice 58 2 #[(0, p), (1, q)]) (k v : Nat) (hp : a.eval p = .agg (wa k)) (hq : a.eval q = .agg (wa v)) (h : wpList Tryz.prog ops Q rest (a.put o.dst (.slice (some ⟨w.heap.size, 0, none⟩) 2 2)) (w.alloc (.cells (waL k ++ waL v).toArray 44))) : wpList Tryz.prog ops Q (o :: rest) a w := by
  refine wpList_plain hg fun K hK => ?_
  have hr := run_bslice_kv k v w
  unfold Oper.wp
  simp [execOp, ho, hp, hq, hr, Result.andThen]
  exact hK _ _ h
theorem run_build22 (x0 x1 x2 x3 x4 x5 x6 x7 x8 x9 x10 x11 x12 x13 x14 x15 x16 x17 x18 x19 : Value) (pa : Option Addr) (n c : Nat) (qa : Option Addr) (m e : Nat) (w : World) : (Instr.build 60 #[(0, .agg #[x0, x1, x2, x3, x4, x5, x6, x7, x8, x9, x10, x11, x12, x13, x14, x15, x16, x17, x18, x19]), (1, .slice pa n c), (2, .slice qa m e)]).run Tryz.prog w = .ok (.agg #[x0, x1, x2, x3, x4, x5, x6, x7, x8, x9, x10, x11, x12, x13, x14, x15, x16, x17, x18, x19, .slice pa n c, .slice qa m e]) w := by kernel_rfl
theorem run_build_g (x : LgV) (w : World) (hp : ∃ a n c, x.p = .slice a n c) (hq : ∃ a n c, x.q = .slice a n c) : (Instr.build 60 #[(0, .agg (aN x.ad)), (1, x.p), (2, x.q)]).run Tryz.prog w = .ok (.agg (lgC x).toArray) w := by
  have e2 : (lgC x).toArray = aN x.ad ++ #[x.p, x.q] := by simp [lgC]
  rw [e2]
  obtain ⟨a1, n1, c1, e1⟩ := hp
  obtain ⟨a3, n3, c3, e3⟩ := hq
  rw [e1, e3]
  obtain ⟨x0, x1, x2, x3, x4, x5, x6, x7, x8, x9, x10, x11, x12, x13, x14, x15, x16, x17, x18, x19, e⟩ := list20t (aN_size x.ad)
  rw [e]
  exact run_build22 x0 x1 x2 x3 x4 x5 x6 x7 x8 x9 x10 x11 x12 x13 x14 x15 x16 x17 x18 x19 _ _ _ _ _ _ w
theorem wpList_build_g {ops : Array Oper} {rest : List Oper} {o : Oper} {a : Act} {w : World} {Q : Exit → Act → World → Prop} (hg : o.guard = none) (p q r : Operand) (ho : o.op = .build 60 #[(0, p), (1, q), (2, r)]) (x : LgV) (hp : a.eval p = .agg (aN x.ad)) (hq : a.eval q = x.p) (hr' : a.eval r = x.q) (h1 : ∃ a n c, x.p = .slice a n c) (h2 : ∃ a n c, x.q = .slice a n c) (h : wpList Tryz.prog ops Q rest (a.put o.dst (.agg (lgC x).toArray)) w) : wpList Tryz.prog ops Q (o :: rest) a w := by
  refine wpList_plain hg fun K hK => ?_
  have hr := run_build_g x w h1 h2
  unfold Oper.wp
  simp [execOp, ho, hp, hq, hr', hr, Result.andThen]
  exact hK _ _ h
theorem zeroLg (w : World) : (zeroValue 60).run Tryz.prog w = .ok (.agg (lgC lg0).toArray) w := by kernel_rfl
set_option maxHeartbeats 8000000 in
theorem do_8 {base : Nat} (sv mk : Value) (d : Dst) (o : OpD) (w : World) (P : LgV → World → Prop) (Q : LgV → Dst → World → Prop) (hk : o.kd = 8) (hb : base ≤ w.heap.size) (hmk : ∃ A n c, mk = .slice A n c) (hoz : OpZ (hp w) o)
    (H1 : Hid (∀ w1 x, Below w.heap.size w w1 → x.ad = o.A → x.tp = [o.K, o.V] → x.da = o.da → LgZ (hp w1) x → Calls Tryz.prog 21 #[sv, .agg (lgC x).toArray] w1 (CodeIs base w.heap.size (fun v w2 => v = .tuple #[] ∧ P x w2) w1)))
    (H2 : Hid (∀ w1 w2 x, Below w.heap.size w w1 → Hold w.heap.size w1 w2 → x.ad = o.A → x.tp = [o.K, o.V] → x.da = o.da → LgZ (hp w1) x → P x w2 → Calls Tryz.prog 52 #[.agg (dC d), .agg (lgC x).toArray] w2 (DocIs (Q x) w2))) :
    Calls Tryz.prog 13 #[sv, .agg (dC d), mk, .agg (oC o).toArray] w (DoIs base true mk (fun d' w3 => ∃ x, x.ad = o.A ∧ x.tp = [o.K, o.V] ∧ x.da = o.da ∧ Q x d' w3) w) := by
  obtain ⟨mA, mn, mc, rfl⟩ := hmk
  obtain ⟨dA, dc, hdv, -⟩ := hoz.dr.val
  have HOZ := Lib.hid hoz
  clear hoz
  obtain ⟨V, hV, f0, f1, f2, bW, sW⟩ := oboxes w d o
  have hsA := aN_size o.A
  have hsw := wa_size
  have F10 := f1
  have HB := Lib.hid bW
  have F0 := Lib.hid f0
  have F2 := Lib.hid f2
  have SV := Lib.hid sW
  have c00 : V.cell? ⟨w.heap.size + 1, 0, none⟩ = some (.int .i64 8) := blk_cell F10 (by simpa [hk] using oC_kd o)
  have cN0 : V.cell? ⟨w.heap.size + 1, 29, none⟩ = some (.int .u64 (o.N : Int)) := blk_cell F10 (by simpa using oC_N o)
  have cD0 : V.cell? ⟨w.heap.size + 1, 30, none⟩ = some o.dv := blk_cell F10 (by simpa using oC_dv o)
  have rg0 := rng_block (w := V) (cs := oC o) F10
  have rA0 := (oC_A rg0).at
  have rK0 := (oC_K rg0).at
  have rV0 := (oC_V rg0).at
  rw [hdv] at cD0
  clear f0 f1 f2 bW sW hk
  go_enter Tryz.func13, Tryz.ntmps13
  go_upto_region 1 with (refine wpList_alloc_row rfl 37 rfl _ zeroD ?_)
  try rw [hV]
  clear hV
  obtain ⟨x, hx⟩ : ∃ x : LgV, (⟨o.A, [o.K, o.V], o.da, .slice (some ⟨V.heap.size, 0, none⟩) 2 2, .slice dA o.da.length dc⟩ : LgV) = x := ⟨_, rfl⟩
  have hx1 : x.ad = o.A := by rw [← hx]
  have hx2 : x.tp = [o.K, o.V] := by rw [← hx]
  have hx3 : x.da = o.da := by rw [← hx]
  have hxp : x.p = .slice (some ⟨V.heap.size, 0, none⟩) 2 2 := by rw [← hx]
  have hxq : x.q = .slice dA o.da.length dc := by rw [← hx]
  obtain ⟨V1, hV1⟩ : ∃ V1, V.alloc (.cells (waL o.K ++ waL o.V).toArray 44) = V1 := ⟨_, rfl⟩
  have gv : V1.heap[V.heap.size]? = some (.cells (waL o.K ++ waL o.V).toArray 44) := hV1 ▸ heap_alloc_new _ _
  have bv : Below V.heap.size V V1 := hV1 ▸ (Below.refl _ _).alloc (Nat.le_refl _) _
  have B1 := HB.out.trans (bv.mono HB.out.size)
  have HXZ : LgZ (hp V1) x := by
    refine ⟨by rw [hx1]; exact HOZ.out.A, ?_, ?_, by rw [hx2]; show 2 ≤ 1000000; omega, ?_, by rw [hx3]; exact HOZ.out.d8, by rw [hx3]; exact HOZ.out.dl⟩
    · rw [hxp, hx2]
      exact ⟨by simp [waL_len], some ⟨V.heap.size, 0, none⟩, 2, rfl, Nat.le_refl _, by simp [maxLen], fun h => by simp at h, fun _ => ⟨V.heap.size, 0, rfl, by simpa using rng_block gv⟩⟩
    · rw [hx2]
      intro t ht
      simp at ht
      rcases ht with rfl | rfl
      · exact HOZ.out.K
      · exact HOZ.out.V
    · rw [hxq, hx3, ← hdv]
      exact HOZ.out.dr.sub (hp_below B1)
  have HMX := Lib.hid HXZ.mem
  have hs1 := bv.size
  have HX1 := Lib.hid hx1
  have HX2 := Lib.hid hx2
  have HX3 := Lib.hid hx3
  have hpS : ∃ a n c, x.p = .slice a n c := ⟨_, _, _, hxp⟩
  have hqS : ∃ a n c, x.q = .slice a n c := ⟨_, _, _, hxq⟩
  have cD1 : V1.cell? ⟨w.heap.size + 1, 30, none⟩ = some (.slice dA o.da.length dc) := blk_cell (stay bv F10) (by simpa [hdv] using oC_dv o)
  go_upto_region 36 with fail
  go_upto_region 37 with (first
    | (refine wpList_load_mid rfl 41 _ rfl (w.heap.size + 1) 1 rfl (aN o.A).toList _ rA0 Tryz.underlying41 rfl (infoAd _) ?_; simp only [Array.toArray_toList])
    | (refine wpList_load_mid rfl 44 _ rfl (w.heap.size + 1) 21 rfl (wa o.K).toList _ rK0 Tryz.underlying44 rfl (infoW4 _) ?_; simp only [Array.toArray_toList])
    | (refine wpList_load_mid rfl 44 _ rfl (w.heap.size + 1) 25 rfl (wa o.V).toList _ rV0 Tryz.underlying44 rfl (infoW4 _) ?_; simp only [Array.toArray_toList])
    | (refine wpList_bslice_kv rfl _ _ rfl o.K o.V rfl rfl ?_; rw [hV1])
    | (refine wpList_build_g rfl _ _ _ rfl x (by rw [hx1]; rfl) (by rw [hxp]; rfl) (by rw [hxq]; rfl) hpS hqS ?_)
    | (refine wpList_alloc_row rfl 60 rfl _ zeroLg ?_)
    | (refine wpList_store_row rfl 60 _ _ rfl _ (lgC lg0).toArray (lgC x).toArray rfl rfl (heap_alloc_new _ _) (by simpa using infoLgV x) (by simp [lgC_len]) (Array.all_eq_true_iff_forall_mem.2 (fun u hu => HMX.out u (by simpa using hu))) ?_))
  try simp only [Act.put, List.setIfInBounds_toArray, List.set_cons_succ, List.set_cons_zero]
  rw [World.setRow_alloc_new]
  obtain ⟨pb, hpb⟩ : ∃ pb, V1.heap.size = pb := ⟨_, rfl⟩
  have gb : (V1.alloc (.cells (lgC x).toArray 60)).heap[pb]? = some (.cells (lgC x).toArray 60) := hpb ▸ heap_alloc_new _ _
  have b2 : Below V1.heap.size V1 (V1.alloc (.cells (lgC x).toArray 60)) := (Below.refl _ _).alloc (Nat.le_refl _) _
  have B2 := B1.trans (b2.mono B1.size)
  have hpw : w.heap.size ≤ pb := by have := HB.out.size; omega
  rw [hpb]
  have F02 := stay b2 (stay bv F0.out)
  have F22 := stay b2 (stay bv F2.out)
  have HXZ2 := Lib.hid (HXZ.sub (hp_below b2))
  have hsv3 := SV.out
  have s2 := Lib.hid (show w.heap.size + 3 ≤ (V1.alloc (.cells (lgC x).toArray 60)).heap.size by have := b2.size; omega)
  generalize V1.alloc (.cells (lgC x).toArray 60) = w1 at *
  have KC := Lib.hid (H1.out w1 x B2 hx1 hx2 hx3 HXZ2.out)
  unfold CodeIs at KC
  have rg := (rng_block gb).at
  have HB2 := Lib.hid B2
  have HF02 := Lib.hid F02
  have HF22 := Lib.hid F22
  have HGB := Lib.hid gb
  clear c00 cN0 cD0 cD1 rg0 rA0 rK0 rV0 F10 HMX hs1 hV1 gv bv B1 HXZ hpS hqS hxp hxq b2 B2 hpb F02 F22 gb hx hdv hx1 hx2 hx3 H1
  go_upto_region 38 with (first
    | (refine wpList_load_mid rfl 60 _ rfl pb 0 rfl (lgC x) _ rg Tryz.underlying60 rfl (infoLgV _) ?_)
    | (go_at_call 21; refine KC.out.mono ?_; rintro e w2 ⟨v, rfl, hH, hbB, hv, hP⟩; subst hv))
  have F0x := hH.blk (Nat.le_refl _) HF02.out
  have F2x := Lib.hid (hH.blk (Nat.le_add_right _ _) HF22.out)
  have rg2 := (rng_block (hH.blk hpw HGB.out)).at
  have r01 := (rng_block (w := w2) (cs := (dC d).toList) (by simpa [dC] using F0x)).at
  have KD := Lib.hid (H2.out w1 w2 x HB2.out hH HX1.out HX2.out HX3.out HXZ2.out hP)
  unfold DocIs at KD
  have HB1 := Lib.hid ((HB2.out.mono hb).trans hbB)
  have S1 := Lib.hid (show w.heap.size + 3 ≤ w2.heap.size by have := hH.1; have := s2.out; omega)
  clear hH hbB hP KC H2 rg
  go_upto_region 44 with (first
    | (refine wpList_load_mid rfl 37 _ rfl w.heap.size 0 rfl (dC d).toList _ r01 Tryz.underlying37 rfl infoD ?_)
    | (refine wpList_load_mid rfl 60 _ rfl pb 0 rfl (lgC x) _ rg2 Tryz.underlying60 rfl (infoLgV _) ?_)
    | (go_at_call 52; refine KD.out.mono ?_; rintro e w3 ⟨d', rfl, hd1, b3, hQ⟩; have hone := hd1.arr)
    | (refine wpList_store_row rfl 37 _ _ rfl w.heap.size _ (dC d') rfl rfl (stay b3 F0x) (by simpa using infoD (d := d')) rfl hone ?_))
  have s1 := S1.out
  have G27 := (setRow_other w3 w.heap.size (w.heap.size + 2) (dC d') (by omega)).trans (stay b3 F2x.out)
  have g07 := blk_row (c' := dC d') (stay b3 F0x)
  have r7 := True.intro
  have B7 := (below_setRow (HB1.out.trans (b3.mono (by have := S1.out; omega))) hb (dC d')).drew
  obtain ⟨wz, hwz⟩ : ∃ wz, w3.setRow w.heap.size (dC d') = wz := ⟨_, rfl⟩
  rw [hwz] at G27 g07 B7 ⊢
  have q1d : wz.drew.heap[w.heap.size]? = some (.cells (dC d') 37) := g07
  have q0d : wz.drew.heap[w.heap.size + 2]? = some (.cells (dC dst0) 37) := G27
  have k1 := store_dst d' hd1 rfl q0d
  have q2 : (wz.drew.setRow (w.heap.size + 2) (dC d')).heap[w.heap.size]? = some (.cells (dC d') 37) := blk_row_other q1d (by omega)
  have Q3 := Lib.hid (blk_row (c' := dC d') q0d)
  obtain ⟨e0, e1, e2, e3, e4, e5, e6, e7⟩ := dst_cells q1d
  obtain ⟨g0, g1, g2, g3, g4, g5, g6, g7⟩ := dst_cells q2
  have hsz8 : ∀ d : Dst, (dC d).size = 8 := fun _ => rfl
  have ft : #[d'.w, d'.l, d'.wm, d'.sl, Value.int .i64 d'.rf, d'.lg, Value.bool d'.tr, d'.ps] = dC d' := rfl
  have fl : [d'.w, d'.l, d'.wm, d'.sl, Value.int .i64 d'.rf, d'.lg, Value.bool d'.tr, d'.ps] = (dC d').toList := rfl
  have HWZ := Lib.hid hwz
  have HQ := Lib.hid hQ
  have HD1 := Lib.hid hd1
  have BF := Lib.hid (below_setRow B7 (show base ≤ w.heap.size + 2 by omega) (dC d'))
  clear q1d q0d q2 G27 g07 B7 hwz hQ hd1 b3 hone r7 KD
  try simp only [Act.put]
  go_region
  go_wp2_with fail
  exact bodyPost_ret (v := .tuple #[.bool true, .agg (dC d'), .slice mA mn mc]) (results_tct rfl _ _ (w.heap.size + 2) 37 _ (0, 0) _ _ _ rfl Q3.out Tryz.underlying37 rfl (by simpa using infoD (d := d')) rfl rfl) rfl ⟨d', w3, rfl, HD1.out, ⟨x, HX1.out, HX2.out, HX3.out, HQ.out⟩, ⟨by rw [setRow_size, ← HWZ.out]; exact setRow_size _ _ _, fun b h1 h2 => by rw [setRow_other _ _ _ _ h2, ← HWZ.out]; exact setRow_other _ _ _ _ h1⟩, BF.out⟩
end Go.Proofs.YtnjeoeekidnffaaGreat
