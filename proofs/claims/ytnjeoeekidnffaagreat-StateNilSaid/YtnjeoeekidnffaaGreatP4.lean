/- Stage 14: an arm of the statements' do. -/
import Derived.Test.YtnjeoeekidnffaaGreatNr
namespace Go.Proofs.YtnjeoeekidnffaaGreat
open Go.RowKit SmWord Go.Maps
set_option maxRecDepth 100000

set_option maxHeartbeats 8000000 in
/-- Another kind, where there are no marks: nothing is done. -/
theorem do_none {base : Nat} (sv : Value) (d : Dst) (o : OpD) (w : World) (A : Option Addr) (c : Nat) (hd : d.One) (hk : o.kd < 0 ∨ 10 < o.kd) (hb : base ≤ w.heap.size) :
    Calls Tryz.prog 13 #[sv, .agg (dC d), .slice A 0 c, .agg (oC o).toArray] w (DoIs base true (.slice A 0 c) (fun d' w3 => d' = d ∧ Below w.heap.size w w3) w) := by
  obtain ⟨V, hV, f0, f1, f2, bW, sW⟩ := oboxes w d o
  have hsA := aN_size o.A
  have hsw := wa_size
  have F10 := f1
  have HB := Lib.hid bW
  have F0 := Lib.hid f0
  have F2 := Lib.hid f2
  have SV := Lib.hid sW
  have c00 : V.cell? ⟨w.heap.size + 1, 0, none⟩ = some (.int .i64 o.kd) := blk_cell F10 (by simpa using oC_kd o)
  have cN0 : V.cell? ⟨w.heap.size + 1, 29, none⟩ = some (.int .u64 (o.N : Int)) := blk_cell F10 (by simpa using oC_N o)
  have cD0 : V.cell? ⟨w.heap.size + 1, 30, none⟩ = some o.dv := blk_cell F10 (by simpa using oC_dv o)
  have rg0 := rng_block (w := V) (cs := oC o) F10
  have rA0 := (oC_A rg0).at
  have rK0 := (oC_K rg0).at
  have rV0 := (oC_V rg0).at
  have r00 := (rng_block (w := V) (cs := (dC d).toList) (by simpa [dC] using f0)).at
  have n0 : (o.kd == 0) = false := by simp; omega
  have n1 : (o.kd == 1) = false := by simp; omega
  have n2 : (o.kd == 2) = false := by simp; omega
  have n3 : (o.kd == 3) = false := by simp; omega
  have n4 : (o.kd == 4) = false := by simp; omega
  have n5 : (o.kd == 5) = false := by simp; omega
  have n6 : (o.kd == 6) = false := by simp; omega
  have n7 : (o.kd == 7) = false := by simp; omega
  have n8 : (o.kd == 8) = false := by simp; omega
  have n9 : (o.kd == 9) = false := by simp; omega
  have n10 : (o.kd == 10) = false := by simp; omega
  obtain ⟨kd, hkd⟩ : ∃ kd, o.kd = kd := ⟨_, rfl⟩
  rw [hkd] at c00 n0 n1 n2 n3 n4 n5 n6 n7 n8 n9 n10
  clear f0 f1 f2 bW sW hk hkd
  go_enter Tryz.func13, Tryz.ntmps13
  go_upto_region 1 with (refine wpList_alloc_row rfl 37 rfl _ zeroD ?_)
  try rw [hV]
  clear hV
  go_upto_region 44 with fail
  have s1 := Lib.hid (Nat.le_of_eq SV.out.symm)
  have G27 := F2.out
  have g07 := F0.out
  have B7 := (HB.out.mono hb).drew
  obtain ⟨d', hd'⟩ : ∃ d', d = d' := ⟨_, rfl⟩
  subst hd'
  have hQ := HB.out
  have hd1 := hd
  have hone := hd.arr
  have b3 := True.intro
  have r7 := True.intro
  have KD := True.intro
  clear c00 cN0 cD0 rg0 rA0 rK0 rV0 r00 n0 n1 n2 n3 n4 n5 n6 n7 n8 n9 n10 F10 F0 F2
  obtain ⟨wz, hwz⟩ : ∃ wz, V = wz := ⟨_, rfl⟩
  rw [hwz] at G27 g07 B7 hQ ⊢
  have q1d : wz.drew.heap[w.heap.size]? = some (.cells (dC d) 37) := g07
  have q0d : wz.drew.heap[w.heap.size + 2]? = some (.cells (dC dst0) 37) := G27
  have k1 := store_dst d hd1 rfl q0d
  have q2 : (wz.drew.setRow (w.heap.size + 2) (dC d)).heap[w.heap.size]? = some (.cells (dC d) 37) := blk_row_other q1d (by omega)
  have Q3 := Lib.hid (blk_row (c' := dC d) q0d)
  obtain ⟨e0, e1, e2, e3, e4, e5, e6, e7⟩ := dst_cells q1d
  obtain ⟨g0, g1, g2, g3, g4, g5, g6, g7⟩ := dst_cells q2
  have hsz8 : ∀ d : Dst, (dC d).size = 8 := fun _ => rfl
  have ft : #[d.w, d.l, d.wm, d.sl, Value.int .i64 d.rf, d.lg, Value.bool d.tr, d.ps] = dC d := rfl
  have fl : [d.w, d.l, d.wm, d.sl, Value.int .i64 d.rf, d.lg, Value.bool d.tr, d.ps] = (dC d).toList := rfl
  have HWZ := Lib.hid hwz
  have HQ := Lib.hid hQ
  have HD1 := Lib.hid hd1
  have BF := Lib.hid (below_setRow B7 (show base ≤ w.heap.size + 2 by omega) (dC d))
  clear q1d q0d q2 G27 g07 B7 hwz hQ hd1 b3 hone r7 KD
  try simp only [Act.put]
  go_region
  go_wp2_with fail
  exact bodyPost_ret (v := .tuple #[.bool true, .agg (dC d), .slice A 0 c]) (results_tct rfl _ _ (w.heap.size + 2) 37 _ (0, 0) _ _ _ rfl Q3.out Tryz.underlying37 rfl (by simpa using infoD (d := d)) rfl rfl) rfl ⟨d, wz, rfl, HD1.out, ⟨rfl, HQ.out⟩, ⟨setRow_size _ _ _, fun b h1 h2 => setRow_other _ _ _ _ h2⟩, BF.out⟩
end Go.Proofs.YtnjeoeekidnffaaGreat
