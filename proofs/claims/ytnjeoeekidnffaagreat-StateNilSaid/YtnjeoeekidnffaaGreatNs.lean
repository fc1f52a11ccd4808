/- Stage 14: StateNil, walked. -/
import Derived.Test.YtnjeoeekidnffaaGreatNr
import Derived.Test.YtnjeoeekidnffaaGreatNl
import Derived.Test.YtnjeoeekidnffaaGreatN7
import Derived.BigQuiet
namespace Go.Proofs.YtnjeoeekidnffaaGreat
open Go.RowKit SmWord Go.Maps
set_option maxRecDepth 100000

/-- A call of the statements, however long its data. -/
structure OpY (Z : Hp) (o : OpD) : Prop where
  A : o.A < 2 ^ 160
  K : o.K < M
  V : o.V < M
  N : o.N < B
  dr : RowZ Z o.dv o.da.length 1 (o.da.map u8v)
  d8 : ∀ c ∈ o.da, c < 256
theorem infoOp (o : OpD) : (Tryz.prog.info? 47).map (·.size) = some (oC o).length := by rw [oC_len]; kernel_rfl
theorem zeroA20 (w : World) : (zeroValue 41).run Tryz.prog w = .ok (.agg (aN 0)) w := by kernel_rfl
theorem storeA0 (w : World) : (storeCells ⟨w.heap.size, 0, none⟩ (aN 0).toList 0).run Tryz.prog (w.alloc (.cells (aN 0) 41)) = .ok () (w.alloc (.cells (aN 0) 41)) :=
  run_storeCells_new (P := Tryz.prog) w 41 (aN 0) (aN 0) (by simpa using infoAd 0) rfl (arr_one .u8 20 _)
theorem obox1 (w : World) (o : OpD) : ∃ W, w.alloc (.cells (oC o).toArray 47) = W ∧ W.heap[w.heap.size]? = some (.cells (oC o).toArray 47) ∧ Below w.heap.size w W ∧ W.heap.size = w.heap.size + 1 :=
  ⟨_, rfl, heap_alloc_new _ _, (Below.refl _ _).alloc (Nat.le_refl _) _, by simp⟩
set_option maxHeartbeats 8000000 in
theorem snil_walk (o : OpD) (w : World) (h : OpY (hp w) o)
    (KD : Hid (∀ w1, OpZ (hp w1) o → Calls Tryz.prog 13 #[.pointer none, .agg (dC dst0), .slice none 0 0, .agg (oC o).toArray] w1 fun e w' => ∃ b d' mk, e = .returned (.tuple #[.bool b, .agg (dC d'), mk]) ∧ Below w1.heap.size w1 w')) :
    Calls Tryz.prog 6 #[.agg (oC o).toArray] w fun e w' => e = .returned (.bool true) ∧ Below w.heap.size w w' := by
  obtain ⟨W, hW, f0, bW, sW⟩ := obox1 w o
  obtain ⟨dA, dc, hdv, -⟩ := h.dr.val
  have KF := Lib.hid fixed_walk
  have hs := aN_size o.A
  have hs0 := aN_size 0
  have hw := wa_size
  have e0 := z4w
  have e20 := z20
  have zd := zeroD
  have F0 := Lib.hid f0
  have HB := Lib.hid bW
  have SW := Lib.hid sW
  have cD : W.cell? ⟨w.heap.size, 30, none⟩ = some (.slice dA o.da.length dc) := by rw [← hdv]; exact blk_cell f0 (by simpa using oC_dv o)
  have r0 := (rng_block (w := W) (cs := oC o) f0).at
  by_cases hl : o.da.length ≤ 300
  · have c1 : decide (300 < (o.da.length : Int)) = false := by simp; omega
    have KC := Lib.hid (KD.out W ⟨h.A, h.K, h.V, h.N, h.dr.sub (hp_below bW), h.d8, by omega⟩)
    clear f0 bW sW h
    go_enter Tryz.func6, Tryz.ntmps6
    go_upto_region 1 with fail
    clear hW
    go_upto_region 4 with fail
    go_upto_region 5 with (first
      | (refine wpList_load_mid rfl 47 _ rfl w.heap.size 0 rfl (oC o) _ r0 Tryz.underlying47 rfl (infoOp o) ?_)
      | (go_at_call 13; refine KC.out.mono ?_; rintro e w3 ⟨b3, d3, m3, rfl, h3⟩))
    obtain ⟨W3, hW3⟩ : ∃ W3, w3 = W3 := ⟨_, rfl⟩
    subst hW3
    have B3 := Lib.hid h3
    clear r0 cD KC h3
    go_upto_region 6 with (first
      | (go_at_call 30
         refine (nil_Missing _).mono ?_
         rintro e w5 ⟨rfl, b5⟩
         obtain ⟨W5, hW5⟩ : ∃ W5, w5.alloc (.cells (aN 0) 41) = W5 := ⟨_, rfl⟩
         have B5 : Hid (Below W.heap.size W W5) := Lib.hid (B3.out.trans ((b5.trans ((hW5 ▸ (Below.refl _ _).alloc (Nat.le_refl _) _ : Below w5.heap.size w5 W5).mono b5.size)).mono B3.out.size))
         have sn : (storeCells ⟨w5.heap.size, 0, none⟩ (aN 0).toList 0).run Tryz.prog W5 = .ok () W5 := hW5 ▸ storeA0 w5
         clear b5)
      | (refine wpList_alloc_row rfl 41 rfl _ zeroA20 ?_))
    have KEmpty : Hid (∀ w : World, Calls Tryz.prog 31 #[.pointer none, .agg (aN o.A)] w fun e w' => e = .returned (.bool false) ∧ Below w.heap.size w w') := Lib.hid fun w => nil_Empty o.A w
    have KNonce : Hid (∀ w : World, Calls Tryz.prog 32 #[.pointer none, .agg (aN o.A)] w fun e w' => e = .returned (.int .u64 0) ∧ Below w.heap.size w w') := Lib.hid fun w => nil_Nonce o.A w
    have KBalance : Hid (∀ w : World, Calls Tryz.prog 33 #[.pointer none, .agg (aN o.A)] w fun e w' => e = .returned (.agg (wa 0)) ∧ Below w.heap.size w w') := Lib.hid fun w => nil_Balance o.A w
    have KCode : Hid (∀ w : World, Calls Tryz.prog 23 #[.pointer none, .agg (aN o.A)] w fun e w' => e = .returned (.slice none 0 0) ∧ Below w.heap.size w w') := Lib.hid fun w => nil_Code o.A w
    have KLoad : Hid (∀ w : World, Calls Tryz.prog 28 #[.pointer none, .agg (aN o.A), .agg (wa o.K)] w fun e w' => e = .returned (.agg (wa 0)) ∧ Below w.heap.size w w') := Lib.hid fun w => nil_Load o.A o.K w
    have KFirst : Hid (∀ w : World, Calls Tryz.prog 34 #[.pointer none, .agg (aN o.A), .agg (wa o.K)] w fun e w' => e = .returned (.agg (wa 0)) ∧ Below w.heap.size w w') := Lib.hid fun w => nil_First o.A o.K w
    have KRefund : Hid (∀ w : World, Calls Tryz.prog 35 #[.pointer none] w fun e w' => e = .returned (.int .i64 0) ∧ Below w.heap.size w w') := Lib.hid fun w => nil_Refund w
    have KLogs : Hid (∀ w : World, Calls Tryz.prog 24 #[.pointer none] w fun e w' => e = .returned (.slice none 0 0) ∧ Below w.heap.size w w') := Lib.hid fun w => nil_Logs w
    have KDestroyed : Hid (∀ w : World, Calls Tryz.prog 36 #[.pointer none, .agg (aN o.A)] w fun e w' => e = .returned (.bool false) ∧ Below w.heap.size w w') := Lib.hid fun w => nil_Destroyed o.A w
    have KChanges : Hid (∀ w : World, Calls Tryz.prog 25 #[.pointer none] w fun e w' => e = .returned (.slice none 0 0) ∧ Below w.heap.size w w') := Lib.hid fun w => nil_Changes w
    have KMark : Hid (∀ w : World, Calls Tryz.prog 17 #[.pointer none] w fun e w' => e = .returned (.int .i64 0) ∧ Below w.heap.size w w') := Lib.hid fun w => (mark_nil w).mono fun _ _ ⟨he, hb⟩ => ⟨he, hb ▸ Below.refl _ _⟩
    have F5 := Lib.hid (stay B5.out F0.out)
    have eA := fun g : Ext W5 => (oC_A (rng_block (w := g.on) (cs := oC o) (g.block F5.out))).at
    have eK := fun g : Ext W5 => (oC_K (rng_block (w := g.on) (cs := oC o) (g.block F5.out))).at
    have eg := Tryz.guardW
    have eq := run_eq_wa0 0 (by decide)
    clear e20 zd hW5 sn
    dsimp only [List.append_eq, List.cons_append, List.nil_append]
    refine region_seq ?_
    repeat (first
      | (go_big_quiet_want; refine quiet_load_mid 41 _ rfl w.heap.size 1 (aN o.A).toList rfl (fun w2 hw2 => by obtain ⟨g1, rfl⟩ := hw2; exact eA g1) Tryz.underlying41 rfl (infoAd o.A) ?_; simp only [Act.put, List.setIfInBounds_toArray, List.set_cons_succ, List.set_cons_zero, Array.toArray_toList]; go_big_quiet_on)
      | (go_big_quiet_want; refine quiet_load_mid 44 _ rfl w.heap.size 21 (wa o.K).toList rfl (fun w2 hw2 => by obtain ⟨g1, rfl⟩ := hw2; exact eK g1) Tryz.underlying44 rfl (infoW4 o.K) ?_; simp only [Act.put, List.setIfInBounds_toArray, List.set_cons_succ, List.set_cons_zero, Array.toArray_toList]; go_big_quiet_on)
      | go_big_quiet_step (first
        | (go_at_call 9; with_reducible exact calls_ext (KF.out _))
        | (go_at_call 31; with_reducible exact calls_ext (KEmpty.out _))
        | (go_at_call 32; with_reducible exact calls_ext (KNonce.out _))
        | (go_at_call 33; with_reducible exact calls_ext (KBalance.out _))
        | (go_at_call 23; with_reducible exact calls_ext (KCode.out _))
        | (go_at_call 28; with_reducible exact calls_ext (KLoad.out _))
        | (go_at_call 34; with_reducible exact calls_ext (KFirst.out _))
        | (go_at_call 35; with_reducible exact calls_ext (KRefund.out _))
        | (go_at_call 24; with_reducible exact calls_ext (KLogs.out _))
        | (go_at_call 36; with_reducible exact calls_ext (KDestroyed.out _))
        | (go_at_call 25; with_reducible exact calls_ext (KChanges.out _))
        | (go_at_call 17; with_reducible exact calls_ext (KMark.out _))))
    refine wpQuiet_nil ?_
    rintro w' ⟨gg, rfl⟩
    have HG := Lib.hid (HB.out.trans ((B5.out.trans (gg.below.mono B5.out.size)).mono HB.out.size))
    generalize gg.on = wg at *
    clear eA eK
    go_wp2_with fail
    go_ret
    exact ⟨rfl, HG.out⟩
  · have c1 : decide (300 < (o.da.length : Int)) = true := by simp; omega
    clear f0 bW sW h
    go_enter Tryz.func6, Tryz.ntmps6
    go_upto_region 1 with fail
    clear hW
    go_wp2_with (go_at_call 9; refine (KF.out _).mono ?_; rintro e w4 ⟨rfl, b4⟩; have HB4 := Lib.hid (HB.out.trans (b4.mono HB.out.size)); clear b4)
    go_ret
    exact ⟨rfl, HB4.out⟩
end Go.Proofs.YtnjeoeekidnffaaGreat
/- Stage 14: the statements' argument, a call of a state, as it reads. -/
namespace Go.Proofs.YtnjeoeekidnffaaGreat
open Go.ChangeShapes Go.WideShapes Go.ChangeAt Go.RowKit SmWord
set_option maxRecDepth 100000

theorem laidOutO : laidOutB Tryz.prog = true := by kernel_rfl
theorem cellsOp31 : Tryz.prog.cellsOf 47 = 31 := by kernel_rfl
theorem cellsInt1 : Tryz.prog.cellsOf 3 = 1 := by kernel_rfl
theorem cellsW44 : Tryz.prog.cellsOf 44 = 4 := by kernel_rfl
section
variable {H : Type} {enc : TypeId × Value → H} {W : World} {base : Nat} {v : Value} {d : DataW H} {p : List MemPlace}
theorem open_op31 {fuel : Nat} {cs : List Value} {y : DataW H × List MemPlace} (hl : cs.length = 31) (hf : DataW.trod enc Tryz.prog W 0 (fun _ => true) true fuel 47 cs = some y) : ∃ o : OpD, cs = oC o ∧ OpY (hp W) o := by
  obtain ⟨ys, n', _, _, hlen, hys, hg⟩ := DataW.trod_struct Tryz.underlying47 hf
  have hys6 : ys.length = 6 := hys
  have g0 : DataW.trod enc Tryz.prog W 0 (fun _ => true) true n' 3 ((cs.drop 0).take (Tryz.prog.cellsOf 3)) = ys[0]? := hg 0 _ rfl
  have g1 : DataW.trod enc Tryz.prog W 0 (fun _ => true) true n' 41 ((cs.drop 1).take (Tryz.prog.cellsOf 41)) = ys[1]? := hg 1 _ rfl
  have g2 : DataW.trod enc Tryz.prog W 0 (fun _ => true) true n' 44 ((cs.drop 21).take (Tryz.prog.cellsOf 44)) = ys[2]? := hg 2 _ rfl
  have g3 : DataW.trod enc Tryz.prog W 0 (fun _ => true) true n' 44 ((cs.drop 25).take (Tryz.prog.cellsOf 44)) = ys[3]? := hg 3 _ rfl
  have g4 : DataW.trod enc Tryz.prog W 0 (fun _ => true) true n' 42 ((cs.drop 29).take (Tryz.prog.cellsOf 42)) = ys[4]? := hg 4 _ rfl
  have g5 : DataW.trod enc Tryz.prog W 0 (fun _ => true) true n' 45 ((cs.drop 30).take (Tryz.prog.cellsOf 45)) = ys[5]? := hg 5 _ rfl
  rw [cellsInt1] at g0
  rw [cellsA] at g1
  rw [cellsW44] at g2 g3
  rw [cellsU64] at g4
  rw [cellsSl8] at g5
  rw [List.getElem?_eq_getElem (by omega)] at g0 g1 g2 g3 g4 g5
  have d1 : ∀ i, (hi : i < 31) → (cs.drop i).take 1 = [cs[i]] := fun i hi => by rw [List.drop_eq_getElem_cons (by omega)]; rfl
  rw [d1 0 (by omega)] at g0
  rw [d1 29 (by omega)] at g4
  rw [d1 30 (by omega)] at g5
  obtain ⟨z, ez, _, _⟩ := DataW.trod_int Tryz.underlying3 g0
  obtain ⟨A, eA, hA⟩ := open_a20 (by simp; omega) g1
  obtain ⟨a, ea, ha⟩ := open_w4 (by simp; omega) g2
  obtain ⟨b, eb, hb⟩ := open_w4 (by simp; omega) g3
  obtain ⟨n, en, _, wn⟩ := DataW.trod_int Tryz.underlying42 g4
  obtain ⟨n0, rfl, bn⟩ := wf_u64 wn
  obtain ⟨da, h5, h5'⟩ := open_code g5
  refine ⟨⟨z, A, a, b, n0, da, cs[30]⟩, ?_, ⟨hA, ha, hb, bn, h5, h5'⟩⟩
  unfold oC
  simp only
  rw [← eA, ← ea, ← eb]
  have ez' : cs[0] = .int .i64 z := by simpa using ez
  have en' : cs[29] = .int .u64 (n0 : Int) := by simpa using en
  rw [← ez', ← en']
  have p0 : cs = cs[0] :: cs.drop 1 := by rw [← List.drop_eq_getElem_cons (by omega), List.drop_zero]
  have p1 : cs.drop 1 = (cs.drop 1).take 20 ++ cs.drop 21 := by
    have := (List.take_append_drop 20 (cs.drop 1)).symm
    rwa [List.drop_drop] at this
  have p2 : cs.drop 21 = (cs.drop 21).take 4 ++ cs.drop 25 := by
    have := (List.take_append_drop 4 (cs.drop 21)).symm
    rwa [List.drop_drop] at this
  have p3 : cs.drop 25 = (cs.drop 25).take 4 ++ cs.drop 29 := by
    have := (List.take_append_drop 4 (cs.drop 25)).symm
    rwa [List.drop_drop] at this
  have p4 : cs.drop 29 = [cs[29], cs[30]] := by
    rw [List.drop_eq_getElem_cons (by omega), List.drop_eq_getElem_cons (by omega), List.drop_eq_nil_of_le (by omega)]
  rw [← p4, ← p3, ← p2, ← p1, ← p0]
theorem open_opY (hv : Value.okWide Tryz.prog W .any base 47 v) (h : DataW.Trod enc Tryz.prog W 0 (fun _ => true) true 47 v d p) : ∃ o : OpD, v = .agg (oC o).toArray ∧ OpY (hp W) o := by
  obtain ⟨cs, rfl, hsz, _⟩ : ∃ cs, v = .agg cs ∧ cs.size = Tryz.prog.cellsOf 47 ∧ Row.okWide Tryz.prog W .any base 47 cs := by
    simpa [Value.okWide, Tryz.underlying47] using hv
  rw [cellsOp31] at hsz
  obtain ⟨fuel, hf⟩ := h
  obtain ⟨x, e, hx⟩ := open_op31 (by simpa [Value.cells] using hsz) hf
  exact ⟨x, by rw [← e]; simp [Value.cells], hx⟩
end
end Go.Proofs.YtnjeoeekidnffaaGreat
