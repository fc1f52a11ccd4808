/- Stage 14: an arm of the statements' do. -/
import Derived.Test.YtnjeoeekidnffaaGreatNr
import Derived.Laws.AppendOwn
namespace Go.Proofs.YtnjeoeekidnffaaGreat
open Go.RowKit SmWord Go.Maps
set_option maxRecDepth 100000

theorem step_append_runB {P : Program} {ops : Array Oper} {o : Oper} {a : Act} {w : World} {K : Act → World → Prop} {Q : Exit → Act → World → Prop} {E : Prop}
    (hg : o.guard = none) (s x : Operand) (t tn : TypeId) (hop : o.op = Op.call { callee := Callee.builtin Builtin.append, args := #[s, x], argTypes := #[t, tn] })
    (vs vx : Value) (hs : a.eval s = vs) (hx : a.eval x = vx) (v' : Value) (w' : World) (hr : (Builtin.append_ #[t, tn] o.type #[vs, vx]).run P w = .ok v' w') (hK : K (a.put o.dst v') w') :
    if Region.wanted o (yielded ops a.tmps) = true then Oper.wp P o a w K Q else E := by
  have hw : Region.wanted o (yielded ops a.tmps) = true := by simp [Region.wanted, hg]
  rw [if_pos hw]
  exact Lib.wp_append_run w s x t tn hop vs vx hs hx v' w' hr hK
theorem info2 : (Tryz.prog.info? 106).map (fun i => (i.zero, i.size, i.bytes)) = some (some (.agg #[.int .i64 0, .int .i64 0]), 2, 16) := by kernel_rfl
theorem run_bslice2 (x y : Int) (w : World) : (Instr.buildSlice 38 1 #[(0, .agg #[.int .i64 x, .int .i64 y])]).run Tryz.prog w = .ok (.slice (some ⟨w.heap.size, 0, none⟩) 1 1) (w.alloc (.cells #[.int .i64 x, .int .i64 y] 106)) := by kernel_rfl
theorem wpList_bslice2 {ops : Array Oper} {rest : List Oper} {o : Oper} {a : Act} {w : World} {Q : Exit → Act → World → Prop} (hg : o.guard = none) (p : Operand) (ho : o.op = .buildSlice 38 1 #[(0, p)]) (x y : Int) (hp : a.eval p = .agg #[.int .i64 x, .int .i64 y]) (h : wpList Tryz.prog ops Q rest (a.put o.dst (.slice (some ⟨w.heap.size, 0, none⟩) 1 1)) (w.alloc (.cells #[.int .i64 x, .int .i64 y] 106))) : wpList Tryz.prog ops Q (o :: rest) a w := by
  refine wpList_plain hg fun K hK => ?_
  have hr := run_bslice2 x y w
  unfold Oper.wp
  simp [execOp, ho, hp, hr, Result.andThen]
  exact hK _ _ h
set_option maxHeartbeats 8000000 in
theorem do_10 {base base0 : Nat} (sv mk : Value) (d : Dst) (o : OpD) (w : World) (m pn pc n : Nat) (pA : Option Addr) (xs : List Value) (hd : d.One) (hps : d.ps = .slice pA pn pc) (hk : o.kd = 10) (hb : base ≤ base0) (hb0 : base0 ≤ w.heap.size) (hown : w.ownsRow base0 106 2 mk n xs) (hn : n ≤ 1000000)
    (H1 : Hid (∀ w1, Below w.heap.size w w1 → Calls Tryz.prog 17 #[sv] w1 fun e w2 => e = .returned (.int .i64 (m : Int)) ∧ w2 = w1)) :
    Calls Tryz.prog 13 #[sv, .agg (dC d), mk, .agg (oC o).toArray] w fun e w' => ∃ mk', e = .returned (.tuple #[.bool true, .agg (dC d), mk']) ∧ w'.ownsRow base0 106 2 mk' (n + 1) (xs ++ [.int .i64 (m : Int), .int .i64 (pn : Int)]) ∧ (∀ b, b < w.heap.size → mk.ownBlock ≠ some b → w'.heap[b]? = w.heap[b]?) ∧ Below base w w' := by
  obtain ⟨mA, mc, rfl⟩ := own_slz hown
  obtain ⟨V, hV, f0, f1, f2, bW, sW⟩ := oboxes w d o
  have hsA := aN_size o.A
  have hsw := wa_size
  have F10 := f1
  have HB := Lib.hid bW
  have F0 := Lib.hid f0
  have F2 := Lib.hid f2
  have SV := Lib.hid sW
  have c00 : V.cell? ⟨w.heap.size + 1, 0, none⟩ = some (.int .i64 10) := blk_cell F10 (by simpa [hk] using oC_kd o)
  have cN0 : V.cell? ⟨w.heap.size + 1, 29, none⟩ = some (.int .u64 (o.N : Int)) := blk_cell F10 (by simpa using oC_N o)
  have cD0 : V.cell? ⟨w.heap.size + 1, 30, none⟩ = some o.dv := blk_cell F10 (by simpa using oC_dv o)
  have rg0 := rng_block (w := V) (cs := oC o) F10
  have rA0 := (oC_A rg0).at
  have rK0 := (oC_K rg0).at
  have rV0 := (oC_V rg0).at
  have cps : V.cell? ⟨w.heap.size, 7, none⟩ = some (.slice pA pn pc) := blk_cell f0 (by rw [← hps]; rfl)
  have HMK := Lib.hid (H1.out V bW)
  have HO0 := Lib.hid hown
  have HOV := Lib.hid (own_same (w' := V) hown fun b hb => bW.block b (World.ownsRow.lt hown b hb).2)
  clear f0 f1 f2 bW sW hk
  go_enter Tryz.func13, Tryz.ntmps13
  go_upto_region 1 with (refine wpList_alloc_row rfl 37 rfl _ zeroD ?_)
  try rw [hV]
  clear hV
  go_upto_region 43 with fail
  have cpd : V.drew.cell? ⟨w.heap.size, 7, none⟩ = some (.slice pA pn pc) := cps
  have HMD := Lib.hid (H1.out V.drew HB.out.drew)
  have HOd : V.drew.ownsRow base0 106 2 (.slice mA n mc) n xs := own_same HOV.out fun b hb => rfl
  have HOa := Lib.hid (own_same (w' := V.drew.alloc (.cells #[.int .i64 (m : Int), .int .i64 (pn : Int)] 106)) HOd fun b hb => by
    obtain ⟨cs, e⟩ := own_blk HOd hb
    rw [e]
    exact blk_alloc e)
  have hVs := HB.out.size
  obtain ⟨i0, hi0, hz0, hz1, hz2⟩ := info_parts info2
  have hnew : (V.drew.alloc (.cells #[.int .i64 (m : Int), .int .i64 (pn : Int)] 106)).heap[V.drew.heap.size]? = some (.cells #[.int .i64 (m : Int), .int .i64 (pn : Int)] 106) := heap_alloc_new _ _
  obtain ⟨v6, w6, hrun, ho6, hg6, -⟩ := run_append_own (P := Tryz.prog) (V.drew.alloc (.cells #[.int .i64 (m : Int), .int .i64 (pn : Int)] 106)) base0 38 38 106 i0 (.agg #[.int .i64 0, .int .i64 0]) 2 16 Tryz.underlying38 hi0 hz0 hz1 hz2 (by simp [Value.cells]) (by decide) (.slice mA n mc) n xs HOa.out ⟨V.drew.heap.size, 0, none⟩ 1 1 [.int .i64 (m : Int), .int .i64 (pn : Int)] rfl (fun j u hj => by
    rw [Addr.add_mid]
    exact (rng_block (cs := [.int .i64 (m : Int), .int .i64 (pn : Int)]) hnew).at j u hj) (by simp; exact ⟨rfl, rfl⟩) (by simp [maxLen]; omega) (by omega) (by simp; omega)
  have HRUN := Lib.hid hrun
  have hltb : ∀ b, Value.ownBlock (.slice mA n mc) = some b → b < w.heap.size := fun b hb => (World.ownsRow.lt HO0.out b hb).2
  have hbs := run_bslice2 (m : Int) (pn : Int)
  have hS6 : w6.cell? ⟨w.heap.size, 7, none⟩ = some (.slice pA pn pc) := by
    have h1 : w6.heap[w.heap.size]? = some (.cells (dC d) 37) := (hg6.block w.heap.size (by have hds : V.drew.heap.size = V.heap.size := rfl; have := SV.out; simp; omega) (fun h => by have := hltb _ h.symm; omega)).trans (blk_alloc (show V.drew.heap[w.heap.size]? = some (.cells (dC d) 37) from F0.out))
    exact blk_cell h1 (by rw [← hps]; rfl)
  have HS6 := Lib.hid hS6
  have hcpa : (V.drew.alloc (.cells #[.int .i64 (m : Int), .int .i64 (pn : Int)] 106)).cell? ⟨w.heap.size, 7, none⟩ = some (.slice pA pn pc) := blk_cell (blk_alloc (show V.drew.heap[w.heap.size]? = some (.cells (dC d) 37) from F0.out)) (by rw [← hps]; rfl)
  have HCP := Lib.hid hcpa
  clear hrun hps hS6 hcpa hnew
  refine wp_region_held_drew (S := (fun w' => w'.cell? ⟨w.heap.size, 7, none⟩ = some (.slice pA pn pc))) (by kernel_rfl) cpd (fun hHeld => ?_)
  refine wpAnyH_take (i := 0) (oi := ⟨_, _, _, _, _, _⟩) (v := ?_) rfl (by kernel_rfl) (by kernel_rfl) (by kernel_rfl) (fun _ _ _ h => h) (Or.inl ⟨by rfl, ?_⟩) (by assumption) ?_
  rotate_left
  · (intro w hSw; first | (go_simp; done) | (go_simp; with_reducible rfl))
  try simp only [Act.put, List.setIfInBounds_toArray, List.set_cons_zero, List.set_cons_succ]
  refine wpAnyH_take (i := 1) (oi := ⟨_, _, _, _, _, _⟩) (v := ?_) rfl (by kernel_rfl) (by kernel_rfl) (by kernel_rfl) (fun _ _ _ h => h) (Or.inl ⟨by rfl, ?_⟩) (by assumption) ?_
  rotate_left
  · (intro w hSw; first | (go_simp; done) | (go_simp; with_reducible rfl))
  try simp only [Act.put, List.setIfInBounds_toArray, List.set_cons_zero, List.set_cons_succ]
  refine wpAnyH_take (i := 3) (oi := ⟨_, _, _, _, _, _⟩) (v := ?_) rfl (by kernel_rfl) (by kernel_rfl) (by kernel_rfl) (fun _ _ _ h => h) (Or.inl ⟨by rfl, ?_⟩) (by assumption) ?_
  rotate_left
  · (intro w hSw; first | (go_simp; done) | (go_simp; with_reducible rfl))
  try simp only [Act.put, List.setIfInBounds_toArray, List.set_cons_zero, List.set_cons_succ]
  refine wpAnyH_take (i := 4) (oi := ⟨_, _, _, _, _, _⟩) (v := ?_) rfl (by kernel_rfl) (by kernel_rfl) (by kernel_rfl) (fun _ _ _ h => h) (Or.inl ⟨by rfl, ?_⟩) (by assumption) ?_
  rotate_left
  · (intro w hSw; first | (go_simp; done) | (go_simp; with_reducible rfl))
  try simp only [Act.put, List.setIfInBounds_toArray, List.set_cons_zero, List.set_cons_succ]
  refine wpAnyH_take (i := 5) (oi := ⟨_, _, _, _, _, _⟩) (v := ?_) rfl (by kernel_rfl) (by kernel_rfl) (by kernel_rfl) (fun _ _ _ h => h) (Or.inl ⟨by rfl, ?_⟩) (by assumption) ?_
  rotate_left
  · (intro w hSw; first | (go_simp; done) | (go_simp; with_reducible rfl))
  try simp only [Act.put, List.setIfInBounds_toArray, List.set_cons_zero, List.set_cons_succ]
  refine wpAnyH_ready (rs := [2]) (by kernel_rfl) (by simp) ?_
  refine AllReadyH.cons (o := ⟨_, _, _, _, _, _⟩) rfl (fun K hK => ?_) AllReadyH.nil
  go_simp
  go_wp2_with (go_at_call 17; refine HMD.out.mono ?_; rintro e w5 ⟨rfl, rfl⟩)
  refine hK.out _ _ cpd (fun hHeld => ?_)
  clear hK K
  try simp only [Act.put, List.setIfInBounds_toArray, List.set_cons_zero, List.set_cons_succ]
  refine wpAnyH_take (i := 6) (oi := ⟨_, _, _, _, _, _⟩) (v := ?_) rfl (by kernel_rfl) (by kernel_rfl) (by kernel_rfl) (fun _ _ _ h => h) (Or.inl ⟨by rfl, ?_⟩) (by assumption) ?_
  rotate_left
  · (intro w hSw; first | (go_simp; done) | (go_simp; with_reducible rfl))
  try simp only [Act.put, List.setIfInBounds_toArray, List.set_cons_zero, List.set_cons_succ]
  refine wpAnyH_ready (rs := [7]) (by kernel_rfl) (by simp) ?_
  refine AllReadyH.cons (o := ⟨_, _, _, _, _, _⟩) rfl (fun K hK => ?_) AllReadyH.nil
  go_simp
  refine hK.out _ _ HCP.out (fun hHeld => ?_)
  clear hK K
  try simp only [Act.put, List.setIfInBounds_toArray, List.set_cons_zero, List.set_cons_succ]
  refine wpAnyH_ready (rs := [8]) (by kernel_rfl) (by simp) ?_
  refine AllReadyH.cons (o := ⟨_, _, _, _, _, _⟩) rfl (fun K hK => ?_) AllReadyH.nil
  refine step_append_runB rfl _ _ _ _ rfl _ _ rfl rfl _ _ HRUN.out ?_
  refine hK.out _ _ HS6.out (fun hHeld => ?_)
  clear hK K
  try simp only [Act.put, List.setIfInBounds_toArray, List.set_cons_zero, List.set_cons_succ]
  refine wpAnyH_take (i := 9) (oi := ⟨_, _, _, _, _, _⟩) (v := ?_) rfl (by kernel_rfl) (by kernel_rfl) (by kernel_rfl) (fun _ _ _ h => h) (Or.inl ⟨by rfl, ?_⟩) (by assumption) ?_
  rotate_left
  · (intro w hSw; first | (go_simp; done) | (go_simp; with_reducible rfl))
  try simp only [Act.put, List.setIfInBounds_toArray, List.set_cons_zero, List.set_cons_succ]
  refine wpAnyH_done (by kernel_rfl) ?_ _
  clear hHeld
  obtain ⟨A6, c6, rfl⟩ := own_slz ho6
  have hlt := hltb
  have hsv := SV.out
  have hkeep : ∀ b o, V.heap[b]? = some o → Value.ownBlock (.slice mA n mc) ≠ some b → w6.heap[b]? = some o := fun b o hbo hne => by
    have hbl := (Array.getElem?_eq_some_iff.1 hbo).1
    exact (hg6.block b (by simp; show b < V.heap.size + 1; omega) (fun h => hne h.symm)).trans (blk_alloc (show V.drew.heap[b]? = some o from hbo))
  have G27 : w6.heap[w.heap.size + 2]? = some (.cells (dC dst0) 37) := hkeep _ _ F2.out (fun h => by have := hlt _ h; omega)
  have g07 : w6.heap[w.heap.size]? = some (.cells (dC d) 37) := hkeep _ _ F0.out (fun h => by have := hlt _ h; omega)
  have HKB := Lib.hid (show ∀ b, b < w.heap.size → Value.ownBlock (.slice mA n mc) ≠ some b → w6.heap[b]? = w.heap[b]? from fun b hb hne => by
    obtain ⟨o', ho'⟩ : ∃ o', w.heap[b]? = some o' := ⟨w.heap[b], by simp [hb]⟩
    rw [hkeep b o' ((HB.out.block b hb).trans ho') hne, ho'])
  have B7 : Below base w w6.drew := ((((HB.out.mono (by omega)).drew.alloc (by show base ≤ V.heap.size; omega) _).grown hg6 (by have hds : V.drew.heap.size = V.heap.size := rfl; simp; omega) (fun k hk => by have := (World.ownsRow.lt HOa.out k hk).1; omega))).drew
  have HO6 := Lib.hid ho6
  have HOX := Lib.hid (show ∀ b, Value.ownBlock (.slice A6 (n + 1) c6) = some b → b ≠ w.heap.size + 2 from fun b hb hE => by
    obtain ⟨cs, e⟩ := own_blk ho6 hb
    rw [hE, G27] at e
    simp at e)
  have hone := hd.arr
  have hd1 := hd
  have hQ := True.intro
  have b3 := True.intro
  have r7 := True.intro
  have KD := True.intro
  have s1 := True.intro
  clear c00 cN0 cD0 rg0 rA0 rK0 rV0 F10 cps cpd HMD HMK HOd HOa HOV ho6 hg6 hkeep F0 F2 HB hbs HRUN HS6 HCP
  go_wp2_with fail
  obtain ⟨wz, hwz⟩ : ∃ wz, w6 = wz := ⟨_, rfl⟩
  rw [hwz] at G27 g07 B7 HO6 HKB ⊢
  have q1d : wz.drew.heap[w.heap.size]? = some (.cells (dC d) 37) := g07
  have q0d : wz.drew.heap[w.heap.size + 2]? = some (.cells (dC dst0) 37) := G27
  have k1 := store_dst d hd1 rfl q0d
  have q2 : (wz.drew.setRow (w.heap.size + 2) (dC d)).heap[w.heap.size]? = some (.cells (dC d) 37) := blk_row_other q1d (by omega)
  have Q3 := Lib.hid (blk_row (c' := dC d) q0d)
  obtain ⟨e0, e1, e2, e3, e4, e5, e6, e7⟩ := dst_cells q1d
  obtain ⟨g0, g1, g2, g3, g4, g5, g6, g7⟩ := dst_cells q2
  have hsz8 : ∀ d : Dst, (dC d).size = 8 := fun _ => rfl
  have ft : #[d.w, d.l, d.wm, d.sl, Value.int .i64 d.rf, d.lg, Value.bool d.tr, d.ps] = dC d := rfl
  have fl : [d.w, d.l, d.wm, d.sl, Value.int .i64 d.rf, d.lg, Value.bool d.tr, d.ps] = (dC d).toList := rfl
  have HWZ := Lib.hid hwz
  have HQ := Lib.hid hQ
  have HD1 := Lib.hid hd1
  have BF := Lib.hid (below_setRow B7 (show base ≤ w.heap.size + 2 by omega) (dC d))
  clear q1d q0d q2 G27 g07 B7 hwz hQ hd1 b3 hone r7 KD
  try simp only [Act.put]
  go_region
  go_wp2_with fail
  refine bodyPost_ret (v := .tuple #[.bool true, .agg (dC d), .slice A6 (n + 1) c6]) (results_tct rfl _ _ (w.heap.size + 2) 37 _ (0, 0) _ _ _ rfl Q3.out Tryz.underlying37 rfl (by simpa using infoD (d := d)) rfl rfl) rfl ⟨_, rfl, own_same HO6.out fun b hb => ?_, fun b hb hne => ?_, BF.out⟩
  · exact setRow_other _ _ _ _ (HOX.out b hb)
  · exact (setRow_other _ _ _ _ (by omega)).trans (HKB.out b hb hne)
end Go.Proofs.YtnjeoeekidnffaaGreat
