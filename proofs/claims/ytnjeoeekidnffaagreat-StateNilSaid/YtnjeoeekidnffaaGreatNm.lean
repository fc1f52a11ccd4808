/- Stage 14: the document's With. -/
import Derived.Test.YtnjeoeekidnffaaGreatNl
namespace Go.Proofs.YtnjeoeekidnffaaGreat
open Go.RowKit SmWord Go.Maps
set_option maxRecDepth 100000

theorem list29 {l : Array Value} (h : l.size = 29) : ∃ x0 x1 x2 x3 x4 x5 x6 x7 x8 x9 x10 x11 x12 x13 x14 x15 x16 x17 x18 x19 x20 x21 x22 x23 x24 x25 x26 x27 x28, l = #[x0, x1, x2, x3, x4, x5, x6, x7, x8, x9, x10, x11, x12, x13, x14, x15, x16, x17, x18, x19, x20, x21, x22, x23, x24, x25, x26, x27, x28] := by
  obtain ⟨l⟩ := l
  simp at h
  obtain _ | ⟨x0, l⟩ := l; · simp at h
  obtain _ | ⟨x1, l⟩ := l; · simp at h
  obtain _ | ⟨x2, l⟩ := l; · simp at h
  obtain _ | ⟨x3, l⟩ := l; · simp at h
  obtain _ | ⟨x4, l⟩ := l; · simp at h
  obtain _ | ⟨x5, l⟩ := l; · simp at h
  obtain _ | ⟨x6, l⟩ := l; · simp at h
  obtain _ | ⟨x7, l⟩ := l; · simp at h
  obtain _ | ⟨x8, l⟩ := l; · simp at h
  obtain _ | ⟨x9, l⟩ := l; · simp at h
  obtain _ | ⟨x10, l⟩ := l; · simp at h
  obtain _ | ⟨x11, l⟩ := l; · simp at h
  obtain _ | ⟨x12, l⟩ := l; · simp at h
  obtain _ | ⟨x13, l⟩ := l; · simp at h
  obtain _ | ⟨x14, l⟩ := l; · simp at h
  obtain _ | ⟨x15, l⟩ := l; · simp at h
  obtain _ | ⟨x16, l⟩ := l; · simp at h
  obtain _ | ⟨x17, l⟩ := l; · simp at h
  obtain _ | ⟨x18, l⟩ := l; · simp at h
  obtain _ | ⟨x19, l⟩ := l; · simp at h
  obtain _ | ⟨x20, l⟩ := l; · simp at h
  obtain _ | ⟨x21, l⟩ := l; · simp at h
  obtain _ | ⟨x22, l⟩ := l; · simp at h
  obtain _ | ⟨x23, l⟩ := l; · simp at h
  obtain _ | ⟨x24, l⟩ := l; · simp at h
  obtain _ | ⟨x25, l⟩ := l; · simp at h
  obtain _ | ⟨x26, l⟩ := l; · simp at h
  obtain _ | ⟨x27, l⟩ := l; · simp at h
  obtain _ | ⟨x28, l⟩ := l; · simp at h
  obtain rfl : l = [] := by simpa using h
  exact ⟨_, _, _, _, _, _, _, _, _, _, _, _, _, _, _, _, _, _, _, _, _, _, _, _, _, _, _, _, _, rfl⟩
theorem run_bslice29 (x0 x1 x2 x3 x4 x5 x6 x7 x8 x9 x10 x11 x12 x13 x14 x15 x16 x17 x18 x19 x20 x21 x22 x23 x24 x25 x26 x27 x28 : Value) (w : World) : (Instr.buildSlice 31 1 #[(0, .agg #[x0, x1, x2, x3, x4, x5, x6, x7, x8, x9, x10, x11, x12, x13, x14, x15, x16, x17, x18, x19, x20, x21, x22, x23, x24, x25, x26, x27, x28])]).run Tryz.prog w = .ok (.slice (some ⟨w.heap.size, 0, none⟩) 1 1) (w.alloc (.cells #[x0, x1, x2, x3, x4, x5, x6, x7, x8, x9, x10, x11, x12, x13, x14, x15, x16, x17, x18, x19, x20, x21, x22, x23, x24, x25, x26, x27, x28] 109)) := by kernel_rfl
theorem run_bslice_e (t : EnV) (w : World) : (Instr.buildSlice 31 1 #[(0, .agg (enC t).toArray)]).run Tryz.prog w = .ok (.slice (some ⟨w.heap.size, 0, none⟩) 1 1) (w.alloc (.cells (enC t).toArray 109)) := by
  obtain ⟨x0, x1, x2, x3, x4, x5, x6, x7, x8, x9, x10, x11, x12, x13, x14, x15, x16, x17, x18, x19, x20, x21, x22, x23, x24, x25, x26, x27, x28, e⟩ := list29 (l := (enC t).toArray) (by simp [enC_len])
  rw [e]
  exact run_bslice29 x0 x1 x2 x3 x4 x5 x6 x7 x8 x9 x10 x11 x12 x13 x14 x15 x16 x17 x18 x19 x20 x21 x22 x23 x24 x25 x26 x27 x28 w
theorem wpList_bslice_e {ops : Array Oper} {rest : List Oper} {o : Oper} {a : Act} {w : World} {Q : Exit → Act → World → Prop} (hg : o.guard = none) (x : Operand) (ho : o.op = .buildSlice 31 1 #[(0, x)]) (t : EnV) (hx : a.eval x = .agg (enC t).toArray) (h : wpList Tryz.prog ops Q rest (a.put o.dst (.slice (some ⟨w.heap.size, 0, none⟩) 1 1)) (w.alloc (.cells (enC t).toArray 109))) : wpList Tryz.prog ops Q (o :: rest) a w := by
  refine wpList_plain hg fun K hK => ?_
  have hr := run_bslice_e t w
  unfold Oper.wp
  simp [execOp, ho, hx, hr, Result.andThen]
  exact hK _ _ h
theorem own_emptyE (w : World) (base : Nat) (hb : base ≤ w.heap.size) : (w.alloc (.cells #[] 109)).ownsRow base 109 29 (.slice (some ⟨w.heap.size, 0, none⟩) 0 0) 0 [] :=
  ⟨rfl, .inr ⟨w.heap.size, 0, #[], rfl, hb, heap_alloc_new _ _, Nat.le_refl _, by simp [maxLen], rfl, rfl⟩⟩
theorem infoE29 : (Tryz.prog.info? 109).map (fun i => (i.zero, i.size, i.bytes)) = some (some (.agg (enC ⟨noneAV, false, false⟩).toArray), 29, 120) := by kernel_rfl
theorem rowOneE {w : World} {t : EnV} {b : Nat} (h : w.heap[b]? = some (.cells (enC t).toArray 109)) : RowZ (hp w) (.slice (some ⟨b, 0, none⟩) 1 1) 1 29 (enC t) :=
  ⟨by simp [enC_len], some ⟨b, 0, none⟩, 1, rfl, Nat.le_refl _, by simp [maxLen], fun h => by simp at h, fun _ => ⟨b, 0, rfl, rng_block h⟩⟩
theorem wboxes3 (w : World) (d : Dst) (x : EnV) : ∃ W, ((w.alloc (.cells (dC d) 37)).alloc (.cells (enC x).toArray 109)).alloc (.cells (dC dst0) 37) = W ∧ W.heap[w.heap.size]? = some (.cells (dC d) 37) ∧ W.heap[w.heap.size + 1]? = some (.cells (enC x).toArray 109) ∧ W.heap[w.heap.size + 2]? = some (.cells (dC dst0) 37) ∧ Below w.heap.size w W ∧ W.heap.size = w.heap.size + 3 := by
  obtain ⟨w1, h1⟩ : ∃ w1, w.alloc (.cells (dC d) 37) = w1 := ⟨_, rfl⟩
  have s1 : w1.heap.size = w.heap.size + 1 := h1 ▸ by simp
  have g1 : w1.heap[w.heap.size]? = some (.cells (dC d) 37) := h1 ▸ heap_alloc_new _ _
  have b1 : Below w.heap.size w w1 := h1 ▸ (Below.refl _ _).alloc (Nat.le_refl _) _
  obtain ⟨w2, h2⟩ : ∃ w2, w1.alloc (.cells (enC x).toArray 109) = w2 := ⟨_, rfl⟩
  have s2 : w2.heap.size = w.heap.size + 2 := h2 ▸ by simp [s1]
  have g2 : w2.heap[w.heap.size + 1]? = some (.cells (enC x).toArray 109) := by rw [← s1]; exact h2 ▸ heap_alloc_new _ _
  have b2 : Below w1.heap.size w1 w2 := h2 ▸ (Below.refl _ _).alloc (Nat.le_refl _) _
  obtain ⟨w3, h3⟩ : ∃ w3, w2.alloc (.cells (dC dst0) 37) = w3 := ⟨_, rfl⟩
  have g3 : w3.heap[w.heap.size + 2]? = some (.cells (dC dst0) 37) := by rw [← s2]; exact h3 ▸ heap_alloc_new _ _
  have b3 : Below w2.heap.size w2 w3 := h3 ▸ (Below.refl _ _).alloc (Nat.le_refl _) _
  exact ⟨w3, by rw [h1, h2, h3], stay b3 (stay b2 g1), stay b3 g2, g3, (b1.trans (b2.mono b1.size)).trans (b3.mono (by omega)), h3 ▸ by simp [s2]⟩
/-- The entries without one of an address. -/
def woE (W : List EnV) (A : Nat) : List EnV := W.filter fun y => decide (y.x.a.ad ≠ A)
theorem woE_succ {W : List EnV} {A k : Nat} {y : EnV} (h : W[k]? = some y) : woE (W.take (k + 1)) A = woE (W.take k) A ++ (if y.x.a.ad = A then [] else [y]) := by
  unfold woE
  rw [List.take_add_one, h]
  simp only [Option.toList_some, List.filter_append, List.filter_cons, List.filter_nil]
  by_cases e : y.x.a.ad = A <;> simp [e]
end Go.Proofs.YtnjeoeekidnffaaGreat
/- Stage 14: the document's With, walked. -/
namespace Go.Proofs.YtnjeoeekidnffaaGreat
open Go.RowKit SmWord Go.Maps
set_option maxRecDepth 100000

theorem EnsZ.sub {Z Z' : Hp} {v : Value} {l : List EnV} (h : EnsZ Z v l) (hs : Sub Z Z') : EnsZ Z' v l := ⟨h.row.sub hs, fun e he => (h.each e he).sub hs⟩
theorem own_slE {w : World} {base : Nat} {e : TypeId} {k n : Nat} {v : Value} {xs : List Value} (h : w.ownsRow base e k v n xs) : ∃ A c, v = .slice A n c := by
  rcases h.2 with ⟨rfl, rfl⟩ | ⟨g, cap, cur, rfl, _⟩
  · exact ⟨none, 0, rfl⟩
  · exact ⟨_, cap, rfl⟩
theorem enC_mem {Z : Hp} {e : EnV} (h : AccZ Z e.x) : ∀ u ∈ enC e, u.oneCell' = true := fun u hu => by
  have := Array.all_eq_true_iff_forall_mem.1 (enC_ones h)
  exact this u (by simpa using hu)
set_option maxHeartbeats 4000000 in
theorem with_walk {Z : Hp} {W : List EnV} (R : Hp → Value → Prop) (d : Dst) (x : EnV) (w : World) (hd : d.One) (h : EnsZ Z d.l W) (hx : AccZ Z x.x) (hz : Sub Z (hp w)) (hl : W.length ≤ 1000000)
    (HK : Hid (∀ w1, Below w.heap.size w w1 → Calls Tryz.prog 88 #[.agg (dC d)] w1 fun e w2 => ∃ v, e = .returned (.agg (dC { d with ps := v })) ∧ v.oneCell' = true ∧ (∃ Zk, R Zk v ∧ Sub Zk (fr w1.heap.size w2)) ∧ Below w1.heap.size w1 w2)) :
    Calls Tryz.prog 81 #[.agg (dC d), eval' x] w fun e w' => ∃ v l' Zk, e = .returned (.agg (dC { d with ps := v, l := l' })) ∧ v.oneCell' = true ∧ EnsZ (orH Z (fr w.heap.size w')) l' (woE W x.x.a.ad ++ [x]) ∧ R Zk v ∧ Sub Zk (fr w.heap.size w') ∧ Below w.heap.size w w' := by
  obtain ⟨P, c, hv, hn, hc, hP, hcells⟩ := h.row.one (fun x _ => enC_len x)
  have HX := Lib.hid h.each
  have HC : Hid (0 < W.length → ∃ b off, P = some ⟨b, off, none⟩ ∧ ∀ i y, W[i]? = some y → rng (hp w) b (off + i * 29) (enC y)) := Lib.hid fun hn => by
    obtain ⟨b, off, e, _, hi⟩ := hcells hn
    exact ⟨b, off, e, fun i y hy => (hi i y hy).sub hz⟩
  have HXX := Lib.hid hx
  have HXZ := Lib.hid (hx.sub hz)
  have HE := Lib.hid fun y hy => ((h.each y hy).sub hz : AccZ (hp w) y.x)
  generalize hN : W.length = n at *
  have HN := Lib.hid hN
  clear hcells h hN hx
  have hs := aN_size x.x.a.ad
  obtain ⟨V, hV, f0, f1, f2, bW, sW⟩ := wboxes3 w d x
  have HB := Lib.hid bW
  have F0 := Lib.hid f0
  have F1 := Lib.hid f1
  have F2 := Lib.hid f2
  have SV := Lib.hid sW
  have HV := Lib.hid hv
  have KK := Lib.hid (HK.out V bW)
  have r0 := (rng_block (w := V) (cs := (dC d).toList) (by simpa [dC] using f0)).at
  have one := hd
  clear f0 f1 f2 bW sW hv HK

  unfold eval'
  go_enter Tryz.func81, Tryz.ntmps81
  go_upto_region 1 with (refine wpList_alloc_row rfl 37 rfl _ zeroD ?_)
  try rw [hV]
  clear hV
  go_upto_region 2 with (first
    | (refine wpList_load_mid rfl 37 _ rfl w.heap.size 0 rfl (dC d).toList _ r0 Tryz.underlying37 rfl infoD ?_)
    | (go_at_call 88; refine KK.out.mono ?_; rintro e w1 ⟨v, rfl, hv1, ⟨Zk, hR, hZk⟩, b1⟩; have hst1 : (dC { d with ps := v }).all (·.oneCell') = true := Dst.One.arr ⟨one.w, one.l, one.wm, one.sl, one.lg, hv1⟩; obtain ⟨d', hd'⟩ : ∃ d', ({ d with ps := v } : Dst) = d' := ⟨_, rfl⟩; rw [hd'] at hst1 ⊢; have g0 := Lib.hid (stay b1 F0.out))
    | (refine wpList_store_row rfl 37 _ _ rfl w.heap.size _ (dC d') rfl rfl g0.out (by simpa using infoD (d := d')) rfl hst1 ?_))
  have HB1 := Lib.hid (HB.out.trans (b1.mono HB.out.size))
  have G0 := Lib.hid (blk_row g0.out (c' := dC d'))
  have G1 := Lib.hid ((setRow_other w1 w.heap.size (w.heap.size + 1) (dC d') (by omega)).trans (stay b1 F1.out))
  have G2 := Lib.hid ((setRow_other w1 w.heap.size (w.heap.size + 2) (dC d') (by omega)).trans (stay b1 F2.out))
  have HB2 := Lib.hid (below_setRow HB1.out (Nat.le_refl _) (dC d'))
  have sV1 := b1.size
  have S1 := Lib.hid (show V.heap.size ≤ (w1.setRow w.heap.size (dC d')).heap.size by rw [setRow_size]; exact sV1)
  have ZK := Lib.hid (show Sub Zk (fr V.heap.size (w1.setRow w.heap.size (dC d'))) from fun b o hb => by
    have h1 := hZk b o hb
    unfold fr at h1 ⊢
    split at h1
    · rename_i hle
      rw [if_pos hle, setRow_other _ _ _ _ (by have := SV.out; omega)]
      exact h1
    · cases h1)
  have HRR := Lib.hid hR
  have hdl : d'.l = .slice P n c := by rw [← hd']; exact HV.out
  have HDL := Lib.hid hdl
  have HD' := Lib.hid hd'
  obtain ⟨w2, hw2⟩ : ∃ w2, w1.setRow w.heap.size (dC d') = w2 := ⟨_, rfl⟩
  rw [hw2] at G0 G1 G2 HB2 S1 ZK ⊢
  have HV1 := Lib.hid hv1
  clear hw2 hR hZk b1 g0 HB1 r0 KK hd' hdl hst1 sV1 hv1
  go_upto_region 3 with fail
  have HO3 := Lib.hid (own_emptyE w2 w2.heap.size (Nat.le_refl _))
  have HB3 : Hid (Below w2.heap.size w2 (w2.alloc (.cells #[] 109))) := Lib.hid ((Below.refl _ _).alloc (Nat.le_refl _) _)
  generalize w2.alloc (.cells #[] 109) = w3 at *
  have p3 : w3.cell? ⟨w.heap.size, 1, none⟩ = some (.slice P n c) := blk_cell (stay HB3.out G0.out) (by rw [← HDL.out]; rfl)
  go_wp2_with fail
  clear p3
  go_loopw [13, 5] (fun i vo wr => ∃ k : Nat, k ≤ n ∧ i = .int .i64 k ∧ Hid (wr.ownsRow w2.heap.size 109 29 vo (woE (W.take k) x.x.a.ad).length ((woE (W.take k) x.x.a.ad).flatMap enC)) ∧ Hid (Below w2.heap.size w2 wr)) (fun i _ _ => n - (intOf i).toNat)
  case atStart => exact ⟨0, Nat.zero_le _, rfl, HO3, HB3⟩
  case round =>
    obtain ⟨k, hk, rfl, HO, HW⟩ := hrel
    by_cases hlt : k < n
    · obtain ⟨b, off, rfl, hi⟩ := HC.out (by omega)
      obtain ⟨y, hy⟩ : ∃ y, W[k]? = some y := ⟨W[k]'(by rw [HN.out]; exact hlt), by simp⟩
      have HYx := Lib.hid (HX.out y (List.mem_of_getElem? hy))
      have bwr : Below w.heap.size w wr := HB2.out.trans (HW.out.mono HB2.out.size)
      have BW := Lib.hid bwr
      have HRg := Lib.hid (hi k _ hy)
      have HYg := Lib.hid hy
      have r0 : ∀ g : Ext wr, g.on.rangeAt b (off + k * 29) (aN y.x.a.ad).toList := fun g => (enC_rng (HRg.out.sub (hp_below (bwr.trans (g.below.mono bwr.size))))).at
      have r1 : ∀ g : Ext wr, g.on.rangeAt (w.heap.size + 1) 0 (aN x.x.a.ad).toList := fun g => (enC_rng (rng_block (g.block (stay HW.out G1.out)))).at
      have q1 := fun g : Ext wr => (show g.on.cell? ⟨w.heap.size, 1, none⟩ = some (.slice (some ⟨b, off, none⟩) n c) from blk_cell (g.block (stay HW.out G0.out)) (by rw [← HDL.out]; rfl))
      have eq := eq_ad y.x.a.ad x.x.a.ad HYx.out.ad HXX.out.ad
      clear hi hy bwr
      go_upto_region 6 with fail
      refine region_ext (by kernel_rfl) (by kernel_rfl) ?_
      repeat (first
        | (go_big_quiet_want; refine quiet_load_mid 41 _ rfl b (off + k * 29) (aN y.x.a.ad).toList rfl (fun w2 hw2 => by obtain ⟨g1, rfl⟩ := hw2; exact r0 g1) Tryz.underlying41 rfl (infoAd _) ?_; simp only [Act.put, List.setIfInBounds_toArray, List.set_cons_succ, List.set_cons_zero, Array.toArray_toList]; go_big_quiet_on)
        | (go_big_quiet_want; refine quiet_load_mid 41 _ rfl (w.heap.size + 1) 0 (aN x.x.a.ad).toList rfl (fun w2 hw2 => by obtain ⟨g1, rfl⟩ := hw2; exact r1 g1) Tryz.underlying41 rfl (infoAd _) ?_; simp only [Act.put, List.setIfInBounds_toArray, List.set_cons_succ, List.set_cons_zero, Array.toArray_toList]; go_big_quiet_on)
        | go_big_quiet_step (fail))
      refine wpQuiet_nil ?_
      rintro w' ⟨gg, rfl⟩
      have HWg := Lib.hid (HW.out.trans (gg.below.mono HW.out.size))
      have HBg := Lib.hid (BW.out.trans (gg.below.mono BW.out.size))
      have HOg := Lib.hid (owns_same (w' := gg.on) HO.out fun b hb => gg.below.block b (by obtain ⟨cs, e⟩ := own_blk HO.out hb; exact (Array.getElem?_eq_some_iff.1 e).1))
      clear r0 r1 eq q1
      generalize gg.on = wg at *
      by_cases e : y.x.a.ad = x.x.a.ad
      · have HE' := Lib.hid e
        simp only [e, decide_true, Bool.not_true]
        clear e
        go_wp2_with fail
        exact ⟨⟨k + 1, by omega, by go_num, Lib.hid (by rw [woE_succ HYg.out, if_pos HE'.out, List.append_nil]; exact HOg.out), HWg⟩, by simp [intOf]; omega⟩
      · have HE' := Lib.hid e
        simp only [e, decide_false, Bool.not_false]
        clear e
        have q1 : wg.cell? ⟨w.heap.size, 1, none⟩ = some (.slice (some ⟨b, off, none⟩) n c) := blk_cell (stay HWg.out G0.out) (by rw [← HDL.out]; rfl)
        have rx := (HRg.out.sub (hp_below HBg.out)).at
        have ry := enC_mem HYx.out
        have hlen : (woE (W.take k) x.x.a.ad).length ≤ k := by
          have := List.length_filter_le (fun y => decide (y.x.a.ad ≠ x.x.a.ad)) (W.take k)
          unfold woE
          simp at this ⊢
          omega
        have hgs := HWg.out.size
        have HOa := Lib.hid (owns_same (w' := wg.alloc (.cells (enC y).toArray 109)) HOg.out fun b hb => by
          obtain ⟨cs, e⟩ := own_blk HOg.out hb
          rw [e]
          exact blk_alloc e)
        go_wp2_with (first
          | (refine wpList_load_mid rfl 109 _ rfl b (off + k * 29) rfl (enC y) _ rx Tryz.underlying109 rfl (infoEn _) ?_)
          | (refine wpList_bslice_e rfl _ rfl y rfl ?_)
          | (refine append_row rfl _ _ 31 rfl 109 (.agg (enC ⟨noneAV, false, false⟩).toArray) 29 120 Tryz.underlying31 infoE29 (by simp [Value.cells, enC_len]) (by decide) (by decide) w2.heap.size _ _ _ rfl HOa.out (.slice (some ⟨wg.heap.size, 0, none⟩) 1 1) 1 (enC y) rfl (rowOneE (heap_alloc_new _ _)) ry (by omega) (by simp; omega) ?_
             intro v6 w6 ho6 hg6 hl6
             have HO6 := Lib.hid ho6
             have HW6 : Hid (Below w2.heap.size w2 w6) := Lib.hid ((HWg.out.alloc HWg.out.size _).grown hg6 (by simp; omega) (fun k hk => (HOa.out.lt k hk).1))
             obtain ⟨A7, c7, rfl⟩ := own_slE ho6
             clear ho6 hg6 hl6))
        exact ⟨⟨k + 1, by omega, by go_num, Lib.hid (by rw [woE_succ HYg.out, if_neg HE'.out, List.length_append, List.flatMap_append]; simpa using HO6.out), HW6⟩, by simp [intOf]; omega⟩
    · obtain rfl : k = n := by omega
      have htk : W.take k = W := List.take_of_length_le (by rw [HN.out]; exact Nat.le_refl _)
      rw [htk] at HO
      have bwr : Below w.heap.size w wr := HB2.out.trans (HW.out.mono HB2.out.size)
      have BW := Lib.hid bwr
      have rx := (rng_block (stay HW.out G1.out)).at
      have ry := enC_mem HXX.out
      have hgs := HW.out.size
      have hlen : (woE W x.x.a.ad).length ≤ k := by
        have := List.length_filter_le (fun y => decide (y.x.a.ad ≠ x.x.a.ad)) W
        have := HN.out
        unfold woE
        omega
      have HOa := Lib.hid (owns_same (w' := wr.alloc (.cells (enC x).toArray 109)) HO.out fun b hb => by
        obtain ⟨cs, e⟩ := own_blk HO.out hb
        rw [e]
        exact blk_alloc e)
      have hs1 := S1.out
      have hsv := SV.out
      clear bwr
      go_upto_region 10 with (first
        | (refine wpList_load_mid rfl 109 _ rfl (w.heap.size + 1) 0 rfl (enC x) _ rx Tryz.underlying109 rfl (infoEn _) ?_)
        | (refine wpList_bslice_e rfl _ rfl x rfl ?_)
        | (refine append_row rfl _ _ 31 rfl 109 (.agg (enC ⟨noneAV, false, false⟩).toArray) 29 120 Tryz.underlying31 infoE29 (by simp [Value.cells, enC_len]) (by decide) (by decide) w2.heap.size _ _ _ rfl HOa.out (.slice (some ⟨wr.heap.size, 0, none⟩) 1 1) 1 (enC x) rfl (rowOneE (heap_alloc_new _ _)) ry (by omega) (by simp; omega) ?_
           intro v6 w6 ho6 hg6 hl6
           have HO6 := Lib.hid ho6
           have HW6 : Hid (Below w2.heap.size w2 w6) := Lib.hid ((HW.out.alloc HW.out.size _).grown hg6 (by simp; omega) (fun k hk => (HOa.out.lt k hk).1))
           obtain ⟨A7, c7, rfl⟩ := own_slE ho6
           clear ho6 hg6 hl6))
      have g6 : w6.heap[w.heap.size]? = some (.cells (dL d').toArray 37) := stay HW6.out G0.out
      have hf6 : w6.frozen? ⟨w.heap.size, 1, none⟩ = false := by simp [World.frozen?, g6]
      have hc6 : w6.cell? ⟨w.heap.size, 1, none⟩ = some d'.l := blk_cell g6 rfl
      have hsc := setCell_put g6 (by decide : 1 < 8) (.slice A7 ((woE W x.x.a.ad).length + 1) c7)
      rw [show (putAt (dL d') 1 [.slice A7 ((woE W x.x.a.ad).length + 1) c7]).toArray = dC { d' with l := .slice A7 ((woE W x.x.a.ad).length + 1) c7 } from rfl] at hsc
      obtain ⟨d2, hd2⟩ : ∃ d2, ({ d' with l := .slice A7 ((woE W x.x.a.ad).length + 1) c7 } : Dst) = d2 := ⟨_, rfl⟩
      rw [hd2] at hsc
      have hD2 : ({ d with ps := v, l := .slice A7 ((woE W x.x.a.ad).length + 1) c7 } : Dst) = d2 := by rw [← hd2, ← HD'.out]
      have hone2 : (dC d2).all (·.oneCell') = true := by
        rw [← hD2]
        exact Dst.One.arr ⟨one.w, rfl, one.wm, one.sl, one.lg, HV1.out⟩
      have G7 := Lib.hid (blk_row (c' := dC d2) (show w6.heap[w.heap.size]? = some (.cells (dL d').toArray 37) from g6))
      have G27 := Lib.hid ((setRow_other w6 w.heap.size (w.heap.size + 2) (dC d2) (by omega)).trans (stay HW6.out G2.out))
      have s6 := HW6.out.size
      have B7 := Lib.hid (below_setRow (HB2.out.trans (HW6.out.mono HB2.out.size)) (Nat.le_refl _) (dC d2))
      have HO7 := Lib.hid (owns_same (w' := (w6.setRow w.heap.size (dC d2)).setRow (w.heap.size + 2) (dC d2)) HO6.out fun b hb => by
        have := (World.ownsRow.lt HO6.out b hb).1
        rw [setRow_other _ _ _ _ (by omega), setRow_other _ _ _ _ (by omega)])
      have ZK7 := Lib.hid (show Sub Zk (fr w.heap.size ((w6.setRow w.heap.size (dC d2)).setRow (w.heap.size + 2) (dC d2))) from fun b o hb => by
        have h1 := ZK.out b o hb
        unfold fr at h1 ⊢
        split at h1
        · have h3 := (Array.getElem?_eq_some_iff.1 h1).1
          rw [if_pos (by omega), setRow_other _ _ _ _ (by omega), setRow_other _ _ _ _ (by omega), HW6.out.block b h3]
          exact h1
        · cases h1)
      have HHD := Lib.hid hD2
      clear hD2 hd2 rx ry hgs HOa
      go_upto_region 11 with fail
      clear hsc hf6 hc6 g6
      have r7 := (rng_block (w := w6.setRow w.heap.size (dC d2)) (cs := (dC d2).toList) (by simpa [dC] using G7.out)).at
      go_wp2_with (first
        | (refine wpList_load_mid rfl 37 _ rfl w.heap.size 0 rfl (dC d2).toList _ r7 Tryz.underlying37 rfl infoD ?_)
        | (refine wpList_store_row rfl 37 _ _ rfl (w.heap.size + 2) _ (dC d2) rfl rfl G27.out (by simpa using infoD (d := d2)) rfl hone2 ?_))
      have BF := below_setRow B7.out (show w.heap.size ≤ w.heap.size + 2 by omega) (dC d2)
      refine bodyPost_ret (v := .agg (dC d2)) (results_cell_row rfl _ _ _ 37 _ (0, 0) _ rfl (blk_row G27.out) Tryz.underlying37 rfl (by simpa using infoD (d := d2))) rfl ⟨v, .slice A7 ((woE W x.x.a.ad).length + 1) c7, Zk, by rw [HHD.out], HV1.out, ⟨?_, fun e he => ?_⟩, HRR.out, ZK7.out, BF⟩
      · have := ((RowZ.ownF HO7.out).sub (fr_mono (show w.heap.size ≤ w2.heap.size by omega) _)).sub (orH_in (hz.trans (hp_below BF)) (fr_sub _ _))
        rw [List.length_append, List.flatMap_append]
        simpa using this
      · rcases List.mem_append.1 he with he | he
        · exact (HX.out e (List.mem_filter.1 he).1).sub (orH_left _ _)
        · rw [List.mem_singleton] at he
          subst he
          exact HXX.out.sub (orH_left _ _)
end Go.Proofs.YtnjeoeekidnffaaGreat
/- Stage 14: the document's SetNonce. -/
namespace Go.Proofs.YtnjeoeekidnffaaGreat
open Go.RowKit SmWord Go.Maps
set_option maxRecDepth 100000

theorem sdboxes (w : World) (d : Dst) (A : Nat) : ∃ W, ((w.alloc (.cells (dC d) 37)).alloc (.cells (aN A) 41)).alloc (.cells (dC dst0) 37) = W ∧ W.heap[w.heap.size]? = some (.cells (dC d) 37) ∧ W.heap[w.heap.size + 1]? = some (.cells (aN A) 41) ∧ W.heap[w.heap.size + 2]? = some (.cells (dC dst0) 37) ∧ Below w.heap.size w W ∧ W.heap.size = w.heap.size + 3 := by
  obtain ⟨w1, h1⟩ : ∃ w1, w.alloc (.cells (dC d) 37) = w1 := ⟨_, rfl⟩
  have s1 : w1.heap.size = w.heap.size + 1 := h1 ▸ by simp
  have g1 : w1.heap[w.heap.size]? = some (.cells (dC d) 37) := h1 ▸ heap_alloc_new _ _
  have b1 : Below w.heap.size w w1 := h1 ▸ (Below.refl _ _).alloc (Nat.le_refl _) _
  obtain ⟨w2, h2⟩ : ∃ w2, w1.alloc (.cells (aN A) 41) = w2 := ⟨_, rfl⟩
  have s2 : w2.heap.size = w.heap.size + 2 := h2 ▸ by simp [s1]
  have g2 : w2.heap[w.heap.size + 1]? = some (.cells (aN A) 41) := by rw [← s1]; exact h2 ▸ heap_alloc_new _ _
  have b2 : Below w1.heap.size w1 w2 := h2 ▸ (Below.refl _ _).alloc (Nat.le_refl _) _
  obtain ⟨w3, h3⟩ : ∃ w3, w2.alloc (.cells (dC dst0) 37) = w3 := ⟨_, rfl⟩
  have g3 : w3.heap[w.heap.size + 2]? = some (.cells (dC dst0) 37) := by rw [← s2]; exact h3 ▸ heap_alloc_new _ _
  have b3 : Below w2.heap.size w2 w3 := h3 ▸ (Below.refl _ _).alloc (Nat.le_refl _) _
  exact ⟨w3, by rw [h1, h2, h3], stay b3 (stay b2 g1), stay b3 g2, g3, (b1.trans (b2.mono b1.size)).trans (b3.mono (by omega)), h3 ▸ by simp [s2]⟩
/-- An entry with another nonce. -/
def enNo (e : EnV) (n : Nat) : EnV := { e with x := { e.x with a := { e.x.a with no := n } } }
theorem enC_no (e : EnV) (n : Nat) : putAt (enC e) 20 [.int .u64 (n : Int)] = enC (enNo e n) := by
  have h1 : (aN e.x.a.ad).toList.length = 20 := by simp [aN_size]
  have := putAt_right (aN e.x.a.ad).toList (.int .u64 (e.x.a.no : Int) :: (wa e.x.a.ba).toList ++ [e.x.p, e.x.q] ++ [.bool e.fr, .bool e.de]) 0 [.int .u64 (n : Int)]
  rw [h1] at this
  have e1 : enC e = (aN e.x.a.ad).toList ++ (.int .u64 (e.x.a.no : Int) :: (wa e.x.a.ba).toList ++ [e.x.p, e.x.q] ++ [.bool e.fr, .bool e.de]) := by
    unfold enC acs
    simp
  rw [e1]
  refine this.trans ?_
  unfold enC acs enNo putAt
  simp
set_option maxHeartbeats 4000000 in
theorem setNonce_walk {Z : Hp} {V0 : List AV} {W : List EnV} (R : Hp → Value → Prop) (d : Dst) (A n : Nat) (w : World) (hd : d.One) (hb : AccsZ Z d.w V0) (h : EnsZ Z d.l W) (hz : Sub Z (hp w)) (hA : A < 2 ^ 160) (hn : n < B) (hl : W.length ≤ 1000000) (hl0 : V0.length ≤ 1000000)
    (HK : Hid (∀ w1, Below w.heap.size w w1 → Calls Tryz.prog 88 #[.agg (dC d)] w1 fun e w2 => ∃ v, e = .returned (.agg (dC { d with ps := v })) ∧ v.oneCell' = true ∧ (∃ Zk, R Zk v ∧ Sub Zk (fr w1.heap.size w2)) ∧ Below w1.heap.size w1 w2)) :
    Calls Tryz.prog 41 #[.agg (dC d), .agg (aN A), .int .u64 (n : Int)] w fun e w' => ∃ v l' Zk, e = .returned (.agg (dC { d with ps := v, l := l' })) ∧ v.oneCell' = true ∧ EnsZ (orH Z (fr w.heap.size w')) l' (woE W (enNo (atV W V0 A) n).x.a.ad ++ [enNo (atV W V0 A) n]) ∧ R Zk v ∧ Sub Zk (fr w.heap.size w') ∧ Below w.heap.size w w' := by
  obtain ⟨V, hV, f0, f1, f2, bW, sW⟩ := sdboxes w d A
  have hs := aN_size A
  have HB := Lib.hid bW
  have F0 := Lib.hid f0
  have F2 := Lib.hid f2
  have SV := Lib.hid sW
  have KA := Lib.hid (dat_walk d A V hb h (hz.trans (hp_below bW)) hA hl hl0)
  have hzx := atV_z hb h hA
  have HZE := Lib.hid hzx
  obtain ⟨e0, he0⟩ : ∃ e0, atV W V0 A = e0 := ⟨_, rfl⟩
  rw [he0] at KA HZE ⊢
  have hnz : AccZ Z (enNo e0 n).x := { HZE.out with no := hn }
  have HNZ := Lib.hid hnz
  have KW := Lib.hid fun w1 (b1 : Below w.heap.size w w1) => with_walk R d (enNo e0 n) w1 hd h hnz (hz.trans (hp_below b1)) hl (Lib.hid fun w2 b2 => HK.out w2 (b1.trans (b2.mono b1.size)))
  have r0 := (rng_block (w := V) (cs := (dC d).toList) (by simpa [dC] using f0)).at
  have r1 := adblk f1
  have one0 := enC_ones HZE.out
  clear f0 f1 f2 bW sW hb h hz hA hn hl hl0 HK hzx he0 hnz
  unfold eval' at KA
  go_enter Tryz.func41, Tryz.ntmps41
  go_upto_region 1 with (refine wpList_alloc_row rfl 37 rfl _ zeroD ?_)
  try rw [hV]
  clear hV
  go_upto_region 2 with (first
    | (refine wpList_load_mid rfl 37 _ rfl w.heap.size 0 rfl (dC d).toList _ r0 Tryz.underlying37 rfl infoD ?_)
    | (refine wpList_load_mid rfl 41 _ rfl (w.heap.size + 1) 0 rfl (aN A).toList _ r1 Tryz.underlying41 rfl (infoAd _) ?_; simp only [Array.toArray_toList])
    | (go_at_call 56; refine KA.out.mono ?_; rintro e w1 ⟨rfl, b1⟩)
    | (refine wpList_alloc_row rfl 109 rfl _ zeroEn ?_)
    | (refine wpList_store_row rfl 109 _ _ rfl _ (enC ⟨noneAV, false, false⟩).toArray (enC e0).toArray rfl rfl (heap_alloc_new _ _) (by simpa using infoEn e0) (by simp [enC_len]) one0 ?_))
  obtain ⟨w2, hw2⟩ : ∃ w2, (w1.alloc (.cells (enC ⟨noneAV, false, false⟩).toArray 109)).setRow w1.heap.size (enC e0).toArray = w2 := ⟨_, rfl⟩
  have g2 : w2.heap[w1.heap.size]? = some (.cells (enC e0).toArray 109) := hw2 ▸ blk_row (heap_alloc_new _ _)
  have b2 : Below V.heap.size V w2 := hw2 ▸ below_setRow (b1.alloc b1.size _) b1.size _
  rw [hw2]
  have hf2 : w2.frozen? ⟨w1.heap.size, 20, none⟩ = false := by simp [World.frozen?, g2]
  have hc2 : ∃ u, w2.cell? ⟨w1.heap.size, 20, none⟩ = some u := ⟨_, blk_cell (v := (enC e0)[20]'(by rw [enC_len]; decide)) g2 (by simp [enC_len])⟩
  obtain ⟨u2, hc2⟩ := hc2
  have hsc := setCell_put g2 (by rw [enC_len]; decide : 20 < (enC e0).length) (.int .u64 (n : Int))
  rw [enC_no] at hsc
  have s1 := b1.size
  have G3 := Lib.hid (blk_row (c' := (enC (enNo e0 n)).toArray) g2)
  have B3 := Lib.hid (below_setRow b2 s1 (enC (enNo e0 n)).toArray)
  have F03 := Lib.hid (stay B3.out F0.out)
  have F23 := Lib.hid (stay B3.out F2.out)
  clear hw2 b1 KA r0 r1 one0
  go_upto_region 3 with fail
  obtain ⟨w3, hw3⟩ : ∃ w3, w2.setRow w1.heap.size (enC (enNo e0 n)).toArray = w3 := ⟨_, rfl⟩
  rw [hw3] at G3 B3 F03 F23 ⊢
  clear hw3 hsc hc2 hf2 g2 b2
  have KW3 := Lib.hid (KW.out w3 (HB.out.trans (B3.out.mono HB.out.size)))
  unfold eval' at KW3
  have r3 := (rng_block (w := w3) (cs := (dC d).toList) (by simpa [dC] using F03.out)).at
  have r4 := (rng_block G3.out).at
  have S3 := Lib.hid B3.out.size
  have sV := SV.out
  clear KW
  go_wp2_with (first
    | (refine wpList_load_mid rfl 37 _ rfl w.heap.size 0 rfl (dC d).toList _ r3 Tryz.underlying37 rfl infoD ?_)
    | (refine wpList_load_mid rfl 109 _ rfl w1.heap.size 0 rfl (enC (enNo e0 n)) _ r4 Tryz.underlying109 rfl (infoEn _) ?_)
    | (go_at_call 81; refine KW3.out.mono ?_; rintro e w4 ⟨v, l', Zk, rfl, hv, hE, hR, hZ, b4⟩; have hone : (dC { d with ps := v, l := l' }).all (·.oneCell') = true := Dst.One.arr ⟨hd.w, hE.row.oneCell, hd.wm, hd.sl, hd.lg, hv⟩; obtain ⟨d2, hd2⟩ : ∃ d2, ({ d with ps := v, l := l' } : Dst) = d2 := ⟨_, rfl⟩; rw [hd2] at hone ⊢)
    | (refine wpList_store_row rfl 37 _ _ rfl (w.heap.size + 2) _ (dC d2) rfl rfl (stay b4 F23.out) (by simpa using infoD (d := d2)) rfl hone ?_))
  have hs3 := S3.out
  have BF := below_setRow (HB.out.trans ((B3.out.mono HB.out.size).trans (b4.mono (by omega)))) (show w.heap.size ≤ w.heap.size + 2 by omega) (dC d2)
  have hfr : Sub (fr w3.heap.size w4) (fr w.heap.size (w4.setRow (w.heap.size + 2) (dC d2))) := fun b o hb => by
    unfold fr at hb ⊢
    split at hb
    · rw [if_pos (by omega), setRow_other _ _ _ _ (by omega)]
      exact hb
    · cases hb
  exact bodyPost_ret (v := .agg (dC d2)) (results_cell_row rfl _ _ _ 37 _ (0, 0) _ rfl (blk_row (stay b4 F23.out)) Tryz.underlying37 rfl (by simpa using infoD (d := d2))) rfl ⟨v, l', Zk, by rw [hd2], hv, ⟨hE.row.sub (orH_mono hfr), fun e he => (hE.each e he).sub (orH_mono hfr)⟩, hR, hZ.trans hfr, BF⟩
end Go.Proofs.YtnjeoeekidnffaaGreat
/- Stage 14: the document's Destroy. -/
namespace Go.Proofs.YtnjeoeekidnffaaGreat
open Go.RowKit SmWord Go.Maps
set_option maxRecDepth 100000

/-- An entry that is destroyed. -/
def enDe (e : EnV) : EnV := { e with de := true }
theorem enC_de (e : EnV) : putAt (enC e) 28 [.bool true] = enC (enDe e) := by
  have := putAt_right (acs e.x) [.bool e.fr, .bool e.de] 1 [.bool true]
  rw [acs_len] at this
  exact this
set_option maxHeartbeats 4000000 in
theorem destroy_walk {Z : Hp} {V0 : List AV} {W : List EnV} (R : Hp → Value → Prop) (d : Dst) (A : Nat) (w : World) (hd : d.One) (hb : AccsZ Z d.w V0) (h : EnsZ Z d.l W) (hz : Sub Z (hp w)) (hA : A < 2 ^ 160) (hl : W.length ≤ 1000000) (hl0 : V0.length ≤ 1000000)
    (HK : Hid (∀ w1, Below w.heap.size w w1 → Calls Tryz.prog 88 #[.agg (dC d)] w1 fun e w2 => ∃ v, e = .returned (.agg (dC { d with ps := v })) ∧ v.oneCell' = true ∧ (∃ Zk, R Zk v ∧ Sub Zk (fr w1.heap.size w2)) ∧ Below w1.heap.size w1 w2)) :
    Calls Tryz.prog 54 #[.agg (dC d), .agg (aN A)] w fun e w' => ∃ v l' Zk, e = .returned (.agg (dC { d with ps := v, l := l' })) ∧ v.oneCell' = true ∧ EnsZ (orH Z (fr w.heap.size w')) l' (woE W (enDe (atV W V0 A)).x.a.ad ++ [enDe (atV W V0 A)]) ∧ R Zk v ∧ Sub Zk (fr w.heap.size w') ∧ Below w.heap.size w w' := by
  obtain ⟨V, hV, f0, f1, f2, bW, sW⟩ := sdboxes w d A
  have hs := aN_size A
  have HB := Lib.hid bW
  have F0 := Lib.hid f0
  have F2 := Lib.hid f2
  have SV := Lib.hid sW
  have KA := Lib.hid (dat_walk d A V hb h (hz.trans (hp_below bW)) hA hl hl0)
  have hzx := atV_z hb h hA
  have HZE := Lib.hid hzx
  obtain ⟨e0, he0⟩ : ∃ e0, atV W V0 A = e0 := ⟨_, rfl⟩
  rw [he0] at KA HZE ⊢
  have hnz : AccZ Z (enDe e0).x := HZE.out
  have HNZ := Lib.hid hnz
  have KW := Lib.hid fun w1 (b1 : Below w.heap.size w w1) => with_walk R d (enDe e0) w1 hd h hnz (hz.trans (hp_below b1)) hl (Lib.hid fun w2 b2 => HK.out w2 (b1.trans (b2.mono b1.size)))
  have r0 := (rng_block (w := V) (cs := (dC d).toList) (by simpa [dC] using f0)).at
  have r1 := adblk f1
  have one0 := enC_ones HZE.out
  clear f0 f1 f2 bW sW hb h hz hA hl hl0 HK hzx he0 hnz
  unfold eval' at KA
  go_enter Tryz.func54, Tryz.ntmps54
  go_upto_region 1 with (refine wpList_alloc_row rfl 37 rfl _ zeroD ?_)
  try rw [hV]
  clear hV
  go_upto_region 2 with (first
    | (refine wpList_load_mid rfl 37 _ rfl w.heap.size 0 rfl (dC d).toList _ r0 Tryz.underlying37 rfl infoD ?_)
    | (refine wpList_load_mid rfl 41 _ rfl (w.heap.size + 1) 0 rfl (aN A).toList _ r1 Tryz.underlying41 rfl (infoAd _) ?_; simp only [Array.toArray_toList])
    | (go_at_call 56; refine KA.out.mono ?_; rintro e w1 ⟨rfl, b1⟩)
    | (refine wpList_alloc_row rfl 109 rfl _ zeroEn ?_)
    | (refine wpList_store_row rfl 109 _ _ rfl _ (enC ⟨noneAV, false, false⟩).toArray (enC e0).toArray rfl rfl (heap_alloc_new _ _) (by simpa using infoEn e0) (by simp [enC_len]) one0 ?_))
  obtain ⟨w2, hw2⟩ : ∃ w2, (w1.alloc (.cells (enC ⟨noneAV, false, false⟩).toArray 109)).setRow w1.heap.size (enC e0).toArray = w2 := ⟨_, rfl⟩
  have g2 : w2.heap[w1.heap.size]? = some (.cells (enC e0).toArray 109) := hw2 ▸ blk_row (heap_alloc_new _ _)
  have b2 : Below V.heap.size V w2 := hw2 ▸ below_setRow (b1.alloc b1.size _) b1.size _
  rw [hw2]
  have hf2 : w2.frozen? ⟨w1.heap.size, 28, none⟩ = false := by simp [World.frozen?, g2]
  have hc2 : ∃ u, w2.cell? ⟨w1.heap.size, 28, none⟩ = some u := ⟨_, blk_cell (v := (enC e0)[28]'(by rw [enC_len]; decide)) g2 (by simp [enC_len])⟩
  obtain ⟨u2, hc2⟩ := hc2
  have hsc := setCell_put g2 (by rw [enC_len]; decide : 28 < (enC e0).length) (.bool true)
  rw [enC_de] at hsc
  have s1 := b1.size
  have G3 := Lib.hid (blk_row (c' := (enC (enDe e0)).toArray) g2)
  have B3 := Lib.hid (below_setRow b2 s1 (enC (enDe e0)).toArray)
  have F03 := Lib.hid (stay B3.out F0.out)
  have F23 := Lib.hid (stay B3.out F2.out)
  clear hw2 b1 KA r0 r1 one0
  go_upto_region 3 with fail
  obtain ⟨w3, hw3⟩ : ∃ w3, w2.setRow w1.heap.size (enC (enDe e0)).toArray = w3 := ⟨_, rfl⟩
  rw [hw3] at G3 B3 F03 F23 ⊢
  clear hw3 hsc hc2 hf2 g2 b2
  have KW3 := Lib.hid (KW.out w3 (HB.out.trans (B3.out.mono HB.out.size)))
  unfold eval' at KW3
  have r3 := (rng_block (w := w3) (cs := (dC d).toList) (by simpa [dC] using F03.out)).at
  have r4 := (rng_block G3.out).at
  have S3 := Lib.hid B3.out.size
  have sV := SV.out
  clear KW
  go_wp2_with (first
    | (refine wpList_load_mid rfl 37 _ rfl w.heap.size 0 rfl (dC d).toList _ r3 Tryz.underlying37 rfl infoD ?_)
    | (refine wpList_load_mid rfl 109 _ rfl w1.heap.size 0 rfl (enC (enDe e0)) _ r4 Tryz.underlying109 rfl (infoEn _) ?_)
    | (go_at_call 81; refine KW3.out.mono ?_; rintro e w4 ⟨v, l', Zk, rfl, hv, hE, hR, hZ, b4⟩; have hone : (dC { d with ps := v, l := l' }).all (·.oneCell') = true := Dst.One.arr ⟨hd.w, hE.row.oneCell, hd.wm, hd.sl, hd.lg, hv⟩; obtain ⟨d2, hd2⟩ : ∃ d2, ({ d with ps := v, l := l' } : Dst) = d2 := ⟨_, rfl⟩; rw [hd2] at hone ⊢)
    | (refine wpList_store_row rfl 37 _ _ rfl (w.heap.size + 2) _ (dC d2) rfl rfl (stay b4 F23.out) (by simpa using infoD (d := d2)) rfl hone ?_))
  have hs3 := S3.out
  have BF := below_setRow (HB.out.trans ((B3.out.mono HB.out.size).trans (b4.mono (by omega)))) (show w.heap.size ≤ w.heap.size + 2 by omega) (dC d2)
  have hfr : Sub (fr w3.heap.size w4) (fr w.heap.size (w4.setRow (w.heap.size + 2) (dC d2))) := fun b o hb => by
    unfold fr at hb ⊢
    split at hb
    · rw [if_pos (by omega), setRow_other _ _ _ _ (by omega)]
      exact hb
    · cases hb
  exact bodyPost_ret (v := .agg (dC d2)) (results_cell_row rfl _ _ _ 37 _ (0, 0) _ rfl (blk_row (stay b4 F23.out)) Tryz.underlying37 rfl (by simpa using infoD (d := d2))) rfl ⟨v, l', Zk, by rw [hd2], hv, ⟨hE.row.sub (orH_mono hfr), fun e he => (hE.each e he).sub (orH_mono hfr)⟩, hR, hZ.trans hfr, BF⟩
end Go.Proofs.YtnjeoeekidnffaaGreat
