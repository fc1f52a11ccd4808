/- Stage 14: the document's SetCode. -/
import Derived.Test.YtnjeoeekidnffaaGreatNn
namespace Go.Proofs.YtnjeoeekidnffaaGreat
open Go.RowKit SmWord Go.Maps
set_option maxRecDepth 100000

/-- An entry with another code, which lies at p. -/
def enCo (e : EnV) (l : List Nat) (p : Value) : EnV := { e with x := { e.x with a := { e.x.a with co := l }, p := p } }
theorem enC_co (e : EnV) (l : List Nat) (p : Value) : putAt (enC e) 25 [p] = enC (enCo e l p) := by
  have h1 : ((aN e.x.a.ad).toList ++ (.int .u64 (e.x.a.no : Int) :: (wa e.x.a.ba).toList)).length = 25 := by simp [aN_size, wa_size]
  have := putAt_right ((aN e.x.a.ad).toList ++ (.int .u64 (e.x.a.no : Int) :: (wa e.x.a.ba).toList)) [e.x.p, e.x.q, .bool e.fr, .bool e.de] 0 [p]
  rw [h1] at this
  have e1 : enC e = (aN e.x.a.ad).toList ++ (.int .u64 (e.x.a.no : Int) :: (wa e.x.a.ba).toList) ++ [e.x.p, e.x.q, .bool e.fr, .bool e.de] := by
    unfold enC acs
    simp
  rw [e1]
  refine this.trans ?_
  unfold enC acs enCo putAt
  simp
theorem own_emptyU (w : World) (base : Nat) (hb : base ≤ w.heap.size) : (w.alloc (.cells #[] 5)).ownsRow base 5 1 (.slice (some ⟨w.heap.size, 0, none⟩) 0 0) 0 [] :=
  ⟨rfl, .inr ⟨w.heap.size, 0, #[], rfl, hb, heap_alloc_new _ _, Nat.le_refl _, by simp [maxLen], rfl, rfl⟩⟩
theorem enC_co_z {Z : Hp} {e : EnV} {l : List Nat} {p : Value} (h : AccZ Z e.x) (hp : RowZ Z p l.length 1 (l.map u8v)) (h8 : ∀ c ∈ l, c < 256) (hl : l.length ≤ 1000000) : AccZ Z (enCo e l p).x :=
  { h with cod := hp, c8 := h8, cl := hl }
set_option maxHeartbeats 4000000 in
theorem setCode_walk {Z : Hp} {V0 : List AV} {W : List EnV} (R : Hp → Value → Prop) (d : Dst) (A : Nat) (vc : Value) (l : List Nat) (w : World) (hd : d.One) (hb : AccsZ Z d.w V0) (h : EnsZ Z d.l W) (hz : Sub Z (hp w)) (hA : A < 2 ^ 160) (hl : W.length ≤ 1000000) (hl0 : V0.length ≤ 1000000)
    (hc : RowZ (hp w) vc l.length 1 (l.map u8v)) (hc8 : ∀ c ∈ l, c < 256) (hcl : l.length ≤ 1000000)
    (HK : Hid (∀ w1, Below w.heap.size w w1 → Calls Tryz.prog 88 #[.agg (dC d)] w1 fun e w2 => ∃ v, e = .returned (.agg (dC { d with ps := v })) ∧ v.oneCell' = true ∧ (∃ Zk, R Zk v ∧ Sub Zk (fr w1.heap.size w2)) ∧ Below w1.heap.size w1 w2)) :
    Calls Tryz.prog 44 #[.agg (dC d), .agg (aN A), vc] w fun e w' => ∃ v l' Zk p, e = .returned (.agg (dC { d with ps := v, l := l' })) ∧ v.oneCell' = true ∧ EnsZ (orH Z (fr w.heap.size w')) l' (woE W (atV W V0 A).x.a.ad ++ [enCo (atV W V0 A) l p]) ∧ R Zk v ∧ Sub Zk (fr w.heap.size w') ∧ Below w.heap.size w w' := by
  obtain ⟨Ac, cc, rfl, -⟩ := hc.val
  obtain ⟨V, hV, f0, f1, f2, bW, sW⟩ := sdboxes w d A
  have hs := aN_size A
  have HB := Lib.hid bW
  have F0 := Lib.hid f0
  have F2 := Lib.hid f2
  have SV := Lib.hid sW
  have KA := Lib.hid (dat_walk d A V hb h (hz.trans (hp_below bW)) hA hl hl0)
  have hzx := atV_z hb h hA
  have HZE := Lib.hid hzx
  obtain ⟨e0, he0⟩ : ∃ e0, atV W V0 A = e0 := ⟨_, rfl⟩
  rw [he0] at KA HZE ⊢
  have HC := Lib.hid hc
  have HC8 := Lib.hid hc8
  have HCL := Lib.hid hcl
  have HZ := Lib.hid hz
  have HH := Lib.hid h
  have HL := Lib.hid hl
  have r0 := (rng_block (w := V) (cs := (dC d).toList) (by simpa [dC] using f0)).at
  have r1 := adblk f1
  have one0 := enC_ones HZE.out
  obtain ⟨n, hn⟩ : ∃ n, l.length = n := ⟨_, rfl⟩
  have HN := Lib.hid hn
  rw [hn] at HC ⊢
  clear f0 f1 f2 bW sW hb h hz hA hl hl0 hzx he0 hc hc8 hcl hn
  unfold eval' at KA
  go_enter Tryz.func44, Tryz.ntmps44
  go_upto_region 1 with (refine wpList_alloc_row rfl 37 rfl _ zeroD ?_)
  try rw [hV]
  clear hV
  go_upto_region 2 with (first
    | (refine wpList_load_mid rfl 37 _ rfl w.heap.size 0 rfl (dC d).toList _ r0 Tryz.underlying37 rfl infoD ?_)
    | (refine wpList_load_mid rfl 41 _ rfl (w.heap.size + 1) 0 rfl (aN A).toList _ r1 Tryz.underlying41 rfl (infoAd _) ?_; simp only [Array.toArray_toList])
    | (go_at_call 56; refine KA.out.mono ?_; rintro e w1 ⟨rfl, b1⟩)
    | (refine wpList_alloc_row rfl 109 rfl _ zeroEn ?_)
    | (refine wpList_store_row rfl 109 _ _ rfl _ (enC ⟨noneAV, false, false⟩).toArray (enC e0).toArray rfl rfl (heap_alloc_new _ _) (by simpa using infoEn e0) (by simp [enC_len]) one0 ?_))
  obtain ⟨w2, hw2⟩ : ∃ w2, (w1.alloc (.cells (enC ⟨noneAV, false, false⟩).toArray 109)).setRow w1.heap.size (enC e0).toArray = w2 := ⟨_, rfl⟩
  have g2 : w2.heap[w1.heap.size]? = some (.cells (enC e0).toArray 109) := hw2 ▸ blk_row (heap_alloc_new _ _)
  have b2 : Below V.heap.size V w2 := hw2 ▸ below_setRow (b1.alloc b1.size _) b1.size _
  have s12 : w1.heap.size < w2.heap.size := by rw [← hw2]; simp
  rw [hw2]
  have s1 := b1.size
  clear hw2 b1 KA r0 r1 one0
  go_upto_region 3 with fail
  have HO3 := Lib.hid (own_emptyU w2 w2.heap.size (Nat.le_refl _))
  have HB3 : Hid (Below w2.heap.size w2 (w2.alloc (.cells #[] 5))) := Lib.hid ((Below.refl _ _).alloc (Nat.le_refl _) _)
  generalize w2.alloc (.cells #[] 5) = w3 at *
  have hz3 := HB3.out.size
  have HB2 := Lib.hid b2
  clear b2
  go_upto_region 4 with (first
    | (refine append_row rfl _ _ 45 rfl 5 (.int .u8 0) 1 1 Tryz.underlying45 infoU8 rfl (by decide) (by decide) w2.heap.size (.slice (some ⟨w2.heap.size, 0, none⟩) 0 0) 0 [] rfl HO3.out (.slice Ac n cc) n (l.map u8v) rfl (HC.out.sub (hp_below (HB.out.trans ((HB2.out.trans (HB3.out.mono HB2.out.size)).mono HB.out.size)))) (u8_one _) (by have := HCL.out; have := HN.out; omega) (by omega) ?_
       intro v4 w4 ho4 hg4 _
       simp only [Nat.zero_add, List.nil_append] at ho4
       obtain ⟨A4, c4, rfl⟩ := own_slz ho4
       have HO4 := Lib.hid ho4
       have HB4 : Hid (Below w2.heap.size w2 w4) := Lib.hid (HB3.out.grown hg4 (by omega) (by simp [Value.ownBlock]))
       clear ho4 hg4))
  have g4 : w4.heap[w1.heap.size]? = some (.cells (enC e0).toArray 109) := (HB4.out.block _ s12).trans g2
  have b4 : Below V.heap.size V w4 := HB2.out.trans (HB4.out.mono HB2.out.size)
  have hf2 : w4.frozen? ⟨w1.heap.size, 25, none⟩ = false := by simp only [World.frozen?, g4]; rfl
  obtain ⟨u3, hc2⟩ : ∃ u, w4.cell? ⟨w1.heap.size, 25, none⟩ = some u := ⟨_, blk_cell (v := (enC e0)[25]'(by rw [enC_len]; decide)) g4 (by simp [enC_len])⟩
  have hsc := setCell_put g4 (by rw [enC_len]; decide : 25 < (enC e0).length) (.slice A4 n c4)
  rw [enC_co e0 l] at hsc
  obtain ⟨p4, hp4⟩ : ∃ p4, Value.slice A4 n c4 = p4 := ⟨_, rfl⟩
  obtain ⟨en, hen⟩ : ∃ en, enCo e0 l (.slice A4 n c4) = en := ⟨_, rfl⟩
  have HEN := Lib.hid hen
  rw [hen] at hsc
  have G3 := Lib.hid (blk_row (c' := (enC en).toArray) g4)
  have B3 := Lib.hid (below_setRow b4 s1 (enC en).toArray)
  have F03 := Lib.hid (stay B3.out F0.out)
  have F23 := Lib.hid (stay B3.out F2.out)
  have sV := SV.out
  have HRow : Hid (RowZ (fr V.heap.size (w4.setRow w1.heap.size (enC en).toArray)) (.slice A4 n c4) n 1 (l.map u8v)) := Lib.hid (by
    have hzb := HB2.out.size
    have := RowZ.ownF (own_same (w' := w4.setRow w1.heap.size (enC en).toArray) HO4.out fun b hb => by
      have := (World.ownsRow.lt HO4.out b hb).1
      rw [setRow_other _ _ _ _ (by omega)])
    exact this.sub (fr_mono (by omega) _))
  clear HO3 HB3 hz3 HB2 HO4 HB4 g2 hp4 hen
  go_upto_region 5 with fail
  obtain ⟨w5, hw5⟩ : ∃ w5, w4.setRow w1.heap.size (enC en).toArray = w5 := ⟨_, rfl⟩
  rw [hw5] at G3 B3 F03 F23 HRow ⊢
  clear hw5 hsc hc2 hf2 b4 g4
  have HW5 := Lib.hid (HB.out.trans (B3.out.mono HB.out.size))
  obtain ⟨Z5, hZ5⟩ : ∃ Z5, orH Z (fr V.heap.size w5) = Z5 := ⟨_, rfl⟩
  have hz5 : Sub Z5 (hp w5) := hZ5 ▸ orH_sub (HZ.out.trans (hp_below HW5.out)) (fr_sub _ _)
  have hZZ5 : Sub Z Z5 := hZ5 ▸ orH_left _ _
  have hzen : AccZ Z5 en.x := by
    rw [← HEN.out]
    have hr : RowZ Z5 (.slice A4 n c4) n 1 (l.map u8v) := hZ5 ▸ HRow.out.sub (orH_in (HZ.out.trans (hp_below HW5.out)) (fr_sub _ _))
    exact enC_co_z (HZE.out.sub hZZ5) (by rw [HN.out]; exact hr) HC8.out HCL.out
  have KW3 := Lib.hid (with_walk R d en w5 hd (HH.out.sub hZZ5) hzen hz5 HL.out (Lib.hid fun w6 b6 => HK.out w6 (HW5.out.trans (b6.mono HW5.out.size))))
  unfold eval' at KW3
  have HZ5 := Lib.hid hZ5
  have r3 := (rng_block (w := w5) (cs := (dC d).toList) (by simpa [dC] using F03.out)).at
  have r4 := (rng_block G3.out).at
  have S3 := Lib.hid B3.out.size
  have hHAD : Hid (en.x.a.ad = e0.x.a.ad) := Lib.hid (by rw [← HEN.out]; rfl)
  clear HK hzen hz5 hZZ5 hZ5 HRow HC HH
  go_wp2_with (first
    | (refine wpList_load_mid rfl 37 _ rfl w.heap.size 0 rfl (dC d).toList _ r3 Tryz.underlying37 rfl infoD ?_)
    | (refine wpList_load_mid rfl 109 _ rfl w1.heap.size 0 rfl (enC en) _ r4 Tryz.underlying109 rfl (infoEn _) ?_)
    | (go_at_call 81; refine KW3.out.mono ?_; rintro e w6 ⟨v, l', Zk, rfl, hv, hE, hR, hZ, b6⟩; have hone : (dC { d with ps := v, l := l' }).all (·.oneCell') = true := Dst.One.arr ⟨hd.w, hE.row.oneCell, hd.wm, hd.sl, hd.lg, hv⟩; obtain ⟨d2, hd2⟩ : ∃ d2, ({ d with ps := v, l := l' } : Dst) = d2 := ⟨_, rfl⟩; rw [hd2] at hone ⊢)
    | (refine wpList_store_row rfl 37 _ _ rfl (w.heap.size + 2) _ (dC d2) rfl rfl (stay b6 F23.out) (by simpa using infoD (d := d2)) rfl hone ?_))
  have hs3 := S3.out
  have BF := below_setRow (HW5.out.trans (b6.mono (by omega))) (show w.heap.size ≤ w.heap.size + 2 by omega) (dC d2)
  have hfr : Sub (fr w5.heap.size w6) (fr w.heap.size (w6.setRow (w.heap.size + 2) (dC d2))) := fun b o hb => by
    unfold fr at hb ⊢
    split at hb
    · rw [if_pos (by omega), setRow_other _ _ _ _ (by omega)]
      exact hb
    · cases hb
  have hf5 : Sub (fr V.heap.size w5) (fr w.heap.size (w6.setRow (w.heap.size + 2) (dC d2))) := fun b o hb => by
    unfold fr at hb ⊢
    split at hb
    · rw [if_pos (by omega), setRow_other _ _ _ _ (by omega)]
      exact (b6.block b (Array.getElem?_eq_some_iff.1 hb).1).trans hb
    · cases hb
  have hzF := HZ.out.trans (hp_below BF)
  have hall : Sub (orH Z5 (fr w5.heap.size w6)) (orH Z (fr w.heap.size (w6.setRow (w.heap.size + 2) (dC d2)))) := by
    rw [← HZ5.out]
    exact orH_sub (orH_sub (orH_left _ _) (hf5.trans (orH_in hzF (fr_sub _ _)))) (hfr.trans (orH_in hzF (fr_sub _ _)))
  have hEF := hE.sub hall
  rw [hHAD.out, ← HEN.out] at hEF
  exact bodyPost_ret (v := .agg (dC d2)) (results_cell_row rfl _ _ _ 37 _ (0, 0) _ rfl (blk_row (stay b6 F23.out)) Tryz.underlying37 rfl (by simpa using infoD (d := d2))) rfl ⟨v, l', Zk, _, by rw [hd2], hv, hEF, hR, hZ.trans hfr, BF⟩
end Go.Proofs.YtnjeoeekidnffaaGreat
/- Stage 14: the document's Touch. -/
namespace Go.Proofs.YtnjeoeekidnffaaGreat
open Go.RowKit SmWord Go.Maps
set_option maxRecDepth 100000

theorem results_tcB {P : Program} {fn : Func} {p u : Tmp} {ty : TypeId} (h : fn.results = #[.tmp u, .cell p ty]) (tmps : Array Value) (w : World) (g : Nat) (t : TypeId) (cs : Array Value) (fr : Nat × Nat) (d : TypeDesc) (v : Value)
    (hp : tmps.getD p undef = .pointer (some ⟨g, 0, none⟩)) (hg : w.heap[g]? = some (.cells cs t fr))
    (hu : P.underlying ty = some d) (hd : (match d with | .struct _ | .array _ _ => true | _ => false) = true) (hi : (P.info? ty).map (·.size) = some cs.size) (hv : tmps.getD u undef = v) :
    (results fn tmps).run P w = .ok (.tuple #[v, .agg cs]) w := by
  have hp' : tmps[p]?.getD undef = .pointer (some ⟨g, 0, none⟩) := by simpa using hp
  have hv' : tmps[u]?.getD undef = v := by simpa using hv
  simp [results, h, hp', hv', asAddr, run_loadVar_row w g t ty cs fr d hg hu hd hi]
theorem adsL_mem (L : List Nat) : ∀ u ∈ L.flatMap adL, u.oneCell' = true := fun u hu => by
  obtain ⟨A, _, h⟩ := List.mem_flatMap.1 hu
  exact adL_mem A u h
set_option maxHeartbeats 4000000 in
/-- A warm one. -/
theorem touch_no {Z : Hp} {L : List Nat} (d : Dst) (A : Nat) (w : World) (hd : d.One) (h : RowZ Z d.wm L.length 20 (L.flatMap adL)) (hL : ∀ C ∈ L, C < 2 ^ 160) (hz : Sub Z (hp w)) (hA : A < 2 ^ 160) (hl : L.length ≤ 1000000) (hm : A ∈ L) :
    Calls Tryz.prog 48 #[.agg (dC d), .agg (aN A)] w fun e w' => e = .returned (.tuple #[.bool false, .agg (dC d)]) ∧ Below w.heap.size w w' := by
  obtain ⟨V, hV, f0, f1, f2, bW, sW⟩ := sdboxes w d A
  have hs := aN_size A
  have HB := Lib.hid bW
  have F0 := Lib.hid f0
  have F2 := Lib.hid f2
  have SV := Lib.hid sW
  have KC := Lib.hid (cold_walk d A V h hL (hz.trans (hp_below bW)) hA hl)
  rw [decide_eq_false (by simpa using hm)] at KC
  have r0 := (rng_block (w := V) (cs := (dC d).toList) (by simpa [dC] using f0)).at
  have r1 := adblk f1
  have one := hd.arr
  clear f0 f1 f2 bW sW h hL hz hA hl hm
  go_enter Tryz.func48, Tryz.ntmps48
  go_upto_region 1 with (refine wpList_alloc_row rfl 37 rfl _ zeroD ?_)
  try rw [hV]
  clear hV
  go_upto_region 2 with (first
    | (refine wpList_load_mid rfl 37 _ rfl w.heap.size 0 rfl (dC d).toList _ r0 Tryz.underlying37 rfl infoD ?_)
    | (refine wpList_load_mid rfl 41 _ rfl (w.heap.size + 1) 0 rfl (aN A).toList _ r1 Tryz.underlying41 rfl (infoAd _) ?_; simp only [Array.toArray_toList])
    | (go_at_call 87; refine KC.out.mono ?_; rintro e w1 ⟨rfl, b1⟩))
  have F01 := stay b1 F0.out
  have F21 := Lib.hid (stay b1 F2.out)
  have r01 := (rng_block (w := w1) (cs := (dC d).toList) (by simpa [dC] using F01)).at
  have B1 := Lib.hid (HB.out.trans (b1.mono HB.out.size))
  clear r0 r1 b1 KC F01
  refine region_tail 2 (by kernel_rfl) (by kernel_rfl) ?_
  simp only [List.take_succ_cons, List.take_zero, List.drop_succ_cons, List.drop_zero]
  repeat (first
    | (refine still_load_mid rfl 37 _ rfl w.heap.size 0 (dC d).toList rfl r01 Tryz.underlying37 rfl infoD ?_; simp only [Act.put, List.setIfInBounds_toArray, List.set_cons_succ, List.set_cons_zero])
    | still_step)
  refine wpStill_nil ?_
  refine wpList_store_row rfl 37 _ _ rfl (w.heap.size + 2) _ (dC d) rfl rfl F21.out (by simpa using infoD (d := d)) rfl one ?_
  go_wp2_with fail
  exact bodyPost_ret (v := .tuple #[.bool false, .agg (dC d)]) (results_tcB rfl _ _ (w.heap.size + 2) 37 _ (0, 0) _ _ rfl (blk_row (c' := dC d) F21.out) Tryz.underlying37 rfl (by simpa using infoD (d := d)) rfl) rfl ⟨rfl, below_setRow B1.out.drew (show w.heap.size ≤ w.heap.size + 2 by omega) _⟩
set_option maxHeartbeats 4000000 in
/-- A cold one. -/
theorem touch_yes {Z : Hp} {L : List Nat} (R : Hp → Value → Prop) (d : Dst) (A : Nat) (w : World) (hd : d.One) (h : RowZ Z d.wm L.length 20 (L.flatMap adL)) (hL : ∀ C ∈ L, C < 2 ^ 160) (hz : Sub Z (hp w)) (hA : A < 2 ^ 160) (hl : L.length ≤ 1000000) (hm : A ∉ L)
    (HK : Hid (∀ w1, Below w.heap.size w w1 → Calls Tryz.prog 88 #[.agg (dC d)] w1 fun e w2 => ∃ v, e = .returned (.agg (dC { d with ps := v })) ∧ v.oneCell' = true ∧ (∃ Zk, R Zk v ∧ Sub Zk (fr w1.heap.size w2)) ∧ Below w1.heap.size w1 w2)) :
    Calls Tryz.prog 48 #[.agg (dC d), .agg (aN A)] w fun e w' => ∃ v wm' Zk, e = .returned (.tuple #[.bool true, .agg (dC { d with ps := v, wm := wm' })]) ∧ v.oneCell' = true ∧ RowZ (orH Z (fr w.heap.size w')) wm' (L ++ [A]).length 20 ((L ++ [A]).flatMap adL) ∧ R Zk v ∧ Sub Zk (fr w.heap.size w') ∧ Below w.heap.size w w' := by
  obtain ⟨P, c, hv, -⟩ := h.val
  obtain ⟨V, hV, f0, f1, f2, bW, sW⟩ := sdboxes w d A
  have hs := aN_size A
  have HB := Lib.hid bW
  have F0 := Lib.hid f0
  have F1 := Lib.hid f1
  have F2 := Lib.hid f2
  have SV := Lib.hid sW
  have HV := Lib.hid hv
  have HZ := Lib.hid hz
  have HR0 := Lib.hid (h.sub hz)
  have KC := Lib.hid (cold_walk d A V h hL (hz.trans (hp_below bW)) hA hl)
  rw [decide_eq_true hm] at KC
  have r0 := (rng_block (w := V) (cs := (dC d).toList) (by simpa [dC] using f0)).at
  have r1 := adblk f1
  have one := hd
  have HLl := Lib.hid hl
  rw [hv] at HR0
  obtain ⟨n, hn⟩ : ∃ n, L.length = n := ⟨_, rfl⟩
  have HN := Lib.hid hn
  rw [hn] at HR0 HV
  clear f0 f1 f2 bW sW h hL hz hA hl hm hv hn
  go_enter Tryz.func48, Tryz.ntmps48
  go_upto_region 1 with (refine wpList_alloc_row rfl 37 rfl _ zeroD ?_)
  try rw [hV]
  clear hV
  go_upto_region 3 with (first
    | (refine wpList_load_mid rfl 37 _ rfl w.heap.size 0 rfl (dC d).toList _ r0 Tryz.underlying37 rfl infoD ?_)
    | (refine wpList_load_mid rfl 41 _ rfl (w.heap.size + 1) 0 rfl (aN A).toList _ r1 Tryz.underlying41 rfl (infoAd _) ?_; simp only [Array.toArray_toList])
    | (go_at_call 87; refine KC.out.mono ?_; rintro e w1 ⟨rfl, b1⟩))
  have F01 := stay b1 F0.out
  have r01 := (rng_block (w := w1) (cs := (dC d).toList) (by simpa [dC] using F01)).at
  have B1 := Lib.hid b1
  have KK := Lib.hid (HK.out w1 (HB.out.trans (b1.mono HB.out.size)))
  clear r0 r1 b1 KC HK
  go_upto_region 4 with (first
    | (refine wpList_load_mid rfl 37 _ rfl w.heap.size 0 rfl (dC d).toList _ r01 Tryz.underlying37 rfl infoD ?_)
    | (go_at_call 88; refine KK.out.mono ?_; rintro e w2 ⟨v, rfl, hv1, ⟨Zk, hR, hZk⟩, b2⟩; have hst1 : (dC { d with ps := v }).all (·.oneCell') = true := Dst.One.arr ⟨one.w, one.l, one.wm, one.sl, one.lg, hv1⟩; obtain ⟨d', hd'⟩ : ∃ d', ({ d with ps := v } : Dst) = d' := ⟨_, rfl⟩; rw [hd'] at hst1 ⊢; have g0 := Lib.hid (stay b2 F01))
    | (refine wpList_store_row rfl 37 _ _ rfl w.heap.size _ (dC d') rfl rfl g0.out (by simpa using infoD (d := d')) rfl hst1 ?_))
  have HB2 := Lib.hid (B1.out.trans (b2.mono B1.out.size))
  have sV1 := HB2.out.size
  have G0 := Lib.hid (blk_row g0.out (c' := dC d'))
  have G1 := Lib.hid ((setRow_other w2 w.heap.size (w.heap.size + 1) (dC d') (by omega)).trans (stay HB2.out F1.out))
  have G2 := Lib.hid ((setRow_other w2 w.heap.size (w.heap.size + 2) (dC d') (by omega)).trans (stay HB2.out F2.out))
  have HB3 := Lib.hid (below_setRow (HB.out.trans (HB2.out.mono HB.out.size)) (Nat.le_refl _) (dC d'))
  have S3 := Lib.hid (show V.heap.size ≤ (w2.setRow w.heap.size (dC d')).heap.size by rw [setRow_size]; exact sV1)
  have s01 := B1.out.size
  have ZK := Lib.hid (show Sub Zk (fr V.heap.size (w2.setRow w.heap.size (dC d'))) from fun b o hb => by
    have h1 := hZk b o hb
    unfold fr at h1 ⊢
    split at h1
    · rename_i hle
      rw [if_pos (by omega), setRow_other _ _ _ _ (by have := SV.out; omega)]
      exact h1
    · cases h1)
  have HRR := Lib.hid hR
  have hdl : d'.wm = .slice P n c := by rw [← hd']; exact HV.out
  have HDL := Lib.hid hdl
  have HD' := Lib.hid hd'
  have HV1 := Lib.hid hv1
  have HWF := Lib.hid (HB3.out)
  obtain ⟨w3, hw3⟩ : ∃ w3, w2.setRow w.heap.size (dC d') = w3 := ⟨_, rfl⟩
  rw [hw3] at G0 G1 G2 HB3 S3 ZK HWF ⊢
  clear hw3 hR hZk b2 g0 HB2 r01 KK hd' hdl hst1 sV1 hv1 F01 B1 s01
  go_upto_region 5 with fail
  have HO4 := Lib.hid (own_emptyAd w3 w3.heap.size (Nat.le_refl _))
  have HB4 : Hid (Below w3.heap.size w3 (w3.alloc (.cells #[] 41))) := Lib.hid ((Below.refl _ _).alloc (Nat.le_refl _) _)
  generalize w3.alloc (.cells #[] 41) = w4 at *
  have p4 : w4.cell? ⟨w.heap.size, 2, none⟩ = some (.slice P n c) := blk_cell (stay HB4.out G0.out) (by rw [← HDL.out]; rfl)
  have hs4 := HB4.out.size
  go_upto_region 6 with (first
    | (refine append_row rfl _ _ 32 rfl 41 (.agg (aN 0)) 20 20 Tryz.underlying32 infoA20 (by simp [Value.cells, aN_size]) (by decide) (by decide) w3.heap.size (.slice (some ⟨w3.heap.size, 0, none⟩) 0 0) 0 [] rfl HO4.out (.slice P n c) n (L.flatMap adL) rfl (HR0.out.sub (hp_below (HB3.out.trans (HB4.out.mono HB3.out.size)))) (adsL_mem L) (by have := HLl.out; have := HN.out; omega) (by omega) ?_
       intro v5 w5 ho5 hg5 _
       simp only [Nat.zero_add, List.nil_append] at ho5
       obtain ⟨A5, c5, rfl⟩ := own_slz ho5
       have HO5 := Lib.hid ho5
       have HB5 : Hid (Below w3.heap.size w3 w5) := Lib.hid (HB4.out.grown hg5 (by omega) (by simp [Value.ownBlock]))
       clear ho5 hg5))
  have rx := adblk (stay HB5.out G1.out)
  have hs5 := HB5.out.size
  have HOa := Lib.hid (owns_same (w' := w5.alloc (.cells (aN A) 41)) HO5.out fun b hb => by
    obtain ⟨cs, e⟩ := own_blk HO5.out hb
    rw [e]
    exact blk_alloc e)
  clear p4 HO4 HB4 hs4
  go_upto_region 7 with (first
    | (refine wpList_load_mid rfl 41 _ rfl (w.heap.size + 1) 0 rfl (aN A).toList _ rx Tryz.underlying41 rfl (infoAd _) ?_; simp only [Array.toArray_toList])
    | (refine wpList_bslice_a rfl _ rfl A rfl ?_)
    | (refine append_row rfl _ _ 32 rfl 41 (.agg (aN 0)) 20 20 Tryz.underlying32 infoA20 (by simp [Value.cells, aN_size]) (by decide) (by decide) w3.heap.size _ _ _ rfl HOa.out (.slice (some ⟨w5.heap.size, 0, none⟩) 1 1) 1 (adL A) rfl (rowOneAd (heap_alloc_new _ _)) (adL_mem A) (by have := HLl.out; have := HN.out; omega) (by simp; omega) ?_
       intro v6 w6 ho6 hg6 hl6
       have HO6 := Lib.hid ho6
       have HB6 : Hid (Below w3.heap.size w3 w6) := Lib.hid ((HB5.out.alloc HB5.out.size _).grown hg6 (by simp; omega) (fun k hk => (HOa.out.lt k hk).1))
       obtain ⟨A7, c7, rfl⟩ := own_slz ho6
       clear ho6 hg6 hl6))
  have g6 : w6.heap[w.heap.size]? = some (.cells (dL d').toArray 37) := stay HB6.out G0.out
  have hf6 : w6.frozen? ⟨w.heap.size, 2, none⟩ = false := by simp [World.frozen?, g6]
  have hc6 : w6.cell? ⟨w.heap.size, 2, none⟩ = some d'.wm := blk_cell g6 rfl
  have hsc := setCell_put g6 (by decide : 2 < 8) (.slice A7 (n + 1) c7)
  rw [show (putAt (dL d') 2 [.slice A7 (n + 1) c7]).toArray = dC { d' with wm := .slice A7 (n + 1) c7 } from rfl] at hsc
  obtain ⟨d2, hd2⟩ : ∃ d2, ({ d' with wm := .slice A7 (n + 1) c7 } : Dst) = d2 := ⟨_, rfl⟩
  rw [hd2] at hsc
  have hD2 : ({ d with ps := v, wm := .slice A7 (n + 1) c7 } : Dst) = d2 := by rw [← hd2, ← HD'.out]
  have hone2 : (dC d2).all (·.oneCell') = true := by
    rw [← hD2]
    exact Dst.One.arr ⟨one.w, one.l, rfl, one.sl, one.lg, HV1.out⟩
  have G7 := Lib.hid (blk_row (c' := dC d2) (show w6.heap[w.heap.size]? = some (.cells (dL d').toArray 37) from g6))
  have s6 := HB6.out.size
  have hsv := SV.out
  have hs3 := S3.out
  have G27 := Lib.hid ((setRow_other w6 w.heap.size (w.heap.size + 2) (dC d2) (by omega)).trans (stay HB6.out G2.out))
  have B7 := Lib.hid (below_setRow (HB3.out.trans (HB6.out.mono HB3.out.size)) (Nat.le_refl _) (dC d2))
  have HHD := Lib.hid hD2
  have HO7 := Lib.hid (owns_same (w' := (w6.setRow w.heap.size (dC d2)).setRow (w.heap.size + 2) (dC d2)) HO6.out fun b hb => by
    have := (World.ownsRow.lt HO6.out b hb).1
    rw [setRow_other _ _ _ _ (by omega), setRow_other _ _ _ _ (by omega)])
  have ZK7 := Lib.hid (show Sub Zk (fr w.heap.size ((w6.setRow w.heap.size (dC d2)).setRow (w.heap.size + 2) (dC d2))) from fun b o hb => by
    have h1 := ZK.out b o hb
    unfold fr at h1 ⊢
    split at h1
    · have h3 := (Array.getElem?_eq_some_iff.1 h1).1
      rw [if_pos (by omega), setRow_other _ _ _ _ (by omega), setRow_other _ _ _ _ (by omega), HB6.out.block b h3]
      exact h1
    · cases h1)
  clear hD2 hd2 rx HOa hs5
  go_upto_region 8 with fail
  clear hsc hf6 hc6 g6
  obtain ⟨w7, hw7⟩ : ∃ w7, w6.setRow w.heap.size (dC d2) = w7 := ⟨_, rfl⟩
  rw [hw7] at G7 G27 B7 HO7 ZK7 ⊢
  have r7 := (rng_block (w := w7) (cs := (dC d2).toList) (by simpa [dC] using G7.out)).at
  have hw7s : w7.heap.size = w6.heap.size := by rw [← hw7, setRow_size]
  clear hw7
  refine region_tail 2 (by kernel_rfl) (by kernel_rfl) ?_
  simp only [List.take_succ_cons, List.take_zero, List.drop_succ_cons, List.drop_zero]
  repeat (first
    | (refine still_load_mid rfl 37 _ rfl w.heap.size 0 (dC d2).toList rfl r7 Tryz.underlying37 rfl infoD ?_; simp only [Act.put, List.setIfInBounds_toArray, List.set_cons_succ, List.set_cons_zero])
    | still_step)
  refine wpStill_nil ?_
  refine wpList_store_row rfl 37 _ _ rfl (w.heap.size + 2) _ (dC d2) rfl rfl G27.out (by simpa using infoD (d := d2)) rfl hone2 ?_
  go_wp2_with fail
  have BF := below_setRow B7.out.drew (show w.heap.size ≤ w.heap.size + 2 by omega) (dC d2)
  refine bodyPost_ret (v := .tuple #[.bool true, .agg (dC d2)]) (results_tcB rfl _ _ (w.heap.size + 2) 37 _ (0, 0) _ _ rfl (blk_row (c' := dC d2) G27.out) Tryz.underlying37 rfl (by simpa using infoD (d := d2)) rfl) rfl ⟨v, .slice A7 (n + 1) c7, Zk, by rw [HHD.out], HV1.out, ?_, HRR.out, ZK7.out, BF⟩
  have := ((RowZ.ownF HO7.out).sub (fr_mono (show w.heap.size ≤ w3.heap.size by omega) _)).sub (orH_in (Z' := fr w.heap.size ((w7.drew).setRow (w.heap.size + 2) (dC d2))) (HZ.out.trans (hp_below BF)) (fr_sub _ _))
  rw [List.length_append, List.flatMap_append, HN.out]
  simp only [List.flatMap_cons, List.flatMap_nil, List.append_nil, List.length_cons, List.length_nil, Nat.zero_add] at this ⊢
  exact this
end Go.Proofs.YtnjeoeekidnffaaGreat
/- Stage 14: rows of keys; the document's ColdSlot. -/
namespace Go.Proofs.YtnjeoeekidnffaaGreat
open Go.RowKit SmWord Go.Maps
set_option maxRecDepth 100000

def kyL (x : Nat × Nat) : List Value := (aN x.1).toList ++ (wa x.2).toList
theorem kyL_len (x : Nat × Nat) : (kyL x).length = 24 := by simp [kyL, aN_size, wa_size]
theorem kyL_mem (x : Nat × Nat) : ∀ u ∈ kyL x, u.oneCell' = true := fun u hu => by
  rcases List.mem_append.1 hu with h | h
  · exact adL_mem x.1 u h
  · exact (Array.all_eq_true_iff_forall_mem.1 (wa_one (n := x.2))) u (by simpa using h)
theorem kysL_mem (L : List (Nat × Nat)) : ∀ u ∈ L.flatMap kyL, u.oneCell' = true := fun u hu => by
  obtain ⟨A, _, h⟩ := List.mem_flatMap.1 hu
  exact kyL_mem A u h
theorem run_build24 (x0 x1 x2 x3 x4 x5 x6 x7 x8 x9 x10 x11 x12 x13 x14 x15 x16 x17 x18 x19 y0 y1 y2 y3 : Value) (w : World) : (Instr.build 152 #[(0, .agg #[x0, x1, x2, x3, x4, x5, x6, x7, x8, x9, x10, x11, x12, x13, x14, x15, x16, x17, x18, x19]), (1, .agg #[y0, y1, y2, y3])]).run Tryz.prog w = .ok (.agg #[x0, x1, x2, x3, x4, x5, x6, x7, x8, x9, x10, x11, x12, x13, x14, x15, x16, x17, x18, x19, y0, y1, y2, y3]) w := by kernel_rfl
theorem run_build_k (x : Nat × Nat) (w : World) : (Instr.build 152 #[(0, .agg (aN x.1)), (1, .agg (wa x.2))]).run Tryz.prog w = .ok (.agg (kyL x).toArray) w := by
  have e2 : (kyL x).toArray = aN x.1 ++ wa x.2 := by simp [kyL]
  rw [e2]
  obtain ⟨x0, x1, x2, x3, x4, x5, x6, x7, x8, x9, x10, x11, x12, x13, x14, x15, x16, x17, x18, x19, e⟩ := list20t (aN_size x.1)
  rw [e]
  exact run_build24 x0 x1 x2 x3 x4 x5 x6 x7 x8 x9 x10 x11 x12 x13 x14 x15 x16 x17 x18 x19 _ _ _ _ w
theorem run_bslice24 (x0 x1 x2 x3 x4 x5 x6 x7 x8 x9 x10 x11 x12 x13 x14 x15 x16 x17 x18 x19 y0 y1 y2 y3 : Value) (w : World) : (Instr.buildSlice 33 1 #[(0, .agg #[x0, x1, x2, x3, x4, x5, x6, x7, x8, x9, x10, x11, x12, x13, x14, x15, x16, x17, x18, x19, y0, y1, y2, y3])]).run Tryz.prog w = .ok (.slice (some ⟨w.heap.size, 0, none⟩) 1 1) (w.alloc (.cells #[x0, x1, x2, x3, x4, x5, x6, x7, x8, x9, x10, x11, x12, x13, x14, x15, x16, x17, x18, x19, y0, y1, y2, y3] 152)) := by kernel_rfl
theorem run_bslice_k (x : Nat × Nat) (w : World) : (Instr.buildSlice 33 1 #[(0, .agg (kyL x).toArray)]).run Tryz.prog w = .ok (.slice (some ⟨w.heap.size, 0, none⟩) 1 1) (w.alloc (.cells (kyL x).toArray 152)) := by
  have e2 : (kyL x).toArray = aN x.1 ++ wa x.2 := by simp [kyL]
  rw [e2]
  obtain ⟨x0, x1, x2, x3, x4, x5, x6, x7, x8, x9, x10, x11, x12, x13, x14, x15, x16, x17, x18, x19, e⟩ := list20t (aN_size x.1)
  rw [e]
  exact run_bslice24 x0 x1 x2 x3 x4 x5 x6 x7 x8 x9 x10 x11 x12 x13 x14 x15 x16 x17 x18 x19 _ _ _ _ w
theorem wpList_build_k {ops : Array Oper} {rest : List Oper} {o : Oper} {a : Act} {w : World} {Q : Exit → Act → World → Prop} (hg : o.guard = none) (p q : Operand) (ho : o.op = .build 152 #[(0, p), (1, q)]) (x : Nat × Nat) (hp : a.eval p = .agg (aN x.1)) (hq : a.eval q = .agg (wa x.2)) (h : wpList Tryz.prog ops Q rest (a.put o.dst (.agg (kyL x).toArray)) w) : wpList Tryz.prog ops Q (o :: rest) a w := by
  refine wpList_plain hg fun K hK => ?_
  have hr := run_build_k x w
  unfold Oper.wp
  simp [execOp, ho, hp, hq, hr, Result.andThen]
  exact hK _ _ h
theorem wpList_bslice_k {ops : Array Oper} {rest : List Oper} {o : Oper} {a : Act} {w : World} {Q : Exit → Act → World → Prop} (hg : o.guard = none) (p : Operand) (ho : o.op = .buildSlice 33 1 #[(0, p)]) (x : Nat × Nat) (hx : a.eval p = .agg (kyL x).toArray) (h : wpList Tryz.prog ops Q rest (a.put o.dst (.slice (some ⟨w.heap.size, 0, none⟩) 1 1)) (w.alloc (.cells (kyL x).toArray 152))) : wpList Tryz.prog ops Q (o :: rest) a w := by
  refine wpList_plain hg fun K hK => ?_
  have hr := run_bslice_k x w
  unfold Oper.wp
  simp [execOp, ho, hx, hr, Result.andThen]
  exact hK _ _ h
theorem own_emptyK (w : World) (base : Nat) (hb : base ≤ w.heap.size) : (w.alloc (.cells #[] 152)).ownsRow base 152 24 (.slice (some ⟨w.heap.size, 0, none⟩) 0 0) 0 [] :=
  ⟨rfl, .inr ⟨w.heap.size, 0, #[], rfl, hb, heap_alloc_new _ _, Nat.le_refl _, by simp [maxLen], rfl, rfl⟩⟩
theorem infoK24 : (Tryz.prog.info? 152).map (fun i => (i.zero, i.size, i.bytes)) = some (some (.agg (kyL (0, 0)).toArray), 24, 56) := by kernel_rfl
theorem rowOneK {w : World} {x : Nat × Nat} {b : Nat} (h : w.heap[b]? = some (.cells (kyL x).toArray 152)) : RowZ (hp w) (.slice (some ⟨b, 0, none⟩) 1 1) 1 24 (kyL x) :=
  ⟨by simp [kyL_len], some ⟨b, 0, none⟩, 1, rfl, Nat.le_refl _, by simp [maxLen], fun h => by simp at h, fun _ => ⟨b, 0, rfl, rng_block h⟩⟩
theorem ky_ad {Z : Hp} {b o : Nat} {x : Nat × Nat} (h : rng Z b o (kyL x)) : rng Z b o (aN x.1).toList := by
  have := h.part 0 (aN x.1).toList (fun j v hj => by
    unfold kyL
    rw [Nat.zero_add, List.getElem?_append_left (List.getElem?_eq_some_iff.1 hj).1]
    exact hj)
  rwa [Nat.add_zero] at this
theorem ky_wd {Z : Hp} {b o : Nat} {x : Nat × Nat} (h : rng Z b o (kyL x)) : rng Z b (o + 20) (wa x.2).toList := h.part 20 (wa x.2).toList (fun j v hj => by
    unfold kyL
    rw [List.getElem?_append_right (by simp [aN_size])]
    simpa [aN_size] using hj)
theorem csboxes (w : World) (d : Dst) (A k : Nat) : ∃ W, ((w.alloc (.cells (dC d) 37)).alloc (.cells (aN A) 41)).alloc (.cells (wa k) 44) = W ∧ W.heap[w.heap.size]? = some (.cells (dC d) 37) ∧ W.heap[w.heap.size + 1]? = some (.cells (aN A) 41) ∧ W.heap[w.heap.size + 2]? = some (.cells (wa k) 44) ∧ Below w.heap.size w W ∧ W.heap.size = w.heap.size + 3 :=
  ⟨_, rfl, blk_alloc (blk_alloc (heap_alloc_new _ _)), blk_alloc (heap_alloc2_new _ _ _), by have := heap_alloc_new ((w.alloc (.cells (dC d) 37)).alloc (.cells (aN A) 41)) (.cells (wa k) 44); simpa using this, (((Below.refl _ _).alloc (Nat.le_refl _) _).alloc (by simp) _).alloc (by simp; omega) _, by simp⟩
set_option maxHeartbeats 4000000 in
theorem coldSlot_walk {Z : Hp} {L : List (Nat × Nat)} (d : Dst) (A K : Nat) (w : World) (h : RowZ Z d.sl L.length 24 (L.flatMap kyL)) (hL : ∀ C ∈ L, C.1 < 2 ^ 160 ∧ C.2 < M) (hz : Sub Z (hp w)) (hA : A < 2 ^ 160) (hK : K < M) (hl : L.length ≤ 1000000) :
    Calls Tryz.prog 89 #[.agg (dC d), .agg (aN A), wd K] w fun e w' => e = .returned (.bool (decide ((A, K) ∉ L))) ∧ Below w.heap.size w w' := by
  obtain ⟨P, c, hv, hn, hc, hP, hcells⟩ := h.one (fun x _ => kyL_len x)
  have HX := Lib.hid hL
  have HAd := Lib.hid hA
  have HKd := Lib.hid hK
  clear hA hK
  have HC : Hid (0 < L.length → ∃ b off, P = some ⟨b, off, none⟩ ∧ ∀ i x, L[i]? = some x → rng (hp w) b (off + i * 24) (kyL x)) := Lib.hid fun hn => by
    obtain ⟨b, off, e, _, hi⟩ := hcells hn
    exact ⟨b, off, e, fun i x hx => (hi i x hx).sub hz⟩
  generalize hN : L.length = n at *
  have HN := Lib.hid hN
  clear hcells h hN hz
  have hs := aN_size A
  have hsw := wa_size
  obtain ⟨V, hV, f0, f1, f2, bW, sW⟩ := csboxes w d A K
  have HB := Lib.hid bW
  have F1 := Lib.hid f1
  have F2 := Lib.hid f2
  have p1 : V.cell? ⟨w.heap.size, 3, none⟩ = some (.slice P n c) := blk_cell f0 (by rw [← hv]; rfl)
  have F0 := Lib.hid f0
  have HV := Lib.hid hv
  clear f0 f1 f2 bW sW hv
  unfold wd
  go_enter Tryz.func89, Tryz.ntmps89
  go_upto_region 1 with fail
  try rw [hV]
  clear hV
  go_wp2_with fail
  go_loopw [11] (fun i wr => ∃ k : Nat, k ≤ n ∧ i = .int .i64 k ∧ Hid (∀ x ∈ L.take k, x ≠ (A, K)) ∧ Hid (Below V.heap.size V wr)) (fun i _ => n - (intOf i).toNat)
  case atStart => exact ⟨0, Nat.zero_le _, rfl, Lib.hid (fun x hx => by simp at hx), Lib.hid (Below.refl _ _)⟩
  case round =>
    obtain ⟨k, hk, rfl, HO, HW⟩ := hrel
    have bwr : Below w.heap.size w wr := HB.out.trans (HW.out.mono HB.out.size)
    have BW := Lib.hid bwr
    by_cases hlt : k < n
    · obtain ⟨b, off, rfl, hi⟩ := HC.out (by omega)
      obtain ⟨x, hx⟩ : ∃ x, L[k]? = some x := ⟨L[k]'(by rw [HN.out]; exact hlt), by simp⟩
      have HXx := Lib.hid (HX.out x (List.mem_of_getElem? hx))
      have HRg := Lib.hid (hi k _ hx)
      have HXg := Lib.hid hx
      have r0 : ∀ g : Ext wr, g.on.rangeAt b (off + k * 24) (aN x.1).toList := fun g => (ky_ad (HRg.out.sub (hp_below (bwr.trans (g.below.mono bwr.size))))).at
      have r3 : ∀ g : Ext wr, g.on.rangeAt b (off + k * 24 + 20) (wa x.2).toList := fun g => (ky_wd (HRg.out.sub (hp_below (bwr.trans (g.below.mono bwr.size))))).at
      have r1 := fun g : Ext wr => adblk (g.block (stay HW.out F1.out))
      have r2 : ∀ g : Ext wr, g.on.rangeAt (w.heap.size + 2) 0 (wa K).toList := fun g => (rng_block (cs := (wa K).toList) (by simpa using g.block (stay HW.out F2.out))).at
      have q1 := fun g : Ext wr => (show g.on.cell? ⟨w.heap.size, 3, none⟩ = some (.slice (some ⟨b, off, none⟩) n c) from blk_cell (g.block (stay HW.out F0.out)) (by rw [← HV.out]; rfl))
      have eq := eq_ad x.1 A HXx.out.1 HAd.out
      have eq2 := equal_wa x.2 K
      have hmod : decide (x.2 % M = K % M) = decide (x.2 = K) := by rw [Nat.mod_eq_of_lt HXx.out.2, Nat.mod_eq_of_lt HKd.out]
      rw [hmod] at eq2
      have HEQ : Hid (x = (A, K) ↔ x.1 = A ∧ x.2 = K) := Lib.hid Prod.ext_iff
      clear hi hx bwr hmod
      go_upto_region 4 with fail
      by_cases e : x.1 = A
      · rw [decide_eq_true e] at eq
        have HE1 := Lib.hid e
        clear e
        obtain ⟨q, hq⟩ : ∃ q, decide (x.2 = K) = q := ⟨_, rfl⟩
        rw [hq] at eq2
        have HQ := Lib.hid hq
        clear hq
        have egW := Tryz.guardW
        refine region_ext (by kernel_rfl) (by kernel_rfl) ?_
        repeat (first
          | (go_big_quiet_want; refine quiet_load_mid 41 _ rfl b (off + k * 24) (aN x.1).toList rfl (fun w2 hw2 => by obtain ⟨g1, rfl⟩ := hw2; exact r0 g1) Tryz.underlying41 rfl (infoAd _) ?_; simp only [Act.put, List.setIfInBounds_toArray, List.set_cons_succ, List.set_cons_zero, Array.toArray_toList]; go_big_quiet_on)
          | (go_big_quiet_want; refine quiet_load_mid 41 _ rfl (w.heap.size + 1) 0 (aN A).toList rfl (fun w2 hw2 => by obtain ⟨g1, rfl⟩ := hw2; exact r1 g1) Tryz.underlying41 rfl (infoAd _) ?_; simp only [Act.put, List.setIfInBounds_toArray, List.set_cons_succ, List.set_cons_zero, Array.toArray_toList]; go_big_quiet_on)
          | (go_big_quiet_want; refine quiet_load_mid 44 _ rfl b (off + k * 24 + 20) (wa x.2).toList rfl (fun w2 hw2 => by obtain ⟨g1, rfl⟩ := hw2; exact r3 g1) Tryz.underlying44 rfl (infoW4 _) ?_; simp only [Act.put, List.setIfInBounds_toArray, List.set_cons_succ, List.set_cons_zero, Array.toArray_toList]; go_big_quiet_on)
          | (go_big_quiet_want; refine quiet_load_mid 44 _ rfl (w.heap.size + 2) 0 (wa K).toList rfl (fun w2 hw2 => by obtain ⟨g1, rfl⟩ := hw2; exact r2 g1) Tryz.underlying44 rfl (infoW4 _) ?_; simp only [Act.put, List.setIfInBounds_toArray, List.set_cons_succ, List.set_cons_zero, Array.toArray_toList]; go_big_quiet_on)
          | go_big_quiet_step (fail))
        refine wpQuiet_nil ?_
        rintro w' ⟨gg, rfl⟩
        have HWg := Lib.hid (HW.out.trans (gg.below.mono HW.out.size))
        have HBg := Lib.hid (BW.out.trans (gg.below.mono BW.out.size))
        clear r0 r1 eq q1 r2 r3 eq2
        generalize gg.on = wg at *
        cases q
        · go_wp2_with fail
          exact ⟨⟨k + 1, by omega, by go_num, Lib.hid (fun y hy => by
            rw [List.take_add_one, HXg.out] at hy
            rcases List.mem_append.1 hy with hy | hy
            · exact HO.out y hy
            · simp at hy
              subst hy
              exact fun h => (of_decide_eq_false HQ.out) (HEQ.out.1 h).2), HWg⟩, by simp [intOf]; omega⟩
        · have HE := Lib.hid (show (A, K) ∈ L from (HEQ.out.2 ⟨HE1.out, of_decide_eq_true HQ.out⟩) ▸ List.mem_of_getElem? HXg.out)
          go_wp2_with fail
          go_ret
          exact ⟨by rw [decide_eq_false (by simpa using HE.out)]; rfl, HBg.out⟩
      · rw [decide_eq_false e] at eq
        have HE1 := Lib.hid e
        clear e eq2 r2 r3
        have egW := Tryz.guardW
        refine region_ext (by kernel_rfl) (by kernel_rfl) ?_
        repeat (first
          | (go_big_quiet_want; refine quiet_load_mid 41 _ rfl b (off + k * 24) (aN x.1).toList rfl (fun w2 hw2 => by obtain ⟨g1, rfl⟩ := hw2; exact r0 g1) Tryz.underlying41 rfl (infoAd _) ?_; simp only [Act.put, List.setIfInBounds_toArray, List.set_cons_succ, List.set_cons_zero, Array.toArray_toList]; go_big_quiet_on)
          | (go_big_quiet_want; refine quiet_load_mid 41 _ rfl (w.heap.size + 1) 0 (aN A).toList rfl (fun w2 hw2 => by obtain ⟨g1, rfl⟩ := hw2; exact r1 g1) Tryz.underlying41 rfl (infoAd _) ?_; simp only [Act.put, List.setIfInBounds_toArray, List.set_cons_succ, List.set_cons_zero, Array.toArray_toList]; go_big_quiet_on)
          | go_big_quiet_step (fail))
        refine wpQuiet_nil ?_
        rintro w' ⟨gg, rfl⟩
        have HWg := Lib.hid (HW.out.trans (gg.below.mono HW.out.size))
        have HBg := Lib.hid (BW.out.trans (gg.below.mono BW.out.size))
        clear r0 r1 eq q1
        generalize gg.on = wg at *
        go_wp2_with fail
        exact ⟨⟨k + 1, by omega, by go_num, Lib.hid (fun y hy => by
          rw [List.take_add_one, HXg.out] at hy
          rcases List.mem_append.1 hy with hy | hy
          · exact HO.out y hy
          · simp at hy
            subst hy
            exact fun h => HE1.out (HEQ.out.1 h).1), HWg⟩, by simp [intOf]; omega⟩
    · obtain rfl : k = n := by omega
      have hno : (A, K) ∉ L := fun hm => HO.out (A, K) (by rw [List.take_of_length_le (by rw [HN.out]; exact Nat.le_refl _)]; exact hm) rfl
      have HNO := Lib.hid hno
      clear hno
      go_wp2_with fail
      go_ret
      exact ⟨by rw [decide_eq_true HNO.out]; rfl, BW.out⟩
end Go.Proofs.YtnjeoeekidnffaaGreat
