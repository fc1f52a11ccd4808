/- Stage 14: the document's TouchSlot. -/
import Derived.Test.YtnjeoeekidnffaaGreatNo
namespace Go.Proofs.YtnjeoeekidnffaaGreat
open Go.RowKit SmWord Go.Maps
set_option maxRecDepth 100000

theorem tsboxes (w : World) (d : Dst) (A k : Nat) : ∃ W, (((w.alloc (.cells (dC d) 37)).alloc (.cells (aN A) 41)).alloc (.cells (wa k) 44)).alloc (.cells (dC dst0) 37) = W ∧ W.heap[w.heap.size]? = some (.cells (dC d) 37) ∧ W.heap[w.heap.size + 1]? = some (.cells (aN A) 41) ∧ W.heap[w.heap.size + 2]? = some (.cells (wa k) 44) ∧ W.heap[w.heap.size + 3]? = some (.cells (dC dst0) 37) ∧ Below w.heap.size w W ∧ W.heap.size = w.heap.size + 4 := by
  obtain ⟨w1, h1, f0, f1, f2, b1, s1⟩ := csboxes w d A k
  obtain ⟨w2, h2⟩ : ∃ w2, w1.alloc (.cells (dC dst0) 37) = w2 := ⟨_, rfl⟩
  have b2 : Below w1.heap.size w1 w2 := h2 ▸ (Below.refl _ _).alloc (Nat.le_refl _) _
  have g3 : w2.heap[w.heap.size + 3]? = some (.cells (dC dst0) 37) := by rw [← s1]; exact h2 ▸ heap_alloc_new _ _
  exact ⟨w2, by rw [h1, h2], stay b2 f0, stay b2 f1, stay b2 f2, g3, b1.trans (b2.mono b1.size), h2 ▸ by simp [s1]⟩
set_option maxHeartbeats 4000000 in
/-- A warm one. -/
theorem touchSlot_no {Z : Hp} {L : List (Nat × Nat)} (d : Dst) (A K : Nat) (w : World) (hd : d.One) (h : RowZ Z d.sl L.length 24 (L.flatMap kyL)) (hL : ∀ C ∈ L, C.1 < 2 ^ 160 ∧ C.2 < M) (hz : Sub Z (hp w)) (hA : A < 2 ^ 160) (hKM : K < M) (hl : L.length ≤ 1000000) (hm : (A, K) ∈ L) :
    Calls Tryz.prog 49 #[.agg (dC d), .agg (aN A), wd K] w fun e w' => e = .returned (.tuple #[.bool false, .agg (dC d)]) ∧ Below w.heap.size w w' := by
  obtain ⟨V, hV, f0, f1, f4, f2, bW, sW⟩ := tsboxes w d A K
  have hs := aN_size A
  have HB := Lib.hid bW
  have F0 := Lib.hid f0
  have F2 := Lib.hid f2
  have F4 := Lib.hid f4
  have SV := Lib.hid sW
  have KC := Lib.hid (coldSlot_walk d A K V h hL (hz.trans (hp_below bW)) hA hKM hl)
  rw [decide_eq_false (by simpa using hm)] at KC
  have r0 := (rng_block (w := V) (cs := (dC d).toList) (by simpa [dC] using f0)).at
  have r1 := adblk f1
  have r2 := (rng_block (w := V) (cs := (wa K).toList) (by simpa using f4)).at
  have hsw := wa_size
  have one := hd.arr
  clear f0 f1 f2 f4 bW sW h hL hz hA hKM hl hm
  go_enter Tryz.func49, Tryz.ntmps49
  go_upto_region 1 with (refine wpList_alloc_row rfl 37 rfl _ zeroD ?_)
  try rw [hV]
  clear hV
  go_upto_region 2 with (first
    | (refine wpList_load_mid rfl 37 _ rfl w.heap.size 0 rfl (dC d).toList _ r0 Tryz.underlying37 rfl infoD ?_)
    | (refine wpList_load_mid rfl 41 _ rfl (w.heap.size + 1) 0 rfl (aN A).toList _ r1 Tryz.underlying41 rfl (infoAd _) ?_; simp only [Array.toArray_toList])
    | (refine wpList_load_mid rfl 44 _ rfl (w.heap.size + 2) 0 rfl (wa K).toList _ r2 Tryz.underlying44 rfl (infoW4 _) ?_; simp only [Array.toArray_toList])
    | (go_at_call 89; refine KC.out.mono ?_; rintro e w1 ⟨rfl, b1⟩))
  have F01 := stay b1 F0.out
  have F21 := Lib.hid (stay b1 F2.out)
  have r01 := (rng_block (w := w1) (cs := (dC d).toList) (by simpa [dC] using F01)).at
  have B1 := Lib.hid (HB.out.trans (b1.mono HB.out.size))
  clear r0 r1 r2 b1 KC F01
  refine region_tail 2 (by kernel_rfl) (by kernel_rfl) ?_
  simp only [List.take_succ_cons, List.take_zero, List.drop_succ_cons, List.drop_zero]
  repeat (first
    | (refine still_load_mid rfl 37 _ rfl w.heap.size 0 (dC d).toList rfl r01 Tryz.underlying37 rfl infoD ?_; simp only [Act.put, List.setIfInBounds_toArray, List.set_cons_succ, List.set_cons_zero])
    | still_step)
  refine wpStill_nil ?_
  refine wpList_store_row rfl 37 _ _ rfl (w.heap.size + 3) _ (dC d) rfl rfl F21.out (by simpa using infoD (d := d)) rfl one ?_
  go_wp2_with fail
  exact bodyPost_ret (v := .tuple #[.bool false, .agg (dC d)]) (results_tcB rfl _ _ (w.heap.size + 3) 37 _ (0, 0) _ _ rfl (blk_row (c' := dC d) F21.out) Tryz.underlying37 rfl (by simpa using infoD (d := d)) rfl) rfl ⟨rfl, below_setRow B1.out.drew (show w.heap.size ≤ w.heap.size + 3 by omega) _⟩
set_option maxHeartbeats 4000000 in
/-- A cold one. -/
theorem touchSlot_yes {Z : Hp} {L : List (Nat × Nat)} (R : Hp → Value → Prop) (d : Dst) (A K : Nat) (w : World) (hd : d.One) (h : RowZ Z d.sl L.length 24 (L.flatMap kyL)) (hL : ∀ C ∈ L, C.1 < 2 ^ 160 ∧ C.2 < M) (hz : Sub Z (hp w)) (hA : A < 2 ^ 160) (hKM : K < M) (hl : L.length ≤ 1000000) (hm : (A, K) ∉ L)
    (HK : Hid (∀ w1, Below w.heap.size w w1 → Calls Tryz.prog 88 #[.agg (dC d)] w1 fun e w2 => ∃ v, e = .returned (.agg (dC { d with ps := v })) ∧ v.oneCell' = true ∧ (∃ Zk, R Zk v ∧ Sub Zk (fr w1.heap.size w2)) ∧ Below w1.heap.size w1 w2)) :
    Calls Tryz.prog 49 #[.agg (dC d), .agg (aN A), wd K] w fun e w' => ∃ v wm' Zk, e = .returned (.tuple #[.bool true, .agg (dC { d with ps := v, sl := wm' })]) ∧ v.oneCell' = true ∧ RowZ (orH Z (fr w.heap.size w')) wm' (L ++ [(A, K)]).length 24 ((L ++ [(A, K)]).flatMap kyL) ∧ R Zk v ∧ Sub Zk (fr w.heap.size w') ∧ Below w.heap.size w w' := by
  obtain ⟨P, c, hv, -⟩ := h.val
  obtain ⟨V, hV, f0, f1, f4, f2, bW, sW⟩ := tsboxes w d A K
  have hs := aN_size A
  have HB := Lib.hid bW
  have F0 := Lib.hid f0
  have F1 := Lib.hid f1
  have F2 := Lib.hid f2
  have F4 := Lib.hid f4
  have SV := Lib.hid sW
  have HV := Lib.hid hv
  have HZ := Lib.hid hz
  have HR0 := Lib.hid (h.sub hz)
  have KC := Lib.hid (coldSlot_walk d A K V h hL (hz.trans (hp_below bW)) hA hKM hl)
  rw [decide_eq_true hm] at KC
  have r0 := (rng_block (w := V) (cs := (dC d).toList) (by simpa [dC] using f0)).at
  have r1 := adblk f1
  have r2 := (rng_block (w := V) (cs := (wa K).toList) (by simpa using f4)).at
  have hsw := wa_size
  have one := hd
  have HLl := Lib.hid hl
  rw [hv] at HR0
  obtain ⟨n, hn⟩ : ∃ n, L.length = n := ⟨_, rfl⟩
  have HN := Lib.hid hn
  rw [hn] at HR0 HV
  clear f0 f1 f2 f4 bW sW h hL hz hA hKM hl hm hv hn
  go_enter Tryz.func49, Tryz.ntmps49
  go_upto_region 1 with (refine wpList_alloc_row rfl 37 rfl _ zeroD ?_)
  try rw [hV]
  clear hV
  go_upto_region 3 with (first
    | (refine wpList_load_mid rfl 37 _ rfl w.heap.size 0 rfl (dC d).toList _ r0 Tryz.underlying37 rfl infoD ?_)
    | (refine wpList_load_mid rfl 41 _ rfl (w.heap.size + 1) 0 rfl (aN A).toList _ r1 Tryz.underlying41 rfl (infoAd _) ?_; simp only [Array.toArray_toList])
    | (refine wpList_load_mid rfl 44 _ rfl (w.heap.size + 2) 0 rfl (wa K).toList _ r2 Tryz.underlying44 rfl (infoW4 _) ?_; simp only [Array.toArray_toList])
    | (go_at_call 89; refine KC.out.mono ?_; rintro e w1 ⟨rfl, b1⟩))
  have F01 := stay b1 F0.out
  have r01 := (rng_block (w := w1) (cs := (dC d).toList) (by simpa [dC] using F01)).at
  have B1 := Lib.hid b1
  have KK := Lib.hid (HK.out w1 (HB.out.trans (b1.mono HB.out.size)))
  clear r0 r1 r2 b1 KC HK
  go_upto_region 4 with (first
    | (refine wpList_load_mid rfl 37 _ rfl w.heap.size 0 rfl (dC d).toList _ r01 Tryz.underlying37 rfl infoD ?_)
    | (go_at_call 88; refine KK.out.mono ?_; rintro e w2 ⟨v, rfl, hv1, ⟨Zk, hR, hZk⟩, b2⟩; have hst1 : (dC { d with ps := v }).all (·.oneCell') = true := Dst.One.arr ⟨one.w, one.l, one.wm, one.sl, one.lg, hv1⟩; obtain ⟨d', hd'⟩ : ∃ d', ({ d with ps := v } : Dst) = d' := ⟨_, rfl⟩; rw [hd'] at hst1 ⊢; have g0 := Lib.hid (stay b2 F01))
    | (refine wpList_store_row rfl 37 _ _ rfl w.heap.size _ (dC d') rfl rfl g0.out (by simpa using infoD (d := d')) rfl hst1 ?_))
  have HB2 := Lib.hid (B1.out.trans (b2.mono B1.out.size))
  have sV1 := HB2.out.size
  have G0 := Lib.hid (blk_row g0.out (c' := dC d'))
  have G1 := Lib.hid ((setRow_other w2 w.heap.size (w.heap.size + 1) (dC d') (by omega)).trans (stay HB2.out F1.out))
  have G2 := Lib.hid ((setRow_other w2 w.heap.size (w.heap.size + 3) (dC d') (by omega)).trans (stay HB2.out F2.out))
  have G4 := Lib.hid ((setRow_other w2 w.heap.size (w.heap.size + 2) (dC d') (by omega)).trans (stay HB2.out F4.out))
  have HB3 := Lib.hid (below_setRow (HB.out.trans (HB2.out.mono HB.out.size)) (Nat.le_refl _) (dC d'))
  have S3 := Lib.hid (show V.heap.size ≤ (w2.setRow w.heap.size (dC d')).heap.size by rw [setRow_size]; exact sV1)
  have s01 := B1.out.size
  have ZK := Lib.hid (show Sub Zk (fr V.heap.size (w2.setRow w.heap.size (dC d'))) from fun b o hb => by
    have h1 := hZk b o hb
    unfold fr at h1 ⊢
    split at h1
    · rename_i hle
      rw [if_pos (by omega), setRow_other _ _ _ _ (by have := SV.out; omega)]
      exact h1
    · cases h1)
  have HRR := Lib.hid hR
  have hdl : d'.sl = .slice P n c := by rw [← hd']; exact HV.out
  have HDL := Lib.hid hdl
  have HD' := Lib.hid hd'
  have HV1 := Lib.hid hv1
  have HWF := Lib.hid (HB3.out)
  obtain ⟨w3, hw3⟩ : ∃ w3, w2.setRow w.heap.size (dC d') = w3 := ⟨_, rfl⟩
  rw [hw3] at G0 G1 G2 G4 HB3 S3 ZK HWF ⊢
  clear hw3 hR hZk b2 g0 HB2 r01 KK hd' hdl hst1 sV1 hv1 F01 B1 s01
  go_upto_region 5 with fail
  have HO4 := Lib.hid (own_emptyK w3 w3.heap.size (Nat.le_refl _))
  have HB4 : Hid (Below w3.heap.size w3 (w3.alloc (.cells #[] 152))) := Lib.hid ((Below.refl _ _).alloc (Nat.le_refl _) _)
  generalize w3.alloc (.cells #[] 152) = w4 at *
  have p4 : w4.cell? ⟨w.heap.size, 3, none⟩ = some (.slice P n c) := blk_cell (stay HB4.out G0.out) (by rw [← HDL.out]; rfl)
  have hs4 := HB4.out.size
  go_upto_region 6 with (first
    | (refine append_row rfl _ _ 33 rfl 152 (.agg (kyL (0, 0)).toArray) 24 56 Tryz.underlying33 infoK24 (by simp [Value.cells, kyL_len]) (by decide) (by decide) w3.heap.size (.slice (some ⟨w3.heap.size, 0, none⟩) 0 0) 0 [] rfl HO4.out (.slice P n c) n (L.flatMap kyL) rfl (HR0.out.sub (hp_below (HB3.out.trans (HB4.out.mono HB3.out.size)))) (kysL_mem L) (by have := HLl.out; have := HN.out; omega) (by omega) ?_
       intro v5 w5 ho5 hg5 _
       simp only [Nat.zero_add, List.nil_append] at ho5
       obtain ⟨A5, c5, rfl⟩ := own_slz ho5
       have HO5 := Lib.hid ho5
       have HB5 : Hid (Below w3.heap.size w3 w5) := Lib.hid (HB4.out.grown hg5 (by omega) (by simp [Value.ownBlock]))
       clear ho5 hg5))
  have rx := adblk (stay HB5.out G1.out)
  have ry := (rng_block (w := w5) (cs := (wa K).toList) (by simpa using stay HB5.out G4.out)).at
  have hs5 := HB5.out.size
  have HOa := Lib.hid (owns_same (w' := w5.alloc (.cells (kyL (A, K)).toArray 152)) HO5.out fun b hb => by
    obtain ⟨cs, e⟩ := own_blk HO5.out hb
    rw [e]
    exact blk_alloc e)
  clear p4 HO4 HB4 hs4
  go_upto_region 7 with (first
    | (refine wpList_load_mid rfl 41 _ rfl (w.heap.size + 1) 0 rfl (aN A).toList _ rx Tryz.underlying41 rfl (infoAd _) ?_; simp only [Array.toArray_toList])
    | (refine wpList_load_mid rfl 44 _ rfl (w.heap.size + 2) 0 rfl (wa K).toList _ ry Tryz.underlying44 rfl (infoW4 _) ?_; simp only [Array.toArray_toList])
    | (refine wpList_build_k rfl _ _ rfl (A, K) rfl rfl ?_)
    | (refine wpList_bslice_k rfl _ rfl (A, K) rfl ?_)
    | (refine append_row rfl _ _ 33 rfl 152 (.agg (kyL (0, 0)).toArray) 24 56 Tryz.underlying33 infoK24 (by simp [Value.cells, kyL_len]) (by decide) (by decide) w3.heap.size _ _ _ rfl HOa.out (.slice (some ⟨w5.heap.size, 0, none⟩) 1 1) 1 (kyL (A, K)) rfl (rowOneK (heap_alloc_new _ _)) (kyL_mem (A, K)) (by have := HLl.out; have := HN.out; omega) (by simp; omega) ?_
       intro v6 w6 ho6 hg6 hl6
       have HO6 := Lib.hid ho6
       have HB6 : Hid (Below w3.heap.size w3 w6) := Lib.hid ((HB5.out.alloc HB5.out.size _).grown hg6 (by simp; omega) (fun k hk => (HOa.out.lt k hk).1))
       obtain ⟨A7, c7, rfl⟩ := own_slz ho6
       clear ho6 hg6 hl6))
  have g6 : w6.heap[w.heap.size]? = some (.cells (dL d').toArray 37) := stay HB6.out G0.out
  have hf6 : w6.frozen? ⟨w.heap.size, 3, none⟩ = false := by simp [World.frozen?, g6]
  have hc6 : w6.cell? ⟨w.heap.size, 3, none⟩ = some d'.sl := blk_cell g6 rfl
  have hsc := setCell_put g6 (by decide : 3 < 8) (.slice A7 (n + 1) c7)
  rw [show (putAt (dL d') 3 [.slice A7 (n + 1) c7]).toArray = dC { d' with sl := .slice A7 (n + 1) c7 } from rfl] at hsc
  obtain ⟨d2, hd2⟩ : ∃ d2, ({ d' with sl := .slice A7 (n + 1) c7 } : Dst) = d2 := ⟨_, rfl⟩
  rw [hd2] at hsc
  have hD2 : ({ d with ps := v, sl := .slice A7 (n + 1) c7 } : Dst) = d2 := by rw [← hd2, ← HD'.out]
  have hone2 : (dC d2).all (·.oneCell') = true := by
    rw [← hD2]
    exact Dst.One.arr ⟨one.w, one.l, one.wm, rfl, one.lg, HV1.out⟩
  have G7 := Lib.hid (blk_row (c' := dC d2) (show w6.heap[w.heap.size]? = some (.cells (dL d').toArray 37) from g6))
  have s6 := HB6.out.size
  have hsv := SV.out
  have hs3 := S3.out
  have G27 := Lib.hid ((setRow_other w6 w.heap.size (w.heap.size + 3) (dC d2) (by omega)).trans (stay HB6.out G2.out))
  have B7 := Lib.hid (below_setRow (HB3.out.trans (HB6.out.mono HB3.out.size)) (Nat.le_refl _) (dC d2))
  have HHD := Lib.hid hD2
  have HO7 := Lib.hid (owns_same (w' := (w6.setRow w.heap.size (dC d2)).setRow (w.heap.size + 3) (dC d2)) HO6.out fun b hb => by
    have := (World.ownsRow.lt HO6.out b hb).1
    rw [setRow_other _ _ _ _ (by omega), setRow_other _ _ _ _ (by omega)])
  have ZK7 := Lib.hid (show Sub Zk (fr w.heap.size ((w6.setRow w.heap.size (dC d2)).setRow (w.heap.size + 3) (dC d2))) from fun b o hb => by
    have h1 := ZK.out b o hb
    unfold fr at h1 ⊢
    split at h1
    · have h3 := (Array.getElem?_eq_some_iff.1 h1).1
      rw [if_pos (by omega), setRow_other _ _ _ _ (by omega), setRow_other _ _ _ _ (by omega), HB6.out.block b h3]
      exact h1
    · cases h1)
  clear hD2 hd2 rx ry HOa hs5
  go_upto_region 8 with fail
  clear hsc hf6 hc6 g6
  obtain ⟨w7, hw7⟩ : ∃ w7, w6.setRow w.heap.size (dC d2) = w7 := ⟨_, rfl⟩
  rw [hw7] at G7 G27 B7 HO7 ZK7 ⊢
  have r7 := (rng_block (w := w7) (cs := (dC d2).toList) (by simpa [dC] using G7.out)).at
  have hw7s : w7.heap.size = w6.heap.size := by rw [← hw7, setRow_size]
  clear hw7
  refine region_tail 2 (by kernel_rfl) (by kernel_rfl) ?_
  simp only [List.take_succ_cons, List.take_zero, List.drop_succ_cons, List.drop_zero]
  repeat (first
    | (refine still_load_mid rfl 37 _ rfl w.heap.size 0 (dC d2).toList rfl r7 Tryz.underlying37 rfl infoD ?_; simp only [Act.put, List.setIfInBounds_toArray, List.set_cons_succ, List.set_cons_zero])
    | still_step)
  refine wpStill_nil ?_
  refine wpList_store_row rfl 37 _ _ rfl (w.heap.size + 3) _ (dC d2) rfl rfl G27.out (by simpa using infoD (d := d2)) rfl hone2 ?_
  go_wp2_with fail
  have BF := below_setRow B7.out.drew (show w.heap.size ≤ w.heap.size + 3 by omega) (dC d2)
  refine bodyPost_ret (v := .tuple #[.bool true, .agg (dC d2)]) (results_tcB rfl _ _ (w.heap.size + 3) 37 _ (0, 0) _ _ rfl (blk_row (c' := dC d2) G27.out) Tryz.underlying37 rfl (by simpa using infoD (d := d2)) rfl) rfl ⟨v, .slice A7 (n + 1) c7, Zk, by rw [HHD.out], HV1.out, ?_, HRR.out, ZK7.out, BF⟩
  have := ((RowZ.ownF HO7.out).sub (fr_mono (show w.heap.size ≤ w3.heap.size by omega) _)).sub (orH_in (Z' := fr w.heap.size ((w7.drew).setRow (w.heap.size + 3) (dC d2))) (HZ.out.trans (hp_below BF)) (fr_sub _ _))
  rw [List.length_append, List.flatMap_append, HN.out]
  simp only [List.flatMap_cons, List.flatMap_nil, List.append_nil, List.length_cons, List.length_nil, Nat.zero_add] at this ⊢
  exact this
end Go.Proofs.YtnjeoeekidnffaaGreat
/- Stage 14: rows of logs; the document's Log. -/
namespace Go.Proofs.YtnjeoeekidnffaaGreat
open Go.RowKit SmWord Go.Maps
set_option maxRecDepth 100000

/-- A log: its address, topics and data; where they lie. -/
structure LgV where
  ad : Nat
  tp : List Nat
  da : List Nat
  p : Value
  q : Value
def lgC (x : LgV) : List Value := (aN x.ad).toList ++ [x.p, x.q]
def waL (k : Nat) : List Value := (wa k).toList
theorem waL_len (k : Nat) : (waL k).length = 4 := by simp [waL, wa_size]
theorem lgC_len (x : LgV) : (lgC x).length = 22 := by simp [lgC, aN_size]
structure LgZ (Z : Hp) (x : LgV) : Prop where
  ad : x.ad < 2 ^ 160
  tp : RowZ Z x.p x.tp.length 4 (x.tp.flatMap waL)
  tM : ∀ t ∈ x.tp, t < M
  tl : x.tp.length ≤ 1000000
  da : RowZ Z x.q x.da.length 1 (x.da.map u8v)
  d8 : ∀ c ∈ x.da, c < 256
  dl : x.da.length ≤ 1000000
theorem LgZ.sub {Z Z' : Hp} {x : LgV} (h : LgZ Z x) (hs : Sub Z Z') : LgZ Z' x := { h with tp := h.tp.sub hs, da := h.da.sub hs }
theorem LgZ.mem {Z : Hp} {x : LgV} (h : LgZ Z x) : ∀ u ∈ lgC x, u.oneCell' = true := fun u hu => by
  rcases List.mem_append.1 hu with hu | hu
  · exact adL_mem x.ad u hu
  · simp at hu
    rcases hu with rfl | rfl
    · exact h.tp.oneCell
    · exact h.da.oneCell
structure LgsZ (Z : Hp) (v : Value) (l : List LgV) : Prop where
  row : RowZ Z v l.length 22 (l.flatMap lgC)
  each : ∀ x ∈ l, LgZ Z x
theorem LgsZ.sub {Z Z' : Hp} {v : Value} {l : List LgV} (h : LgsZ Z v l) (hs : Sub Z Z') : LgsZ Z' v l := ⟨h.row.sub hs, fun x hx => (h.each x hx).sub hs⟩
theorem LgsZ.mem {Z : Hp} {v : Value} {l : List LgV} (h : LgsZ Z v l) : ∀ u ∈ l.flatMap lgC, u.oneCell' = true := fun u hu => by
  obtain ⟨x, hx, h1⟩ := List.mem_flatMap.1 hu
  exact (h.each x hx).mem u h1
theorem run_bslice22 (x0 x1 x2 x3 x4 x5 x6 x7 x8 x9 x10 x11 x12 x13 x14 x15 x16 x17 x18 x19 p q : Value) (w : World) : (Instr.buildSlice 34 1 #[(0, .agg #[x0, x1, x2, x3, x4, x5, x6, x7, x8, x9, x10, x11, x12, x13, x14, x15, x16, x17, x18, x19, p, q])]).run Tryz.prog w = .ok (.slice (some ⟨w.heap.size, 0, none⟩) 1 1) (w.alloc (.cells #[x0, x1, x2, x3, x4, x5, x6, x7, x8, x9, x10, x11, x12, x13, x14, x15, x16, x17, x18, x19, p, q] 60)) := by kernel_rfl
theorem run_bslice_g (x : LgV) (w : World) : (Instr.buildSlice 34 1 #[(0, .agg (lgC x).toArray)]).run Tryz.prog w = .ok (.slice (some ⟨w.heap.size, 0, none⟩) 1 1) (w.alloc (.cells (lgC x).toArray 60)) := by
  have e2 : (lgC x).toArray = aN x.ad ++ #[x.p, x.q] := by simp [lgC]
  rw [e2]
  obtain ⟨x0, x1, x2, x3, x4, x5, x6, x7, x8, x9, x10, x11, x12, x13, x14, x15, x16, x17, x18, x19, e⟩ := list20t (aN_size x.ad)
  rw [e]
  exact run_bslice22 x0 x1 x2 x3 x4 x5 x6 x7 x8 x9 x10 x11 x12 x13 x14 x15 x16 x17 x18 x19 _ _ w
theorem wpList_bslice_g {ops : Array Oper} {rest : List Oper} {o : Oper} {a : Act} {w : World} {Q : Exit → Act → World → Prop} (hg : o.guard = none) (p : Operand) (ho : o.op = .buildSlice 34 1 #[(0, p)]) (x : LgV) (hx : a.eval p = .agg (lgC x).toArray) (h : wpList Tryz.prog ops Q rest (a.put o.dst (.slice (some ⟨w.heap.size, 0, none⟩) 1 1)) (w.alloc (.cells (lgC x).toArray 60))) : wpList Tryz.prog ops Q (o :: rest) a w := by
  refine wpList_plain hg fun K hK => ?_
  have hr := run_bslice_g x w
  unfold Oper.wp
  simp [execOp, ho, hx, hr, Result.andThen]
  exact hK _ _ h
theorem own_emptyG (w : World) (base : Nat) (hb : base ≤ w.heap.size) : (w.alloc (.cells #[] 60)).ownsRow base 60 22 (.slice (some ⟨w.heap.size, 0, none⟩) 0 0) 0 [] :=
  ⟨rfl, .inr ⟨w.heap.size, 0, #[], rfl, hb, heap_alloc_new _ _, Nat.le_refl _, by simp [maxLen], rfl, rfl⟩⟩
def lg0 : LgV := ⟨0, [], [], .slice none 0 0, .slice none 0 0⟩
theorem infoG22 : (Tryz.prog.info? 60).map (fun i => (i.zero, i.size, i.bytes)) = some (some (.agg (lgC lg0).toArray), 22, 72) := by kernel_rfl
theorem infoLgV (x : LgV) : (Tryz.prog.info? 60).map (·.size) = some (lgC x).length := by rw [lgC_len]; kernel_rfl
theorem rowOneG {w : World} {x : LgV} {b : Nat} (h : w.heap[b]? = some (.cells (lgC x).toArray 60)) : RowZ (hp w) (.slice (some ⟨b, 0, none⟩) 1 1) 1 22 (lgC x) :=
  ⟨by simp [lgC_len], some ⟨b, 0, none⟩, 1, rfl, Nat.le_refl _, by simp [maxLen], fun h => by simp at h, fun _ => ⟨b, 0, rfl, rng_block h⟩⟩
theorem lgboxes (w : World) (d : Dst) (x : LgV) : ∃ W, ((w.alloc (.cells (dC d) 37)).alloc (.cells (lgC x).toArray 60)).alloc (.cells (dC dst0) 37) = W ∧ W.heap[w.heap.size]? = some (.cells (dC d) 37) ∧ W.heap[w.heap.size + 1]? = some (.cells (lgC x).toArray 60) ∧ W.heap[w.heap.size + 2]? = some (.cells (dC dst0) 37) ∧ Below w.heap.size w W ∧ W.heap.size = w.heap.size + 3 :=
  ⟨_, rfl, blk_alloc (blk_alloc (heap_alloc_new _ _)), blk_alloc (heap_alloc2_new _ _ _), by have := heap_alloc_new ((w.alloc (.cells (dC d) 37)).alloc (.cells (lgC x).toArray 60)) (.cells (dC dst0) 37); simpa using this, (((Below.refl _ _).alloc (Nat.le_refl _) _).alloc (by simp) _).alloc (by simp; omega) _, by simp⟩
set_option maxHeartbeats 4000000 in
theorem rlog_walk {Z : Hp} {L : List LgV} (R : Hp → Value → Prop) (d : Dst) (x : LgV) (w : World) (hd : d.One) (h : LgsZ Z d.lg L) (hz : Sub Z (hp w)) (hx : LgZ (hp w) x) (hl : L.length ≤ 1000000)
    (HK : Hid (∀ w1, Below w.heap.size w w1 → Calls Tryz.prog 88 #[.agg (dC d)] w1 fun e w2 => ∃ v, e = .returned (.agg (dC { d with ps := v })) ∧ v.oneCell' = true ∧ (∃ Zk, R Zk v ∧ Sub Zk (fr w1.heap.size w2)) ∧ Below w1.heap.size w1 w2)) :
    Calls Tryz.prog 52 #[.agg (dC d), .agg (lgC x).toArray] w fun e w' => ∃ v lg' Zk, e = .returned (.agg (dC { d with ps := v, lg := lg' })) ∧ v.oneCell' = true ∧ RowZ (orH Z (fr w.heap.size w')) lg' (L ++ [x]).length 22 ((L ++ [x]).flatMap lgC) ∧ R Zk v ∧ Sub Zk (fr w.heap.size w') ∧ Below w.heap.size w w' := by
  obtain ⟨P, c, hv, -⟩ := h.row.val
  obtain ⟨V, hV, f0, f1, f2, bW, sW⟩ := lgboxes w d x
  have HB := Lib.hid bW
  have F0 := Lib.hid f0
  have F1 := Lib.hid f1
  have F2 := Lib.hid f2
  have SV := Lib.hid sW
  have HV := Lib.hid hv
  have HZ := Lib.hid hz
  have HR0 := Lib.hid (h.row.sub hz)
  have HM0 := Lib.hid h.mem
  have HMX := Lib.hid hx.mem
  have r0 := (rng_block (w := V) (cs := (dC d).toList) (by simpa [dC] using f0)).at
  have one := hd
  have HLl := Lib.hid hl
  rw [hv] at HR0
  obtain ⟨n, hn⟩ : ∃ n, L.length = n := ⟨_, rfl⟩
  have HN := Lib.hid hn
  rw [hn] at HR0 HV
  clear f0 f1 f2 bW sW h hz hx hl hv hn
  go_enter Tryz.func52, Tryz.ntmps52
  go_upto_region 1 with (refine wpList_alloc_row rfl 37 rfl _ zeroD ?_)
  try rw [hV]
  clear hV
  have F01 := F0.out
  have KK := Lib.hid (HK.out V HB.out)
  clear HK
  go_upto_region 2 with (first
    | (refine wpList_load_mid rfl 37 _ rfl w.heap.size 0 rfl (dC d).toList _ r0 Tryz.underlying37 rfl infoD ?_)
    | (go_at_call 88; refine KK.out.mono ?_; rintro e w2 ⟨v, rfl, hv1, ⟨Zk, hR, hZk⟩, b2⟩; have hst1 : (dC { d with ps := v }).all (·.oneCell') = true := Dst.One.arr ⟨one.w, one.l, one.wm, one.sl, one.lg, hv1⟩; obtain ⟨d', hd'⟩ : ∃ d', ({ d with ps := v } : Dst) = d' := ⟨_, rfl⟩; rw [hd'] at hst1 ⊢; have g0 := Lib.hid (stay b2 F01))
    | (refine wpList_store_row rfl 37 _ _ rfl w.heap.size _ (dC d') rfl rfl g0.out (by simpa using infoD (d := d')) rfl hst1 ?_))
  have HB2 := Lib.hid b2
  have sV1 := HB2.out.size
  have G0 := Lib.hid (blk_row g0.out (c' := dC d'))
  have G1 := Lib.hid ((setRow_other w2 w.heap.size (w.heap.size + 1) (dC d') (by omega)).trans (stay HB2.out F1.out))
  have G2 := Lib.hid ((setRow_other w2 w.heap.size (w.heap.size + 2) (dC d') (by omega)).trans (stay HB2.out F2.out))
  have HB3 := Lib.hid (below_setRow (HB.out.trans (HB2.out.mono HB.out.size)) (Nat.le_refl _) (dC d'))
  have S3 := Lib.hid (show V.heap.size ≤ (w2.setRow w.heap.size (dC d')).heap.size by rw [setRow_size]; exact sV1)
  have ZK := Lib.hid (show Sub Zk (fr V.heap.size (w2.setRow w.heap.size (dC d'))) from fun b o hb => by
    have h1 := hZk b o hb
    unfold fr at h1 ⊢
    split at h1
    · rename_i hle
      rw [if_pos (by omega), setRow_other _ _ _ _ (by have := SV.out; omega)]
      exact h1
    · cases h1)
  have HRR := Lib.hid hR
  have hdl : d'.lg = .slice P n c := by rw [← hd']; exact HV.out
  have HDL := Lib.hid hdl
  have HD' := Lib.hid hd'
  have HV1 := Lib.hid hv1
  have HWF := Lib.hid (HB3.out)
  obtain ⟨w3, hw3⟩ : ∃ w3, w2.setRow w.heap.size (dC d') = w3 := ⟨_, rfl⟩
  rw [hw3] at G0 G1 G2 HB3 S3 ZK HWF ⊢
  clear hw3 hR hZk b2 g0 HB2 r0 KK hd' hdl hst1 sV1 hv1 F01
  go_upto_region 3 with fail
  have HO4 := Lib.hid (own_emptyG w3 w3.heap.size (Nat.le_refl _))
  have HB4 : Hid (Below w3.heap.size w3 (w3.alloc (.cells #[] 60))) := Lib.hid ((Below.refl _ _).alloc (Nat.le_refl _) _)
  generalize w3.alloc (.cells #[] 60) = w4 at *
  have p4 : w4.cell? ⟨w.heap.size, 5, none⟩ = some (.slice P n c) := blk_cell (stay HB4.out G0.out) (by rw [← HDL.out]; rfl)
  have hs4 := HB4.out.size
  go_upto_region 4 with (first
    | (refine append_row rfl _ _ 34 rfl 60 (.agg (lgC lg0).toArray) 22 72 Tryz.underlying34 infoG22 (by simp [Value.cells, lgC_len]) (by decide) (by decide) w3.heap.size (.slice (some ⟨w3.heap.size, 0, none⟩) 0 0) 0 [] rfl HO4.out (.slice P n c) n (L.flatMap lgC) rfl (HR0.out.sub (hp_below (HB3.out.trans (HB4.out.mono HB3.out.size)))) HM0.out (by have := HLl.out; have := HN.out; omega) (by omega) ?_
       intro v5 w5 ho5 hg5 _
       simp only [Nat.zero_add, List.nil_append] at ho5
       obtain ⟨A5, c5, rfl⟩ := own_slz ho5
       have HO5 := Lib.hid ho5
       have HB5 : Hid (Below w3.heap.size w3 w5) := Lib.hid (HB4.out.grown hg5 (by omega) (by simp [Value.ownBlock]))
       clear ho5 hg5))
  have rx := (rng_block (w := w5) (cs := lgC x) (stay HB5.out G1.out)).at
  have hs5 := HB5.out.size
  have HOa := Lib.hid (owns_same (w' := w5.alloc (.cells (lgC x).toArray 60)) HO5.out fun b hb => by
    obtain ⟨cs, e⟩ := own_blk HO5.out hb
    rw [e]
    exact blk_alloc e)
  clear p4 HO4 HB4 hs4
  go_upto_region 5 with (first
    | (refine wpList_load_mid rfl 60 _ rfl (w.heap.size + 1) 0 rfl (lgC x) _ rx Tryz.underlying60 rfl (infoLgV _) ?_)
    | (refine wpList_bslice_g rfl _ rfl x rfl ?_)
    | (refine append_row rfl _ _ 34 rfl 60 (.agg (lgC lg0).toArray) 22 72 Tryz.underlying34 infoG22 (by simp [Value.cells, lgC_len]) (by decide) (by decide) w3.heap.size _ _ _ rfl HOa.out (.slice (some ⟨w5.heap.size, 0, none⟩) 1 1) 1 (lgC x) rfl (rowOneG (heap_alloc_new _ _)) HMX.out (by have := HLl.out; have := HN.out; omega) (by simp; omega) ?_
       intro v6 w6 ho6 hg6 hl6
       have HO6 := Lib.hid ho6
       have HB6 : Hid (Below w3.heap.size w3 w6) := Lib.hid ((HB5.out.alloc HB5.out.size _).grown hg6 (by simp; omega) (fun k hk => (HOa.out.lt k hk).1))
       obtain ⟨A7, c7, rfl⟩ := own_slz ho6
       clear ho6 hg6 hl6))
  have g6 : w6.heap[w.heap.size]? = some (.cells (dL d').toArray 37) := stay HB6.out G0.out
  have hf6 : w6.frozen? ⟨w.heap.size, 5, none⟩ = false := by simp [World.frozen?, g6]
  have hc6 : w6.cell? ⟨w.heap.size, 5, none⟩ = some d'.lg := blk_cell g6 rfl
  have hsc := setCell_put g6 (by decide : 5 < 8) (.slice A7 (n + 1) c7)
  rw [show (putAt (dL d') 5 [.slice A7 (n + 1) c7]).toArray = dC { d' with lg := .slice A7 (n + 1) c7 } from rfl] at hsc
  obtain ⟨d2, hd2⟩ : ∃ d2, ({ d' with lg := .slice A7 (n + 1) c7 } : Dst) = d2 := ⟨_, rfl⟩
  rw [hd2] at hsc
  have hD2 : ({ d with ps := v, lg := .slice A7 (n + 1) c7 } : Dst) = d2 := by rw [← hd2, ← HD'.out]
  have hone2 : (dC d2).all (·.oneCell') = true := by
    rw [← hD2]
    exact Dst.One.arr ⟨one.w, one.l, one.wm, one.sl, rfl, HV1.out⟩
  have G7 := Lib.hid (blk_row (c' := dC d2) (show w6.heap[w.heap.size]? = some (.cells (dL d').toArray 37) from g6))
  have s6 := HB6.out.size
  have hsv := SV.out
  have hs3 := S3.out
  have G27 := Lib.hid ((setRow_other w6 w.heap.size (w.heap.size + 2) (dC d2) (by omega)).trans (stay HB6.out G2.out))
  have B7 := Lib.hid (below_setRow (HB3.out.trans (HB6.out.mono HB3.out.size)) (Nat.le_refl _) (dC d2))
  have HHD := Lib.hid hD2
  have HO7 := Lib.hid (owns_same (w' := (w6.setRow w.heap.size (dC d2)).setRow (w.heap.size + 2) (dC d2)) HO6.out fun b hb => by
    have := (World.ownsRow.lt HO6.out b hb).1
    rw [setRow_other _ _ _ _ (by omega), setRow_other _ _ _ _ (by omega)])
  have ZK7 := Lib.hid (show Sub Zk (fr w.heap.size ((w6.setRow w.heap.size (dC d2)).setRow (w.heap.size + 2) (dC d2))) from fun b o hb => by
    have h1 := ZK.out b o hb
    unfold fr at h1 ⊢
    split at h1
    · have h3 := (Array.getElem?_eq_some_iff.1 h1).1
      rw [if_pos (by omega), setRow_other _ _ _ _ (by omega), setRow_other _ _ _ _ (by omega), HB6.out.block b h3]
      exact h1
    · cases h1)
  clear hD2 hd2 rx HOa hs5
  go_upto_region 6 with fail
  clear hsc hf6 hc6 g6
  obtain ⟨w7, hw7⟩ : ∃ w7, w6.setRow w.heap.size (dC d2) = w7 := ⟨_, rfl⟩
  rw [hw7] at G7 G27 B7 HO7 ZK7 ⊢
  have r7 := (rng_block (w := w7) (cs := (dC d2).toList) (by simpa [dC] using G7.out)).at
  have hw7s : w7.heap.size = w6.heap.size := by rw [← hw7, setRow_size]
  clear hw7
  go_wp2_with (first
    | (refine wpList_load_mid rfl 37 _ rfl w.heap.size 0 rfl (dC d2).toList _ r7 Tryz.underlying37 rfl infoD ?_)
    | (refine wpList_store_row rfl 37 _ _ rfl (w.heap.size + 2) _ (dC d2) rfl rfl G27.out (by simpa using infoD (d := d2)) rfl hone2 ?_))
  have BF := below_setRow B7.out (show w.heap.size ≤ w.heap.size + 2 by omega) (dC d2)
  refine bodyPost_ret (v := .agg (dC d2)) (results_cell_row rfl _ _ _ 37 _ (0, 0) _ rfl (blk_row (c' := dC d2) G27.out) Tryz.underlying37 rfl (by simpa using infoD (d := d2))) rfl ⟨v, .slice A7 (n + 1) c7, Zk, by rw [HHD.out], HV1.out, ?_, HRR.out, ZK7.out, BF⟩
  have := ((RowZ.ownF HO7.out).sub (fr_mono (show w.heap.size ≤ w3.heap.size by omega) _)).sub (orH_in (Z' := fr w.heap.size (w7.setRow (w.heap.size + 2) (dC d2))) (HZ.out.trans (hp_below BF)) (fr_sub _ _))
  rw [List.length_append, List.flatMap_append, HN.out]
  simp only [List.flatMap_cons, List.flatMap_nil, List.append_nil, List.length_cons, List.length_nil, Nat.zero_add] at this ⊢
  exact this
end Go.Proofs.YtnjeoeekidnffaaGreat
/- Stage 14: the document's Set, plainly. -/
namespace Go.Proofs.YtnjeoeekidnffaaGreat
open Go.RowKit SmWord Go.Maps
set_option maxRecDepth 100000

/-- One slot of a row, as Set goes through it: whether the new one has its place, and what is gathered. -/
def setHit (k : Nat) (d : Bool) (o : Nat × Nat) : Bool := !d && decide (k ≤ o.1)
def setPut (k v : Nat) (h : Bool) (l : List (Nat × Nat)) : List (Nat × Nat) := if h && decide (v ≠ 0) then l ++ [(k, v)] else l
def setStep (k v : Nat) (st : Bool × List (Nat × Nat)) (o : Nat × Nat) : Bool × List (Nat × Nat) :=
  (st.1 || setHit k st.1 o, if o.1 = k then setPut k v (setHit k st.1 o) st.2 else setPut k v (setHit k st.1 o) st.2 ++ [o])
def setFold (k v : Nat) (so : List (Nat × Nat)) : Bool × List (Nat × Nat) := so.foldl (setStep k v) (false, [])
def setD (k v : Nat) (so : List (Nat × Nat)) : List (Nat × Nat) := setPut k v (!(setFold k v so).1) (setFold k v so).2
theorem setFold_succ {k v : Nat} {so : List (Nat × Nat)} {i : Nat} {o : Nat × Nat} (h : so[i]? = some o) : setFold k v (so.take (i + 1)) = setStep k v (setFold k v (so.take i)) o := by
  unfold setFold
  rw [List.take_add_one, h, List.foldl_append]
  rfl
theorem setPut_len (k v : Nat) (h : Bool) (l : List (Nat × Nat)) : (setPut k v h l).length ≤ l.length + 1 := by
  unfold setPut
  split
  · simp
  · omega
theorem setStep_len (k v : Nat) (st : Bool × List (Nat × Nat)) (o : Nat × Nat) : (setStep k v st o).2.length ≤ st.2.length + 2 := by
  have := setPut_len k v (setHit k st.1 o) st.2
  unfold setStep
  dsimp only
  split
  · omega
  · simp
    omega
theorem setFold_len (k v : Nat) : ∀ so : List (Nat × Nat), (setFold k v so).2.length ≤ 2 * so.length := by
  have key : ∀ (so : List (Nat × Nat)) st, (so.foldl (setStep k v) st).2.length ≤ st.2.length + 2 * so.length := by
    intro so
    induction so with
    | nil => intro st; simp
    | cons o so ih =>
      intro st
      rw [List.foldl_cons, List.length_cons]
      have := ih (setStep k v st o)
      have := setStep_len k v st o
      omega
  intro so
  have := key so (false, [])
  simpa [setFold] using this
theorem setPut_M {k v : Nat} {h : Bool} {l : List (Nat × Nat)} (hl : ∀ s ∈ l, s.1 < M ∧ s.2 < M) (hk : k < M) (hv : v < M) : ∀ s ∈ setPut k v h l, s.1 < M ∧ s.2 < M := fun s hs => by
  unfold setPut at hs
  split at hs
  · rcases List.mem_append.1 hs with hs | hs
    · exact hl s hs
    · simp at hs
      subst hs
      exact ⟨hk, hv⟩
  · exact hl s hs
theorem setFold_M {k v : Nat} (hk : k < M) (hv : v < M) : ∀ so : List (Nat × Nat), (∀ s ∈ so, s.1 < M ∧ s.2 < M) → ∀ s ∈ (setFold k v so).2, s.1 < M ∧ s.2 < M := by
  have key : ∀ (so : List (Nat × Nat)) st, (∀ s ∈ so, s.1 < M ∧ s.2 < M) → (∀ s ∈ st.2, s.1 < M ∧ s.2 < M) → ∀ s ∈ (so.foldl (setStep k v) st).2, s.1 < M ∧ s.2 < M := by
    intro so
    induction so with
    | nil => intro st _ h; simpa using h
    | cons o so ih =>
      intro st h1 h2
      rw [List.foldl_cons]
      refine ih _ (fun s hs => h1 s (by simp [hs])) (fun s hs => ?_)
      unfold setStep at hs
      dsimp only at hs
      split at hs
      · exact setPut_M h2 hk hv s hs
      · rcases List.mem_append.1 hs with hs | hs
        · exact setPut_M h2 hk hv s hs
        · simp at hs
          subst hs
          exact h1 s (by simp)
  intro so h
  exact key so (false, []) h (fun s hs => by cases hs)
theorem setD_M {k v : Nat} {so : List (Nat × Nat)} (hk : k < M) (hv : v < M) (h : ∀ s ∈ so, s.1 < M ∧ s.2 < M) : ∀ s ∈ setD k v so, s.1 < M ∧ s.2 < M := setPut_M (setFold_M hk hv so h) hk hv
theorem setD_len (k v : Nat) (so : List (Nat × Nat)) : (setD k v so).length ≤ 2 * so.length + 1 := by
  have := setPut_len k v (!(setFold k v so).1) (setFold k v so).2
  have := setFold_len k v so
  unfold setD
  omega
/-! Rows of slots. -/
theorem run_bslice8 (x0 x1 x2 x3 x4 x5 x6 x7 : Value) (w : World) : (Instr.buildSlice 67 1 #[(0, .agg #[x0, x1, x2, x3, x4, x5, x6, x7])]).run Tryz.prog w = .ok (.slice (some ⟨w.heap.size, 0, none⟩) 1 1) (w.alloc (.cells #[x0, x1, x2, x3, x4, x5, x6, x7] 136)) := by kernel_rfl
theorem run_bslice_s (x : Nat × Nat) (w : World) : (Instr.buildSlice 67 1 #[(0, .agg (scs x).toArray)]).run Tryz.prog w = .ok (.slice (some ⟨w.heap.size, 0, none⟩) 1 1) (w.alloc (.cells (scs x).toArray 136)) := run_bslice8 _ _ _ _ _ _ _ _ w
theorem wpList_bslice_s {ops : Array Oper} {rest : List Oper} {o : Oper} {a : Act} {w : World} {Q : Exit → Act → World → Prop} (hg : o.guard = none) (p : Operand) (ho : o.op = .buildSlice 67 1 #[(0, p)]) (x : Nat × Nat) (hx : a.eval p = .agg (scs x).toArray) (h : wpList Tryz.prog ops Q rest (a.put o.dst (.slice (some ⟨w.heap.size, 0, none⟩) 1 1)) (w.alloc (.cells (scs x).toArray 136))) : wpList Tryz.prog ops Q (o :: rest) a w := by
  refine wpList_plain hg fun K hK => ?_
  have hr := run_bslice_s x w
  unfold Oper.wp
  simp [execOp, ho, hx, hr, Result.andThen]
  exact hK _ _ h
theorem run_build8 (x0 x1 x2 x3 x4 x5 x6 x7 : Value) (w : World) : (Instr.build 136 #[(0, .agg #[x0, x1, x2, x3]), (1, .agg #[x4, x5, x6, x7])]).run Tryz.prog w = .ok (.agg #[x0, x1, x2, x3, x4, x5, x6, x7]) w := by kernel_rfl
theorem run_build_s (x : Nat × Nat) (w : World) : (Instr.build 136 #[(0, .agg (wa x.1)), (1, .agg (wa x.2))]).run Tryz.prog w = .ok (.agg (scs x).toArray) w := run_build8 _ _ _ _ _ _ _ _ w
theorem wpList_build_s {ops : Array Oper} {rest : List Oper} {o : Oper} {a : Act} {w : World} {Q : Exit → Act → World → Prop} (hg : o.guard = none) (p q : Operand) (ho : o.op = .build 136 #[(0, p), (1, q)]) (x : Nat × Nat) (hp : a.eval p = .agg (wa x.1)) (hq : a.eval q = .agg (wa x.2)) (h : wpList Tryz.prog ops Q rest (a.put o.dst (.agg (scs x).toArray)) w) : wpList Tryz.prog ops Q (o :: rest) a w := by
  refine wpList_plain hg fun K hK => ?_
  have hr := run_build_s x w
  unfold Oper.wp
  simp [execOp, ho, hp, hq, hr, Result.andThen]
  exact hK _ _ h
theorem own_emptyS (w : World) (base : Nat) (hb : base ≤ w.heap.size) : (w.alloc (.cells #[] 136)).ownsRow base 136 8 (.slice (some ⟨w.heap.size, 0, none⟩) 0 0) 0 [] :=
  ⟨rfl, .inr ⟨w.heap.size, 0, #[], rfl, hb, heap_alloc_new _ _, Nat.le_refl _, by simp [maxLen], rfl, rfl⟩⟩
theorem rowOneS {w : World} {x : Nat × Nat} {b : Nat} (h : w.heap[b]? = some (.cells (scs x).toArray 136)) : RowZ (hp w) (.slice (some ⟨b, 0, none⟩) 1 1) 1 8 (scs x) :=
  ⟨by simp [scs_len], some ⟨b, 0, none⟩, 1, rfl, Nat.le_refl _, by simp [maxLen], fun h => by simp at h, fun _ => ⟨b, 0, rfl, rng_block h⟩⟩
theorem scs_mem (s : Nat × Nat) : ∀ u ∈ scs s, u.oneCell' = true := fun u hu => (Array.all_eq_true_iff_forall_mem.1 (scs_one s)) u (by simpa using hu)
end Go.Proofs.YtnjeoeekidnffaaGreat
