/- What a version has set stands ahead of what the cache knows: the statement ForkOver walked. -/
import Derived.Test.YtdgenbidgieojaaGf
import Derived.Test.YtdgenbidgieojaaGd
import Derived.Test.YtdgenbidgieojaaGc
namespace Go.Proofs.Ytdgenbidgieojaa
open Go.RowKit SmWord Go.Maps
set_option maxRecDepth 100000

set_option maxHeartbeats 20000000 in
theorem over_law (v1 v2 : Value) (lo kn0 : List AV) (A : Nat) (w : World) (h1 : AccsB (hp w) v1 lo) (h2 : AccsB (hp w) v2 kn0) (hA : A < 2 ^ 160) :
    Calls Try.prog 5 #[v1, v2, .agg (aN A)] w fun e w' => e = .returned (.bool true) ∧ Below w.heap.size w w' := by
  have KFx := Lib.hid fixed_walk
  obtain ⟨f0, bW⟩ := boxAd w A
  obtain ⟨W, hW⟩ : ∃ W, w.alloc (.cells (aN A) 32) = W := ⟨_, rfl⟩
  rw [hW] at f0 bW
  have H1 := Lib.hid (h1.sub (hp_below bW))
  have H2 := Lib.hid (h2.sub (hp_below bW))
  have KG1 := Lib.hid (great_walk v1 lo W H1.out)
  have KG2 := Lib.hid (great_walk v2 kn0 W H2.out)
  have F0 := Lib.hid f0
  have HB := Lib.hid bW
  have HA := Lib.hid hA
  obtain ⟨A1, c1, rfl, hn1, hc1, -, hcl1⟩ := h1.row.one (fun x _ => acs_len x)
  obtain ⟨A2, c2, rfl, hn2, hc2, -, hcl2⟩ := h2.row.one (fun x _ => acs_len x)
  have HC1 := Lib.hid hcl1
  have HC2 := Lib.hid hcl2
  have hsN := aN_size
  have hsx : ∀ x, (acs x).toArray.size = 27 := fun x => by simp [acs_len]
  clear hcl1 hcl2 h1 h2 f0 bW hA
  cases hg1 : greatL lo
  · rw [hg1] at KG1
    cases hg2 : greatL kn0
    · rw [hg2] at KG2
      have HL1 := Lib.hid (small_accs H1.out hg1)
      have HL2 := Lib.hid (small_accs H2.out hg2)
      go_enter Try.func5, Try.ntmps5
      go_upto_region 1 with fail
      clear hW
      go_upto_region 3 with (go_at_call 24; first
        | (refine KG1.out.mono ?_; rintro e w1 ⟨rfl, rfl⟩; clear KG1)
        | (refine KG2.out.mono ?_; rintro e w1 ⟨rfl, rfl⟩))
      clear KG2 hg1 hg2
      have KN := Lib.hid (new_walk W.heap.size W (Nat.le_refl _))
      have KM := Lib.hid fnew_walk
      go_upto_region 4 with (first
        | (go_at_call 26
           refine KN.out.mono ?_
           rintro e w1 ⟨sb, g, rfl, hs, hn, -, b1⟩
           have HS := Lib.hid hs
           have HN := Lib.hid hn
           have B1 := Lib.hid b1
           clear hs hn b1)
        | (go_at_call 7
           refine (KM.out w1).mono ?_
           rintro e w2 ⟨c, rfl, hc, hcs, b2⟩
           have HC := Lib.hid hc
           have HCS := Lib.hid hcs
           have B2 := Lib.hid b2
           clear hc hcs b2))
      have KC := Lib.hid (over_commit HS.out HN.out B1.out HC.out HCS.out B2.out (HL1.out.1.sub ((hp_below B1.out).trans (hp_below B2.out))) HL1.out.2)
      clear KN KM HS HN B1 HC HCS B2
      go_upto_region 5 with (go_at_call 27; refine KC.out.mono ?_; rintro e w4 ⟨v, er, Zs, g', L', rfl, hbe, hc4, hcs4, b4, hver⟩; have HBE := Lib.hid hbe; have HC4 := Lib.hid hc4; have HS4 := Lib.hid hcs4; have B4 := Lib.hid b4; have HV := Lib.hid hver; clear hbe hc4 hcs4 b4 hver)
      clear KC
      have HP0 := Lib.hid (PlayAt.start HC4.out HS4.out B4.out)
      go_upto_region 6 with fail
      generalize hW5 : w4.alloc (.cells #[.slice none 0 0, .slice none 0 0] 28) = w5 at *
      have hb5 : Below w4.heap.size w4 w5 := by rw [← hW5]; exact (Below.refl _ _).alloc (Nat.le_refl _) _
      have HBE5 := Lib.hid (HBE.out.low hb5)
      clear hW5 hb5 HBE HC4 B4
      generalize w4.heap.size = mb at *
      go_wp2_with fail
      go_loopw [41] (fun i wr => ∃ (j : Nat) (Z Z2 : Hp) (kf : Nat → Option AV) (tf : Nat → Option Nat) (n' : Nat) (vk va : Value) (kn : List AV) (al : List (Nat × Nat)), j ≤ kn0.length ∧ i = .int .i64 (j : Int) ∧ Hid (PlayAt W wr c mb (2 * j) Z Z2 kf tf n' vk va kn al) ∧ Hid (Tied kf tf kn al) ∧ Hid (Beside W.heap.size Zs wr sb g' L' c mb)) (fun i _ => kn0.length - (intOf i).toNat)
      case atStart => exact ⟨0, _, _, _, _, _, _, _, _, _, Nat.zero_le _, rfl, HP0, Lib.hid Tied.start, HBE5⟩
      case round =>
        obtain ⟨j, Z, Z2, kf, tf, n', vk, va, kn, al, hj, rfl, HP, HT, HBr⟩ := hrel
        clear HP0 HBE5
        have hkl0 := HL2.out.2
        by_cases hlt : j < kn0.length
        · obtain ⟨b, off, rfl, -, hi⟩ := HC2.out (by omega)
          obtain ⟨x, hx⟩ : ∃ x, kn0[j]? = some x := ⟨kn0[j]'hlt, by simp⟩
          have hxz := HL2.out.1.each x (List.mem_of_getElem? hx)
          have HXz := Lib.hid hxz
          have HAd := Lib.hid hxz.ad
          have one := hxz.ones
          have r1 := ((hi j x hx).sub ((hp_below HB.out).trans (hp_below HP.out.below))).at
          have FN := Lib.hid (heap_alloc_new wr (.cells (acs noneAV).toArray 39))
          clear hx hi hxz
          go_upto_region 9 with (first
            | (refine wpList_load_mid rfl 39 _ rfl b _ rfl (acs x) _ r1 Try.underlying39 rfl (infoAcs _) ?_)
            | (refine wpList_alloc_row rfl 39 rfl _ zeroAcc ?_)
            | (refine wpList_store_row rfl 39 _ _ rfl wr.heap.size _ (acs x).toArray rfl rfl FN.out (by simpa using infoAcs _) (by simp [acs_len]) one ?_))
          have b7 : Below wr.heap.size wr ((wr.alloc (.cells (acs noneAV).toArray 39)).setRow wr.heap.size (acs x).toArray) := below_setRow ((Below.refl _ _).alloc (Nat.le_refl _) _) (Nat.le_refl _) _
          have F7 := Lib.hid (blk_row FN.out (c' := (acs x).toArray))
          have HP7 := Lib.hid (HP.out.low b7)
          have HB7 := Lib.hid (HBr.out.low b7)
          clear b7 FN r1 HP HBr one
          generalize (wr.alloc (.cells (acs noneAV).toArray 39)).setRow wr.heap.size (acs x).toArray = w7 at *
          generalize wr.heap.size = bo at *
          have hall := HP7.out.all
          have hnl := HP7.out.nl
          have hkl := HP7.out.kl
          have r7 := (acs_rng (rng_block F7.out)).at
          have KW := Lib.hid (want_walk HP7.out.at' x.a.ad HAd.out (by omega))
          go_upto_region 10 with (first
            | (refine wpList_load_mid rfl 32 _ rfl bo _ rfl (aN x.a.ad).toList _ r7 Try.underlying32 rfl (infoAd _) ?_; simp only [Array.toArray_toList])
            | (go_at_call 11
               refine KW.out.mono ?_
               rintro e w8 ⟨rfl, h8, t8⟩
               have HP8 := Lib.hid (HP7.out.go (k' := 2 * j + 1) t8 h8 (fun b o h => .inl h) (by omega) (by omega))
               have HB8 := Lib.hid (HB7.out.go t8)
               have F8 := Lib.hid (HP7.out.at'.stay t8 F7.out (HP7.out.at'.nosoft F7.out (by decide)))
               clear h8 t8))
          clear KW r7 HP7 HB7 F7
          have r8 := (rng_block F8.out).at
          have HTw := Lib.hid (HT.out.wantT HAd.out)
          have KL := Lib.hid (fill_walk HP8.out.at' x (HXz.out.sub (hp_below HP8.out.below)) (by omega))
          unfold aval at KL
          go_upto_region 11 with (first
            | (refine wpList_load_mid rfl 39 _ rfl bo 0 rfl (acs x) _ r8 Try.underlying39 rfl (infoAcs _) ?_)
            | (go_at_call 13
               refine KL.out.mono ?_
               rintro e w9 ⟨Z9, kf9, tf9, hf⟩
               have he := hf.ans
               subst he
               have HP9 := Lib.hid (HP8.out.go (k' := 2 * (j + 1)) hf.tch hf.at' hf.new (by omega) (by omega))
               have HB9 := Lib.hid (HB8.out.go hf.tch)
               have F9 := Lib.hid (HP8.out.at'.stay hf.tch F8.out (HP8.out.at'.nosoft F8.out (by decide)))
               have HTf := Lib.hid (HTw.out.filled HAd.out hf)
               clear hf))
          clear KL r8 HP8 HB8 F8
          have g0 : w9.cell? ⟨mb, 0, none⟩ = some vk := blk_cell HP9.out.box rfl
          have g1 : w9.cell? ⟨mb, 1, none⟩ = some va := blk_cell HP9.out.box rfl
          have r9 := (acs_rng (rng_block F9.out)).at
          have KR := Lib.hid (rwant_walk x.a.ad w9 HP9.out.doc HP9.out.sub2 HAd.out (by omega))
          go_upto_region 12 with (first
            | (refine wpList_load_mid rfl 32 _ rfl bo _ rfl (aN x.a.ad).toList _ r9 Try.underlying32 rfl (infoAd _) ?_; simp only [Array.toArray_toList])
            | (go_at_call 10
               refine KR.out.mono ?_
               rintro e w10 ⟨va2, rfl, hd, b10⟩
               have HPt := Lib.hid (HP9.out.turn b10 hd (Nat.le_refl _) (by omega) (by have := rwL_len kn al x.a.ad; omega))
               have HBt := Lib.hid ((HB9.out.low b10).set #[vk, va2])
               have one2 := pair_one hd.kz.row.oneCell hd.az.oneCell
               have FB := Lib.hid (stay b10 HP9.out.box)
               have F10 := Lib.hid (stay b10 F9.out)
               clear hd b10)
            | (refine wpList_store_row rfl 28 _ _ rfl mb _ #[vk, va2] rfl rfl FB.out infoC2 rfl one2 ?_))
          have Ft : Hid ((w10.setRow mb #[vk, va2]).heap[bo]? = _) := Lib.hid ((setRow_other _ _ _ _ (ne_of_types F10.out FB.out (by decide))).trans F10.out)
          clear KR g0 g1 r9 HP9 HB9 F9 one2 FB F10
          generalize w10.setRow mb #[vk, va2] = w11 at *
          have g0 : w11.cell? ⟨mb, 0, none⟩ = some vk := blk_cell HPt.out.box rfl
          have g1 : w11.cell? ⟨mb, 1, none⟩ = some va2 := blk_cell HPt.out.box rfl
          have r11 := (rng_block Ft.out).at
          have KR := Lib.hid (rfill_walk x w11 HPt.out.doc HPt.out.sub2 (HXz.out.sub HPt.out.arg) HTw.out.srt (by omega))
          have hl1 : (if decide (0 ≤ atI (rwL kn al x.a.ad) x.a.ad) && rightA x.a then putV x kn else kn).length ≤ kn.length + 1 := by
            have := putV_len x kn
            split <;> omega
          have hl2 : (if decide (0 ≤ atI (rwL kn al x.a.ad) x.a.ad) && rightA x.a then (rwL kn al x.a.ad).eraseIdx (atI (rwL kn al x.a.ad) x.a.ad).toNat else rwL kn al x.a.ad).length ≤ al.length + 1 := by
            have := List.length_eraseIdx_le (rwL kn al x.a.ad) (atI (rwL kn al x.a.ad) x.a.ad).toNat
            have := rwL_len kn al x.a.ad
            split <;> omega
          have HL5 := Lib.hid hl1
          have HL6 := Lib.hid hl2
          clear hl1 hl2
          unfold aval at KR
          generalize (if decide (0 ≤ atI (rwL kn al x.a.ad) x.a.ad) && rightA x.a then putV x kn else kn) = kn2 at *
          generalize (if decide (0 ≤ atI (rwL kn al x.a.ad) x.a.ad) && rightA x.a then (rwL kn al x.a.ad).eraseIdx (atI (rwL kn al x.a.ad) x.a.ad).toNat else rwL kn al x.a.ad) = al2 at *
          go_wp2_with (first
            | (refine wpList_load_mid rfl 39 _ rfl bo 0 rfl (acs x) _ r11 Try.underlying39 rfl (infoAcs _) ?_)
            | (go_at_call 12
               refine KR.out.mono ?_
               rintro e w12 ⟨vk3, va3, rfl, hd, b12⟩
               have HPu := Lib.hid (HPt.out.turn b12 hd (Nat.le_refl _) (by have := HL5.out; omega) (by have := HL6.out; omega))
               have HBu := Lib.hid ((HBt.out.low b12).set #[vk3, va3])
               have one2 := pair_one hd.kz.row.oneCell hd.az.oneCell
               have FB := Lib.hid (stay b12 HPt.out.box)
               clear hd b12)
            | (refine wpList_store_row rfl 28 _ _ rfl mb _ #[vk3, va3] rfl rfl FB.out infoC2 rfl one2 ?_))
          exact ⟨⟨j + 1, _, _, _, _, _, _, _, _, _, by omega, by go_num, HPu, HTf, HBu⟩, by simp [intOf]; omega⟩
        · obtain rfl : j = kn0.length := by omega
          obtain ⟨wA, hwA⟩ : ∃ wA, wA = wr := ⟨_, rfl⟩
          subst hwA
          go_upto_if 67 with fail
          go_cut [9] from 66 to 115 (fun s9 wx => wA = wx ∧ ∃ v' : Nat, s9 = .int .i64 (v' : Int) ∧ v' < g'.n ∧ ((er = 0 ∧ ∀ A, lookA (L' v') A = lastA (lo.map AV.a) A) ∨ (er = 1 ∧ ∀ A, lookA (L' v') A = none)))
          case first =>
            rcases HV.out with ⟨rfl, h1, h2⟩ | ⟨rfl, h1, h2⟩
            · go_wp2_with fail
              go_meet
              exact ⟨rfl, v, rfl, h1, .inl ⟨trivial, h2⟩⟩
            · go_wp2_with fail
              go_meet
              exact ⟨rfl, 0, rfl, h1, .inr ⟨trivial, h2⟩⟩
          case rest =>
          obtain ⟨rfl, v', rfl, hv', hvr⟩ := hcut
          have HVR := Lib.hid hvr
          clear hvr HV
          have FA := Lib.hid (stay HP.out.below F0.out)
          have ra := adblk FA.out
          have FN := Lib.hid (heap_alloc_new wA (.cells (acs noneAV).toArray 39))
          have one := (bareZ (fun _ => none) HA.out).ones
          go_upto_region 17 with (first
            | (refine wpList_load_mid rfl 32 _ rfl w.heap.size 0 rfl (aN A).toList _ ra Try.underlying32 rfl (infoAd _) ?_; simp only [Array.toArray_toList])
            | (refine wpList_buildAd rfl _ rfl A rfl ?_)
            | (refine wpList_alloc_row rfl 39 rfl _ zeroAcc ?_)
            | (refine wpList_store_row rfl 39 _ _ rfl wA.heap.size _ (acs (bareAV A)).toArray rfl rfl FN.out (by simpa using infoAcs _) (by simp [acs_len]) one ?_))
          have b16 : Below wA.heap.size wA ((wA.alloc (.cells (acs noneAV).toArray 39)).setRow wA.heap.size (acs (bareAV A)).toArray) := below_setRow ((Below.refl _ _).alloc (Nat.le_refl _) _) (Nat.le_refl _) _
          have F16 := Lib.hid (blk_row FN.out (c' := (acs (bareAV A)).toArray))
          have HB16 := Lib.hid b16
          clear b16 FN ra one
          obtain ⟨w16, h16⟩ : ∃ w16, (wA.alloc (.cells (acs noneAV).toArray 39)).setRow wA.heap.size (acs (bareAV A)).toArray = w16 := ⟨_, rfl⟩
          rw [h16] at F16 HB16 ⊢
          clear h16
          have ra := adblk (stay HB16.out FA.out)
          have g0 : w16.cell? ⟨mb, 0, none⟩ = some vk := blk_cell (stay HB16.out HP.out.box) rfl
          have hkl := HP.out.kl
          have KF := Lib.hid (rfind_walk vk kn A w16 (HP.out.doc.kz.sub (HP.out.sub2.trans (hp_below HB16.out))) (by omega) HA.out)
          have one := (findV_z HP.out.doc.kz A).ones
          have HYz := Lib.hid ((findV_z HP.out.doc.kz A).sub HP.out.sub2)
          have HVd := Lib.hid (show findV kn A = (findO kn A).getD noneAV from rfl)
          unfold aval at KF
          generalize findV kn A = y at *
          obtain ⟨q, hq⟩ : ∃ q, (findO kn A).isSome = q := ⟨_, rfl⟩
          rw [hq] at KF
          have HQ := Lib.hid hq
          clear hq
          go_upto_region 18 with (first
            | (refine wpList_load_mid rfl 32 _ rfl w.heap.size 0 rfl (aN A).toList _ ra Try.underlying32 rfl (infoAd _) ?_; simp only [Array.toArray_toList])
            | (go_at_call 17
               refine KF.out.mono ?_
               rintro e w17 ⟨rfl, b17⟩
               have HB17 := Lib.hid (HB16.out.trans (b17.mono HB16.out.size))
               have F17 := Lib.hid (stay b17 F16.out)
               have FN := Lib.hid (heap_alloc_new w17 (.cells (acs noneAV).toArray 39))
               clear b17)
            | (refine wpList_alloc_row rfl 39 rfl _ zeroAcc ?_)
            | (refine wpList_store_row rfl 39 _ _ rfl w17.heap.size _ (acs y).toArray rfl rfl FN.out (by simpa using infoAcs _) (by simp [acs_len]) one ?_))
          have b18 : Below w17.heap.size w17 ((w17.alloc (.cells (acs noneAV).toArray 39)).setRow w17.heap.size (acs y).toArray) := below_setRow ((Below.refl _ _).alloc (Nat.le_refl _) _) (Nat.le_refl _) _
          have FY := Lib.hid (blk_row FN.out (c' := (acs y).toArray))
          have F18 := Lib.hid (stay b18 F17.out)
          have HB18 := Lib.hid (HB17.out.trans (b18.mono HB17.out.size))
          have HNE := Lib.hid (show wA.heap.size < w17.heap.size from (Array.getElem?_eq_some_iff.1 F17.out).1)
          clear b18 FN KF g0 ra F17 F16 HB16 HB17
          obtain ⟨w18, h18⟩ : ∃ w18, (w17.alloc (.cells (acs noneAV).toArray 39)).setRow w17.heap.size (acs y).toArray = w18 := ⟨_, rfl⟩
          rw [h18] at FY F18 HB18 ⊢
          clear h18
          generalize w17.heap.size = yb at *
          go_upto_if 77 with fail
          go_cut [15] from 66 to 115 (fun s15 wx => s15 = .bool q ∧ ∃ y', Hid (wx.heap[wA.heap.size]? = some (.cells (acs y').toArray 39)) ∧ Hid (y'.a = ((findO kn A).getD (bareAV A)).a) ∧ Hid (AccZ (hp wx) y') ∧ Hid (Below wA.heap.size wA wx))
          case first =>
            cases q
            · have HE : Hid ((bareAV A).a = ((findO kn A).getD (bareAV A)).a) := Lib.hid (by
                cases hf : findO kn A with
                | none => rfl
                | some z => have hq := HQ.out; rw [hf] at hq; cases hq)
              go_wp2_with fail
              go_meet
              exact ⟨rfl, bareAV A, F18, HE, Lib.hid (bareZ _ HA.out), HB18⟩
            · have HE : Hid (y.a = ((findO kn A).getD (bareAV A)).a) := Lib.hid (by
                rw [HVd.out]
                cases hf : findO kn A with
                | none => have hq := HQ.out; rw [hf] at hq; cases hq
                | some z => rfl)
              have ry := (rng_block FY.out).at
              have hrow : Hid (Below wA.heap.size wA (w18.setRow wA.heap.size (acs y).toArray)) := Lib.hid (below_setRow HB18.out (Nat.le_refl _) _)
              go_wp2_with (first
                | (refine wpList_load_mid rfl 39 _ rfl yb 0 rfl (acs y) _ ry Try.underlying39 rfl (infoAcs _) ?_)
                | (refine wpList_store_row rfl 39 _ _ rfl wA.heap.size _ (acs y).toArray rfl rfl F18.out (by simpa using infoAcs _) (by simp [acs_len]) one ?_))
              go_meet
              exact ⟨rfl, y, Lib.hid (blk_row F18.out), HE, Lib.hid (HYz.out.sub (hp_below hrow.out)), hrow⟩
          case rest =>
          obtain ⟨rfl, y', FY', HE, HY', HB19⟩ := hcut
          obtain ⟨BA, hBA⟩ : ∃ BA, ((findO kn A).getD (bareAV A)).a = BA := ⟨_, rfl⟩
          rw [hBA] at HE
          have HBA := Lib.hid hBA
          clear hBA HVd HYz FY F18 HB18 one HNE
          go_upto_if 80 with fail
          go_cut [15] from 66 to 115 (fun s15 wx => ∃ (b2 : Bool) (y2 : AV), s15 = .bool b2 ∧ Hid (wx.heap[wA.heap.size]? = some (.cells (acs y2).toArray 39)) ∧ Hid (y2.a = (lookA (L' v') A).getD BA) ∧ Hid (b2 = ((lookA (L' v') A).isSome || q)) ∧ Hid (AccZ (hp wx) y2) ∧ Hid (Below wA.heap.size wA wx))
          case first =>
            rcases HVR.out with ⟨rfl, hvl⟩ | ⟨rfl, hvl⟩
            · have HVL := Lib.hid (hvl A)
              clear hvl HVR
              have hkl1 := HL1.out.2
              go_wp2_with fail
              go_loopw [83, 15] (fun i s15 wx => ∃ (j : Nat) (b2 : Bool) (y2 : AV), j ≤ lo.length ∧ i = .int .i64 (j : Int) ∧ s15 = .bool b2 ∧ Hid (wx.heap[wA.heap.size]? = some (.cells (acs y2).toArray 39)) ∧ Hid (y2.a = (lastA ((lo.take j).map AV.a) A).getD BA) ∧ Hid (b2 = ((lastA ((lo.take j).map AV.a) A).isSome || q)) ∧ Hid (AccZ (hp wx) y2) ∧ Hid (Below wA.heap.size wA wx)) (fun i _ _ => lo.length - (intOf i).toNat)
              case atStart => exact ⟨0, q, y', Nat.zero_le _, rfl, rfl, FY', Lib.hid (by rw [List.take_zero]; exact HE.out), Lib.hid (by rw [List.take_zero]; rfl), HY', HB19⟩
              case round =>
                clear HE FY' HY' HB19
                obtain ⟨j, b2, y2, hj, rfl, rfl, FY', HE, HB2, HY', HB19⟩ := hrel
                have HBw := Lib.hid (HP.out.below.trans (HB19.out.mono HP.out.below.size))
                by_cases hlt : j < lo.length
                · obtain ⟨b, off, rfl, -, hi⟩ := HC1.out (by omega)
                  obtain ⟨x, hx⟩ : ∃ x, lo[j]? = some x := ⟨lo[j]'hlt, by simp⟩
                  have hxz := HL1.out.1.each x (List.mem_of_getElem? hx)
                  have HXz := Lib.hid hxz
                  have HAd := Lib.hid hxz.ad
                  have one := hxz.ones
                  have HXg := Lib.hid hx
                  have r1 := ((hi j x hx).sub ((hp_below HB.out).trans (hp_below HBw.out))).at
                  have FN := Lib.hid (heap_alloc_new wr (.cells (acs noneAV).toArray 39))
                  clear hx hi hxz
                  go_upto_region 24 with (first
                    | (refine wpList_load_mid rfl 39 _ rfl b _ rfl (acs x) _ r1 Try.underlying39 rfl (infoAcs _) ?_)
                    | (refine wpList_alloc_row rfl 39 rfl _ zeroAcc ?_)
                    | (refine wpList_store_row rfl 39 _ _ rfl wr.heap.size _ (acs x).toArray rfl rfl FN.out (by simpa using infoAcs _) (by simp [acs_len]) one ?_))
                  have b7 : Below wr.heap.size wr ((wr.alloc (.cells (acs noneAV).toArray 39)).setRow wr.heap.size (acs x).toArray) := below_setRow ((Below.refl _ _).alloc (Nat.le_refl _) _) (Nat.le_refl _) _
                  have F7 := Lib.hid (blk_row FN.out (c' := (acs x).toArray))
                  have FY7 := Lib.hid (stay b7 FY'.out)
                  have HY7 := Lib.hid (HY'.out.sub (hp_below b7))
                  have HB7 := Lib.hid (HB19.out.trans (b7.mono HB19.out.size))
                  have HW7 := Lib.hid (HBw.out.trans (b7.mono HBw.out.size))
                  clear b7 FN r1 FY' HY' HB19 HBw
                  obtain ⟨w7, h7⟩ : ∃ w7, (wr.alloc (.cells (acs noneAV).toArray 39)).setRow wr.heap.size (acs x).toArray = w7 := ⟨_, rfl⟩
                  rw [h7] at F7 FY7 HY7 HB7 HW7 ⊢
                  clear h7
                  generalize wr.heap.size = bo at *
                  have r7 := (acs_rng (rng_block F7.out)).at
                  have ra := adblk (stay HW7.out F0.out)
                  have eq := eq_ad x.a.ad A HAd.out HA.out
                  have HLs := Lib.hid (show lastA ((lo.take (j + 1)).map AV.a) A = if A = x.a.ad then some x.a else lastA ((lo.take j).map AV.a) A by rw [List.take_add_one, HXg.out, List.map_append]; exact lastA_snoc _ _ _)
                  by_cases e : x.a.ad = A
                  · rw [decide_eq_true e] at eq
                    have HEq := Lib.hid e
                    clear e
                    go_upto_if 90 with (first
                      | (refine wpList_load_mid rfl 32 _ rfl bo _ rfl (aN x.a.ad).toList _ r7 Try.underlying32 rfl (infoAd _) ?_; simp only [Array.toArray_toList])
                      | (refine wpList_load_mid rfl 32 _ rfl w.heap.size 0 rfl (aN A).toList _ ra Try.underlying32 rfl (infoAd _) ?_; simp only [Array.toArray_toList]))
                    clear r7 ra eq
                    have rx := (rng_block F7.out).at
                    have hrow : Hid (Below wA.heap.size wA (w7.setRow wA.heap.size (acs x).toArray)) := Lib.hid (below_setRow HB7.out (Nat.le_refl _) _)
                    go_wp2_with (first
                      | (refine wpList_load_mid rfl 39 _ rfl bo 0 rfl (acs x) _ rx Try.underlying39 rfl (infoAcs _) ?_)
                      | (refine wpList_store_row rfl 39 _ _ rfl wA.heap.size _ (acs x).toArray rfl rfl FY7.out (by simpa using infoAcs _) (by simp [acs_len]) one ?_))
                    have HXA := Lib.hid (HXz.out.sub ((hp_below HP.out.below).trans (hp_below hrow.out)))
                    refine ⟨⟨_, _, _, _, _, _, _, _, _, _, _, _, ⟨j + 1, true, x, by omega, ?_, rfl, Lib.hid (blk_row FY7.out), Lib.hid ?_, Lib.hid ?_, HXA, hrow⟩, rfl⟩, ?_⟩
                    · go_num
                    · rw [HLs.out, if_pos HEq.out.symm]; rfl
                    · rw [HLs.out, if_pos HEq.out.symm]; rfl
                    · simp [intOf]; omega
                  · rw [decide_eq_false e] at eq
                    have HEq := Lib.hid e
                    clear e
                    go_wp2_with (first
                      | (refine wpList_load_mid rfl 32 _ rfl bo _ rfl (aN x.a.ad).toList _ r7 Try.underlying32 rfl (infoAd _) ?_; simp only [Array.toArray_toList])
                      | (refine wpList_load_mid rfl 32 _ rfl w.heap.size 0 rfl (aN A).toList _ ra Try.underlying32 rfl (infoAd _) ?_; simp only [Array.toArray_toList]))
                    refine ⟨⟨_, _, _, _, _, _, _, _, _, _, _, _, ⟨j + 1, b2, y2, by omega, ?_, rfl, FY7, Lib.hid ?_, Lib.hid ?_, HY7, HB7⟩, rfl⟩, ?_⟩
                    · go_num
                    · rw [HLs.out, if_neg fun h => HEq.out h.symm]; exact HE.out
                    · rw [HLs.out, if_neg fun h => HEq.out h.symm]; exact HB2.out
                    · simp [intOf]; omega
                · obtain rfl : j = lo.length := by omega
                  rw [List.take_length] at HE HB2
                  go_wp2_with fail
                  go_meet
                  exact ⟨b2, y2, rfl, FY', Lib.hid (by rw [HVL.out]; exact HE.out), Lib.hid (by rw [HVL.out]; exact HB2.out), HY', HB19⟩
            · --ONE
              have HVL := Lib.hid (hvl A)
              clear hvl HVR
              go_wp2_with fail
              go_meet
              exact ⟨q, y', rfl, FY', Lib.hid (by rw [HVL.out]; exact HE.out), Lib.hid (by rw [HVL.out]; rfl), HY', HB19⟩
          case rest =>
          obtain ⟨b2, y2, rfl, FY2, HE2, HB2, HY2, HBw⟩ := hcut
          have HPc := Lib.hid (HP.out.low HBw.out)
          have HBc := Lib.hid (HBr.out.low HBw.out)
          have FAc := Lib.hid (stay HPc.out.below F0.out)
          have KW := Lib.hid (world_walk HBc.out.st HPc.out.at' v' A hv' HA.out)
          have hA1 := HT.out.k A HA.out
          have HQ2 : (kf A).isSome = q := by
            rw [← HQ.out]
            cases h1 : kf A <;> cases h2 : findO kn A <;> rw [h1, h2] at hA1 <;> first | rfl | cases hA1
          have HBA2 : ((kf A).getD (bareAV A)).a = BA := by
            rw [← HBA.out]
            cases h1 : kf A <;> cases h2 : findO kn A <;> rw [h1, h2] at hA1 <;> first | rfl | cases hA1 | simpa using hA1
          rw [HQ2, ← HB2.out, HBA2, ← HE2.out] at KW
          clear HQ2 HBA2 hA1 HBA HQ HE FY' HY' HB19 HP HBr HT HVR HB2 HE2
          have oa := over_ahead (some ⟨sb, 0, none⟩) (some ⟨c.cb, 0, none⟩) (v' : Int) wc
          have om := over_method (some ⟨sb, 0, none⟩) (some ⟨c.cb, 0, none⟩) (v' : Int) wc
          have hfu : Try.prog.types.size + Made.depth = 254 := by kernel_rfl
          rw [hfu] at oa om
          clear hfu
          go_upto_region 30 with (go_at_call 28; refine (over_walk _ _ _ _).mono ?_; rintro e w30 ⟨rfl, rfl⟩)
          have ra := adblk FAc.out
          go_upto_region 31 with (first
            | (refine wpList_load_mid rfl 32 _ rfl w.heap.size 0 rfl (aN A).toList _ ra Try.underlying32 rfl (infoAd _) ?_; simp only [Array.toArray_toList])
            | (go_at_call 90
               refine KW.out.mono ?_
               rintro e w31 ⟨x, rfl, hxe, hxz, b31⟩
               have HXE := Lib.hid hxe
               have HXZ := Lib.hid (hxz.sub (fr_sub _ _))
               have one := hxz.ones
               have FY3 := Lib.hid (stay b31 FY2.out)
               have HY3 := Lib.hid (HY2.out.sub (hp_below b31))
               have HW3 := Lib.hid (HPc.out.below.trans (b31.mono HPc.out.below.size))
               have FN := Lib.hid (heap_alloc_new w31 (.cells (acs noneAV).toArray 39))
               unfold aval
               clear hxe hxz b31)
            | (refine wpList_alloc_row rfl 39 rfl _ zeroAcc ?_)
            | (refine wpList_store_row rfl 39 _ _ rfl w31.heap.size _ (acs x).toArray rfl rfl FN.out (by simpa using infoAcs _) (by simp [acs_len]) one ?_))
          have b32 : Below w31.heap.size w31 ((w31.alloc (.cells (acs noneAV).toArray 39)).setRow w31.heap.size (acs x).toArray) := below_setRow ((Below.refl _ _).alloc (Nat.le_refl _) _) (Nat.le_refl _) _
          have FX := Lib.hid (blk_row FN.out (c' := (acs x).toArray))
          have FY4 := Lib.hid (stay b32 FY3.out)
          have HX4 := Lib.hid (HXZ.out.sub (hp_below b32))
          have HY4 := Lib.hid (HY3.out.sub (hp_below b32))
          have HW4 := Lib.hid (HB.out.trans ((HW3.out.trans (b32.mono HW3.out.size)).mono HB.out.size))
          clear b32 FN FY3 HXZ HY3 HW3 KW oa om one ra
          obtain ⟨w32, h32⟩ : ∃ w32, (w31.alloc (.cells (acs noneAV).toArray 39)).setRow w31.heap.size (acs x).toArray = w32 := ⟨_, rfl⟩
          rw [h32] at FX FY4 HX4 HY4 HW4 ⊢
          clear h32
          generalize w31.heap.size = xb at *
          generalize wA.heap.size = zb at *
          have so : (b2 == b2) = true := by cases b2 <;> rfl
          go_wp2_with (go_at_call 8; refine (KFx.out _).mono ?_; rintro e w33 ⟨rfl, b33⟩; refine Hid.out ?_)
          have rx := (rng_block (stay b33 FX.out)).at
          have ry := (rng_block (stay b33 FY4.out)).at
          have KS := Lib.hid (same_walk x y2 w33 HXE.out.symm (HX4.out.sub (hp_below b33)) (HY4.out.sub (hp_below b33)))
          have HW5 := Lib.hid (HW4.out.trans (b33.mono HW4.out.size))
          clear b33 FX FY4 HX4 HY4 HW4
          unfold aval at KS
          refine Lib.hid ?_
          go_wp2_with (first
            | (refine load_midG (by rfl) 39 _ rfl xb 0 rfl (acs x) _ rx Try.underlying39 rfl (infoAcs _) ?_)
            | (refine load_midG (by rfl) 39 _ rfl zb 0 rfl (acs y2) _ ry Try.underlying39 rfl (infoAcs _) ?_)
            | (go_at_call 19; refine KS.out.mono ?_; rintro e w34 ⟨rfl, b34⟩))
          go_ret
          exact ⟨rfl, HW5.out.trans (b34.mono HW5.out.size)⟩
    · rw [hg2] at KG2
      go_enter Try.func5, Try.ntmps5
      go_upto_region 1 with fail
      clear hW
      go_wp2_with (first
        | (go_at_call 24; first
            | (refine KG1.out.mono ?_; rintro e w1 ⟨rfl, rfl⟩; clear KG1)
            | (refine KG2.out.mono ?_; rintro e w1 ⟨rfl, rfl⟩))
        | (go_at_call 8; refine (KFx.out _).mono ?_; rintro e w2 ⟨rfl, b2⟩; replace HB := Lib.hid (HB.out.trans (b2.mono HB.out.size)); clear b2))
      go_ret
      exact ⟨rfl, HB.out⟩
  · rw [hg1] at KG1
    go_enter Try.func5, Try.ntmps5
    go_upto_region 1 with fail
    clear hW
    go_wp2_with (first
      | (go_at_call 24; refine KG1.out.mono ?_; rintro e w1 ⟨rfl, rfl⟩)
      | (go_at_call 8; refine (KFx.out _).mono ?_; rintro e w2 ⟨rfl, b2⟩; replace HB := Lib.hid (HB.out.trans (b2.mono HB.out.size)); clear b2))
    go_ret
    exact ⟨rfl, HB.out⟩
end Go.Proofs.Ytdgenbidgieojaa
