/- StoreSame, walked. -/
import Derived.Test.YtpkoiifidlnbeaaGb
namespace Go.Proofs.Ytpkoiifidlnbeaa
open Go.RowKit SmWord
set_option maxRecDepth 100000

theorem load_midG {P : Program} {ops : Array Oper} {rest : List Oper} {op : Oper} {a : Act} {w : World} {Q : Exit → Act → World → Prop} (hw : Region.wanted op (yielded ops a.tmps) = true) (ty : TypeId) (x : Operand) (ho : op.op = .load ty x)
    (b o : Nat) (hx : a.eval x = .pointer (some ⟨b, o, none⟩)) (cs : List Value) (d : TypeDesc) (hc : w.rangeAt b o cs)
    (hu : P.underlying ty = some d) (hd : d.isRow = true) (hi : (P.info? ty).map (·.size) = some cs.length)
    (h : wpList P ops Q rest (a.put op.dst (.agg cs.toArray)) w) : wpList P ops Q (op :: rest) a w :=
  wpList_step fun K hK => by
    simp only [hw, if_true]
    exact wp_load_mid ty x ho b o hx cs d hc hu hd hi (hK _ _ h)
theorem AllIs.len {w0 w : World} {La : List Acc} {val : Value} {ys : List AV} {Z : Hp} (h : AllIs w0 La w val ys Z) : ys.length ≤ La.length := by
  have : (ys.map AV.a).length ≤ La.length := by rw [h.eq]; exact List.length_filter_le _ _
  simpa using this
set_option maxHeartbeats 4000000 in
theorem same_law (v : Value) (l : List CO) (A : Nat) (w : World) (h : RowZ (hp w) v l.length 2 (l.flatMap ocs)) (ho : ∀ o ∈ l, OpB (hp w) o) (hA : A < 2 ^ 160) :
    Calls Try.prog 7 #[v, .agg (aN A)] w fun e w' => e = .returned (.bool true) ∧ Below w.heap.size w w' := by
  have HR := Lib.hid h
  obtain ⟨A0, c, rfl, hn, hc, hA0, hcells⟩ := h.one (fun x _ => rfl)
  have HX := Lib.hid ho
  have HC : Hid (0 < l.length → ∃ b off, A0 = some ⟨b, off, none⟩ ∧ ∀ i x, l[i]? = some x → rng (hp w) b (off + i * 2) (ocs x)) := Lib.hid fun hn => by
    obtain ⟨b, off, e, _, hi⟩ := hcells hn
    exact ⟨b, off, e, hi⟩
  have hs := aN_size A
  obtain ⟨f0, bW⟩ := boxAd w A
  obtain ⟨W, hW⟩ : ∃ W, w.alloc (.cells (aN A) 24) = W := ⟨_, rfl⟩
  rw [hW] at f0 bW
  have HB := Lib.hid bW
  have F0 := Lib.hid f0
  clear hcells h ho f0 bW
  generalize hN : l.length = n at *
  have HN := Lib.hid hN
  clear hN
  go_enter Try.func7, Try.ntmps7
  go_upto_region 2 with (go_at_call 8; refine (new_walk W.heap.size W (Nat.le_refl _)).mono ?_; rintro e w1 ⟨sb, g0, rfl, h1, hn1, -, b1⟩; have HS1 := Lib.hid h1; have HN1 := Lib.hid hn1; have B1 := Lib.hid b1; clear h1 hn1 b1)
  clear hW
  have KF := Lib.hid fun g : Ext w1 => fixed_walk g.on
  refine region_seq ?_
  repeat (go_big_quiet_step (first | (go_at_call 9; with_reducible exact calls_ext (KF.out _))))
  refine wpQuiet_nil ?_
  rintro w' ⟨gg2, rfl⟩
  have B2 := Lib.hid gg2.below
  generalize gg2.on = w2 at *
  clear KF
  have bw2 : Below W.heap.size W w2 := B1.out.trans (B2.out.mono B1.out.size)
  have KC := Lib.hid (cut_walk (.slice A0 n c) l w2 (by rw [HN.out]; exact HR.out.sub (hp_below (HB.out.trans (bw2.mono HB.out.size)))) (fun o ho => (HX.out o ho).sub (hp_below (HB.out.trans (bw2.mono HB.out.size)))))
  rw [HN.out] at KC
  have BW2 := Lib.hid bw2
  clear bw2
  go_wp2_with (go_at_call 10; refine KC.out.mono ?_; rintro e w3 ⟨⟨m, A9, c9, hm, hml, hgr, hv, rfl⟩, b3⟩; cases hv; have HGr := Lib.hid hgr; have B3 := Lib.hid b3; clear hgr b3)
  have bw3 : Below W.heap.size W w3 := BW2.out.trans (B3.out.mono BW2.out.size)
  have HS3 : Hid (∃ Z g L, StoreAt W.heap.size Z w3 sb g L ∧ g.n ≤ 1 ∧ ∀ v, v < g.n → (L v).length ≤ 50 * 0) := Lib.hid ⟨_, g0, _, HS1.out.below (B2.out.trans (B3.out.mono B2.out.size)), by rw [HN1.out]; omega, fun _ _ => by simp⟩
  have BW3 := Lib.hid bw3
  clear bw3 KC HS1 HN1
  go_loopw [27] (fun i wr => ∃ k : Nat, k ≤ m ∧ i = .int .i64 k ∧ Hid (∃ Z g L, StoreAt W.heap.size Z wr sb g L ∧ g.n ≤ k + 1 ∧ ∀ v, v < g.n → (L v).length ≤ 50 * k) ∧ Hid (Below W.heap.size W wr)) (fun i _ => m - (intOf i).toNat)
  case atStart => exact ⟨0, Nat.zero_le _, rfl, HS3, BW3⟩
  case round =>
    obtain ⟨k, hk, rfl, HS, HW⟩ := hrel
    clear HS3
    obtain ⟨Z, g, L, hS, hgn, hLn⟩ := HS.out
    have HLn := Lib.hid hLn
    have HSk := Lib.hid hS
    clear HS hS hLn
    by_cases hlt : k < m
    · obtain ⟨b, off, rfl, hi⟩ := HC.out (by omega)
      obtain ⟨o, hx⟩ : ∃ o, l[k]? = some o := ⟨l[k]'(by rw [HN.out]; omega), by simp⟩
      have bwr : Below w.heap.size w wr := HB.out.trans (HW.out.mono HB.out.size)
      have r1 := ((hi k _ hx).sub (hp_below bwr)).at
      have HOo := Lib.hid (small_accs (HX.out o (List.mem_of_getElem? hx)) (HGr.out o (List.mem_of_getElem? (by rw [List.getElem?_take_of_lt hlt]; exact hx))))
      obtain ⟨A2, c2, hv2, -⟩ := HOo.out.1.row.val
      clear hx hi
      have d0 : wr.cell? ⟨b, off + k * 2, none⟩ = some (.int .i64 o.par) := r1 0 _ rfl
      have d1 : wr.cell? ⟨b, off + k * 2 + 1, none⟩ = some o.v := r1 1 _ rfl
      rw [hv2] at d1
      obtain ⟨W2, hW2⟩ : ∃ W2, wr.alloc (.cells #[.int .i64 o.par, .slice A2 o.l.length c2] 36) = W2 := ⟨_, rfl⟩
      have g0' : W2.heap[wr.heap.size]? = some (.cells #[.int .i64 o.par, .slice A2 o.l.length c2] 36) := hW2 ▸ heap_alloc_new _ _
      have bW2 : Below wr.heap.size wr W2 := hW2 ▸ (Below.refl _ _).alloc (Nat.le_refl _) _
      have d2 := blk_cell (j := 0) g0' rfl
      have d3 := blk_cell (j := 1) g0' rfl
      have KM := Lib.hid (commit_any (HSk.out.below bW2) o.par o.v o.l (HOo.out.1.sub (hp_below (bwr.trans (bW2.mono bwr.size)))) (by have := HOo.out.2; omega) (by omega) (50 * k) HLn.out)
      rw [hv2] at KM
      have HW2 : Hid (Below W.heap.size W W2) := Lib.hid (HW.out.trans (bW2.mono HW.out.size))
      clear g0' bW2 r1 bwr
      go_wp2_with (go_at_call 11; refine KM.out.mono ?_; rintro e w6 ⟨r1, r2, Z', g', L', rfl, h6, hn6, b6⟩; have HS6 := Lib.hid h6; have B6 := Lib.hid b6; have HN6 := Lib.hid hn6; clear h6 b6 hn6)
      exact ⟨⟨k + 1, by omega, by go_num, Lib.hid ⟨_, _, _, HS6.out, by have := HN6.out.1; omega, fun v hv => by have := HN6.out.2 v hv; have := HOo.out.2; omega⟩, Lib.hid (HW2.out.trans B6.out)⟩, by simp [intOf]; omega⟩
    · obtain rfl : k = m := by omega
      obtain ⟨p, hp⟩ : ∃ p, g.n = p + 1 := ⟨g.n - 1, by have := HSk.out.n1; omega⟩
      have KL := Lib.hid (slen_walk HSk.out)
      have K1 := Lib.hid (commit_ok HSk.out p (.slice none 0 0) [] (by omega) (AccsZ.nil _) (by simp) (by simp) (by omega))
      rw [show ((g.n : Nat) : Int) = (p : Int) + 1 by rw [hp]; rfl] at KL K1
      have hpM : (p : Int) < 40 := by omega
      have HP := Lib.hid hp
      have HGn := Lib.hid hgn
      clear hp
      go_upto_region 11 with (first
        | (go_at_call 13; refine KL.out.mono ?_; rintro e w4 ⟨rfl, rfl⟩)
        | (go_at_call 11
           refine K1.out.mono ?_
           rintro e w4 ⟨rfl, Z4, g4, h4, hn4, -, -, -, -, -, b4⟩
           have HS4 := Lib.hid h4
           have HN4 := Lib.hid hn4
           have B4 := Lib.hid b4
           clear h4 hn4 b4))
      obtain ⟨L4, h4, e4p, e4q⟩ : ∃ L4, StoreAt W.heap.size Z4 w4 sb g4 L4 ∧ L4 p = L p ∧ L4 (p + 1) = L p := ⟨_, HS4.out, by simp only [HP.out]; rw [if_neg (by omega)], by simp only [HP.out, if_true]; rfl⟩
      have hg4 : g4.n = p + 2 := by have := HN4.out; have := HP.out; omega
      have HG4 := Lib.hid hg4
      have HL4 := Lib.hid h4
      have KA := Lib.hid (all_walk h4 (by omega) p (by omega))
      have E4p := Lib.hid e4p
      have E4q := Lib.hid e4q
      clear h4 e4p e4q hg4 HS4
      go_upto_region 12 with (first
        | (go_at_call 16
           refine KA.out.mono ?_
           rintro e w5 ⟨val, ys, Zp, rfl, hal⟩
           have HAl := Lib.hid hal
           obtain ⟨A5, c5, e5⟩ := own_sl hal.own
           have h5 := HL4.out.below hal.below
           have hys : ys.length ≤ 1000000 := by
             have q1 : (ys.map AV.a).length ≤ (L4 p).length := by rw [hal.eq]; exact List.length_filter_le _ _
             have q2 := HLn.out p (by have := HP.out; omega)
             rw [E4p.out] at q1
             simp only [List.length_map] at q1
             omega
           have hyr : ∀ x ∈ ys, rightA x.a = true := fun x hx => by
             have hm : x.a ∈ ys.map AV.a := List.mem_map_of_mem hx
             rw [hal.eq] at hm
             exact h5.right (v := p) (by have := HG4.out; omega) (List.mem_filter.1 hm).1
           have K2 := Lib.hid (commit_ok h5 (p + 1) val ys (by have := HG4.out; omega) hal.accs hys hyr (by have := HG4.out; omega))
           have HL5 := Lib.hid h5
           rw [show ((g4.n : Nat) : Int) = (p : Int) + 2 by rw [HG4.out]; rfl, show ((p + 1 : Nat) : Int) = (p : Int) + 1 from rfl] at K2
           subst e5
           clear hal h5 hys hyr)
        | (go_at_call 11
           refine K2.out.mono ?_
           rintro e w6 ⟨rfl, Z6, g6, h6, hn6, -, -, -, -, -, b6⟩
           have HS6 := Lib.hid h6
           have HN6 := Lib.hid hn6
           have B6 := Lib.hid b6
           clear h6 hn6 b6))
      obtain ⟨L6, h6, e6p, e6q, e6r⟩ : ∃ L6, StoreAt W.heap.size Z6 w6 sb g6 L6 ∧ L6 p = L p ∧ L6 (p + 1) = L p ∧ L6 (p + 2) = L p := ⟨_, HS6.out, by simp only [HG4.out]; rw [if_neg (by omega), E4p.out], by simp only [HG4.out]; rw [if_neg (by omega), E4q.out], by
        simp only [HG4.out, if_true]
        rw [HAl.out.eq, E4q.out, E4p.out, putAll_same (HSk.out.srt p (by have := HP.out; omega))]⟩
      have hg6 : g6.n = p + 3 := by have := HN6.out; have := HG4.out; omega
      have BB6 : Hid (Below W.heap.size W w6) := Lib.hid (HW.out.trans (B4.out.trans ((HAl.out.below.mono HL4.out.baseLe).trans B6.out)))
      have HL6 := Lib.hid h6
      have HG6 := Lib.hid hg6
      have E6p := Lib.hid e6p
      have E6q := Lib.hid e6q
      have E6r := Lib.hid e6r
      clear HS6 h6 e6p e6q e6r KA KL K1 hg6 K2
      have hsA : ∀ x, (acs x).toArray.size = 27 := fun x => by simp [acs_len]
      have r6 := adblk (stay BB6.out F0.out)
      have KF1 := Lib.hid (sfind_walk HL6.out p A (by have := HG6.out; omega) hA)
      rw [E6p.out] at KF1
      go_upto_region 15 with (first
        | (refine wpList_alloc_row rfl 46 rfl _ zeroAcc ?_)
        | (refine wpList_load_mid rfl 24 _ rfl w.heap.size 0 rfl (aN A).toList _ r6 Try.underlying24 rfl (infoAd A) ?_; simp only [Array.toArray_toList])
        | (go_at_call 14
           refine KF1.out.mono ?_
           rintro e w7 ⟨x7, rfl, hx7, hz7, b7⟩
           have one7 := hz7.ones
           have sn7 := fun w => store_newA w x7 one7
           obtain ⟨W7, hW7⟩ : ∃ W7, w7.alloc (.cells (acs x7).toArray 46) = W7 := ⟨_, rfl⟩
           have F7 : Hid (W7.heap[w7.heap.size]? = some (.cells (acs x7).toArray 46)) := Lib.hid (hW7 ▸ heap_alloc_new _ _)
           have b77 : Below w7.heap.size w7 W7 := hW7 ▸ (Below.refl _ _).alloc (Nat.le_refl _) _
           have b67 : Below w6.heap.size w6 W7 := b7.trans (b77.mono b7.size)
           have HX7 := Lib.hid hx7
           have HZ7 := Lib.hid (hz7.sub (hp_below b77))
           have HL7 := Lib.hid (HL6.out.below b67)
           have BB7 : Hid (Below W.heap.size W W7) := Lib.hid (BB6.out.trans (b67.mono BB6.out.size))
           have r7 := adblk (stay BB7.out F0.out)
           have KF2 := Lib.hid (sfind_walk HL7.out (p + 1) A (by have := HG6.out; omega) hA)
           rw [E6q.out, show ((p + 1 : Nat) : Int) = (p : Int) + 1 from rfl] at KF2
           unfold aval
           clear hx7 hz7 b7 b77 b67))
      clear hW7 sn7 KF1 r6
      go_upto_region 16 with (first
        | (refine wpList_alloc_row rfl 46 rfl _ zeroAcc ?_)
        | (refine wpList_load_mid rfl 24 _ rfl w.heap.size 0 rfl (aN A).toList _ r7 Try.underlying24 rfl (infoAd A) ?_; simp only [Array.toArray_toList])
        | (go_at_call 14
           refine KF2.out.mono ?_
           rintro e w8 ⟨x8, rfl, hx8, hz8, b8⟩
           have one8 := hz8.ones
           have sn8 := fun w => store_newA w x8 one8
           obtain ⟨W8, hW8⟩ : ∃ W8, w8.alloc (.cells (acs x8).toArray 46) = W8 := ⟨_, rfl⟩
           have F8 : Hid (W8.heap[w8.heap.size]? = some (.cells (acs x8).toArray 46)) := Lib.hid (hW8 ▸ heap_alloc_new _ _)
           have b88 : Below w8.heap.size w8 W8 := hW8 ▸ (Below.refl _ _).alloc (Nat.le_refl _) _
           have b78 : Below W7.heap.size W7 W8 := b8.trans (b88.mono b8.size)
           have HX8 := Lib.hid hx8
           have HZ8 := Lib.hid (hz8.sub (hp_below b88))
           have B78 := Lib.hid b78
           have HL8 := Lib.hid (HL7.out.below b78)
           have BB8 : Hid (Below W.heap.size W W8) := Lib.hid (BB7.out.trans (b78.mono BB7.out.size))
           unfold aval
           clear hx8 hz8 b8 b88 b78))
      clear hW8 sn8 KF2 r7
      have hLp : (L p).length ≤ 1000000 := by have := HLn.out p (by have := HP.out; omega); omega
      have HLp := Lib.hid hLp
      have K9 := Lib.hid (all_walk HL8.out (by have := HG6.out; omega) (p + 1) (by have := HG6.out; omega))
      rw [show ((p + 1 : Nat) : Int) = (p : Int) + 1 from rfl] at K9
      have H87 := Lib.hid (stay B78.out F7.out)
      have HZ7' := Lib.hid (HZ7.out.sub (hp_below B78.out))
      have hx87 : x8.a = x7.a := by rw [HX8.out, HX7.out]
      have HXX := Lib.hid hx87
      clear hLp HN6 HN4 hx87
      go_wp2_with (first
        | (go_at_call 16
           refine K9.out.mono ?_
           rintro e w9 ⟨val9, ys9, Z9, rfl, ha9⟩
           have HA9 := Lib.hid ha9
           obtain ⟨A9, c9, e9⟩ := own_sl ha9.own
           have K10 := Lib.hid (all_walk (HL8.out.below ha9.below) (by have := HG6.out; omega) p (by have := HG6.out; omega))
           subst e9
           clear ha9 K9)
        | (go_at_call 16
           refine K10.out.mono ?_
           rintro e w10 ⟨val10, ys10, Z10, rfl, ha10⟩
           have HA10 := Lib.hid ha10
           obtain ⟨A10, c10, e10⟩ := own_sl ha10.own
           subst e10
           have K11 := Lib.hid (sameAll_walk _ _ ys9 ys10 w10 (by rw [ha10.eq, HA9.out.eq, E6p.out, E6q.out]) (HA9.out.accs.sub (hp_below ha10.below)) ha10.accs (by have := HA9.out.len; rw [E6q.out] at this; have := HLp.out; omega))
           clear ha10 K10)
        | (go_at_call 21
           refine K11.out.mono ?_
           rintro e w11 ⟨rfl, b11⟩
           have B11 : Hid (Below W8.heap.size W8 w11) := Lib.hid (HA9.out.below.trans ((HA10.out.below.trans (b11.mono HA10.out.below.size)).mono HA9.out.below.size))
           have K12 := Lib.hid (all_walk (HL8.out.below B11.out) (by have := HG6.out; omega) (p + 2) (by have := HG6.out; omega))
           rw [show ((p + 2 : Nat) : Int) = (p : Int) + 2 from rfl] at K12
           clear b11 K11)
        | (go_at_call 16
           refine K12.out.mono ?_
           rintro e w12 ⟨val12, ys12, Z12, rfl, ha12⟩
           have HA12 := Lib.hid ha12
           obtain ⟨A12, c12, e12⟩ := own_sl ha12.own
           have b12 : Below W8.heap.size W8 w12 := B11.out.trans (ha12.below.mono B11.out.size)
           have B12 := Lib.hid b12
           have K13 := Lib.hid (all_walk (HL8.out.below b12) (by have := HG6.out; omega) p (by have := HG6.out; omega))
           subst e12
           clear ha12 K12 b12)
        | (go_at_call 16
           refine K13.out.mono ?_
           rintro e w13 ⟨val13, ys13, Z13, rfl, ha13⟩
           have HA13 := Lib.hid ha13
           obtain ⟨A13, c13, e13⟩ := own_sl ha13.own
           subst e13
           have K14 := Lib.hid (sameAll_walk _ _ ys12 ys13 w13 (by rw [ha13.eq, HA12.out.eq, E6p.out, E6r.out]) (HA12.out.accs.sub (hp_below ha13.below)) ha13.accs (by have := HA12.out.len; rw [E6r.out] at this; have := HLp.out; omega))
           clear ha13 K13)
        | (go_at_call 21
           refine K14.out.mono ?_
           rintro e w14 ⟨rfl, b14⟩
           have b14' : Below W8.heap.size W8 w14 := B12.out.trans ((HA13.out.below.trans (b14.mono HA13.out.below.size)).mono B12.out.size)
           have B14 := Lib.hid b14'
           have r14 := (rng_block (stay b14' H87.out)).at
           have r15 := (rng_block (stay b14' F8.out)).at
           have K15 := Lib.hid (same_walk x7 x8 w14 HXX.out (HZ7'.out.sub (hp_below b14')) (HZ8.out.sub (hp_below b14')))
           unfold aval at K15
           clear b14 b14' K14)
        | (refine load_midG (by rfl) 46 _ rfl w7.heap.size 0 rfl (acs x7) _ r14 Try.underlying46 rfl (infoAcs _) ?_)
        | (refine load_midG (by rfl) 46 _ rfl w8.heap.size 0 rfl (acs x8) _ r15 Try.underlying46 rfl (infoAcs _) ?_)
        | (go_at_call 19
           refine K15.out.mono ?_
           rintro e w15 ⟨rfl, b15⟩
           have B15 : Hid (Below W8.heap.size W8 w15) := Lib.hid (B14.out.trans (b15.mono B14.out.size))
           clear b15 K15))
      go_ret
      exact ⟨rfl, HB.out.trans ((BB8.out.trans (B15.out.mono BB8.out.size)).mono HB.out.size)⟩
end Go.Proofs.Ytpkoiifidlnbeaa
