/- The program's add. -/
import Derived.Test.YtpkoiifidlnbeaaG6
import Derived.Deep.RegionHeldLaw
namespace Go.Proofs.Ytpkoiifidlnbeaa
open Go.RowKit SmWord
set_option maxRecDepth 100000

section
variable {base : Nat} {Z : Hp} {w : World} {sb : Nat} {g : Gh} {L : Nat → List Acc}
set_option maxHeartbeats 4000000 in
theorem add_walk (h : StoreAt base Z w sb g L) (p : Nat) (hp' : p < g.n) (lv : Value) (l : List AV) (hl : AccsZ (hp w) lv l) (hll : l.length ≤ 1000000) (hr : ∀ x ∈ l, rightA x.a = true) (hn : g.n < 1048576) :
    Calls Try.prog 30 #[.pointer (some ⟨sb, 0, none⟩), .int .i64 (p : Int), lv] w fun e w' => e = .returned (.int .i64 (g.n : Int)) ∧ AddIs base Z w sb g L p (l.map AV.a) w' := by
  have HH := Lib.hid h
  have c0 := h.cell0
  obtain ⟨vb, vc, cur, evs, -, -, -, -, -⟩ := h.row_block
  rw [evs] at c0
  obtain ⟨A, c, rfl, hnc, hcM, hA, hcells⟩ := hl.row.one (fun x _ => acs_len x)
  have HX := Lib.hid hl.each
  have hs : ∀ x, (acs x).toArray.size = 27 := fun x => by simp [acs_len]
  have hs2 := aN_size
  have mm := run_makeMapH
  generalize hN : l.length = m at *
  have HN := Lib.hid hN
  have HC : Hid (0 < m → ∃ b off, A = some ⟨b, off, none⟩ ∧ ∀ i x, l[i]? = some x → rng (hp w) b (off + i * 27) (acs x)) := Lib.hid fun hn => by
    obtain ⟨b, off, e, _, hi⟩ := hcells hn
    exact ⟨b, off, e, hi⟩
  have HP0 := Lib.hid (P1.start w (l.map AV.a))
  obtain ⟨W, hW⟩ : ∃ W, w.alloc (.map #[] 0) = W := ⟨_, rfl⟩
  rw [hW] at HP0
  have HRt := Lib.hid hr
  have HEv := Lib.hid evs
  clear hcells hl hN h hr evs
  go_enter Try.func30, Try.ntmps30
  go_wp2_with fail
  clear hW mm
  go_loopw [23] (fun i wr => ∃ k : Nat, k ≤ m ∧ i = .int .i64 k ∧ Hid (∃ fb X, P1 w wr w.heap.size (l.map AV.a) k fb X)) (fun i _ => m - (intOf i).toNat)
  case atStart => exact ⟨0, Nat.zero_le _, rfl, Lib.hid ⟨_, _, HP0.out⟩⟩
  case round =>
    obtain ⟨k, hk, rfl, HE⟩ := hrel
    obtain ⟨fb, X, P⟩ := HE.out
    have HP := Lib.hid P
    clear HE P
    by_cases hlt : k < m
    · obtain ⟨b, off, rfl, hi⟩ := HC.out (by omega)
      obtain ⟨x, hx⟩ : ∃ x, l[k]? = some x := ⟨l[k]'(by rw [HN.out]; exact hlt), by simp⟩
      have r1 := ((hi k _ hx).sub (hp_below HP.out.below)).at
      have HXx := Lib.hid (((HX.out x (List.mem_of_getElem? hx)).sub (hp_below HP.out.below)))
      have one := HXx.out.ones
      have HXg := Lib.hid hx
      clear hx hi
      have sn := fun w => store_newA w x one
      obtain ⟨W2, hW2⟩ : ∃ W2, wr.alloc (.cells (acs x).toArray 46) = W2 := ⟨_, rfl⟩
      have g0 : W2.heap[wr.heap.size]? = some (.cells (acs x).toArray 46) := hW2 ▸ heap_alloc_new _ _
      have HW2 : Hid (Below wr.heap.size wr W2) := Lib.hid (hW2 ▸ (Below.refl _ _).alloc (Nat.le_refl _) _)
      have r2 := (rng_block g0).at
      have KR := Lib.hid (copied_walk x W2 (HXx.out.sub (hp_below HW2.out)))
      have G0 := Lib.hid g0
      clear g0
      unfold aval at KR
      go_wp2_with (first
        | (refine wpList_load_mid rfl 46 _ rfl b _ rfl (acs x) _ r1 Try.underlying46 rfl (infoAcs _) ?_)
        | (refine wpList_load_mid rfl 46 _ rfl wr.heap.size 0 rfl (acs x) _ r2 Try.underlying46 rfl (infoAcs _) ?_)
        | (refine wpList_alloc_row rfl 46 rfl _ zeroAcc ?_)
        | (go_at_call 33
           refine KR.out.mono ?_
           rintro e w3 ⟨r, s, rfl, ha, b3⟩
           have one2 := ha.ones
           have sn2 := fun w => store_newA w ⟨x.a, r, s⟩ one2
           obtain ⟨W4, hW4⟩ : ∃ W4, w3.alloc (.cells (acs ⟨x.a, r, s⟩).toArray 46) = W4 := ⟨_, rfl⟩
           have F4 : Hid (W4.heap[w3.heap.size]? = some (.cells (acs ⟨x.a, r, s⟩).toArray 46)) := Lib.hid (hW4 ▸ heap_alloc_new _ _)
           have B4 : Hid (Below w3.heap.size w3 W4) := Lib.hid (hW4 ▸ (Below.refl _ _).alloc (Nat.le_refl _) _)
           have B3 := Lib.hid b3
           have HA := Lib.hid ha
           have r4 : W4.rangeAt wr.heap.size 0 (aN x.a.ad).toList := (boxcells (stay B4.out (stay b3 G0.out))).2.2.2.2
           have HM := Lib.hid (HP.out.map.same ((B4.out.block _ (by have := HP.out.map.lt; have := HW2.out.size; have := B3.out.size; omega)).trans ((B3.out.block _ (by have := HP.out.map.lt; have := HW2.out.size; omega)).trans (HW2.out.block _ HP.out.map.lt))))
           clear b3 ha)
        | (refine wpList_load_mid rfl 24 _ rfl wr.heap.size 0 rfl (aN x.a.ad).toList _ r4 Try.underlying24 rfl (infoAd _) ?_; simp only [Array.toArray_toList])
        | (refine wpList_mapUpd rfl _ _ _ 65 rfl 75 Try.underlying65 w.heap.size k _ rfl HM.out (by unfold maxLen; omega) x.a.ad HXx.out.ad _ rfl rfl ?_; intro w5 h5 g5))
      have BB : Below wr.heap.size wr W4 := HW2.out.trans ((B3.out.trans (B4.out.mono B3.out.size)).mono HW2.out.size)
      refine ⟨⟨k + 1, by omega, by go_num, Lib.hid ⟨_, _, HP.out.step (a := x.a) (x' := ⟨x.a, r, s⟩) (b' := w3.heap.size) (by rw [List.getElem?_map, HXg.out]; rfl) rfl BB (Nat.le_trans HW2.out.size B3.out.size) F4.out ((HA.out.sub (fr_mono HW2.out.size _)).sub (fr_below B4.out)) h5 g5⟩⟩, by simp [intOf]; omega⟩
    · obtain rfl : k = m := by omega
      rename World => w1
      go_wp2_with (first
        | (refine wpList_range_map rfl _ 65 rfl 75 Try.underlying65 w.heap.size k _ rfl HP.out.map ?_; intro w2 cnt hit hg2 hs2' hcle; have HP2 := Lib.hid (P2.start HH.out (m0 := w.heap.size) (Nat.le_refl _) HP.out.map.lt HP.out.below hit hg2 hcle); clear hit hg2))
      go_frame
      go_loopw [] (fun wx => ∃ left cnt c sl, Hid (P2 base w1 wx g fb w.heap.size k w1.heap.size left cnt c sl)) (fun wx => wx.rangeLeft w.heap.size w1.heap.size)
      case atStart => exact ⟨_, _, _, _, HP2⟩
      case round =>
        obtain ⟨left, cnt, c, sl, HQ⟩ := hrel
        rcases HQ.out.it.next 0 with ⟨hc0, hl0, hrun⟩ | ⟨A, v, wa, cnt', hA, hlA, hvA, hrun, hita, hcl, hga, hsa, hen⟩
        · subst hc0
          have HL0 := Lib.hid hl0
          have hsb := P2.stay2 HH.out HP.out.below HQ.out HH.out.blk (by decide)
          obtain ⟨vb', vc', cur', e', _, hvb, hnv, hcM', _⟩ := HH.out.row_block
          have hvbs := P2.stay2 HH.out HP.out.below HQ.out hvb (by decide)
          have HV : VerAt base wr sb g := ⟨⟨_, hsb⟩, own_same HH.out.row (fun b hb => by
            rw [e'] at hb
            cases hb
            exact hvbs.trans hvb.symm), HH.out.n1, HH.out.nM, HH.out.par0, HH.out.parlt, HH.out.farUp⟩
          have HVr := Lib.hid HV
          obtain ⟨vb2, vc2, cur2, e2, _, _, hn2, hc2, hcell2⟩ := HV.row_block
          have e3 := e2.symm.trans HEv.out
          injection e3 with e4 _ e5
          injection e4 with e6
          injection e6 with e7
          subst e7
          subst e5
          have d1 := HV.cell0
          rw [e2] at d1
          have d2 : wr.cell? ⟨vb2, p * 4 + 2, none⟩ = some (.int .i64 (g.dep p)) := hcell2 p hp' 2 _ rfl
          have HSb := Lib.hid hsb
          have HNE : Hid (sb ≠ vb2) := Lib.hid fun e => by
            obtain ⟨cs, hcs⟩ := own_block HH.out.row (by rw [HEv.out]; rfl : g.vs.ownBlock = some vb2)
            have := HH.out.blk
            rw [e, hcs] at this
            simp at this
          have hpM : (p : Int) + 1 < 9223372036854775807 := by have := HH.out.nM; omega
          clear HV hsb e' hvb hnv hcM' hvbs e2 hcell2 hl0
          go_wp2_with fail
          clear hrun
          go_region_law (first
              | (go_simp
                 go_at_call 40
                 refine (far_walk (HVr.out.below (Below.refl _ _).drew) p hp').mono ?_
                 rintro e w5 ⟨x, rfl, hux, b5⟩
                 have HUx := Lib.hid hux
                 have HB5 := Lib.hid b5
                 have HV5 := Lib.hid ((HVr.out.below (Below.refl _ _).drew).below b5)
                 have d3 : w5.cell? ⟨sb, 0, none⟩ = some (.slice (some ⟨vb2, 0, none⟩) g.n vc2) := by have := HV5.out.cell0; rwa [HEv.out] at this
                 have d4 : w5.cell? ⟨vb2, p * 4 + 2, none⟩ = some (.int .i64 (g.dep p)) := (b5.cell (p := ⟨vb2, p * 4 + 2, none⟩) (by simpa using World.block_lt_of_cell? _ _ d2)).trans d2
                 have d5 := fun o => cell_al (o := o) d3
                 have HSb5 : Hid (w5.heap[sb]? = some (.cells #[.slice (some ⟨vb2, 0, none⟩) g.n vc2, .map (some g.mb)] 71)) := Lib.hid (by rw [← HEv.out]; exact (b5.block sb (Array.getElem?_eq_some_iff.1 HSb.out).1).trans HSb.out)
                 have HBs5 : Hid (base ≤ w5.heap.size) := Lib.hid (Nat.le_trans (Nat.le_trans HQ.out.bl HQ.out.below.size) b5.size)
                 have HO5 : Hid (w5.ownsRow base 67 4 (.slice (some ⟨vb2, 0, none⟩) g.n vc2) g.n ((List.range g.n).flatMap (vcs g))) := Lib.hid (by have := HV5.out.row; rwa [HEv.out] at this)
                 clear hux b5)
              | (refine step_append_keep rfl (.tmp 54) (.tmp 70) 68 rfl 67 (.agg #[.int .i64 0, .int .i64 0, .int .i64 0, .map none]) 4 32 Try.underlying68 infoV4 rfl (by decide) (by decide) base vb2 vc2 g.n ((List.range g.n).flatMap (vcs g)) (by simp [Act.eval]) (HO5.out.alloc _) ⟨w5.heap.size, 0, none⟩ 1 1 [.int .i64 p, .int .i64 x, .int .i64 (IntKind.i64.wrap (g.dep p + 1)), .map (some w.heap.size)] (by simp [Act.eval]) rfl (cells_at (cs := [.int .i64 p, .int .i64 x, .int .i64 (IntKind.i64.wrap (g.dep p + 1)), .map (some w.heap.size)]) (heap_alloc_new _ _)) (by simp [Value.oneCell']) (by omega) (by have := HBs5.out; simp; omega) ?_
                 intro v' w7 ho7 hg7 hloc7 _
                 have HO7 := Lib.hid ho7
                 have HG7 := Lib.hid hg7
                 have HL7 := Lib.hid hloc7
                 have hsb7 : w7.heap[sb]? = some (.cells #[.slice (some ⟨vb2, 0, none⟩) g.n vc2, .map (some g.mb)] 71) := (hg7.block sb (by have := (Array.getElem?_eq_some_iff.1 HSb5.out).1; simp; omega) (by simpa using HNE.out)).trans ((Below.heap_alloc _ _ _ (Array.getElem?_eq_some_iff.1 HSb5.out).1).trans HSb5.out)
                 have d7 : w7.cell? ⟨sb, 0, none⟩ = some (.slice (some ⟨vb2, 0, none⟩) g.n vc2) := blk_cell hsb7 rfl
                 have d8 := blk_frozen (j := 0) hsb7
                 have HSb7 := Lib.hid hsb7
                 obtain ⟨A7, c7, rfl⟩ := own_sl ho7
                 clear ho7 hg7 hloc7 hsb7))
          all_goals
            clear d1 d2 d3 d4 d5 d7 d8 c0
            go_wp2_with fail
            go_ret
            exact ⟨rfl, add_done HH.out hp' hn HP.out (by rw [List.length_map]; exact HN.out) hll (fun a ha => by obtain ⟨y, hy, rfl⟩ := List.mem_map.1 ha; exact HRt.out y hy) (fun a ha => by obtain ⟨y, hy, rfl⟩ := List.mem_map.1 ha; exact (HX.out y hy).ad) HQ.out HL0.out HUx.out ((Below.refl _ _).drew.trans HB5.out) HEv.out HO7.out HG7.out HL7.out⟩
        · have sn := store_newAd
          have HSA := Lib.hid hsa
          have HGA := Lib.hid hga
          have HIA := Lib.hid hita
          obtain ⟨Wk, hWk⟩ : ∃ Wk, wa.alloc (.cells (aN A) 24) = Wk := ⟨_, rfl⟩
          have k0 : Wk.heap[wa.heap.size]? = some (.cells (aN A) 24) := hWk ▸ heap_alloc_new _ _
          have HK : Hid (Below wa.heap.size wa Wk) := Lib.hid (hWk ▸ (Below.refl _ _).alloc (Nat.le_refl _) _)
          have hsb := P2.stay2 HH.out HP.out.below HQ.out HH.out.blk (by decide)
          have hsbl := (Array.getElem?_eq_some_iff.1 hsb).1
          have hsbr : sb ≠ w1.heap.size := by
            have := (Array.getElem?_eq_some_iff.1 HH.out.blk).1
            have := HP.out.below.size
            omega
          have hsb2 : Wk.heap[sb]? = some (.cells #[g.vs, .map (some g.mb)] 71) := (HK.out.block sb (by omega)).trans ((hga.block sb hsbl (by simpa using hsbr)).trans hsb)
          have d1 : Wk.cell? ⟨sb, 1, none⟩ = some (.map (some g.mb)) := blk_cell hsb2 rfl
          have hset : SetAt base ((Wk.alloc (.cells #[.int .i64 (g.n : Int)] 3)).drew) g.mb c (seq2 g fb left) sl := HQ.out.ahead hga ((HK.out.alloc HK.out.size _).drew)
          obtain ⟨st, wd, ad, cap, hrow, hE, gcd, scd, own0, hmbd, hS⟩ := hset.entry (by have := HQ.out.cle; have := HH.out.cntle; have := HH.out.nM; unfold maxLen; omega) hA
          have r1 := adblk k0
          have r2 : ((Wk.alloc (.cells #[.int .i64 (g.n : Int)] 3)).drew).rangeAt wa.heap.size 0 (aN A).toList := adblk (w := (Wk.alloc (.cells #[.int .i64 (g.n : Int)] 3)).drew) (blk_alloc k0)
          have d2 : ((Wk.alloc (.cells #[.int .i64 (g.n : Int)] 3)).drew).cell? ⟨sb, 1, none⟩ = some (.map (some g.mb)) := blk_cell (w := (Wk.alloc (.cells #[.int .i64 (g.n : Int)] 3)).drew) (blk_alloc hsb2) rfl
          have notm : ∀ b cs t, ((Wk.alloc (.cells #[.int .i64 (g.n : Int)] 3)).drew).heap[b]? = some (.cells cs t) → b ≠ g.mb := fun b cs t hb e => by
            obtain ⟨es, clock, hm⟩ := map_block hset.map
            rw [e, hm] at hb
            cases hb
          have q1 := (gcd.block _ (Array.getElem?_eq_some_iff.1 (blk_alloc (o' := .cells #[.int .i64 (g.n : Int)] 3) k0)).1 (by simpa using notm _ _ _ (blk_alloc k0))).trans (blk_alloc k0)
          have q2 := (gcd.block _ (Array.getElem?_eq_some_iff.1 (blk_alloc (o' := .cells #[.int .i64 (g.n : Int)] 3) hsb2)).1 (by simpa using notm _ _ _ (blk_alloc hsb2))).trans (blk_alloc hsb2)
          have r3 : wd.rangeAt wa.heap.size 0 (aN A).toList := adblk q1
          have d3 : wd.cell? ⟨sb, 1, none⟩ = some (.map (some g.mb)) := blk_cell q2 rfl
          have Q1 := Lib.hid q1
          have Q2 := Lib.hid q2
          have HS := Lib.hid hS
          have HMBD := Lib.hid hmbd
          have HMB := Lib.hid (hset.mb0 hA)
          have HSet := Lib.hid hset
          have HMl := Lib.hid hset.map.lt
          have HMM := Lib.hid (map_block hset.map)
          have HN1 : Hid (wd.heap[Wk.heap.size]? = some (.cells #[i64v g.n] 3)) := Lib.hid ((gcd.block Wk.heap.size (by simp) (by
            simp only [ne_eq, Option.some.injEq]
            intro e
            obtain ⟨es, clock, hm⟩ := HMM.out
            have h2 : ((Wk.alloc (.cells #[.int .i64 (g.n : Int)] 3)).drew).heap[Wk.heap.size]? = some (.cells #[.int .i64 (g.n : Int)] 3) := heap_alloc_new Wk _
            rw [← e, h2] at hm
            cases hm)).trans (heap_alloc_new Wk _))
          have hln : (seq2 g fb left A).length ≤ 1048577 := by
            unfold seq2
            have h1 : (seqA g A).length ≤ g.n := by unfold seqA; exact Nat.le_trans (List.length_filter_le _ _) (by simp)
            rw [List.length_append]
            have : (if (fb A).isSome && !left A then [g.n] else []).length ≤ 1 := by split <;> simp
            omega
          have HBw : Hid (base ≤ wd.heap.size) := Lib.hid (by have := HQ.out.bl; have := HQ.out.below.size; have := hga.size; have := HK.out.size; rw [scd]; simp; omega)
          have HSC := Lib.hid scd
          have HO := Lib.hid own0
          have HR0 := Lib.hid hrow
          have HCD := Lib.hid gcd
          have HK0 := Lib.hid k0
          clear hsa hga hita hS hmbd hset own0 hrow gcd scd k0 notm q1 q2 hsb hsbl hsbr hsb2
          go_wp2_with (refine wpList_alloc_row rfl 24 rfl _ zeroAd_run ?_)
          clear hWk sn
          have huA := Try.underlying24
          have hiA := infoAd A
          go_region_held_law (fun w' => w'.cell? ⟨sb, 1, none⟩ = some (.map (some g.mb)) ∧ w'.rangeAt wa.heap.size 0 (aN A).toList) (first | exact ⟨d1, r1⟩ | exact ⟨d2, r2⟩ | exact ⟨d3, r3⟩ | exact ⟨d4, r4⟩ | exact ⟨d5, r5⟩)
            (first
              | (refine step_append_row rfl (.tmp 44) (.tmp 46) 86 rfl 3 (.int .i64 0) 1 8 Try.underlying86 infoInt rfl (by decide) (by decide) base (row0 (seq2 g fb left) sl A) (seq2 g fb left A).length ((seq2 g fb left A).map i64v) (by simp [Act.eval, HR0.out]) HO.out ⟨Wk.heap.size, 0, none⟩ 1 1 [i64v g.n] (by simp [Act.eval]) rfl (one_at HN1.out) (by simp [i64v, Value.oneCell']) (by omega) HBw.out ?_
                 intro v' we ho hde hloc
                 obtain ⟨wf, hR, hm, hef⟩ := HS.out we v' (hde.block _ (by have := HMl.out; have := HSC.out; omega) HMB.out)
                 have q3 := (hde.block _ (Array.getElem?_eq_some_iff.1 Q1.out).1 (fun e => own_not HO.out Q1.out (by decide) _ e.symm rfl)).trans Q1.out
                 have q4 := (hde.block _ (Array.getElem?_eq_some_iff.1 Q2.out).1 (fun e => own_not HO.out Q2.out (by decide) _ e.symm rfl)).trans Q2.out
                 have r4 : we.rangeAt wa.heap.size 0 (aN A).toList := adblk q3
                 have d4 : we.cell? ⟨sb, 1, none⟩ = some (.map (some g.mb)) := blk_cell q4 rfl
                 have hmb2 := map_block hm
                 have nm : ∀ b cs t, we.heap[b]? = some (.cells cs t) → b ≠ g.mb := fun b cs t hb e => by
                   obtain ⟨es, clock, hm3⟩ := HMBD.out
                   rw [← hde.block g.mb (by have := HMl.out; have := HSC.out; omega) HMB.out, ← e, hb] at hm3
                   cases hm3
                 have r5 : wf.rangeAt wa.heap.size 0 (aN A).toList := adblk ((hef.block _ (Array.getElem?_eq_some_iff.1 q3).1 (by simpa using nm _ _ _ q3)).trans q3)
                 have d5 : wf.cell? ⟨sb, 1, none⟩ = some (.map (some g.mb)) := blk_cell ((hef.block _ (Array.getElem?_eq_some_iff.1 q4).1 (by simpa using nm _ _ _ q4)).trans q4) rfl
                 have HO2 := Lib.hid ho
                 have HDE := Lib.hid hde
                 have HLO := Lib.hid hloc
                 have HM2 := Lib.hid hm
                 have HEF := Lib.hid hef
                 clear ho hde hloc hm hef q3 q4 hmb2 nm))
          clear hE hR d1 d2 d3 d4 d5 r1 r2 r3 r4 r5 huA hiA
          go_wp2_with fail
          have hfA : (fb A).isSome = true := by
            cases hf : fb A with
            | none => rw [hf] at hvA; cases hvA
            | some _ => rfl
          have hnew := HQ.out.step hA hfA hlA HIA.out hcl HGA.out ((HK.out.alloc HK.out.size (.cells #[.int .i64 (g.n : Int)] 3)).drew) HCD.out HO2.out HDE.out HLO.out HM2.out HEF.out
          refine ⟨⟨_, _, _, _, Lib.hid hnew⟩, ?_⟩
          rw [hnew.it.left_eq, HQ.out.it.left_eq]
          exact hcl
end
end Go.Proofs.Ytpkoiifidlnbeaa
