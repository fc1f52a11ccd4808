/- What measures does: the walk. -/
import Derived.Test.YtfpeliolngfkpaaRrI
namespace Go.Proofs.Ytfpeliolngfkpaa
open Go.RowKit SmWord
set_option maxRecDepth 100000

theorem Try.infoN1 : (Try.prog.info? 43).map (·.size) = some 3 := by kernel_rfl
theorem zN_run (w : World) : (zeroValue 43).run Try.prog w = .ok (.agg zN) w := by simp [Try.zeroValue43, zN]
set_option maxHeartbeats 4000000 in
theorem measures_core (X : List Nd) (n : Nat) (hl : X.length = n) (hwt : wt X ≤ 1000000) (b off c : Nat) (hnc : n ≤ c) (w : World) (hb : b < w.heap.size) (hN : ∀ i x, X[i]? = some x → NodeAt w b (off + 3 * i) x) (hz : ∀ (i : Nat) (x : Nd), X[i]? = some x → -9223372036854775808 ≤ x.sz ∧ x.sz ≤ 9223372036854775807) (x0 : Nd) (hx0 : X[0]? = some x0)
    (hs0 : x0.sz = (n : Int) - 1) :
    Calls Try.prog 16 #[.slice (some ⟨b, off, none⟩) n c] w fun e w' => ((IsF X → ∃ mb cs, e = .returned (.tuple #[.slice (some ⟨mb, 0, none⟩) n n, .bool true]) ∧ w.heap.size ≤ mb ∧ w'.heap[mb]? = some (.cells cs 49) ∧ ∀ F, rows F = X → MsIn cs 0 (meas F)) ∧
      (¬ IsF X → e = .returned (.tuple #[.slice none 0 0, .bool false]))) ∧ Below w.heap.size w w' := by
  have hn6 : n ≤ 1000000 := by have := wt_len X; omega
  have hn1 : 0 < n := by have := (List.getElem?_eq_some_iff.1 hx0).1; omega
  have d0 := (hN 0 x0 hx0).sz
  rw [hs0, Nat.mul_zero, Nat.add_zero] at d0
  have HN := Lib.hid hN
  have HZ := Lib.hid hz
  have HWT := Lib.hid hwt
  clear hN hz hwt
  obtain ⟨cs0, hcs0, hmk⟩ := make_ms n hn6 w
  have hn0 : ((n : Int) == 0) = false := by simp; omega
  go_enter Try.func16, Try.ntmps16
  go_wp2_with fail
  clear hmk d0
  have f0 : (w.alloc (.cells cs0 49)).heap[w.heap.size]? = some (.cells cs0 49) := heap_alloc_new _ _
  have bW : Below w.heap.size w (w.alloc (.cells cs0 49)) := (Below.refl _ _).alloc (Nat.le_refl _) _
  generalize (w.alloc (.cells cs0 49)) = W at *
  go_loopw [5] (fun i wr => ∃ (p : Nat) (G : Fo) (cs : Array Value), Met X p G ∧ i = .int .i64 ((p : Int) - 1) ∧ Below w.heap.size w wr ∧ wr.heap[w.heap.size]? = some (.cells cs 49) ∧ cs.size = 3 * n ∧ MsIn cs (3 * p) (meas G)) (fun i _ => (intOf i + 1).toNat)
  case atStart => exact ⟨n, .no, cs0, ⟨by simp [rows, ← hl], by omega⟩, rfl, bW, f0, hcs0, fun i x h => by cases h⟩
  case round =>
    obtain ⟨p, G, cs, met, rfl, hbw, h0, hcs, hms⟩ := hrel
    clear f0 bW
    by_cases hp : 0 < p
    · obtain ⟨q, rfl⟩ : ∃ q, p = q + 1 := ⟨p - 1, by omega⟩
      have hqn : q < n := by have := met.le; omega
      obtain ⟨x, hx⟩ : ∃ x, X[q]? = some x := ⟨_, List.getElem?_eq_getElem (by omega)⟩
      have hnode := (HN.out q x hx).below hbw hb
      obtain ⟨d1, ⟨A1, k1, d2, g1, g2, g3, g4⟩, d3⟩ := hnode
      rw [Nat.mul_comm 3 q] at d1 d2 d3
      obtain ⟨z1, z2⟩ := HZ.out q x hx
      have e1 : ((q + 1 : Nat) : Int) - 1 = (q : Int) := by omega
      rw [e1]
      obtain ⟨p1, hp1⟩ : ∃ p1, q + 1 = p1 := ⟨_, rfl⟩
      have e2 : (q : Int) + 1 = (p1 : Int) := by omega
      have HMet := Lib.hid met
      have HX := Lib.hid hx
      have H0 := Lib.hid h0
      have HM := Lib.hid hms
      have HB := Lib.hid hbw
      have HS := Lib.hid g4
      have HG := Lib.hid (And.intro g1 (And.intro g2 g3))
      clear met hx h0 hms hbw g4 g1 g2 g3 e1
      rw [hp1] at HMet HM
      obtain ⟨ls, hls⟩ : ∃ ls, x.ls = ls := ⟨_, rfl⟩
      obtain ⟨nb, hnb⟩ : ∃ nb, x.by'.length = nb := ⟨_, rfl⟩
      obtain ⟨sz, hsz⟩ : ∃ sz, x.sz = sz := ⟨_, rfl⟩
      rw [hls] at d1
      rw [hnb] at d2 HG HS
      rw [hsz] at d3 z1 z2
      have HE := Lib.hid (And.intro hls (And.intro hnb hsz))
      clear hls hnb hsz
      go_wp2_with fail
      obtain ⟨o1, ho1, _, es⟩ := slice_ahead (P := Try.prog) (t := 22) (by kernel_rfl) Try.sN b off (n := n) (c := c) (p := p1) (by omega) hnc
      refine region_mkA (aQ := ?aQ) 8 ⟨8, 9, 43, 6, 35, zN, #[.bool ls, .slice A1 nb k1, .int .i64 sz]⟩ (by kernel_rfl) (by kernel_rfl) (by kernel_rfl) (fun w1 => ?hq) ?hok ?hh
      case hq =>
        have c1 := fun g => ext2_cell w1 g d1
        have c2 := fun g => ext2_cell w1 g d2
        have c3 := fun g => ext2_cell w1 g d3
        simp only [List.take_succ_cons, List.take_zero, List.drop_succ_cons, List.drop_zero, List.cons_append, List.nil_append]
        repeat (go_big_quiet_step (fail))
        refine wpQuiet_nil ?_
        rfl
      case hok => exact ⟨zN_run, Try.infoN1, rfl, by simp [Value.oneCell'], by simp, rfl⟩
      intro bn w2 b2 lbn fn
      simp only [Act.put, List.setIfInBounds_toArray, List.set_cons_succ, List.set_cons_zero]
      have y0 : w2.cell? ⟨bn, 0, none⟩ = some (.bool ls) := blk_cell (j := 0) fn rfl
      have y1 : w2.cell? ⟨bn, 1, none⟩ = some (.slice A1 nb k1) := blk_cell (j := 1) fn rfl
      have y2 : w2.cell? ⟨bn, 2, none⟩ = some (.int .i64 sz) := blk_cell (j := 2) fn rfl
      have FN := Lib.hid fn
      have lbn2 : w.heap.size + 1 ≤ bn := by have := (Array.getElem?_eq_some_iff.1 (H0.out)).1; omega
      replace H0 := Lib.hid (stay b2 H0.out)
      replace HB := Lib.hid (HB.out.trans (b2.mono HB.out.size))
      replace HS := Lib.hid (HS.out.below b2)
      clear fn b2 d1 d2 d3 es lbn
      have hLe : (X.drop p1).length = n - p1 := by rw [List.length_drop, hl]
      have hcp : n - p1 ≤ c - p1 := by omega
      have ho2 : 0 < n - p1 → o1 = off + p1 * 3 := fun h => ho1 (by omega)
      have HO1 := Lib.hid ho2
      clear ho1 ho2
      generalize hL : n - p1 = L at *
      generalize c - p1 = C1 at *
      have KF := Lib.hid fun w => fits_walk ls A1 nb k1 sz L w HG.out.2.1 ⟨z1, z2⟩ (by unfold maxLen; omega)
      generalize hfit : fit ls nb sz L = ft at *
      have HF := Lib.hid hfit
      have HLe := Lib.hid hLe
      clear hfit hLe
      go_wp2_with fail
      refine (KF.out _).mono ?_
      rintro e w3 ⟨rfl, b3⟩
      replace y0 := (b3.cell (p := ⟨bn, 0, none⟩) (Array.getElem?_eq_some_iff.1 FN.out).1).trans y0
      replace y1 := (b3.cell (p := ⟨bn, 1, none⟩) (Array.getElem?_eq_some_iff.1 FN.out).1).trans y1
      replace y2 := (b3.cell (p := ⟨bn, 2, none⟩) (Array.getElem?_eq_some_iff.1 FN.out).1).trans y2
      replace FN := Lib.hid (stay b3 FN.out)
      replace H0 := Lib.hid (stay b3 H0.out)
      replace HB := Lib.hid (HB.out.trans (b3.mono HB.out.size))
      replace HS := Lib.hid (HS.out.below b3)
      clear b3 KF
      cases ft
      · have hno : ¬ IsF X := by
          have hm := HMet.out
          rw [← hp1] at hm
          refine hm.not HX.out (fit_no (L := L) hm.rest (by rw [hp1]; exact HLe.out) ?_)
          rw [HE.out.1, HE.out.2.1, HE.out.2.2]
          exact HF.out
        have HNo := Lib.hid hno
        clear hno
        go_wp2_with fail
        go_ret2
        exact ⟨⟨fun h => absurd h HNo.out, fun _ => rfl⟩, HB.out⟩
      · have hfy := fit_yes HF.out
        have hxw : 9 + x.by'.length ≤ 1000000 := by
          have h1 := HWT.out
          obtain ⟨hlt, e⟩ := List.getElem?_eq_some_iff.1 HX.out
          have h2 := wt_drop X q
          rw [List.drop_eq_getElem_cons hlt, e, wt_cons] at h2
          omega
        rw [HE.out.2.1] at hxw
        have hq3 : q * 3 + 2 < cs.size := by omega
        obtain ⟨v0, hv0⟩ : ∃ v, cs[q * 3]? = some v := ⟨_, Array.getElem?_eq_getElem (by omega)⟩
        obtain ⟨v1, hv1⟩ : ∃ v, cs[q * 3 + 1]? = some v := ⟨_, Array.getElem?_eq_getElem (by omega)⟩
        obtain ⟨v2, hv2⟩ : ∃ v, cs[q * 3 + 2]? = some v := ⟨_, Array.getElem?_eq_getElem (by omega)⟩
        rcases hfy with ⟨rfl, hz0⟩ | ⟨rfl, hnb0, s, hs, hsL⟩
        · have KB := mbytes_walk A1 nb k1 (fun i => x.by'.getD i 0) w3 (by omega) HS.out
          have hww : wz nb (x.by'.getD 0 0) = (ws x.by').length := by rw [ws_wz, HE.out.2.1]
          rw [hww] at KB
          obtain ⟨wn, hwn⟩ : ∃ wn, (ws x.by').length = wn := ⟨_, rfl⟩
          rw [hwn] at KB
          have HWN := Lib.hid hwn
          clear hww hwn
          go_wp2_with fail
          refine KB.mono ?_
          rintro e w4 ⟨rfl, b4⟩
          have m4 := stay b4 H0.out
          have c0 := blk_cell m4 hv0
          have c1 := blk_cell m4 hv1
          have c2 := blk_cell m4 hv2
          have f0 := blk_frozen (j := q * 3) m4
          have f1 := blk_frozen (j := q * 3 + 1) m4
          have f2 := blk_frozen (j := q * 3 + 2) m4
          have M4 := Lib.hid m4
          have B4 := Lib.hid (HB.out.trans (b4.mono HB.out.size))
          clear m4 b4
          go_wp2_with fail
          have hm := HMet.out
          have hM := HM.out
          rw [← hp1] at hm hM
          obtain ⟨r1, r2⟩ := meas_st (x := x) (G := G) HE.out.1 (by rw [HE.out.2.2, hz0])
          have hdr : X.drop q = x :: X.drop (q + 1) := by
            obtain ⟨hlt, e⟩ := List.getElem?_eq_some_iff.1 HX.out
            rw [List.drop_eq_getElem_cons hlt, e]
          refine ⟨⟨q, .st x.by' G, _, ⟨by rw [r1, hm.rest, hdr], by omega⟩, rfl, ((B4.out.setCell (Nat.le_refl _) _).setCell (Nat.le_refl _) _).setCell (Nat.le_refl _) _, blk_set (blk_set (blk_set M4.out _) _) _, by simp [hcs], ?_⟩, by simp [intOf]⟩
          have := hM.cons (p := q) (by omega) ⟨nb, wn, 0⟩
          rw [r2, HE.out.2.1, HWN.out]
          rw [Nat.mul_comm 3 q] at this ⊢
          exact this
        · obtain ⟨iv, wv, dv, okv, KL, hok1, hok2⟩ : ∃ (iv wv dv : Nat) (okv : Bool), (∀ (M : Option Addr) (mc : Nat) (w : World) (_ : NodesS w (some ⟨b, o1, none⟩) (X.drop p1)) (_ : MsS w M (meas G)), Calls Try.prog 30 #[.slice (some ⟨b, o1, none⟩) s C1, .slice M L mc] w fun e w' => e = .returned (.tuple #[.agg #[.int .u64 (iv : Int), .int .u64 (wv : Int), .int .i64 (dv : Int)], .bool okv]) ∧ Below w.heap.size w w') ∧
              (okv = true ↔ IsF ((X.drop p1).take s)) ∧ (okv = true → ∃ K, rows K = (X.drop p1).take s ∧ iv = (wrs K).length ∧ wv = hz (wrs K).length + (wrs K).length ∧ dv = dps K + 1) := by
            have KL := fun (M : Option Addr) (mc : Nat) (w : World) (hN : NodesS w (some ⟨b, o1, none⟩) (X.drop p1)) (hM : MsS w M (meas G)) => mlist_walk (X.drop p1) G HMet.out.rest s (by rw [HLe.out]; exact hsL) (Nat.le_trans (wt_drop X p1) HWT.out) (some ⟨b, o1, none⟩) C1 M mc w hN hM
            rw [HLe.out] at KL
            have hpu := hop_pure HMet.out.rest (show s ≤ (X.drop p1).length by rw [HLe.out]; exact hsL)
            refine ⟨_, _, _, _, fun M mc w hN hM => (KL M mc w hN hM).mono fun e w' h => ⟨h.1.1, h.2⟩, ?_, fun h => ⟨_, hpu.2 (decide_eq_true_iff.1 h), rfl, rfl, rfl⟩⟩
            rw [decide_eq_true_iff]
            exact hpu.1
          replace KL := Lib.hid KL
          have HOK := Lib.hid (And.intro hok1 hok2)
          clear hok1 hok2
          obtain ⟨mo, hmo1, _, em⟩ := slice_ahead (P := Try.prog) (t := 45) (by kernel_rfl) Try.sM w.heap.size 0 (n := n) (c := n) (p := p1) (by omega) (Nat.le_refl _)
          rw [hL] at em
          have en := fun w => slice_behind (P := Try.prog) (t := 22) (by kernel_rfl) Try.sN b o1 (n := L) (c := C1) (p := s) (by omega) w
          subst hs
          obtain ⟨hXd, hGd⟩ : True ∧ True := ⟨trivial, trivial⟩
          have hNw : ∀ w', Below w.heap.size w w' → NodesS w' (some ⟨b, o1, none⟩) (X.drop p1) := fun w' hb' => ⟨fun h0 => ⟨b, o1, rfl, Nat.lt_of_lt_of_le hb hb'.size, fun i y hy => by
            rw [HLe.out] at h0
            have hy' : X[p1 + i]? = some y := by rw [← List.getElem?_drop]; exact hy
            have := (HN.out (p1 + i) y hy').below (hb'.mono (Nat.le_refl _)) hb
            rwa [show off + 3 * (p1 + i) = o1 + 3 * i by rw [HO1.out h0]; omega] at this⟩⟩
          have hMw : ∀ w' : World, w'.heap[w.heap.size]? = some (.cells cs 49) → MsS w' (some ⟨w.heap.size, mo, none⟩) (meas G) := fun w' hm' h0 => by
            rw [meas_length, HMet.out.rest, HLe.out] at h0
            refine ⟨w.heap.size, mo, rfl, (Array.getElem?_eq_some_iff.1 hm').1, fun i y hy => ?_⟩
            have := (HM.out.mem hm') (by rw [meas_length, HMet.out.rest, HLe.out]; exact h0)
            obtain ⟨b', o', e, _, hc⟩ := this
            cases e
            have h3 := hc i y hy
            rwa [show 3 * p1 = mo by rw [hmo1 (by omega)]; omega] at h3
          have HNW := Lib.hid hNw
          have HMW := Lib.hid hMw
          clear hNw hMw hXd hGd
          go_wp2_with fail
          refine region_lastA (aQ := ?aQ7) 15 (by kernel_rfl) (by kernel_rfl) (fun w1 => ?hq7) (fun w7 hb7 => ?hh7)
          case hq7 =>
            have c1 := fun g => ext2_cell w1 g y2
            have hBw : ∀ g : Ext w1.on, Below w.heap.size w g.on := fun g => (HB.out.trans (Below.refl _ _).drew).trans ((w1.below.mono HB.out.size).trans (g.below.mono (Nat.le_trans HB.out.size w1.below.size)))
            have hmw : ∀ g : Ext w1.on, g.on.heap[w.heap.size]? = some (.cells cs 49) := fun g => g.block (w1.block H0.out)
            simp only [List.take_succ_cons, List.take_zero, List.drop_succ_cons, List.drop_zero, List.cons_append, List.nil_append]
            repeat (go_big_quiet_step ((go_at_call 30; exact calls_ext (KL.out _ _ _ (HNW.out _ (hBw _)) (HMW.out _ (hmw _))))))
            refine wpQuiet_nil ?_
            rfl
          have m4 := stay hb7 H0.out
          have c0 := blk_cell m4 hv0
          have c1 := blk_cell m4 hv1
          have c2 := blk_cell m4 hv2
          have f0 := blk_frozen (j := q * 3) m4
          have f1 := blk_frozen (j := q * 3 + 1) m4
          have f2 := blk_frozen (j := q * 3 + 2) m4
          have M4 := Lib.hid m4
          have B4 := Lib.hid (HB.out.trans (hb7.mono HB.out.size))
          clear m4 hb7
          simp only [List.take_succ_cons, List.take_zero, List.drop_succ_cons, List.drop_zero]
          have hdr : X.drop q = x :: X.drop p1 := by
            obtain ⟨hlt, e⟩ := List.getElem?_eq_some_iff.1 HX.out
            rw [List.drop_eq_getElem_cons hlt, e, hp1]
          cases okv
          · have hno : ¬ IsF X := by
              have hm := HMet.out
              rw [← hp1] at hm
              refine hm.not HX.out ?_
              rw [isF_here hm.rest, hp1]
              rintro (⟨h1, _⟩ | ⟨_, _, s', h3, _, h5⟩)
              · rw [HE.out.1] at h1; cases h1
              · rw [HE.out.2.2] at h3
                have e : s' = s := by omega
                rw [e] at h5
                exact absurd (HOK.out.1.2 h5) (by decide)
            have HNo := Lib.hid hno
            clear hno
            go_wp2_with fail
            go_ret2
            exact ⟨⟨fun h => absurd h HNo.out, fun _ => rfl⟩, ((B4.out.setCell (Nat.le_refl _) _).setCell (Nat.le_refl _) _).setCell (Nat.le_refl _) _⟩
          · obtain ⟨K, hK, hi1, hi2, hi3⟩ := HOK.out.2 rfl
            have hm := HMet.out
            obtain ⟨G', hG1, hG2⟩ := meas_li (x := x) hm.rest HE.out.1 (List.length_eq_zero_iff.1 (by rw [HE.out.2.1]; exact hnb0)) HE.out.2.2 (by rw [HLe.out]; exact hsL) hK
            have HG' := Lib.hid (And.intro hG1 hG2)
            have HDR := Lib.hid hdr
            have HI := Lib.hid (And.intro hi1 (And.intro hi2 hi3))
            clear hG1 hG2 hdr hi1 hi2 hi3 hm hK
            go_wp2_with fail
            refine ⟨⟨q, G', _, ⟨by rw [HG'.out.1, HDR.out], by omega⟩, rfl, ((B4.out.setCell (Nat.le_refl _) _).setCell (Nat.le_refl _) _).setCell (Nat.le_refl _) _, blk_set (blk_set (blk_set M4.out _) _) _, by simp [hcs], ?_⟩, by simp [intOf]⟩
            have hM := HM.out
            rw [← hp1] at hM
            have := hM.cons (p := q) (by omega) ⟨iv, wv, dv⟩
            rw [HG'.out.2, ← HI.out.2.1, ← HI.out.1, ← HI.out.2.2]
            rw [Nat.mul_comm 3 q] at this ⊢
            exact this
    · obtain rfl : p = 0 := by omega
      have HF : Hid (rows G = X) := Lib.hid (by have := met.rest; simpa using this)
      have HM := Lib.hid hms
      have HB := Lib.hid hbw
      have H0 := Lib.hid h0
      clear met hms hbw h0
      go_wp2_with fail
      go_ret2
      refine ⟨⟨fun _ => ⟨w.heap.size, cs, rfl, Nat.le_refl _, H0.out, fun F hF => ?_⟩, fun h => absurd ⟨G, HF.out⟩ h⟩, HB.out⟩
      rw [rows_inj F G (by rw [hF, HF.out])]
      exact HM.out
theorem measures_bad (X : List Nd) (A : Option Addr) (n c : Nat) (hl : X.length = n) (w : World) (hn : n ≤ 1000000) (hN : NodesS w A X) (hbad : n = 0 ∨ ∃ x0, X[0]? = some x0 ∧ x0.sz ≠ (n : Int) - 1) :
    Calls Try.prog 16 #[.slice A n c] w fun e w' => e = .returned (.tuple #[.slice none 0 0, .bool false]) ∧ w' = w := by
  rcases hbad with rfl | ⟨x0, hx, hs⟩
  · clear hN
    go_enter Try.func16, Try.ntmps16
    go_wp2_with fail
    go_ret2
    exact ⟨rfl, rfl⟩
  · have h0 : 0 < n := by have := (List.getElem?_eq_some_iff.1 hx).1; omega
    obtain ⟨b, off, rfl, hb, hc⟩ := hN.cells (by omega)
    have d0 := (hc 0 x0 hx).sz
    rw [Nat.mul_zero, Nat.add_zero] at d0
    obtain ⟨z, hz⟩ : ∃ z, x0.sz = z := ⟨_, rfl⟩
    rw [hz] at d0 hs
    have hn0 : ((n : Int) == 0) = false := by simp; omega
    have hz1 : (z != (n : Int) - 1) = true := by rw [bne_iff_ne]; exact hs
    clear hs hz hc hN hx hl
    go_enter Try.func16, Try.ntmps16
    go_wp2_with fail
    go_ret2
    exact ⟨rfl, rfl⟩
end Go.Proofs.Ytfpeliolngfkpaa
