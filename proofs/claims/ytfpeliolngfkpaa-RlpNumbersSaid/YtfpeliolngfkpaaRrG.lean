/- What measureList does: the walk. -/
import Derived.Test.YtfpeliolngfkpaaRrF
import Derived.Laws.ResultCell
namespace Go.Proofs.Ytfpeliolngfkpaa
open Go.RowKit SmWord
set_option maxRecDepth 100000

theorem results_pair {P : Program} {fn : Func} {p u : Tmp} {ty : TypeId} (h : fn.results = #[.cell p ty, .tmp u]) (tmps : Array Value) (w : World) (g : Nat) (t : TypeId) (cs : Array Value) (fr : Nat × Nat) (d : TypeDesc) (v : Value)
    (hp : tmps.getD p undef = .pointer (some ⟨g, 0, none⟩)) (hg : w.heap[g]? = some (.cells cs t fr))
    (hu : P.underlying ty = some d) (hd : (match d with | .struct _ | .array _ _ => true | _ => false) = true) (hi : (P.info? ty).map (·.size) = some cs.size) (hv : tmps.getD u undef = v) :
    (results fn tmps).run P w = .ok (.tuple #[.agg cs, v]) w := by
  have hp' : tmps[p]?.getD undef = .pointer (some ⟨g, 0, none⟩) := by simpa using hp
  have hv' : tmps[u]?.getD undef = v := by simpa using hv
  rw [results_cell_tmp h]
  simp [hp', asAddr, run_loadVar_row w g t ty cs fr d hg hu hd hi, hv']
theorem ext2_cell {w : World} (w1 : Ext w.drew) (g : Ext w1.on) {b off : Nat} {v : Value} (h : w.cell? ⟨b, off, none⟩ = some v) : g.on.cell? ⟨b, off, none⟩ = some v := by
  have hlt : b < w.heap.size := by simpa using World.block_lt_of_cell? w _ h
  have h0 : b < w1.on.heap.size := Nat.lt_of_lt_of_le hlt w1.below.size
  rw [g.below.cell (p := ⟨b, off, none⟩) h0, w1.below.cell (p := ⟨b, off, none⟩) hlt]
  exact h
set_option maxHeartbeats 2000000 in
theorem mlist_walk (Y : List Nd) (G0 : Fo) (hY : rows G0 = Y) (n : Nat) (hn : n ≤ Y.length) (hwt : wt Y ≤ 1000000) (A : Option Addr) (c : Nat) (M : Option Addr) (mc : Nat) (w : World) (hN : NodesS w A Y) (hM : MsS w M (meas G0)) :
    Calls Try.prog 30 #[.slice A n c, .slice M Y.length mc] w fun e w' => (e = .returned (.tuple #[.agg #[.int .u64 (((wrs (hopR n 0 .no G0).2).length : Nat) : Int), .int .u64 ((hz (wrs (hopR n 0 .no G0).2).length + (wrs (hopR n 0 .no G0).2).length : Nat) : Int), .int .i64 ((dps (hopR n 0 .no G0).2 + 1 : Nat) : Int)], .bool (decide ((hopR n 0 .no G0).1 = n))]) ∧ ((hopR n 0 .no G0).1 = n ↔ IsF (Y.take n)) ∧ ((hopR n 0 .no G0).1 = n → rows (hopR n 0 .no G0).2 = Y.take n)) ∧ Below w.heap.size w w' := by
  have hlen : Y.length ≤ 1000000 := (Hop.small hY (Hop.start (n := n)) hwt).2.2
  have HY := Lib.hid hY
  have HWT := Lib.hid hwt
  have HN := Lib.hid hN
  have HM := Lib.hid hM
  have HML := Lib.hid (show (meas G0).length = Y.length by rw [meas_length, hY])
  clear hY hwt hN hM
  generalize hl : Y.length = L at *
  go_enter Try.func30, Try.ntmps30
  go_wp2_with fail
  go_loopw [7] (fun i wr => ∃ (k : Nat) (K G : Fo), Hop Y G0 n k K G ∧ i = .int .i64 (k : Int) ∧ Below w.heap.size w wr ∧ wr.heap[w.heap.size]? = some (.cells #[.int .u64 0, .int .u64 0, .int .i64 0] 49) ∧ wr.heap[w.heap.size + 1]? = some (.cells #[.int .u64 (((wrs K).length : Nat) : Int), .int .u64 0, .int .i64 ((dps K + 1 : Nat) : Int)] 49)) (fun i _ => L - (intOf i).toNat)
  case atStart =>
    exact ⟨0, .no, G0, Hop.start, rfl, ((Below.refl _ _).alloc (Nat.le_refl _) _).alloc (by simp) _, blk_alloc (heap_alloc_new _ _), heap_alloc2_new _ _ _⟩
  case round =>
    obtain ⟨k, K, G, hop, rfl, hb, h0, h1⟩ := hrel
    by_cases hlt : k < n
    · obtain ⟨x, m, F, nx, s, hx, hm, hs, hmw, hmd, hop'⟩ := hop.step HY.out hlt (by rw [hl]; exact hn)
      have hkl : k < Y.length := by rw [hl]; omega
      obtain ⟨nb, no, rfl, hnb, hnc⟩ := HN.out.cells (by omega)
      obtain ⟨mb, mo, rfl, hmb, hmc⟩ := HM.out (by rw [HML.out]; omega)
      have d1 := (hnc k x hx).sz
      have d2 := (hmc k m hm).who
      have d3 := (hmc k m hm).dep
      rw [Nat.mul_comm 3 k] at d1 d2 d3
      obtain ⟨hw6, hd6, _⟩ := hop'.small HY.out HWT.out
      rw [wrs_app, List.length_append] at hw6
      rw [dps_app] at hd6
      obtain ⟨a, ha⟩ : ∃ a, (wrs K).length = a := ⟨_, rfl⟩
      obtain ⟨dk, hdk⟩ : ∃ a, dps K + 1 = a := ⟨_, rfl⟩
      obtain ⟨mw, hmw2⟩ : ∃ a, m.who = a := ⟨_, rfl⟩
      obtain ⟨md, hmd2⟩ : ∃ a, m.dep = a := ⟨_, rfl⟩
      obtain ⟨q, hq⟩ : ∃ a, (wrs (app K F)).length = a := ⟨_, rfl⟩
      obtain ⟨dq, hdq⟩ : ∃ a, dps (app K F) + 1 = a := ⟨_, rfl⟩
      have e1 : (a : Int) + (mw : Int) = (q : Int) := by rw [← ha, ← hmw2, ← hq, hmw, wrs_app, List.length_append]; omega
      have e2 : max (dk : Int) ((md : Int) + 1) = (dq : Int) := by rw [← hdk, ← hmd2, ← hdq, hmd, dps_app]; omega
      have hq6 : q ≤ 1000000 := by rw [← hq, wrs_app, List.length_append]; exact hw6
      have hd6' : md ≤ 1000000 := by rw [← hmd2, hmd]; omega
      rw [ha, hdk] at h1
      rw [hmw2] at d2
      rw [hmd2] at d3
      rw [hs] at d1
      have b1 : wr.cell? ⟨w.heap.size + 1, 0, none⟩ = some (.int .u64 (a : Int)) := blk_cell (j := 0) h1 rfl
      have D1 := Lib.hid d1
      have D3 := Lib.hid d3
      replace d2 := (hb.cell (p := ⟨mb, mo + k * 3 + 1, none⟩) hmb).trans d2
      clear d1 d3
      have HOP := Lib.hid hop'
      have HQ := Lib.hid (And.intro hq hdq)
      have hs6 : k + 1 + s ≤ L := by rw [← hl]; exact hop'.all
      have HB := Lib.hid hb
      have H0 := Lib.hid h0
      have H1 := Lib.hid h1
      clear hop hop' ha hdk hmw2 hmd2 hq hdq hmw hmd hs hx hm hnc hmc hb h0 h1 HN HM HWT hw6 hd6
      go_wp2_with fail
      refine region_last2 (aQ := ?aQ) 9 (by kernel_rfl) (by kernel_rfl) (fun w1 => ?hq) (fun w1' hb' => ?hh)
      case hq =>
        have c1 := fun g => ext2_cell w1 g b1
        have c2 := fun g => ext2_cell w1 g d2
        simp only [List.take_succ_cons, List.take_zero]
        repeat (go_big_quiet_step (fail))
        refine wpQuiet_nil ?_
        rfl
      have g1 := stay hb' H1.out
      have g0 := stay hb' H0.out
      have gB := HB.out.trans (hb'.mono HB.out.size)
      clear b1 d2 H0 H1 HB hb'
      have b1 : w1'.cell? ⟨w.heap.size + 1, 0, none⟩ = some (.int .u64 (a : Int)) := blk_cell (j := 0) g1 rfl
      have z1 := blk_frozen (j := 0) g1
      have s1 : (w1'.setCell ⟨w.heap.size + 1, 0, none⟩ (.int .u64 (q : Int))).heap[w.heap.size + 1]? = some (.cells #[.int .u64 (q : Int), .int .u64 0, .int .i64 (dk : Int)] 49) := blk_set g1 _
      have s0 := blk_other g0 (show w.heap.size ≠ w.heap.size + 1 by omega) (b := w.heap.size + 1) (j := 0) (.int .u64 (q : Int))
      have sB := gB.setCell (p := ⟨w.heap.size + 1, 0, none⟩) (by simp) (.int .u64 (q : Int))
      have S1 := Lib.hid s1
      have S0 := Lib.hid s0
      have SB := Lib.hid sB
      have T3 := Lib.hid ((sB.cell (p := ⟨mb, mo + k * 3 + 2, none⟩) hmb).trans D3.out)
      clear g1 g0 gB s1 s0 sB
      simp only [List.drop_succ_cons, List.drop_zero]
      go_wp2_with fail
      clear b1 z1
      generalize (w1'.setCell ⟨w.heap.size + 1, 0, none⟩ (.int .u64 (q : Int))) = W2 at *
      have b2 : W2.cell? ⟨w.heap.size + 1, 2, none⟩ = some (.int .i64 (dk : Int)) := blk_cell (j := 2) S1.out rfl
      refine region_last2 (aQ := ?aQ2) 10 (by kernel_rfl) (by kernel_rfl) (fun w2 => ?hq2) (fun w2' hb2' => ?hh2)
      case hq2 =>
        have c1 := fun g => ext2_cell w2 g b2
        have c2 := fun g => ext2_cell w2 g T3.out
        simp only [List.take_succ_cons, List.take_zero]
        repeat (go_big_quiet_step (fail))
        refine wpQuiet_nil ?_
        rfl
      have g1 := stay hb2' S1.out
      have g0 := stay hb2' S0.out
      have gB := SB.out.trans (hb2'.mono SB.out.size)
      clear b2 T3 S0 S1 SB hb2'
      have z1 := blk_frozen (j := 2) g1
      have b2 : w2'.cell? ⟨w.heap.size + 1, 2, none⟩ = some (.int .i64 (dk : Int)) := blk_cell (j := 2) g1 rfl
      have s1 : (w2'.setCell ⟨w.heap.size + 1, 2, none⟩ (.int .i64 (dq : Int))).heap[w.heap.size + 1]? = some (.cells #[.int .u64 (q : Int), .int .u64 0, .int .i64 (dq : Int)] 49) := blk_set g1 _
      have s0 := blk_other g0 (show w.heap.size ≠ w.heap.size + 1 by omega) (b := w.heap.size + 1) (j := 2) (.int .i64 (dq : Int))
      have sB := gB.setCell (p := ⟨w.heap.size + 1, 2, none⟩) (by simp) (.int .i64 (dq : Int))
      have t1 := (sB.cell (p := ⟨nb, no + k * 3 + 2, none⟩) hnb).trans D1.out
      have S1 := Lib.hid s1
      have S0 := Lib.hid s0
      have SB := Lib.hid sB
      have e3 : (k : Int) + (1 + (s : Int)) = ((k + 1 + s : Nat) : Int) := by omega
      obtain ⟨j, hj⟩ : ∃ j, k + 1 + s = j := ⟨_, rfl⟩
      rw [hj] at e3 HOP hs6
      clear g1 g0 gB s1 s0 sB
      simp only [List.drop_succ_cons, List.drop_zero]
      go_wp2_with fail
      refine ⟨⟨j, app K F, nx, HOP.out, rfl, SB.out, S0.out, ?_⟩, by simp [intOf]; omega⟩
      rw [HQ.out.1, HQ.out.2]
      exact S1.out
    · have hend := hop.end HY.out hlt (by rw [hl]; exact hn)
      obtain ⟨hw6, hd6, _⟩ := hop.small HY.out HWT.out
      have hkL := hop.all
      rw [hl] at hkL
      have hR := hop.ends hlt
      have HE : Hid ((k = n ↔ IsF (Y.take n)) ∧ (k = n → rows K = Y.take n)) := Lib.hid hend
      have HR := Lib.hid hR
      clear hR
      obtain ⟨a, ha⟩ : ∃ a, (wrs K).length = a := ⟨_, rfl⟩
      obtain ⟨dk, hdk⟩ : ∃ a, dps K = a := ⟨_, rfl⟩
      rw [ha, hdk] at h1
      have HA := Lib.hid (And.intro ha hdk)
      rw [ha] at hw6
      rw [hdk] at hd6
      have K1 := Lib.hid fun w => hsize_walk a w (by unfold B; omega)
      have hz9 := hz_le (n := a) (by unfold B; omega)
      obtain ⟨q, hq⟩ : ∃ q, hz a + a = q := ⟨_, rfl⟩
      have e1 : ((hz a : Nat) : Int) + (a : Int) = (q : Int) := by omega
      have HQ := Lib.hid hq
      obtain ⟨z, hz'⟩ : ∃ z, hz a = z := ⟨_, rfl⟩
      rw [hz'] at K1 hz9 e1
      obtain ⟨dq, hdq⟩ : ∃ q, dk + 1 = q := ⟨_, rfl⟩
      rw [hdq] at h1
      have HD := Lib.hid hdq
      have b1 : wr.cell? ⟨w.heap.size + 1, 0, none⟩ = some (.int .u64 (a : Int)) := blk_cell (j := 0) h1 rfl
      have hq6 : q ≤ 2000000 := by omega
      have H0 := Lib.hid h0
      have H1 := Lib.hid h1
      have HB := Lib.hid hb
      clear hend hop h0 h1 hb HWT HN HM HML hq hz' ha hdk hdq
      go_wp2_with fail
      refine region_last2 (aQ := ?aQ3) 7 (by kernel_rfl) (by kernel_rfl) (fun w1 => ?hq3) (fun w1' hb' => ?hh3)
      case hq3 =>
        have c1 := fun g => ext2_cell w1 g b1
        simp only [List.take_succ_cons, List.take_zero]
        repeat (go_big_quiet_step ((go_at_call 40; exact calls_ext (K1.out _))))
        refine wpQuiet_nil ?_
        rfl
      have g1 := stay hb' H1.out
      have g0 := stay hb' H0.out
      have gB := HB.out.trans (hb'.mono HB.out.size)
      clear b1 H0 H1 HB hb' K1
      have b1 : w1'.cell? ⟨w.heap.size + 1, 1, none⟩ = some (.int .u64 0) := blk_cell (j := 1) g1 rfl
      have z1 := blk_frozen (j := 1) g1
      have s1 : (w1'.setCell ⟨w.heap.size + 1, 1, none⟩ (.int .u64 (q : Int))).heap[w.heap.size + 1]? = some (.cells #[.int .u64 (a : Int), .int .u64 (q : Int), .int .i64 (dq : Int)] 49) := blk_set g1 _
      have s0 := blk_other g0 (show w.heap.size ≠ w.heap.size + 1 by omega) (b := w.heap.size + 1) (j := 1) (.int .u64 (q : Int))
      have sB := gB.setCell (p := ⟨w.heap.size + 1, 1, none⟩) (by simp) (.int .u64 (q : Int))
      have t0 : (w1'.setCell ⟨w.heap.size + 1, 1, none⟩ (.int .u64 (q : Int))).cell? ⟨w.heap.size + 1, 0, none⟩ = some (.int .u64 (a : Int)) := blk_cell (j := 0) s1 rfl
      have t1 : (w1'.setCell ⟨w.heap.size + 1, 1, none⟩ (.int .u64 (q : Int))).cell? ⟨w.heap.size + 1, 1, none⟩ = some (.int .u64 (q : Int)) := blk_cell (j := 1) s1 rfl
      have t2 : (w1'.setCell ⟨w.heap.size + 1, 1, none⟩ (.int .u64 (q : Int))).cell? ⟨w.heap.size + 1, 2, none⟩ = some (.int .i64 (dq : Int)) := blk_cell (j := 2) s1 rfl
      have y0 := blk_frozen (j := 0) s0
      have y1 := blk_frozen (j := 1) s0
      have y2 := blk_frozen (j := 2) s0
      have x0 := blk_cell (j := 0) s0 rfl
      have x1 := blk_cell (j := 1) s0 rfl
      have x2 := blk_cell (j := 2) s0 rfl
      have S0 := Lib.hid s0
      have SB := Lib.hid sB
      clear g1 g0 gB s1 s0 sB
      simp only [List.drop_succ_cons, List.drop_zero]
      go_upto_region 8 with fail
      generalize (w1'.setCell ⟨w.heap.size + 1, 1, none⟩ (.int .u64 (q : Int))) = W2 at *
      clear b1 z1
      go_wp2_with fail
      refine bodyPost_ret (v := .tuple #[.agg #[.int .u64 (a : Int), .int .u64 (q : Int), .int .i64 (dq : Int)], .bool ((k : Int) == (n : Int))]) (results_pair rfl _ _ _ 49 #[.int .u64 (a : Int), .int .u64 (q : Int), .int .i64 (dq : Int)] (0, 0) _ _ rfl (blk_set (blk_set (blk_set S0.out _) _) _) Try.underlying49 rfl Try.infoM rfl) rfl
        ⟨?_, ((SB.out.setCell (Nat.le_refl _) _).setCell (Nat.le_refl _) _).setCell (Nat.le_refl _) _⟩
      rw [HR.out]
      refine ⟨?_, HE.out⟩
      simp only
      rw [HA.out.1, HA.out.2, HQ.out, HD.out, show ((k : Int) == (n : Int)) = decide (k = n) from by by_cases h : k = n <;> simp [h]; omega]
end Go.Proofs.Ytfpeliolngfkpaa
