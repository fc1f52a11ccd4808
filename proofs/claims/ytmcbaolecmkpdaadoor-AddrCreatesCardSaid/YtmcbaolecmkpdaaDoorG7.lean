/- What Encode of package rlp does: the walk. -/
import Derived.Test.YtmcbaolecmkpdaaDoorG6
namespace Go.Proofs.YtmcbaolecmkpdaaDoor
open Go.RowKit SmWord
set_option maxRecDepth 100000

theorem one_meas {F : Fo} (h : One F) : ∃ m, (meas F)[0]? = some m ∧ m.who = (wrs F).length ∧ m.dep = dps F := by
  cases F with
  | no => cases h
  | st b nx => cases (h : nx = .no); exact ⟨_, rfl, by simp [wrs], by simp [dps]⟩
  | li k nx => cases (h : nx = .no); exact ⟨_, rfl, by simp [wrs, hea_hz], by simp [dps]⟩
/-- A row of nodes that is handed in. -/
structure Arg (w : World) (A : Option Addr) (n c : Nat) (X : List Nd) : Prop where
  len : X.length = n
  cap : n ≤ c
  nil : A = none → n = 0 ∧ c = 0
  cells : NodesS w A X
  small : ∀ (i : Nat) (x : Nd), X[i]? = some x → (∀ y ∈ x.by', y < 256) ∧ -9223372036854775808 ≤ x.sz ∧ x.sz ≤ 9223372036854775807
set_option maxHeartbeats 4000000 in
theorem enc_walk (F : Fo) (hone : One F) (X : List Nd) (hX : rows F = X) (n c : Nat) (hwt : wt X ≤ 1000000) (hd : dps F ≤ 64) (b off : Nat) (w : World) (ha : Arg w (some ⟨b, off, none⟩) n c X)
    (KM : Hid (Calls Tryd.prog 38 #[.slice (some ⟨b, off, none⟩) n c] w fun e w' => (∃ mb cs, e = .returned (.tuple #[.slice (some ⟨mb, 0, none⟩) n n, .bool true]) ∧ w.heap.size ≤ mb ∧ w'.heap[mb]? = some (.cells cs 68) ∧ MsIn cs 0 (meas F)) ∧ Below w.heap.size w w')) :
    Calls Tryd.prog 27 #[.slice (some ⟨b, off, none⟩) n c] w fun e w' => (∃ v, e = .returned (.tuple #[v, .int .i64 0]) ∧ w'.ownsRow w.heap.size 5 1 v (wrs F).length (lb8 (wrs F))) ∧ Below w.heap.size w w' := by
  have hn6 : n ≤ 1000000 := by have := wt_len X; have := ha.len; omega
  have hw6 : (wrs F).length ≤ 1000000 := by have := wrs_le F (by rw [hX]; exact hwt); rw [hX] at this; omega
  obtain ⟨m0, hm0, hm1, hm2⟩ := one_meas hone
  have hn0 : 0 < n := by
    have h1 := (List.getElem?_eq_some_iff.1 hm0).1
    rw [meas_length, hX, ha.len] at h1
    exact h1
  obtain ⟨wl, hwl⟩ : ∃ wl, (wrs F).length = wl := ⟨_, rfl⟩
  obtain ⟨df, hdf⟩ : ∃ df, dps F = df := ⟨_, rfl⟩
  rw [hwl] at hm1 hw6
  rw [hdf] at hm2 hd
  have HX := Lib.hid hX
  have HA := Lib.hid ha
  have HWT := Lib.hid hwt
  have HW := Lib.hid (And.intro hwl hdf)
  have hb : b < w.heap.size := by
    obtain ⟨b', o', e, h, _⟩ := ha.cells.cells (by rw [ha.len]; exact hn0)
    cases e
    exact h
  have hN : ∀ i x, X[i]? = some x → NodeAt w b (off + 3 * i) x := by
    obtain ⟨b', o', e, _, h⟩ := ha.cells.cells (by rw [ha.len]; exact hn0)
    cases e
    exact h
  have HN := Lib.hid hN
  clear hX ha hwt hwl hdf hone hN
  go_enter Tryd.func27, Tryd.ntmps27
  go_wp2_with fail
  refine KM.out.mono ?_
  rintro e w1 ⟨⟨mb, cs, rfl, hmb, hmh, hms⟩, b1⟩
  have q0 := hms 0 m0 hm0
  rw [hm1, hm2] at q0
  have c1 : w1.cell? ⟨mb, 1, none⟩ = some (.int .u64 (wl : Int)) := blk_cell hmh q0.2.1
  have c2 : w1.cell? ⟨mb, 2, none⟩ = some (.int .i64 (df : Int)) := blk_cell hmh q0.2.2
  obtain ⟨bc, hbc, hmk⟩ := make_b8 wl hw6 w1
  have HMS := Lib.hid hms
  have o0 : (w1.alloc (.cells bc 5)).ownsRow w.heap.size 5 1 (.slice (some ⟨w1.heap.size, 0, none⟩) 0 wl) 0 (lb8 (wri F 0)) := World.ownsRow_made w1 bc wl b1.size (by unfold maxLen; omega) (by rw [hbc]; omega)
  have bW : Below w.heap.size w (w1.alloc (.cells bc 5)) := b1.alloc b1.size _
  have m1 : (w1.alloc (.cells bc 5)).heap[mb]? = some (.cells cs 68) := blk_alloc hmh
  have BW := Lib.hid bW
  have M1 := Lib.hid m1
  have O0 := Lib.hid o0
  have hq1 : decide ((64 : Int) < (df : Int)) = false := decide_eq_false (by omega)
  have hq2 : decide ((1048576 : Int) < (wl : Int)) = false := decide_eq_false (by omega)
  clear q0 hms bW m1 o0 hmh b1 hm0 hm1 hm2
  go_wp2_with fail
  clear c1 c2 hmk
  generalize hgB : w1.heap.size = rb at *
  generalize (w1.alloc (.cells bc 5)) = W at *
  go_loopw [6, 35] (fun v i wr => ∃ k : Nat, k ≤ n ∧ i = .int .i64 (k : Int) ∧ Below w.heap.size w wr ∧ wr.heap[mb]? = some (.cells cs 68) ∧ wr.ownsRow w.heap.size 5 1 v (wri F k).length (lb8 (wri F k))) (fun _ i _ => n - (intOf i).toNat)
  case atStart => exact ⟨0, by omega, rfl, BW.out, M1.out, O0.out⟩
  case round =>
    clear BW M1 O0 hgB
    obtain ⟨k, hk, rfl, hbw, hmh, hown⟩ := hrel
    by_cases hlt : k < n
    · obtain ⟨x, hx⟩ : ∃ x, X[k]? = some x := ⟨_, List.getElem?_eq_getElem (by rw [HA.out.len]; exact hlt)⟩
      obtain ⟨m, hm, hpc⟩ := pcs_get (F := F) (i := k) (x := x) (by rw [HX.out]; exact hx)
      have hst := wri_step hpc
      have hinn := meas_inn F k x m (by rw [HX.out]; exact hx) hm
      have hin6 : m.inn ≤ 2000000 := by have := HWT.out; have := HW.out.1; rw [HX.out] at hinn; omega
      have hmi := HMS.out k m hm
      have hwk := wri_le F k
      rw [HW.out.1] at hwk
      obtain ⟨d1, ⟨A1, k1, d2, g1, g2, g3, g4⟩, d3⟩ := HN.out k x hx
      replace d1 := (hbw.cell (p := ⟨b, off + 3 * k, none⟩) hb).trans d1
      replace d2 := (hbw.cell (p := ⟨b, off + 3 * k + 1, none⟩) hb).trans d2
      replace d3 := (hbw.cell (p := ⟨b, off + 3 * k + 2, none⟩) hb).trans d3
      rw [Nat.mul_comm 3 k] at d1 d2 d3
      have hxw : x.by'.length ≤ 1000000 := by
        have h1 := HWT.out
        obtain ⟨hlt, e⟩ := List.getElem?_eq_some_iff.1 hx
        have h2 := wt_drop X k
        rw [List.drop_eq_getElem_cons hlt, e, wt_cons] at h2
        omega
      obtain ⟨ls, hls⟩ : ∃ ls, x.ls = ls := ⟨_, rfl⟩
      obtain ⟨nb, hnb⟩ : ∃ nb, x.by'.length = nb := ⟨_, rfl⟩
      obtain ⟨sz, hsz⟩ : ∃ sz, x.sz = sz := ⟨_, rfl⟩
      obtain ⟨inn, hinn2⟩ : ∃ inn, m.inn = inn := ⟨_, rfl⟩
      obtain ⟨f, hf⟩ : ∃ f : Nat → Nat, (fun i => x.by'.getD i 0) = f := ⟨_, rfl⟩
      obtain ⟨md, hmd⟩ : ∃ md : Nat, (if ls then 64 else 0) = md := ⟨_, rfl⟩
      obtain ⟨p, hp⟩ : ∃ p, decide (nb = 1 ∧ f 0 < 128) = p := ⟨_, rfl⟩
      have hpcv : pc x m = (if p then [] else hea inn md) ++ x.by' := by
        rw [pc, hls, hnb, hinn2, ← hp, hmd, ← hf]
        simp
      rw [hls] at d1
      rw [hnb] at d2 g1 g2 g3 g4 hxw
      rw [hf] at g4
      rw [hsz] at d3
      rw [hinn2] at hmi hin6
      have W1b : Below wr.heap.size wr (wr.alloc (.cells #[.bool ls, .slice A1 nb k1, .int .i64 sz] 53)) := (Below.refl _ _).alloc (Nat.le_refl _) _
      have o1 := own_below hown W1b
      have m1 := stay W1b hmh
      have b1 := hbw.trans (W1b.mono hbw.size)
      have s1 := g4.below b1
      have KB := Lib.hid (bare_walk A1 nb k1 f (wr.alloc (.cells #[.bool ls, .slice A1 nb k1, .int .i64 sz] 53)) g2 s1)
      simp only [hp] at KB
      have h9 : (wr.alloc (.cells #[.bool ls, .slice A1 nb k1, .int .i64 sz] 53)).heap[wr.heap.size]? = some (.cells #[.bool ls, .slice A1 nb k1, .int .i64 sz] 53) := heap_alloc_new _ _
      have H9 := Lib.hid h9
      have HO := Lib.hid o1
      have HM := Lib.hid m1
      have HS := Lib.hid g4
      have HB := Lib.hid b1
      have HG := Lib.hid g3
      have HST := Lib.hid (hst.trans (congrArg (wri F k ++ ·) hpcv))
      have HE := Lib.hid (And.intro hnb hf)
      have HMD := Lib.hid hmd
      have HMI := Lib.hid hmi
      clear hbw hmh hown hx hm hpc hst hinn hmi g4 g3 o1 m1 s1 b1 W1b h9 hls hnb hsz hinn2 hp hpcv hf hmd
      go_wp2_with fail
      refine KB.out.mono ?_
      rintro e w2 ⟨rfl, rfl⟩
      clear d1 d2 d3
      generalize hrb2 : wr.heap.size = bn at *
      generalize (wr.alloc (.cells #[.bool ls, .slice A1 nb k1, .int .i64 sz] 53)) = W2 at *
      clear KB
      have y0 : W2.cell? ⟨bn, 0, none⟩ = some (.bool ls) := blk_cell (j := 0) H9.out rfl
      have y1 : W2.cell? ⟨bn, 1, none⟩ = some (.slice A1 nb k1) := blk_cell (j := 1) H9.out rfl
      have hws := HB.out.size
      cases p
      · have z0 : W2.cell? ⟨mb, k * 3, none⟩ = some (.int .u64 (inn : Int)) := by
          have := blk_cell HM.out HMI.out.1
          rwa [Nat.zero_add, Nat.mul_comm 3 k] at this
        go_wp2_with fail
        have KA := ahead_walk w.heap.size _ _ _ ls inn W2.drew HO.out.drew hws (by omega) (by unfold B; omega)
        rw [HMD.out] at KA
        go_region_with (go_at_call 40; refine KA.mono ?_; rintro e w' ⟨⟨v', rfl, o2⟩, k2⟩)
        all_goals
          simp only [Act.put, List.setIfInBounds_toArray]
          have b3 := (HB.out.drew).trans k2.below
          have m3 := k2.other _ _ _ _ rfl HM.out
          have h3 := k2.other _ _ _ _ rfl H9.out
          have s3 := HS.out.below b3
          have y3 : w'.cell? ⟨bn, 1, none⟩ = some (.slice A1 nb k1) := blk_cell (j := 1) h3 rfl
          have hs3 := b3.size
          have hl9 := hz_le (n := inn) (by unfold B; omega)
          have O3 := Lib.hid o2
          have B3 := Lib.hid b3
          have M3 := Lib.hid m3
          have S3 := Lib.hid s3
          clear o2 b3 m3 h3 s3 k2 KA z0 y0 y1
          go_wp2_with (at_builtin; refine append_sl rfl _ _ rfl w.heap.size _ _ _ rfl O3.out A1 nb k1 _ rfl HG.out S3.out (by omega) hs3 ?_)
          intro v4 w4 o4 g4
          have b4 := B3.out.grown g4 hs3 (fun b hb' => (O3.out.lt b hb').1)
          have m4 := (Keeps.refl w.heap.size U8 w').grown g4 O3.out rfl hs3
          have m5 := m4.other _ _ _ _ rfl M3.out
          have HB4 := Lib.hid b4
          have HM4 := Lib.hid m5
          have HO4 := Lib.hid o4
          clear o4 g4 b4 m4 m5 y3
          go_wp2_with fail
          refine ⟨⟨k + 1, by omega, by go_num, HB4.out, HM4.out, ?_⟩, by simp [intOf]; omega⟩
          have ho := HO4.out
          have e1 := HST.out
          simp only [Bool.false_eq_true, if_false] at e1
          rw [e1]
          have e2 : lb8 x.by' = bb f nb := by rw [lb8_bb, HE.out.1, HE.out.2]
          simp only [lb8_app, e2, List.length_append, hea_hz, HE.out.1, ← Nat.add_assoc]
          simpa only [List.append_assoc] using ho
      · have s3 := HS.out.below HB.out
        have S3 := Lib.hid s3
        clear s3 y0
        go_wp2_with (at_builtin; refine append_sl rfl _ _ rfl w.heap.size _ _ _ rfl HO.out A1 nb k1 _ rfl HG.out S3.out (by omega) hws ?_)
        intro v4 w4 o4 g4
        have b4 := HB.out.grown g4 hws (fun b hb' => (HO.out.lt b hb').1)
        have m4 := (Keeps.refl w.heap.size U8 W2).grown g4 HO.out rfl hws
        have m5 := m4.other _ _ _ _ rfl HM.out
        have HB4 := Lib.hid b4
        have HM4 := Lib.hid m5
        have HO4 := Lib.hid o4
        clear o4 g4 b4 m4 m5 y1
        go_wp2_with fail
        refine ⟨⟨k + 1, by omega, by go_num, HB4.out, HM4.out, ?_⟩, by simp [intOf]; omega⟩
        have ho := HO4.out
        have e1 := HST.out
        simp only [if_true, List.nil_append] at e1
        rw [e1]
        have e2 : lb8 x.by' = bb f nb := by rw [lb8_bb, HE.out.1, HE.out.2]
        simp only [lb8_app, e2, List.length_append, HE.out.1]
        exact ho
    · obtain rfl : k = n := by omega
      have HB := Lib.hid hbw
      have HO := Lib.hid hown
      clear hbw hmh hown
      go_wp2_with fail
      go_ret2
      have he : wri F k = wrs F := by rw [← HA.out.len, ← HX.out, wri_end]
      have ho := HO.out
      rw [he] at ho
      exact ⟨⟨_, rfl, ho⟩, HB.out⟩
end Go.Proofs.YtmcbaolecmkpdaaDoor
/- What Encode of package rlp does: a row that is one item, of a right depth or too deep, and one that isn't. -/
namespace Go.Proofs.YtmcbaolecmkpdaaDoor
open Go.RowKit SmWord
set_option maxRecDepth 100000

set_option maxHeartbeats 1000000 in
theorem enc_deep (n c df : Nat) (hdf : 64 < df) (b off : Nat) (w : World) 
    (KM : Hid (Calls Tryd.prog 38 #[.slice (some ⟨b, off, none⟩) n c] w fun e w' => (∃ mb cs, e = .returned (.tuple #[.slice (some ⟨mb, 0, none⟩) n n, .bool true]) ∧ w'.heap[mb]? = some (.cells cs 68) ∧ cs[2]? = some (.int .i64 (df : Int))) ∧ Below w.heap.size w w')) (hn : 0 < n) :
    Calls Tryd.prog 27 #[.slice (some ⟨b, off, none⟩) n c] w fun e w' => e = .returned (.tuple #[.slice none 0 0, .int .i64 4]) ∧ Below w.heap.size w w' := by
  go_enter Tryd.func27, Tryd.ntmps27
  go_wp2_with fail
  refine KM.out.mono ?_
  rintro e w1 ⟨⟨mb, cs, rfl, hmh, hms⟩, b1⟩
  have c2 : w1.cell? ⟨mb, 2, none⟩ = some (.int .i64 (df : Int)) := blk_cell hmh hms
  have hq1 : decide ((64 : Int) < (df : Int)) = true := decide_eq_true (by omega)
  have HB := Lib.hid b1
  clear hms hmh b1
  go_wp2_with fail
  go_ret2
  exact ⟨rfl, HB.out⟩
theorem enc_no (A : Option Addr) (n c : Nat) (w : World)
    (KM : Hid (Calls Tryd.prog 38 #[.slice A n c] w fun e w' => e = .returned (.tuple #[.slice none 0 0, .bool false]) ∧ Below w.heap.size w w')) :
    Calls Tryd.prog 27 #[.slice A n c] w fun e w' => e = .returned (.tuple #[.slice none 0 0, .int .i64 2]) ∧ Below w.heap.size w w' := by
  go_enter Tryd.func27, Tryd.ntmps27
  go_wp2_with fail
  refine KM.out.mono ?_
  rintro e w1 ⟨rfl, b1⟩
  have HB := Lib.hid b1
  clear b1
  go_wp2_with fail
  go_ret2
  exact ⟨rfl, HB.out⟩
theorem one_pos {F : Fo} (h : One F) : 0 < (rows F).length := by
  cases F with
  | no => cases h
  | st b nx => simp [rows]
  | li k nx => simp [rows]
theorem one_head {F : Fo} (h : One F) : ∃ x0, (rows F)[0]? = some x0 ∧ x0.sz = ((rows F).length : Int) - 1 := by
  cases F with
  | no => cases h
  | st b nx => cases (h : nx = .no); exact ⟨_, rfl, by simp [rows]⟩
  | li k nx => cases (h : nx = .no); exact ⟨_, rfl, by simp [rows]⟩
theorem Arg.at {w : World} {A : Option Addr} {n c : Nat} {X : List Nd} (h : Arg w A n c X) (hn : 0 < n) : ∃ b off, A = some ⟨b, off, none⟩ ∧ b < w.heap.size ∧ ∀ i x, X[i]? = some x → NodeAt w b (off + 3 * i) x := by
  obtain ⟨b, off, e, hb, hc⟩ := h.cells.cells (by rw [h.len]; exact hn)
  exact ⟨b, off, e, hb, hc⟩
theorem Arg.below {w w' : World} {A : Option Addr} {n c : Nat} {X : List Nd} (h : Arg w A n c X) (hb : Below w.heap.size w w') : Arg w' A n c X := ⟨h.len, h.cap, h.nil, h.cells.below hb, h.small⟩
theorem encode_ok {F : Fo} (hone : One F) {X : List Nd} (hX : rows F = X) (hd : dps F ≤ 64) (hwt : wt X ≤ 1000000) {A : Option Addr} {n c : Nat} {w : World} (ha : Arg w A n c X) :
    Calls Tryd.prog 27 #[.slice A n c] w fun e w' => (∃ v, e = .returned (.tuple #[v, .int .i64 0]) ∧ w'.ownsRow w.heap.size 5 1 v (wrs F).length (lb8 (wrs F))) ∧ Below w.heap.size w w' := by
  have hn : 0 < n := by have := one_pos hone; rw [hX, ha.len] at this; exact this
  obtain ⟨b, off, rfl, hb, hc⟩ := ha.at hn
  obtain ⟨x0, h0, hs⟩ := one_head hone
  rw [hX, ha.len] at hs
  rw [hX] at h0
  refine enc_walk F hone X hX n c hwt hd b off w ha (Lib.hid ((measures_core X n ha.len hwt b off c ha.cap w hb hc (fun i x hx => (ha.small i x hx).2) x0 h0 hs).mono fun e w' h => ?_))
  obtain ⟨mb, cs, h1, h2, h3, h4⟩ := h.1.1 ⟨F, hX⟩
  exact ⟨⟨mb, cs, h1, h2, h3, h4 F hX⟩, h.2⟩
theorem encode_deep {F : Fo} (hone : One F) {X : List Nd} (hX : rows F = X) (hd : ¬ dps F ≤ 64) (hwt : wt X ≤ 1000000) {A : Option Addr} {n c : Nat} {w : World} (ha : Arg w A n c X) :
    Calls Tryd.prog 27 #[.slice A n c] w fun e w' => e = .returned (.tuple #[.slice none 0 0, .int .i64 4]) ∧ Below w.heap.size w w' := by
  have hn : 0 < n := by have := one_pos hone; rw [hX, ha.len] at this; exact this
  obtain ⟨b, off, rfl, hb, hc⟩ := ha.at hn
  obtain ⟨x0, h0, hs⟩ := one_head hone
  rw [hX, ha.len] at hs
  rw [hX] at h0
  refine enc_deep n c (dps F) (by omega) b off w (Lib.hid ((measures_core X n ha.len hwt b off c ha.cap w hb hc (fun i x hx => (ha.small i x hx).2) x0 h0 hs).mono fun e w' h => ?_)) hn
  obtain ⟨mb, cs, h1, h2, h3, h4⟩ := h.1.1 ⟨F, hX⟩
  obtain ⟨m0, hm0, _, hm2⟩ := one_meas hone
  have := (h4 F hX 0 m0 hm0).2.2
  rw [hm2] at this
  exact ⟨⟨mb, cs, h1, h3, this⟩, h.2⟩
theorem encode_no {X : List Nd} (hX : ¬ ∃ F, One F ∧ rows F = X) (hwt : wt X ≤ 1000000) {A : Option Addr} {n c : Nat} {w : World} (ha : Arg w A n c X) :
    Calls Tryd.prog 27 #[.slice A n c] w fun e w' => e = .returned (.tuple #[.slice none 0 0, .int .i64 2]) ∧ Below w.heap.size w w' := by
  have hn6 : n ≤ 1000000 := by have := wt_len X; have := ha.len; omega
  refine enc_no A n c w (Lib.hid ?_)
  by_cases hb : n = 0 ∨ ∃ x0, X[0]? = some x0 ∧ x0.sz ≠ (n : Int) - 1
  · exact (measures_bad X A n c ha.len w hn6 ha.cells hb).mono fun e w' h => ⟨h.1, by rw [h.2]; exact Below.refl _ _⟩
  · have hn : 0 < n := by
      apply Classical.byContradiction
      intro h
      exact hb (.inl (by omega))
    obtain ⟨x0, h0⟩ : ∃ x0, X[0]? = some x0 := ⟨_, List.getElem?_eq_getElem (by rw [ha.len]; exact hn)⟩
    have hs : x0.sz = (n : Int) - 1 := by
      apply Classical.byContradiction
      intro h
      exact hb (.inr ⟨x0, h0, h⟩)
    have hF : ¬ IsF X := fun hF => hX (by
      cases X with
      | nil => cases h0
      | cons x Y =>
        simp only [List.getElem?_cons_zero, Option.some.injEq] at h0
        subst h0
        exact (one_iff x Y).2 ⟨by have := ha.len; simp at this; omega, hF⟩)
    obtain ⟨b, off, rfl, hbl, hc⟩ := ha.at hn
    exact (measures_core X n ha.len hwt b off c ha.cap w hbl hc (fun i x hx => (ha.small i x hx).2) x0 h0 hs).mono fun e w' h => ⟨h.1.2 hF, h.2⟩
end Go.Proofs.YtmcbaolecmkpdaaDoor
/- Bytes as strings; the chapter's examples. -/
namespace Go.Proofs.YtmcbaolecmkpdaaDoor
open Go.RowKit SmWord
set_option maxRecDepth 100000

def strL (l : List Nat) : ByteArray := str (l.map UInt8.ofNat)
theorem strL_inj {l m : List Nat} (hl : ∀ x ∈ l, x < 256) (hm : ∀ x ∈ m, x < 256) : strL l = strL m ↔ l = m := by
  constructor
  · intro h
    have h1 : l.map UInt8.ofNat = m.map UInt8.ofNat := by
      have := congrArg (fun b : ByteArray => b.data.toList) h
      simpa [strL, str] using this
    have h2 : ∀ k : List Nat, (∀ x ∈ k, x < 256) → (k.map UInt8.ofNat).map UInt8.toNat = k := fun k hk => by
      rw [List.map_map]
      conv => rhs; rw [← List.map_id k]
      refine List.map_congr_left fun x hx => ?_
      have := hk x hx
      simp
      omega
    rw [← h2 l hl, h1, h2 m hm]
  · rintro rfl; rfl
theorem bs_list (l : List Nat) : bs (fun i => l.getD i 0) l.length = l.map UInt8.ofNat := by
  have := bf_list l
  unfold bf at this
  unfold bs
  conv => rhs; rw [← this]
  rw [List.map_map]
  refine List.map_congr_left fun i _ => ?_
  simp
theorem conv_bytes {w : World} {A : Option Addr} {c : Nat} {l : List Nat} (h : Sl w A l.length (fun i => l.getD i 0)) : (convert 33 9 (.slice A l.length c)).run Tryd.prog w = .ok (.string (strL l)) w := by
  have := conv_sl (c := c) h
  rwa [bs_list] at this
theorem own_bytes {w : World} {base : Nat} {v : Value} {l : List Nat} (h : w.ownsRow base 5 1 v l.length (lb8 l)) (hl : ∀ x ∈ l, x < 256) : ∃ A c, v = .slice A l.length c ∧ l.length ≤ c ∧ (A = none → l.length = 0 ∧ c = 0) ∧ Sl w A l.length (fun i => l.getD i 0) := by
  rw [lb8_bb] at h
  refine own_sl h fun i hi => ?_
  rw [List.getD, List.getElem?_eq_getElem hi]
  exact hl _ (List.getElem_mem hi)
theorem conv_own {w : World} {base : Nat} {v : Value} {l : List Nat} (h : w.ownsRow base 5 1 v l.length (lb8 l)) (hl : ∀ x ∈ l, x < 256) : (convert 33 9 v).run Tryd.prog w = .ok (.string (strL l)) w := by
  obtain ⟨A, c, rfl, _, _, hs⟩ := own_bytes h hl
  exact conv_bytes hs
theorem hea_lt {n m : Nat} (hm : m = 0 ∨ m = 64) (hn : n ≤ 1048576) : ∀ x ∈ hea n m, x < 256 := by
  have := nbl_le8 hn
  unfold hea
  split
  · intro x hx
    simp only [List.mem_singleton] at hx
    omega
  · intro x hx
    simp only [List.mem_cons] at hx
    rcases hx with rfl | hx
    · omega
    · exact bdig_lt _ _ _ hx
theorem wrs_lt : ∀ F, wt (rows F) ≤ 1000000 → (∀ x ∈ rows F, ∀ y ∈ x.by', y < 256) → ∀ y ∈ wrs F, y < 256
  | .no, _, _ => by simp [wrs]
  | .st b nx, hw, h => by
    rw [rows, wt_cons] at hw
    have ih := wrs_lt nx (by omega) fun x hx => h x (by simp [rows, hx])
    have hb : ∀ y ∈ b, y < 256 := h ⟨false, b, 0⟩ (by simp [rows])
    intro y hy
    rw [wrs, List.mem_append] at hy
    rcases hy with hy | hy
    · unfold ws at hy
      split at hy
      · exact hb y hy
      · rw [List.mem_append] at hy
        rcases hy with hy | hy
        · exact hea_lt (.inl rfl) (by simp only at hw; omega) y hy
        · exact hb y hy
    · exact ih y hy
  | .li k nx, hw, h => by
    rw [rows, wt_cons, wt_app] at hw
    have ih := wrs_lt nx (by omega) fun x hx => h x (by simp [rows, hx])
    have ihk := wrs_lt k (by omega) fun x hx => h x (by simp [rows, hx])
    have hl := wrs_le k (by omega)
    intro y hy
    rw [wrs, List.mem_append, List.mem_append] at hy
    rcases hy with (hy | hy) | hy
    · exact hea_lt (.inr rfl) (by omega) y hy
    · exact ihk y hy
    · exact ih y hy
/-- A row of nodes that the call has laid. -/
theorem nodes_of {w : World} {b : Nat} {cs : Array Value} {t : TypeId} {fr : Nat × Nat} {X : List Nd} (hb : w.heap[b]? = some (.cells cs t fr))
    (h : ∀ (i : Nat) (x : Nd), X[i]? = some x → cs[3 * i]? = some (.bool x.ls) ∧ (∃ A c, cs[3 * i + 1]? = some (.slice A x.by'.length c) ∧ x.by'.length ≤ c ∧ x.by'.length ≤ maxLen ∧ (A = none → x.by'.length = 0 ∧ c = 0) ∧ Sl w A x.by'.length (fun i => x.by'.getD i 0)) ∧ cs[3 * i + 2]? = some (.int .i64 x.sz)) :
    NodesS w (some ⟨b, 0, none⟩) X := ⟨fun _ => ⟨b, 0, rfl, (Array.getElem?_eq_some_iff.1 hb).1, fun i x hx => by
  obtain ⟨h1, ⟨A, c, h2, h3⟩, h4⟩ := h i x hx
  rw [Nat.zero_add]
  exact ⟨by rw [cell_of_row w b _ cs t fr hb]; exact h1, ⟨A, c, by rw [cell_of_row w b _ cs t fr hb]; exact h2, h3⟩, by rw [cell_of_row w b _ cs t fr hb]; exact h4⟩⟩⟩
theorem sl_const {w : World} {b n : Nat} {cs : Array Value} {fr : Nat × Nat} {l : List Nat} (hb : w.heap[b]? = some (.cells cs 5 fr)) (_ : l.length = n) (h : ∀ i, i < n → l.getD i 0 < 256 ∧ cs[i]? = some (.int .u8 ((l.getD i 0 : Nat) : Int))) : Sl w (some ⟨b, 0, none⟩) n (fun i => l.getD i 0) :=
  ⟨fun i hi => (h i hi).1, fun _ => ⟨b, 0, rfl, (Array.getElem?_eq_some_iff.1 hb).1, fun i hi => by rw [Nat.zero_add, cell_of_row w b i cs _ fr hb]; exact (h i hi).2⟩⟩
def dogF : Fo := .st [100, 111, 103] .no
def catF : Fo := .li (.st [99, 97, 116] (.st [100, 111, 103] .no)) .no
def nilF : Fo := .li .no .no
theorem dog_arg (w : World) (b c : Nat) {t : TypeId} {fr fr' : Nat × Nat} (h1 : w.heap[b]? = some (.cells #[.int .u8 100, .int .u8 111, .int .u8 103] 5 fr)) (h2 : w.heap[c]? = some (.cells #[.bool false, .slice (some ⟨b, 0, none⟩) 3 3, .int .i64 0] t fr')) : Arg w (some ⟨c, 0, none⟩) 1 1 (rows dogF) := by
  have hs := sl_const (l := [100, 111, 103]) h1 rfl (fun i hi => match i, hi with | 0, _ => ⟨by decide, rfl⟩ | 1, _ => ⟨by decide, rfl⟩ | 2, _ => ⟨by decide, rfl⟩)
  refine ⟨rfl, Nat.le_refl _, (fun h => by cases h), nodes_of h2 fun i x hx => ?_, fun i x hx => ?_⟩
  · match i, hx with
    | 0, hx =>
      cases hx
      exact ⟨rfl, ⟨_, _, rfl, Nat.le_refl _, by decide, (fun h => by cases h), hs⟩, rfl⟩
  · match i, hx with
    | 0, hx =>
      cases hx
      exact ⟨by decide, by decide, by decide⟩
theorem nil_arg (w : World) (c : Nat) {t : TypeId} {fr' : Nat × Nat} (h2 : w.heap[c]? = some (.cells #[.bool true, .slice none 0 0, .int .i64 0] t fr')) : Arg w (some ⟨c, 0, none⟩) 1 1 (rows nilF) := by
  refine ⟨rfl, Nat.le_refl _, (fun h => by cases h), nodes_of h2 fun i x hx => ?_, fun i x hx => ?_⟩
  · match i, hx with
    | 0, hx =>
      cases hx
      exact ⟨rfl, ⟨_, _, rfl, Nat.le_refl _, by decide, fun _ => ⟨rfl, rfl⟩, ⟨(fun i hi => by cases hi), (fun h => by cases h)⟩⟩, rfl⟩
  · match i, hx with
    | 0, hx =>
      cases hx
      exact ⟨by decide, by decide, by decide⟩
theorem cat_arg (w : World) (b d c : Nat) {t : TypeId} {fr fr1 fr' : Nat × Nat} (h1 : w.heap[b]? = some (.cells #[.int .u8 99, .int .u8 97, .int .u8 116] 5 fr)) (h3 : w.heap[d]? = some (.cells #[.int .u8 100, .int .u8 111, .int .u8 103] 5 fr1))
    (h2 : w.heap[c]? = some (.cells #[.bool true, .slice none 0 0, .int .i64 2, .bool false, .slice (some ⟨b, 0, none⟩) 3 3, .int .i64 0, .bool false, .slice (some ⟨d, 0, none⟩) 3 3, .int .i64 0] t fr')) : Arg w (some ⟨c, 0, none⟩) 3 3 (rows catF) := by
  have hs := sl_const (l := [99, 97, 116]) h1 rfl (fun i hi => match i, hi with | 0, _ => ⟨by decide, rfl⟩ | 1, _ => ⟨by decide, rfl⟩ | 2, _ => ⟨by decide, rfl⟩)
  have hs2 := sl_const (l := [100, 111, 103]) h3 rfl (fun i hi => match i, hi with | 0, _ => ⟨by decide, rfl⟩ | 1, _ => ⟨by decide, rfl⟩ | 2, _ => ⟨by decide, rfl⟩)
  refine ⟨rfl, Nat.le_refl _, (fun h => by cases h), nodes_of h2 fun i x hx => ?_, fun i x hx => ?_⟩
  · match i, hx with
    | 0, hx =>
      cases hx
      exact ⟨rfl, ⟨_, _, rfl, Nat.le_refl _, by decide, fun _ => ⟨rfl, rfl⟩, ⟨(fun i hi => by cases hi), (fun h => by cases h)⟩⟩, rfl⟩
    | 1, hx =>
      cases hx
      exact ⟨rfl, ⟨_, _, rfl, Nat.le_refl _, by decide, (fun h => by cases h), hs⟩, rfl⟩
    | 2, hx =>
      cases hx
      exact ⟨rfl, ⟨_, _, rfl, Nat.le_refl _, by decide, (fun h => by cases h), hs2⟩, rfl⟩
  · match i, hx with
    | 0, hx => cases hx; exact ⟨by decide, by decide, by decide⟩
    | 1, hx => cases hx; exact ⟨by decide, by decide, by decide⟩
    | 2, hx => cases hx; exact ⟨by decide, by decide, by decide⟩
end Go.Proofs.YtmcbaolecmkpdaaDoor
