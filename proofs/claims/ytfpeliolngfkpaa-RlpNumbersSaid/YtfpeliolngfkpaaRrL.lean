/- What Encode of package rlp does: the walk. -/
import Derived.Test.YtfpeliolngfkpaaRrK
namespace Go.Proofs.Ytfpeliolngfkpaa
open Go.RowKit SmWord
set_option maxRecDepth 100000

theorem one_meas {F : Fo} (h : One F) : ∃ m, (meas F)[0]? = some m ∧ m.who = (wrs F).length ∧ m.dep = dps F := by
  cases F with
  | no => cases h
  | st b nx => cases (h : nx = .no); exact ⟨_, rfl, by simp [wrs], by simp [dps]⟩
  | li k nx => cases (h : nx = .no); exact ⟨_, rfl, by simp [wrs, hea_hz], by simp [dps]⟩
/-- A row of nodes that is handed in. -/
structure Arg (w : World) (A : Option Addr) (n c : Nat) (X : List Nd) : Prop where
  len : X.length = n
  cap : n ≤ c
  nil : A = none → n = 0 ∧ c = 0
  cells : NodesS w A X
  small : ∀ (i : Nat) (x : Nd), X[i]? = some x → (∀ y ∈ x.by', y < 256) ∧ -9223372036854775808 ≤ x.sz ∧ x.sz ≤ 9223372036854775807
set_option maxHeartbeats 4000000 in
theorem enc_walk (F : Fo) (hone : One F) (X : List Nd) (hX : rows F = X) (n c : Nat) (hwt : wt X ≤ 1000000) (hd : dps F ≤ 64) (b off : Nat) (w : World) (ha : Arg w (some ⟨b, off, none⟩) n c X)
    (KM : Hid (Calls Try.prog 16 #[.slice (some ⟨b, off, none⟩) n c] w fun e w' => (∃ mb cs, e = .returned (.tuple #[.slice (some ⟨mb, 0, none⟩) n n, .bool true]) ∧ w.heap.size ≤ mb ∧ w'.heap[mb]? = some (.cells cs 49) ∧ MsIn cs 0 (meas F)) ∧ Below w.heap.size w w')) :
    Calls Try.prog 9 #[.slice (some ⟨b, off, none⟩) n c] w fun e w' => (∃ v, e = .returned (.tuple #[v, .int .i64 0]) ∧ w'.ownsRow w.heap.size 5 1 v (wrs F).length (lb8 (wrs F))) ∧ Below w.heap.size w w' := by
  have hn6 : n ≤ 1000000 := by have := wt_len X; have := ha.len; omega
  have hw6 : (wrs F).length ≤ 1000000 := by have := wrs_le F (by rw [hX]; exact hwt); rw [hX] at this; omega
  obtain ⟨m0, hm0, hm1, hm2⟩ := one_meas hone
  have hn0 : 0 < n := by
    have h1 := (List.getElem?_eq_some_iff.1 hm0).1
    rw [meas_length, hX, ha.len] at h1
    exact h1
  obtain ⟨wl, hwl⟩ : ∃ wl, (wrs F).length = wl := ⟨_, rfl⟩
  obtain ⟨df, hdf⟩ : ∃ df, dps F = df := ⟨_, rfl⟩
  rw [hwl] at hm1 hw6
  rw [hdf] at hm2 hd
  have HX := Lib.hid hX
  have HA := Lib.hid ha
  have HWT := Lib.hid hwt
  have HW := Lib.hid (And.intro hwl hdf)
  have hb : b < w.heap.size := by
    obtain ⟨b', o', e, h, _⟩ := ha.cells.cells (by rw [ha.len]; exact hn0)
    cases e
    exact h
  have hN : ∀ i x, X[i]? = some x → NodeAt w b (off + 3 * i) x := by
    obtain ⟨b', o', e, _, h⟩ := ha.cells.cells (by rw [ha.len]; exact hn0)
    cases e
    exact h
  have HN := Lib.hid hN
  clear hX ha hwt hwl hdf hone hN
  go_enter Try.func9, Try.ntmps9
  go_wp2_with fail
  refine KM.out.mono ?_
  rintro e w1 ⟨⟨mb, cs, rfl, hmb, hmh, hms⟩, b1⟩
  have q0 := hms 0 m0 hm0
  rw [hm1, hm2] at q0
  have c1 : w1.cell? ⟨mb, 1, none⟩ = some (.int .u64 (wl : Int)) := blk_cell hmh q0.2.1
  have c2 : w1.cell? ⟨mb, 2, none⟩ = some (.int .i64 (df : Int)) := blk_cell hmh q0.2.2
  obtain ⟨bc, hbc, hmk⟩ := make_b8 wl hw6 w1
  have HMS := Lib.hid hms
  have o0 : (w1.alloc (.cells bc 5)).ownsRow w.heap.size 5 1 (.slice (some ⟨w1.heap.size, 0, none⟩) 0 wl) 0 (lb8 (wri F 0)) := World.ownsRow_made w1 bc wl b1.size (by unfold maxLen; omega) (by rw [hbc]; omega)
  have bW : Below w.heap.size w (w1.alloc (.cells bc 5)) := b1.alloc b1.size _
  have m1 : (w1.alloc (.cells bc 5)).heap[mb]? = some (.cells cs 49) := blk_alloc hmh
  have BW := Lib.hid bW
  have M1 := Lib.hid m1
  have O0 := Lib.hid o0
  have hq1 : decide ((64 : Int) < (df : Int)) = false := decide_eq_false (by omega)
  have hq2 : decide ((1048576 : Int) < (wl : Int)) = false := decide_eq_false (by omega)
  clear q0 hms bW m1 o0 hmh b1 hm0 hm1 hm2
  go_wp2_with fail
  clear c1 c2 hmk
  generalize hgB : w1.heap.size = rb at *
  generalize (w1.alloc (.cells bc 5)) = W at *
  go_loopw [6, 35] (fun v i wr => ∃ k : Nat, k ≤ n ∧ i = .int .i64 (k : Int) ∧ Below w.heap.size w wr ∧ wr.heap[mb]? = some (.cells cs 49) ∧ wr.ownsRow w.heap.size 5 1 v (wri F k).length (lb8 (wri F k))) (fun _ i _ => n - (intOf i).toNat)
  case atStart => exact ⟨0, by omega, rfl, BW.out, M1.out, O0.out⟩
  case round =>
    clear BW M1 O0 hgB
    obtain ⟨k, hk, rfl, hbw, hmh, hown⟩ := hrel
    by_cases hlt : k < n
    · obtain ⟨x, hx⟩ : ∃ x, X[k]? = some x := ⟨_, List.getElem?_eq_getElem (by rw [HA.out.len]; exact hlt)⟩
      obtain ⟨m, hm, hpc⟩ := pcs_get (F := F) (i := k) (x := x) (by rw [HX.out]; exact hx)
      have hst := wri_step hpc
      have hinn := meas_inn F k x m (by rw [HX.out]; exact hx) hm
      have hin6 : m.inn ≤ 2000000 := by have := HWT.out; have := HW.out.1; rw [HX.out] at hinn; omega
      have hmi := HMS.out k m hm
      have hwk := wri_le F k
      rw [HW.out.1] at hwk
      obtain ⟨d1, ⟨A1, k1, d2, g1, g2, g3, g4⟩, d3⟩ := HN.out k x hx
      replace d1 := (hbw.cell (p := ⟨b, off + 3 * k, none⟩) hb).trans d1
      replace d2 := (hbw.cell (p := ⟨b, off + 3 * k + 1, none⟩) hb).trans d2
      replace d3 := (hbw.cell (p := ⟨b, off + 3 * k + 2, none⟩) hb).trans d3
      rw [Nat.mul_comm 3 k] at d1 d2 d3
      have hxw : x.by'.length ≤ 1000000 := by
        have h1 := HWT.out
        obtain ⟨hlt, e⟩ := List.getElem?_eq_some_iff.1 hx
        have h2 := wt_drop X k
        rw [List.drop_eq_getElem_cons hlt, e, wt_cons] at h2
        omega
      obtain ⟨ls, hls⟩ : ∃ ls, x.ls = ls := ⟨_, rfl⟩
      obtain ⟨nb, hnb⟩ : ∃ nb, x.by'.length = nb := ⟨_, rfl⟩
      obtain ⟨sz, hsz⟩ : ∃ sz, x.sz = sz := ⟨_, rfl⟩
      obtain ⟨inn, hinn2⟩ : ∃ inn, m.inn = inn := ⟨_, rfl⟩
      obtain ⟨f, hf⟩ : ∃ f : Nat → Nat, (fun i => x.by'.getD i 0) = f := ⟨_, rfl⟩
      obtain ⟨md, hmd⟩ : ∃ md : Nat, (if ls then 64 else 0) = md := ⟨_, rfl⟩
      obtain ⟨p, hp⟩ : ∃ p, decide (nb = 1 ∧ f 0 < 128) = p := ⟨_, rfl⟩
      have hpcv : pc x m = (if p then [] else hea inn md) ++ x.by' := by
        rw [pc, hls, hnb, hinn2, ← hp, hmd, ← hf]
        simp
      rw [hls] at d1
      rw [hnb] at d2 g1 g2 g3 g4 hxw
      rw [hf] at g4
      rw [hsz] at d3
      rw [hinn2] at hmi hin6
      have W1b : Below wr.heap.size wr (wr.alloc (.cells #[.bool ls, .slice A1 nb k1, .int .i64 sz] 43)) := (Below.refl _ _).alloc (Nat.le_refl _) _
      have o1 := own_below hown W1b
      have m1 := stay W1b hmh
      have b1 := hbw.trans (W1b.mono hbw.size)
      have s1 := g4.below b1
      have KB := Lib.hid (bare_walk A1 nb k1 f (wr.alloc (.cells #[.bool ls, .slice A1 nb k1, .int .i64 sz] 43)) g2 s1)
      simp only [hp] at KB
      have h9 : (wr.alloc (.cells #[.bool ls, .slice A1 nb k1, .int .i64 sz] 43)).heap[wr.heap.size]? = some (.cells #[.bool ls, .slice A1 nb k1, .int .i64 sz] 43) := heap_alloc_new _ _
      have H9 := Lib.hid h9
      have HO := Lib.hid o1
      have HM := Lib.hid m1
      have HS := Lib.hid g4
      have HB := Lib.hid b1
      have HG := Lib.hid g3
      have HST := Lib.hid (hst.trans (congrArg (wri F k ++ ·) hpcv))
      have HE := Lib.hid (And.intro hnb hf)
      have HMD := Lib.hid hmd
      have HMI := Lib.hid hmi
      clear hbw hmh hown hx hm hpc hst hinn hmi g4 g3 o1 m1 s1 b1 W1b h9 hls hnb hsz hinn2 hp hpcv hf hmd
      go_wp2_with fail
      refine KB.out.mono ?_
      rintro e w2 ⟨rfl, rfl⟩
      clear d1 d2 d3
      generalize hrb2 : wr.heap.size = bn at *
      generalize (wr.alloc (.cells #[.bool ls, .slice A1 nb k1, .int .i64 sz] 43)) = W2 at *
      clear KB
      have y0 : W2.cell? ⟨bn, 0, none⟩ = some (.bool ls) := blk_cell (j := 0) H9.out rfl
      have y1 : W2.cell? ⟨bn, 1, none⟩ = some (.slice A1 nb k1) := blk_cell (j := 1) H9.out rfl
      have hws := HB.out.size
      cases p
      · have z0 : W2.cell? ⟨mb, k * 3, none⟩ = some (.int .u64 (inn : Int)) := by
          have := blk_cell HM.out HMI.out.1
          rwa [Nat.zero_add, Nat.mul_comm 3 k] at this
        go_wp2_with fail
        have KA := ahead_walk w.heap.size _ _ _ ls inn W2.drew HO.out.drew hws (by omega) (by unfold B; omega)
        rw [HMD.out] at KA
        go_region_with (go_at_call 18; refine KA.mono ?_; rintro e w' ⟨⟨v', rfl, o2⟩, k2⟩)
        all_goals
          simp only [Act.put, List.setIfInBounds_toArray]
          have b3 := (HB.out.drew).trans k2.below
          have m3 := k2.other _ _ _ _ rfl HM.out
          have h3 := k2.other _ _ _ _ rfl H9.out
          have s3 := HS.out.below b3
          have y3 : w'.cell? ⟨bn, 1, none⟩ = some (.slice A1 nb k1) := blk_cell (j := 1) h3 rfl
          have hs3 := b3.size
          have hl9 := hz_le (n := inn) (by unfold B; omega)
          have O3 := Lib.hid o2
          have B3 := Lib.hid b3
          have M3 := Lib.hid m3
          have S3 := Lib.hid s3
          clear o2 b3 m3 h3 s3 k2 KA z0 y0 y1
          go_wp2_with (at_builtin; refine append_sl rfl _ _ rfl w.heap.size _ _ _ rfl O3.out A1 nb k1 _ rfl HG.out S3.out (by omega) hs3 ?_)
          intro v4 w4 o4 g4
          have b4 := B3.out.grown g4 hs3 (fun b hb' => (O3.out.lt b hb').1)
          have m4 := (Keeps.refl w.heap.size U8 w').grown g4 O3.out rfl hs3
          have m5 := m4.other _ _ _ _ rfl M3.out
          have HB4 := Lib.hid b4
          have HM4 := Lib.hid m5
          have HO4 := Lib.hid o4
          clear o4 g4 b4 m4 m5 y3
          go_wp2_with fail
          refine ⟨⟨k + 1, by omega, by go_num, HB4.out, HM4.out, ?_⟩, by simp [intOf]; omega⟩
          have ho := HO4.out
          have e1 := HST.out
          simp only [Bool.false_eq_true, if_false] at e1
          rw [e1]
          have e2 : lb8 x.by' = bb f nb := by rw [lb8_bb, HE.out.1, HE.out.2]
          simp only [lb8_app, e2, List.length_append, hea_hz, HE.out.1, ← Nat.add_assoc]
          simpa only [List.append_assoc] using ho
      · have s3 := HS.out.below HB.out
        have S3 := Lib.hid s3
        clear s3 y0
        go_wp2_with (at_builtin; refine append_sl rfl _ _ rfl w.heap.size _ _ _ rfl HO.out A1 nb k1 _ rfl HG.out S3.out (by omega) hws ?_)
        intro v4 w4 o4 g4
        have b4 := HB.out.grown g4 hws (fun b hb' => (HO.out.lt b hb').1)
        have m4 := (Keeps.refl w.heap.size U8 W2).grown g4 HO.out rfl hws
        have m5 := m4.other _ _ _ _ rfl HM.out
        have HB4 := Lib.hid b4
        have HM4 := Lib.hid m5
        have HO4 := Lib.hid o4
        clear o4 g4 b4 m4 m5 y1
        go_wp2_with fail
        refine ⟨⟨k + 1, by omega, by go_num, HB4.out, HM4.out, ?_⟩, by simp [intOf]; omega⟩
        have ho := HO4.out
        have e1 := HST.out
        simp only [if_true, List.nil_append] at e1
        rw [e1]
        have e2 : lb8 x.by' = bb f nb := by rw [lb8_bb, HE.out.1, HE.out.2]
        simp only [lb8_app, e2, List.length_append, HE.out.1]
        exact ho
    · obtain rfl : k = n := by omega
      have HB := Lib.hid hbw
      have HO := Lib.hid hown
      clear hbw hmh hown
      go_wp2_with fail
      go_ret2
      have he : wri F k = wrs F := by rw [← HA.out.len, ← HX.out, wri_end]
      have ho := HO.out
      rw [he] at ho
      exact ⟨⟨_, rfl, ho⟩, HB.out⟩
end Go.Proofs.Ytfpeliolngfkpaa
