/- What write of the document's layer 7 does: an item's writing. -/
import Derived.Test.YtfpeliolngfkpaaRle
import Derived.Deep.Onto
namespace Go.Proofs.Ytfpeliolngfkpaa
open Go.RowKit SmWord
set_option maxRecDepth 100000

theorem bbq (l : List Nat) : bb (fun i => l[i]?.getD 0) l.length = lb8 l := by
  rw [lb8_bb]
  rfl
set_option maxHeartbeats 2000000 in
theorem write_bare (b off n c p : Nat) (A1 : Option Addr) (k1 x0 : Nat) (hp : p < n) (hx : x0 < 128) (w : World) (f : Nat → Nat) (hf : f 0 = x0)
    (d1 : w.cell? ⟨b, off + p * 3, none⟩ = some (.bool false)) (d2 : w.cell? ⟨b, off + p * 3 + 1, none⟩ = some (.slice A1 1 k1)) (d3 : ∃ z, w.cell? ⟨b, off + p * 3 + 2, none⟩ = some (.int .i64 z)) (hs : Sl w A1 1 f) :
    Calls Try.prog 21 #[.slice (some ⟨b, off, none⟩) n c, .int .i64 (p : Int)] w fun e w' => (∃ v, e = .returned v ∧ w'.ownsRow w.heap.size 5 1 v 1 [.int .u8 (x0 : Int)]) ∧ Below w.heap.size w w' := by
  obtain ⟨z, d3⟩ := d3
  obtain ⟨b1, o1, rfl, hlt, hc⟩ := hs.cells (by decide)
  have c0 := hc 0 (by decide)
  rw [hf, Nat.add_zero] at c0
  have c1 := (((Below.refl _ _).alloc (Nat.le_refl _) (.cells #[.bool false, .slice (some ⟨b1, o1, none⟩) 1 k1, .int .i64 z] 43)).cell (p := ⟨b1, o1, none⟩) hlt).trans c0
  have HO := Lib.hid (own_new1 (w.alloc (.cells #[.bool false, .slice (some ⟨b1, o1, none⟩) 1 k1, .int .i64 z] 43)) (base := w.heap.size) (by simp) (x0 : Int))
  rw [show (w.alloc (.cells #[.bool false, .slice (some ⟨b1, o1, none⟩) 1 k1, .int .i64 z] 43)).heap.size = w.heap.size + 1 by simp] at HO
  clear hc hs hf
  go_enter Try.func21, Try.ntmps21
  go_wp2_with fail
  go_ret
  exact ⟨⟨_, rfl, HO.out⟩, ((Below.refl _ _).alloc (Nat.le_refl _) _).alloc (by simp) _⟩
set_option maxHeartbeats 2000000 in
theorem write_st (b off n c p : Nat) (A1 : Option Addr) (nb k1 : Nat) (hp : p < n) (hnb : nb ≤ 1000000) (w : World) (f : Nat → Nat) (hno : ¬ (nb = 1 ∧ f 0 < 128)) (hA : A1 = none → nb = 0 ∧ k1 = 0)
    (d1 : w.cell? ⟨b, off + p * 3, none⟩ = some (.bool false)) (d2 : w.cell? ⟨b, off + p * 3 + 1, none⟩ = some (.slice A1 nb k1)) (d3 : ∃ z, w.cell? ⟨b, off + p * 3 + 2, none⟩ = some (.int .i64 z)) (hs : Sl w A1 nb f) :
    Calls Try.prog 21 #[.slice (some ⟨b, off, none⟩) n c, .int .i64 (p : Int)] w fun e w' => (∃ v, e = .returned v ∧ w'.ownsRow w.heap.size 5 1 v (hz nb + nb) (lb8 (hea nb 0) ++ bb f nb)) ∧ Below w.heap.size w w' := by
  obtain ⟨z, d3⟩ := d3
  have hz9 := hz_le (n := nb) (by unfold B; omega)
  have HA := Lib.hid hA
  have HS := Lib.hid hs
  clear hA hs
  have W1b : Below w.heap.size w (w.alloc (.cells #[.bool false, .slice A1 nb k1, .int .i64 z] 43)) := (Below.refl _ _).alloc (Nat.le_refl _) _
  have h9 : (w.alloc (.cells #[.bool false, .slice A1 nb k1, .int .i64 z] 43)).heap[w.heap.size]? = some (.cells #[.bool false, .slice A1 nb k1, .int .i64 z] 43) := heap_alloc_new _ _
  have WB := Lib.hid W1b
  have H9 := Lib.hid h9
  have KH := Lib.hid fun w => rhead_walk nb 0 w (by omega) (.inl rfl)
  have key : ∀ (w1 : World) (v : Value), Below w.heap.size w w1 → w1.heap[w.heap.size]? = some (.cells #[.bool false, .slice A1 nb k1, .int .i64 z] 43) → w1.ownsRow w.heap.size 5 1 v (hz nb) (lb8 (hea nb 0)) → True := fun _ _ _ _ _ => trivial
  clear W1b h9 key
  have fin : (nb = 1 → ∃ x : Nat, x < 256 ∧ f 0 = x ∧ 128 ≤ x) := fun h1 => ⟨f 0, HS.out.small 0 (by omega), rfl, by
    apply Classical.byContradiction
    intro h
    exact hno ⟨h1, by omega⟩⟩
  by_cases h1 : nb = 1
  · subst h1
    obtain ⟨x0, hx1, hx2, hx3⟩ := fin rfl
    obtain ⟨b1, o1, rfl, hlt, hc⟩ := HS.out.cells (by decide)
    have c0 := hc 0 (by decide)
    rw [hx2, Nat.add_zero] at c0
    have c1 := (WB.out.cell (p := ⟨b1, o1, none⟩) hlt).trans c0
    have q1 : decide (((x0 : Nat) : Int) < 128) = false := decide_eq_false (by omega)
    have HF := Lib.hid hx2
    clear hc hx2 fin hno
    go_enter Try.func21, Try.ntmps21
    go_wp2_with fail
    refine (KH.out _).mono ?_
    rintro e w2 ⟨⟨v2, rfl, o2⟩, b2⟩
    have B2 := Lib.hid (WB.out.trans (b2.mono WB.out.size))
    have y1 : w2.cell? ⟨w.heap.size, 1, none⟩ = some (.slice (some ⟨b1, o1, none⟩) 1 k1) := blk_cell (j := 1) (stay b2 H9.out) rfl
    have S2 := Lib.hid (HS.out.below B2.out)
    have O2 := Lib.hid (o2.mono (base' := w.heap.size) WB.out.size)
    have hs2 := B2.out.size
    clear b2 o2 d1 d2 d3 c0 c1
    go_wp2_with (at_builtin; refine append_sl rfl _ _ rfl w.heap.size _ _ _ rfl O2.out _ 1 k1 f rfl HA.out S2.out (by omega) hs2 ?_)
    intro v4 w4 o4 g4
    have b4 := B2.out.grown g4 hs2 (fun b hb' => (O2.out.lt b hb').1)
    have B4 := Lib.hid b4
    have O4 := Lib.hid o4
    clear o4 g4 b4 y1
    go_wp2_with fail
    go_ret
    exact ⟨⟨_, rfl, O4.out⟩, B4.out⟩
  · have q1 : decide ((nb : Int) = 1) = false := decide_eq_false (by omega)
    clear fin hno
    go_enter Try.func21, Try.ntmps21
    go_wp2_with fail
    refine (KH.out _).mono ?_
    rintro e w2 ⟨⟨v2, rfl, o2⟩, b2⟩
    have B2 := Lib.hid (WB.out.trans (b2.mono WB.out.size))
    have y1 : w2.cell? ⟨w.heap.size, 1, none⟩ = some (.slice A1 nb k1) := blk_cell (j := 1) (stay b2 H9.out) rfl
    have S2 := Lib.hid (HS.out.below B2.out)
    have O2 := Lib.hid (o2.mono (base' := w.heap.size) WB.out.size)
    have hs2 := B2.out.size
    clear b2 o2 d1 d2 d3
    go_wp2_with (at_builtin; refine append_sl rfl _ _ rfl w.heap.size _ _ _ rfl O2.out _ nb k1 f rfl HA.out S2.out (by omega) hs2 ?_)
    intro v4 w4 o4 g4
    have b4 := B2.out.grown g4 hs2 (fun b hb' => (O2.out.lt b hb').1)
    have B4 := Lib.hid b4
    have O4 := Lib.hid o4
    clear o4 g4 b4 y1
    go_wp2_with fail
    go_ret
    exact ⟨⟨_, rfl, O4.out⟩, B4.out⟩
/-- How far a list's items are written. -/
structure Wri (X : List Nd) (K : Fo) (p1 j : Nat) (K1 K2 : Fo) : Prop where
  cut : K = app K1 K2
  len : (rows K1).length = j
theorem Wri.step {X : List Nd} {K K1 K2 : Fo} {p1 j s : Nat} {Z : List Nd} (hX : X.drop p1 = rows K ++ Z) (hs : (rows K).length = s) (h : Wri X K p1 j K1 K2) (hj : j < s) : ∃ F nx, Front (X.drop (p1 + j)) F ∧ Wri X K p1 (j + (rows F).length) (app K1 F) nx ∧ (wrs (app K1 F)) = wrs K1 ++ wrs F ∧ (rows F).length + j ≤ s := by
  have e : (rows K2).length = s - j := by
    have := congrArg (fun F => (rows F).length) h.cut
    simp only [rows_app, List.length_append, h.len] at this
    omega
  obtain ⟨y, Y, hy⟩ : ∃ y Y, rows K2 = y :: Y := by
    cases hr : rows K2 with
    | nil => rw [hr] at e; simp at e; omega
    | cons y Y => exact ⟨y, Y, rfl⟩
  obtain ⟨F, nx, m, e2, hone, _, hl, _⟩ := rows_cons hy
  refine ⟨F, nx, ⟨hone, rows nx ++ Z, ?_⟩, ⟨?_, ?_⟩, wrs_app _ _, ?_⟩
  · rw [← List.drop_drop, hX, h.cut, e2, rows_app, rows_app, List.append_assoc, List.drop_left' h.len, List.append_assoc]
  · rw [h.cut, e2, app_app]
  · rw [rows_app, List.length_append, h.len]
  · rw [e2, rows_app, List.length_append] at e
    omega
set_option maxHeartbeats 4000000 in
theorem write_li (X : List Nd) (K : Fo) (Z : List Nd) (b off n c p s wl : Nat) (A1 : Option Addr) (k1 : Nat) (hX : X.length = n) (hn : n ≤ 1000000) (hp : p < n) (hK : X.drop (p + 1) = rows K ++ Z) (hs : (rows K).length = s) (hwl : (wrs K).length = wl) (hw6 : wl ≤ 1000000) (w : World)
    (d1 : w.cell? ⟨b, off + p * 3, none⟩ = some (.bool true)) (d2 : w.cell? ⟨b, off + p * 3 + 1, none⟩ = some (.slice A1 0 k1)) (d3 : w.cell? ⟨b, off + p * 3 + 2, none⟩ = some (.int .i64 (s : Int)))
    (IE : Hid (∀ (k : Nat) (w' : World), k ≤ n → Below w.heap.size w w' → Calls Try.prog 19 #[.slice (some ⟨b, off, none⟩) n c, .int .i64 (k : Int)] w' fun e w2 => (∃ z, e = .returned (.int .i64 z) ∧ EndIs X k z) ∧ Below w'.heap.size w' w2))
    (IH : Hid (∀ (k : Nat) (F : Fo) (w' : World), p < k → Front (X.drop k) F → Below w.heap.size w w' → Calls Try.prog 21 #[.slice (some ⟨b, off, none⟩) n c, .int .i64 (k : Int)] w' fun e w2 => (∃ v, e = .returned v ∧ w2.ownsRow w'.heap.size 5 1 v (wrs F).length (lb8 (wrs F))) ∧ Below w'.heap.size w' w2))
    (hbytes : Hid (∀ y ∈ wrs K, y < 256)) :
    Calls Try.prog 21 #[.slice (some ⟨b, off, none⟩) n c, .int .i64 (p : Int)] w fun e w' => (∃ v, e = .returned v ∧ w'.ownsRow w.heap.size 5 1 v (hz wl + wl) (lb8 (hea wl 64) ++ lb8 (wrs K))) ∧ Below w.heap.size w w' := by
  obtain ⟨p1, hp1⟩ : ∃ p1, p + 1 = p1 := ⟨_, rfl⟩
  obtain ⟨pe, hpe⟩ : ∃ pe, p1 + s = pe := ⟨_, rfl⟩
  have e1 : (p : Int) + 1 = (p1 : Int) := by omega
  have e2 : (p1 : Int) + (s : Int) = (pe : Int) := by omega
  have hz9 := hz_le (n := wl) (by unfold B; omega)
  rw [hp1] at hK
  have hpn : pe ≤ n := by
    have := congrArg List.length hK
    rw [List.length_drop, List.length_append, hs, hX] at this
    omega
  have HP := Lib.hid hpe
  have HX := Lib.hid hX
  have HK := Lib.hid (And.intro hK (And.intro hs hwl))
  have hpp : p < p1 := by omega
  have KH := Lib.hid fun w => rhead_walk wl 64 w (by omega) (.inr rfl)
  clear hp1 hpe hX hK hs hwl
  have W1b : Below w.heap.size w (w.alloc (.cells #[.bool true, .slice A1 0 k1, .int .i64 (s : Int)] 43)) := (Below.refl _ _).alloc (Nat.le_refl _) _
  have h9 : (w.alloc (.cells #[.bool true, .slice A1 0 k1, .int .i64 (s : Int)] 43)).heap[w.heap.size]? = some (.cells #[.bool true, .slice A1 0 k1, .int .i64 (s : Int)] 43) := heap_alloc_new _ _
  have o0 : ((w.alloc (.cells #[.bool true, .slice A1 0 k1, .int .i64 (s : Int)] 43)).alloc (.cells #[] 5)).ownsRow w.heap.size 5 1 (.slice (some ⟨w.heap.size + 1, 0, none⟩) 0 0) 0 [] := by
    have := own_none (w.alloc (.cells #[.bool true, .slice A1 0 k1, .int .i64 (s : Int)] 43)) (base := w.heap.size) (by simp)
    rwa [show (w.alloc (.cells #[.bool true, .slice A1 0 k1, .int .i64 (s : Int)] 43)).heap.size = w.heap.size + 1 by simp] at this
  have B0 := W1b.alloc W1b.size (.cells #[] 5)
  have H9 := Lib.hid (blk_alloc (o' := .cells #[] 5) h9)
  have O0 := Lib.hid o0
  have BW := Lib.hid B0
  clear W1b h9 o0 B0
  go_enter Try.func21, Try.ntmps21
  go_wp2_with fail
  clear d1 d2 d3
  generalize ((w.alloc (.cells #[.bool true, .slice A1 0 k1, .int .i64 (s : Int)] 43)).alloc (.cells #[] 5)) = W at *
  go_loopw [7, 8] (fun v i wr => ∃ (j : Nat) (K1 K2 : Fo), j ≤ s ∧ Wri X K p1 j K1 K2 ∧ i = .int .i64 ((p1 + j : Nat) : Int) ∧ Below w.heap.size w wr ∧ wr.heap[w.heap.size]? = some (.cells #[.bool true, .slice A1 0 k1, .int .i64 (s : Int)] 43) ∧ wr.ownsRow w.heap.size 5 1 v (wrs K1).length (lb8 (wrs K1))) (fun _ i _ => n + 1 - (intOf i).toNat)
  case atStart => exact ⟨0, .no, K, by omega, ⟨rfl, rfl⟩, rfl, BW.out, H9.out, O0.out⟩
  case round =>
    obtain ⟨j, K1, K2, hj, hwr, rfl, hb, hf, hown⟩ := hrel
    clear BW H9 O0
    have y2 : wr.cell? ⟨w.heap.size, 2, none⟩ = some (.int .i64 (s : Int)) := blk_cell (j := 2) hf rfl
    obtain ⟨pj, hpj⟩ : ∃ pj, p1 + j = pj := ⟨_, rfl⟩
    rw [hpj]
    have hcut := hwr.cut
    have hwk : (wrs K1).length ≤ wl := by
      have := congrArg (fun F => (wrs F).length) hcut
      simp only [wrs_app, List.length_append, HK.out.2.2] at this
      omega
    by_cases hlt : j < s
    · have hlp : pj < pe := by have := HP.out; omega
      have hlp2 : p < pj := by omega
      obtain ⟨F, nx, hfr, hwr2, hwa, hle⟩ := hwr.step HK.out.1 HK.out.2.1 hlt
      rw [hpj] at hfr
      have hpos := one_pos hfr.1
      have hwf : (wrs F).length ≤ wl := by
        have := congrArg (fun F => (wrs F).length) hwr2.cut
        simp only [wrs_app, List.length_append, HK.out.2.2] at this
        omega
      have hfb : ∀ y ∈ wrs F, y < 256 := fun y hy => hbytes.out y (by rw [hwr2.cut, wrs_app, hwa]; simp [hy])
      have HWR := Lib.hid hwr2
      have HWA := Lib.hid hwa
      have HF := Lib.hid hf
      have HB := Lib.hid hb
      have HO := Lib.hid hown
      have HFR := Lib.hid hfr
      have HJ := Lib.hid hpj
      have HFB := Lib.hid hfb
      clear hf hb hown hwr hwr2 hwa hfr hpj hfb hcut
      go_wp2_with fail
      refine (IH.out pj F wr hlp2 HFR.out HB.out).mono ?_
      rintro e w2 ⟨⟨v2, rfl, o2⟩, b2⟩
      obtain ⟨A2, c2, rfl, hc2, hA2, hs2⟩ := own_bytes o2 HFB.out
      have B2 := Lib.hid (HB.out.trans (b2.mono HB.out.size))
      have F2 := Lib.hid (stay b2 HF.out)
      have O2 := Lib.hid (own_below HO.out b2)
      have S2 := Lib.hid hs2
      have HA2 := Lib.hid hA2
      have hs3 := B2.out.size
      clear o2 b2 hs2 hA2 y2 HO HF HB
      go_wp2_with (at_builtin; refine append_sl rfl _ _ rfl w.heap.size _ _ _ rfl O2.out A2 _ c2 _ rfl HA2.out S2.out (by omega) hs3 ?_)
      intro v4 w4 o4 g4
      have b4 := B2.out.grown g4 hs3 (fun b hb' => (O2.out.lt b hb').1)
      have k4 := (Keeps.refl w.heap.size U8 w2).grown g4 O2.out rfl hs3
      have F4 := Lib.hid (k4.other _ _ _ _ rfl F2.out)
      have B4 := Lib.hid b4
      rw [bbq, ← lb8_app, ← List.length_append] at o4
      have O4 := Lib.hid o4
      clear o4 g4 b4 k4 O2 S2 F2 B2
      go_wp2_with fail
      refine (IE.out pj w4 (by omega) B4.out).mono ?_
      rintro e w5 ⟨⟨z, rfl, hz⟩, b5⟩
      have hz1 := hz.1 F HFR.out
      subst hz1
      have F5 := Lib.hid (stay b5 F4.out)
      have O5 := Lib.hid (own_below O4.out b5)
      have B5 := Lib.hid (B4.out.trans (b5.mono B4.out.size))
      clear hz b5 O4 F4 B4
      go_wp2_with fail
      have hj2 := HJ.out
      refine ⟨⟨j + (rows F).length, app K1 F, nx, by omega, HWR.out, by rw [← Nat.add_assoc, hj2]; simp, B5.out, F5.out, ?_⟩, by simp [intOf]; omega⟩
      rw [HWA.out]
      exact O5.out
    · obtain rfl : j = s := by omega
      have hpe' : pj = pe := by have := HP.out; omega
      subst hpe'
      have hkk : wrs K1 = wrs K := by
        have e3 : rows K2 = [] := by
          have := congrArg (fun F => (rows F).length) hcut
          simp only [rows_app, List.length_append, hwr.len, HK.out.2.1] at this
          exact List.length_eq_zero_iff.1 (by omega)
        have : K2 = .no := rows_inj K2 .no e3
        rw [hcut, this, app_no]
      rw [hkk, HK.out.2.2] at hown
      have HB := Lib.hid hb
      have HO := Lib.hid hown
      obtain ⟨A2, c2, rfl⟩ := own_val hown
      clear hf hb hown hwr hcut hkk hpj hwk
      go_wp2_with fail
      refine (KH.out _).mono ?_
      rintro e w2 ⟨⟨v2, rfl, o2⟩, b2⟩
      have B2 := Lib.hid (HB.out.trans (b2.mono HB.out.size))
      have O2 := Lib.hid (o2.mono (base' := w.heap.size) HB.out.size)
      have oo := own_below HO.out b2
      obtain ⟨A3, c3, e3, hc3, hA3, hs3⟩ := own_bytes (l := wrs K) (by rw [HK.out.2.2]; exact oo) hbytes.out
      rw [HK.out.2.2] at e3 hc3 hA3 hs3
      cases e3
      have S2 := Lib.hid hs3
      have HA3 := Lib.hid hA3
      have hsz := B2.out.size
      clear o2 b2 oo hs3 hA3 y2
      go_wp2_with (at_builtin; refine append_sl rfl _ _ rfl w.heap.size _ _ _ rfl O2.out A2 wl c2 _ rfl HA3.out S2.out (by omega) hsz ?_)
      intro v4 w4 o4 g4
      have b4 := B2.out.grown g4 hsz (fun b hb' => (O2.out.lt b hb').1)
      have B4 := Lib.hid b4
      have e5 : bb (fun i => (wrs K)[i]?.getD 0) wl = lb8 (wrs K) := by rw [← bbq, HK.out.2.2]
      rw [e5] at o4
      have O4 := Lib.hid o4
      clear o4 g4 b4
      go_wp2_with fail
      go_ret
      exact ⟨⟨_, rfl, O4.out⟩, B4.out⟩
theorem write_walk (X : List Nd) (n c : Nat) (A : Option Addr) (hwt : wt X ≤ 1000000) : ∀ (N p : Nat) (F : Fo) (w : World), n ≤ p + N → Front (X.drop p) F → Arg w A n c X →
    Calls Try.prog 21 #[.slice A n c, .int .i64 (p : Int)] w fun e w' => (∃ v, e = .returned v ∧ w'.ownsRow w.heap.size 5 1 v (wrs F).length (lb8 (wrs F))) ∧ Below w.heap.size w w' := by
  intro N
  induction N with
  | zero =>
    intro p F w h1 hF ha
    exfalso
    rw [List.drop_eq_nil_of_le (by rw [ha.len]; omega)] at hF
    obtain ⟨h, Z, hZ⟩ := hF
    have := one_pos h
    have := congrArg List.length hZ
    simp at this
    omega
  | succ N ih =>
    intro p F w h1 hF ha
    have hn : n ≤ 1000000 := by have := wt_len X; have := ha.len; omega
    have hp : p < n := by
      apply Classical.byContradiction
      intro hp
      rw [List.drop_eq_nil_of_le (by rw [ha.len]; omega)] at hF
      obtain ⟨h, Z, hZ⟩ := hF
      have := one_pos h
      have := congrArg List.length hZ
      simp at this
      omega
    obtain ⟨b, off, rfl, hb, hc⟩ := ha.at (by omega)
    obtain ⟨x, hx⟩ : ∃ x, X[p]? = some x := ⟨_, List.getElem?_eq_getElem (by rw [ha.len]; exact hp)⟩
    have hdr : X.drop p = x :: X.drop (p + 1) := by
      obtain ⟨hlt, e⟩ := List.getElem?_eq_some_iff.1 hx
      rw [List.drop_eq_getElem_cons hlt, e]
    have hwx : 9 + x.by'.length + wt (X.drop (p + 1)) ≤ 1000000 := by
      have := wt_drop X p
      rw [hdr, wt_cons] at this
      omega
    obtain ⟨d1, ⟨A1, k1, d2, g1, g2, g3, g4⟩, d3⟩ := hc p x hx
    obtain ⟨hsm, z1, z2⟩ := ha.small p x hx
    rw [Nat.mul_comm 3 p] at d1 d2 d3
    rw [hdr] at hF
    obtain ⟨hone, Z, hZ⟩ := hF
    cases F with
    | no => cases hone
    | st bs' nx =>
      cases (hone : nx = .no)
      simp only [rows, List.cons_append, List.nil_append, List.cons.injEq] at hZ
      obtain ⟨rfl, _⟩ := hZ
      simp only at d1 d2 d3 g1 g2 g3 g4 hsm hwx
      by_cases hbare : bs'.length = 1 ∧ bs'.getD 0 0 < 128
      · have hw : wrs (.st bs' .no) = bs' := by simp only [wrs, List.append_nil, ws, if_pos hbare]
        obtain ⟨y, hy⟩ : ∃ y, bs' = [y] := List.length_eq_one_iff.1 hbare.1
        subst hy
        rw [hw]
        exact write_bare b off n c p A1 k1 y hp hbare.2 w _ rfl d1 d2 ⟨_, d3⟩ g4
      · have hw : wrs (.st bs' .no) = hea bs'.length 0 ++ bs' := by simp only [wrs, List.append_nil, ws, if_neg hbare]
        rw [hw, lb8_app, List.length_append, hea_hz, lb8_bb bs']
        exact write_st b off n c p A1 bs'.length k1 hp (by omega) w _ hbare g3 d1 d2 ⟨_, d3⟩ g4
    | li K nx =>
      cases (hone : nx = .no)
      simp only [rows, List.append_nil, List.cons_append, List.cons.injEq] at hZ
      obtain ⟨rfl, hK⟩ := hZ
      simp only [List.length_nil] at d1 d2 d3
      have hwK : wt (rows K) ≤ 1000000 := by
        rw [hK, wt_app] at hwx
        omega
      have hw := wrs_le K hwK
      have hw2 : wrs (.li K .no) = hea (wrs K).length 64 ++ wrs K := by simp [wrs]
      rw [hw2, lb8_app, List.length_append, hea_hz]
      have hby : ∀ y ∈ wrs K, y < 256 := wrs_lt K hwK fun x' hx' => by
        have : x' ∈ X := List.mem_of_mem_drop (i := p + 1) (by rw [hK]; simp [hx'])
        obtain ⟨i, hi⟩ := List.mem_iff_getElem?.1 this
        exact (ha.small i x' hi).1
      exact write_li X K Z b off n c p (rows K).length (wrs K).length A1 k1 ha.len hn hp hK rfl rfl (by omega) w d1 d2 d3
        (Lib.hid fun k w' hk hb' => end_walk X n c _ hn n k w' (by omega) hk (ha.below hb')) (Lib.hid fun k F' w' hk hF' hb' => ih k F' w' (by omega) hF' (ha.below hb')) (Lib.hid hby)
end Go.Proofs.Ytfpeliolngfkpaa
/- What Encode of the document's layer 7 does. -/
namespace Go.Proofs.Ytfpeliolngfkpaa
open Go.RowKit SmWord
set_option maxRecDepth 100000

set_option maxHeartbeats 1000000 in
theorem renc_no (A : Option Addr) (n c : Nat) (z : Int) (w : World) (hz : z ≠ (n : Int))
    (KE : Hid (∀ w' : World, Below w.heap.size w w' → Calls Try.prog 19 #[.slice A n c, .int .i64 0] w' fun e w2 => e = .returned (.int .i64 z) ∧ Below w'.heap.size w' w2)) :
    Calls Try.prog 10 #[.slice A n c] w fun e w' => (∃ A1 c1, e = .returned (.tuple #[.slice A1 0 c1, .int .i64 2])) ∧ Below w.heap.size w w' := by
  have q1 : (z != (n : Int)) = true := by rw [bne_iff_ne]; exact hz
  have B0 : Below w.heap.size w (w.alloc (.cells #[] 5)) := (Below.refl _ _).alloc (Nat.le_refl _) _
  have HB := Lib.hid B0
  clear B0
  go_enter Try.func10, Try.ntmps10
  go_wp2_with fail
  refine (KE.out _ HB.out).mono ?_
  rintro e w1 ⟨rfl, b1⟩
  have HB1 := Lib.hid (HB.out.trans (b1.mono HB.out.size))
  clear b1
  go_wp2_with fail
  go_ret2
  exact ⟨⟨_, _, rfl⟩, HB1.out⟩
set_option maxHeartbeats 1000000 in
theorem renc_deep (A : Option Addr) (n c df : Nat) (w : World) (hn : n ≤ 1000000) (hn0 : 0 < n) (hd : 64 < df) (hd6 : df ≤ 1000000)
    (KE : Hid (∀ w' : World, Below w.heap.size w w' → Calls Try.prog 19 #[.slice A n c, .int .i64 0] w' fun e w2 => e = .returned (.int .i64 (n : Int)) ∧ Below w'.heap.size w' w2))
    (KD : Hid (∀ w' : World, Below w.heap.size w w' → Calls Try.prog 20 #[.slice A n c] w' fun e w2 => e = .returned (.int .i64 (df : Int)) ∧ w2 = w')) :
    Calls Try.prog 10 #[.slice A n c] w fun e w' => (∃ A1 c1, e = .returned (.tuple #[.slice A1 0 c1, .int .i64 4])) ∧ Below w.heap.size w w' := by
  have q1 : ((n : Int) != (n : Int)) = false := by simp
  have q2 : ((n : Int) == 0) = false := by simp; omega
  have q3 : decide ((64 : Int) < (df : Int)) = true := decide_eq_true (by omega)
  have B0 : Below w.heap.size w (w.alloc (.cells #[] 5)) := (Below.refl _ _).alloc (Nat.le_refl _) _
  have HB := Lib.hid B0
  clear B0
  go_enter Try.func10, Try.ntmps10
  go_wp2_with fail
  refine (KE.out _ HB.out).mono ?_
  rintro e w1 ⟨rfl, b1⟩
  have HB1 := Lib.hid (HB.out.trans (b1.mono HB.out.size))
  clear b1
  go_wp2_with fail
  refine (KD.out _ HB1.out).mono ?_
  rintro e w2 ⟨rfl, rfl⟩
  go_wp2_with fail
  go_ret2
  exact ⟨⟨_, _, rfl⟩, HB1.out⟩
set_option maxHeartbeats 1000000 in
theorem renc_ok (A : Option Addr) (n c df wl : Nat) (xs : List Value) (w : World) (hn : n ≤ 1000000) (hn0 : 0 < n) (hd : df ≤ 64) (hw : wl ≤ 1000000)
    (KE : Hid (∀ w' : World, Below w.heap.size w w' → Calls Try.prog 19 #[.slice A n c, .int .i64 0] w' fun e w2 => e = .returned (.int .i64 (n : Int)) ∧ Below w'.heap.size w' w2))
    (KD : Hid (∀ w' : World, Below w.heap.size w w' → Calls Try.prog 20 #[.slice A n c] w' fun e w2 => e = .returned (.int .i64 (df : Int)) ∧ w2 = w'))
    (KW : Hid (∀ w' : World, Below w.heap.size w w' → Calls Try.prog 21 #[.slice A n c, .int .i64 0] w' fun e w2 => (∃ v, e = .returned v ∧ w2.ownsRow w'.heap.size 5 1 v wl xs) ∧ Below w'.heap.size w' w2)) :
    Calls Try.prog 10 #[.slice A n c] w fun e w' => (∃ v, e = .returned (.tuple #[v, .int .i64 0]) ∧ w'.ownsRow w.heap.size 5 1 v wl xs) ∧ Below w.heap.size w w' := by
  have q1 : ((n : Int) != (n : Int)) = false := by simp
  have q2 : ((n : Int) == 0) = false := by simp; omega
  have q3 : decide ((64 : Int) < (df : Int)) = false := decide_eq_false (by omega)
  have q4 : decide ((1048576 : Int) < (wl : Int)) = false := decide_eq_false (by omega)
  have B0 : Below w.heap.size w (w.alloc (.cells #[] 5)) := (Below.refl _ _).alloc (Nat.le_refl _) _
  have HB := Lib.hid B0
  clear B0
  go_enter Try.func10, Try.ntmps10
  go_wp2_with fail
  refine (KE.out _ HB.out).mono ?_
  rintro e w1 ⟨rfl, b1⟩
  have HB1 := Lib.hid (HB.out.trans (b1.mono HB.out.size))
  clear b1
  go_wp2_with fail
  refine (KD.out _ HB1.out).mono ?_
  rintro e w2 ⟨rfl, rfl⟩
  go_wp2_with fail
  refine (KW.out _ HB1.out).mono ?_
  rintro e w3 ⟨⟨v, rfl, o3⟩, b3⟩
  obtain ⟨A3, c3, rfl⟩ := own_val o3
  have HB3 := Lib.hid (HB1.out.trans (b3.mono HB1.out.size))
  have O3 := Lib.hid (o3.mono (base' := w.heap.size) HB1.out.size)
  clear b3 o3
  go_wp2_with fail
  go_ret2
  exact ⟨⟨_, rfl, O3.out⟩, HB3.out⟩
theorem end_item {F : Fo} (hone : One F) {X : List Nd} (hX : rows F = X) {z : Int} (h : EndIs X 0 z) : z = (X.length : Int) := by
  have := h.1 F ⟨hone, [], by simp [hX]⟩
  rw [this, hX]
  simp
theorem end_else {X : List Nd} (hX : ¬ ∃ F, One F ∧ rows F = X) {z : Int} (h : EndIs X 0 z) : z ≠ (X.length : Int) := by
  by_cases hF : ∃ F, Front (X.drop 0) F
  · obtain ⟨F, h1, Z, h2⟩ := hF
    rw [h.1 F ⟨h1, Z, h2⟩]
    intro e
    rw [List.drop_zero] at h2
    have h3 := congrArg List.length h2
    rw [List.length_append] at h3
    have : Z = [] := List.length_eq_zero_iff.1 (by omega)
    subst this
    exact hX ⟨F, h1, by rw [h2, List.append_nil]⟩
  · rw [h.2 hF]
    omega
/-- The sizes of items' nodes. -/
theorem rows_sz : ∀ F, ∀ x ∈ rows F, 0 ≤ x.sz ∧ x.sz ≤ ((rows F).length : Int)
  | .no => by simp [rows]
  | .st b nx => by
    intro x hx
    simp only [rows, List.mem_cons] at hx
    rcases hx with rfl | hx
    · exact ⟨Int.le_refl _, by simp⟩
    · have := rows_sz nx x hx
      simp only [rows, List.length_cons]
      omega
  | .li k nx => by
    intro x hx
    simp only [rows, List.mem_cons, List.mem_append] at hx
    simp only [rows, List.length_cons, List.length_append]
    rcases hx with rfl | hx | hx
    · simp only; omega
    · have := rows_sz k x hx
      omega
    · have := rows_sz nx x hx
      omega
theorem end_at {X : List Nd} {A : Option Addr} {n c : Nat} {w : World} (hn : n ≤ 1000000) (ha : Arg w A n c X) {P : Int → Prop} (hP : ∀ z, EndIs X 0 z → P z) :
    Calls Try.prog 19 #[.slice A n c, .int .i64 0] w fun e w' => (∃ z, e = .returned (.int .i64 z) ∧ P z) ∧ Below w.heap.size w w' :=
  (end_walk X n c A hn n 0 w (by omega) (by omega) ha).mono fun e w' h => by
    obtain ⟨⟨z, h1, h2⟩, h3⟩ := h
    exact ⟨⟨z, h1, hP z h2⟩, h3⟩
theorem rencode_no {X : List Nd} (hX : ¬ ∃ F, One F ∧ rows F = X) (hwt : wt X ≤ 1000000) {A : Option Addr} {n c : Nat} {w : World} (ha : Arg w A n c X) :
    Calls Try.prog 10 #[.slice A n c] w fun e w' => (∃ A1 c1, e = .returned (.tuple #[.slice A1 0 c1, .int .i64 2])) ∧ Below w.heap.size w w' := by
  have hn : n ≤ 1000000 := by have := wt_len X; have := ha.len; omega
  by_cases hF : ∃ F, Front (X.drop 0) F
  · obtain ⟨F, hF⟩ := hF
    have hz : ∀ z, EndIs X 0 z → z = ((0 + (rows F).length : Nat) : Int) := fun z h => h.1 F hF
    refine renc_no A n c _ w ?_ (Lib.hid fun w' hb => (end_at hn (ha.below hb) hz).mono fun e w2 h => by obtain ⟨⟨z, h1, h2⟩, h3⟩ := h; exact ⟨by rw [h1, h2], h3⟩)
    have := end_else hX (z := ((0 + (rows F).length : Nat) : Int)) ⟨fun F' hF' => by rw [front_inj hF hF'], fun h => absurd ⟨F, hF⟩ h⟩
    rw [ha.len] at this
    exact this
  · exact renc_no A n c (-1) w (by omega) (Lib.hid fun w' hb => (end_at hn (ha.below hb) (fun z h => h.2 hF)).mono fun e w2 h => by obtain ⟨⟨z, h1, h2⟩, h3⟩ := h; exact ⟨by rw [h1, h2], h3⟩)
theorem deep_at {F : Fo} (hone : One F) {X : List Nd} (hX : rows F = X) (hwt : wt X ≤ 1000000) {A : Option Addr} {n c : Nat} {w : World} (ha : Arg w A n c X) :
    Calls Try.prog 20 #[.slice A n c] w fun e w' => e = .returned (.int .i64 ((dps F : Nat) : Int)) ∧ w' = w := by
  have hn : n ≤ 1000000 := by have := wt_len X; have := ha.len; omega
  have hn0 : 0 < n := by have := one_pos hone; rw [hX, ha.len] at this; exact this
  obtain ⟨b, off, rfl, hb, hc⟩ := ha.at hn0
  have := deep_walk X n c b off ha.len hn (fun i x hx => by
    have h := rows_sz F x (by rw [hX]; exact List.mem_of_getElem? hx)
    rw [hX, ha.len] at h
    exact h) w hc
  rw [← ha.len, ← hX, dmu_rows] at this
  rw [← ha.len, ← hX]
  exact this
theorem rencode_deep {F : Fo} (hone : One F) {X : List Nd} (hX : rows F = X) (hd : ¬ dps F ≤ 64) (hwt : wt X ≤ 1000000) {A : Option Addr} {n c : Nat} {w : World} (ha : Arg w A n c X) :
    Calls Try.prog 10 #[.slice A n c] w fun e w' => (∃ A1 c1, e = .returned (.tuple #[.slice A1 0 c1, .int .i64 4])) ∧ Below w.heap.size w w' := by
  have hn : n ≤ 1000000 := by have := wt_len X; have := ha.len; omega
  have hn0 : 0 < n := by have := one_pos hone; rw [hX, ha.len] at this; exact this
  have hd6 := dps_le F
  rw [hX, ha.len] at hd6
  exact renc_deep A n c (dps F) w hn hn0 (by omega) (by omega) (Lib.hid fun w' hb => (end_at hn (ha.below hb) (fun z h => end_item hone hX h)).mono fun e w2 h => by obtain ⟨⟨z, h1, h2⟩, h3⟩ := h; exact ⟨by rw [h1, h2, ha.len], h3⟩) (Lib.hid fun w' hb => deep_at hone hX hwt (ha.below hb))
theorem rencode_ok {F : Fo} (hone : One F) {X : List Nd} (hX : rows F = X) (hd : dps F ≤ 64) (hwt : wt X ≤ 1000000) {A : Option Addr} {n c : Nat} {w : World} (ha : Arg w A n c X) :
    Calls Try.prog 10 #[.slice A n c] w fun e w' => (∃ v, e = .returned (.tuple #[v, .int .i64 0]) ∧ w'.ownsRow w.heap.size 5 1 v (wrs F).length (lb8 (wrs F))) ∧ Below w.heap.size w w' := by
  have hn : n ≤ 1000000 := by have := wt_len X; have := ha.len; omega
  have hn0 : 0 < n := by have := one_pos hone; rw [hX, ha.len] at this; exact this
  have hw := wrs_le F (by rw [hX]; exact hwt)
  rw [hX] at hw
  exact renc_ok A n c (dps F) _ _ w hn hn0 hd (by omega) (Lib.hid fun w' hb => (end_at hn (ha.below hb) (fun z h => end_item hone hX h)).mono fun e w2 h => by obtain ⟨⟨z, h1, h2⟩, h3⟩ := h; exact ⟨by rw [h1, h2, ha.len], h3⟩) (Lib.hid fun w' hb => deep_at hone hX hwt (ha.below hb))
    (Lib.hid fun w' hb => write_walk X n c A hwt n 0 F w' (by omega) ⟨hone, [], by simp [hX]⟩ (ha.below hb))
end Go.Proofs.Ytfpeliolngfkpaa
/- What Great and Same of the document's layer 7 do. -/
namespace Go.Proofs.Ytfpeliolngfkpaa
open Go.RowKit SmWord
set_option maxRecDepth 100000

theorem str_eq (S : ByteArray) : (S == S) = true := by
  cases S with | mk d => exact beq_self_eq_true d
theorem str_ne (S : ByteArray) : (S != S) = false := by
  show (!(S == S)) = false
  rw [str_eq]
  rfl
def gs (X : List Nd) : Nat := (X.map fun x => 1 + x.by'.length).sum
theorem gs_step {X : List Nd} {k : Nat} {x : Nd} (h : X[k]? = some x) : gs (X.take (k + 1)) = gs (X.take k) + (1 + x.by'.length) := by
  obtain ⟨hlt, e⟩ := List.getElem?_eq_some_iff.1 h
  rw [List.take_add_one, List.getElem?_eq_getElem hlt, e]
  simp [gs]
theorem gs_wt (X : List Nd) : wt X ≤ 9 * gs X := by
  induction X with
  | nil => simp [wt]
  | cons x X ih =>
    have : gs (x :: X) = 1 + x.by'.length + gs X := by simp [gs]
    rw [wt_cons, this]
    omega
set_option maxHeartbeats 2000000 in
theorem great_walk (X : List Nd) (n c : Nat) (A : Option Addr) (hn : n ≤ maxLen) (w : World) (ha : Arg w A n c X) :
    Calls Try.prog 7 #[.slice A n c] w fun e w' => (∃ g, e = .returned (.bool g) ∧ (g = false → gs X ≤ 4000)) ∧ w' = w := by
  have hn' : n ≤ 9223372036854775807 := hn
  have HA := Lib.hid ha
  clear ha
  go_enter Try.func7, Try.ntmps7
  go_wp2_with fail
  go_loopw [3, 7] (fun m i wr => ∃ k g : Nat, k ≤ n ∧ i = .int .i64 (k : Int) ∧ m = .int .i64 (g : Int) ∧ gs (X.take k) = g ∧ g ≤ 4000 ∧ wr = w) (fun _ i _ => n - (intOf i).toNat)
  case atStart => exact ⟨0, 0, by omega, rfl, rfl, rfl, by omega, rfl⟩
  case round =>
    obtain ⟨k, g, hk, rfl, rfl, hg, hg4, rfl⟩ := hrel
    by_cases hlt : k < n
    · obtain ⟨b, off, rfl, hb, hc⟩ := HA.out.at (by omega)
      obtain ⟨x, hx⟩ : ∃ x, X[k]? = some x := ⟨_, List.getElem?_eq_getElem (by rw [HA.out.len]; exact hlt)⟩
      obtain ⟨_, ⟨A1, k1, d2, g1, g2, g3, g4⟩, _⟩ := hc k x hx
      rw [Nat.mul_comm 3 k] at d2
      have hst := gs_step hx
      rw [hg] at hst
      obtain ⟨nb, hnb⟩ : ∃ nb, x.by'.length = nb := ⟨_, rfl⟩
      rw [hnb] at d2 g2 hst
      have g2' : nb ≤ 9223372036854775807 := g2
      obtain ⟨mn, hmn⟩ : ∃ mn, min nb 5000 = mn := ⟨_, rfl⟩
      have e1 : min (nb : Int) 5000 = (mn : Int) := by omega
      have hm5 : mn ≤ 5000 := by omega
      obtain ⟨g', hg'⟩ : ∃ g', g + (1 + mn) = g' := ⟨_, rfl⟩
      have e2 : (g : Int) + (1 + (mn : Int)) = (g' : Int) := by omega
      have HG := Lib.hid (And.intro hst (And.intro hmn hg'))
      clear hst hmn hg hc hx hnb g1 g3 g4 g2
      by_cases hbig : 4000 < g'
      · have q1 : decide ((4000 : Int) < (g' : Int)) = true := decide_eq_true (by omega)
        clear hg'
        go_wp2_with fail
        go_ret
        exact ⟨⟨true, rfl, fun h => by cases h⟩, rfl⟩
      · have q1 : decide ((4000 : Int) < (g' : Int)) = false := decide_eq_false (by omega)
        clear hg'
        go_wp2_with fail
        have h1 := HG.out.1
        have h2 := HG.out.2.1
        have h3 := HG.out.2.2
        exact ⟨⟨k + 1, g', by omega, by go_num, rfl, by omega, by omega, trivial⟩, by simp [intOf]; omega⟩
    · obtain rfl : k = n := by omega
      have HG : Hid (gs X ≤ 4000) := Lib.hid (by rw [List.take_of_length_le (by rw [HA.out.len]; exact Nat.le_refl _)] at hg; omega)
      clear hg
      go_wp2_with fail
      go_ret
      exact ⟨⟨false, rfl, fun _ => HG.out⟩, rfl⟩
set_option maxHeartbeats 4000000 in
theorem same_walk (X : List Nd) (n c1 c2 : Nat) (A1 A2 : Option Addr) (hn : n ≤ 1000000) (hX : X.length = n) (w : World) (h1 : NodesS w A1 X) (h2 : NodesS w A2 X) :
    Calls Try.prog 12 #[.slice A1 n c1, .slice A2 n c2] w fun e w' => e = .returned (.bool true) ∧ Below w.heap.size w w' := by
  have H1 := Lib.hid h1
  have H2 := Lib.hid h2
  have HX := Lib.hid hX
  clear h1 h2 hX
  go_enter Try.func12, Try.ntmps12
  go_wp2_with fail
  go_loopw [13] (fun i wr => ∃ k : Nat, k ≤ n ∧ i = .int .i64 (k : Int) ∧ Below w.heap.size w wr) (fun i _ => n - (intOf i).toNat)
  case atStart => exact ⟨0, by omega, rfl, Below.refl _ _⟩
  case round =>
    obtain ⟨k, hk, rfl, hb⟩ := hrel
    by_cases hlt : k < n
    · obtain ⟨b1, o1, rfl, hb1, hc1⟩ := H1.out.cells (by rw [HX.out]; omega)
      obtain ⟨b2, o2, rfl, hb2, hc2⟩ := H2.out.cells (by rw [HX.out]; omega)
      obtain ⟨x, hx⟩ : ∃ x, X[k]? = some x := ⟨_, List.getElem?_eq_getElem (by rw [HX.out]; exact hlt)⟩
      obtain ⟨p1, ⟨B1, m1, p2, _, _, _, s1⟩, p3⟩ := (hc1 k x hx).below hb hb1
      obtain ⟨r1, ⟨B2, m2, r2, _, _, _, s2⟩, r3⟩ := (hc2 k x hx).below hb hb2
      rw [Nat.mul_comm 3 k] at p1 p2 p3 r1 r2 r3
      obtain ⟨S, hS⟩ : ∃ S, strL x.by' = S := ⟨_, rfl⟩
      have cv1 : ∀ w' : World, Below wr.heap.size wr w' → (convert 25 9 (.slice B1 x.by'.length m1)).run Try.prog w' = .ok (.string S) w' := fun w' hw => by
        rw [← hS]
        exact conv_bytes (s1.below hw)
      have cv2 : ∀ w' : World, Below wr.heap.size wr w' → (convert 25 9 (.slice B2 x.by'.length m2)).run Try.prog w' = .ok (.string S) w' := fun w' hw => by
        rw [← hS]
        exact conv_bytes (s2.below hw)
      have C1 := Lib.hid cv1
      have C2 := Lib.hid cv2
      obtain ⟨nb, hnb⟩ : ∃ nb, x.by'.length = nb := ⟨_, rfl⟩
      obtain ⟨ls, hls⟩ : ∃ ls, x.ls = ls := ⟨_, rfl⟩
      obtain ⟨sz, hsz⟩ : ∃ sz, x.sz = sz := ⟨_, rfl⟩
      rw [hnb] at p2 r2 C1 C2
      rw [hls] at p1 r1
      rw [hsz] at p3 r3
      have HB := Lib.hid hb
      have q1 : ((ls != ls) : Bool) = false := by simp
      have q2 : ((sz != sz) : Bool) = false := by simp
      have q3 : ((S != S) : Bool) = false := str_ne S
      clear cv1 cv2 hb s1 s2 hx hc1 hc2 hS hnb hls hsz
      go_wp2_with fail
      refine region_ext (by kernel_rfl) (by kernel_rfl) ?_
      have cell : ∀ (g : Ext wr) {b o : Nat} {v : Value}, wr.cell? ⟨b, o, none⟩ = some v → g.on.cell? ⟨b, o, none⟩ = some v := fun g b o v h => (g.below.cell (p := ⟨b, o, none⟩) (by simpa using World.block_lt_of_cell? wr _ h)).trans h
      have t1 := fun g => cell g p1
      have t2 := fun g => cell g p2
      have t3 := fun g => cell g p3
      have t4 := fun g => cell g r1
      have t5 := fun g => cell g r2
      have t6 := fun g => cell g r3
      have t7 := fun g : Ext wr => C1.out g.on g.below
      have t8 := fun g : Ext wr => C2.out g.on g.below
      clear cell p1 p2 p3 r1 r2 r3
      repeat (go_big_quiet_step (fail))
      refine wpQuiet_nil ?_
      rintro w' ⟨g, rfl⟩
      have HB2 := Lib.hid (HB.out.trans (g.below.mono HB.out.size))
      clear t1 t2 t3 t4 t5 t6 t7 t8
      go_wp2_with fail
      exact ⟨⟨k + 1, by omega, by go_num, HB2.out⟩, by simp [intOf]; omega⟩
    · obtain rfl : k = n := by omega
      have HB := Lib.hid hb
      clear hb
      go_wp2_with fail
      go_ret
      exact ⟨rfl, HB.out⟩
end Go.Proofs.Ytfpeliolngfkpaa
