/- The arguments of layer 12's statements: numbers, bools, words, bytes and rows of words, as they read. -/
import Derived.Test.YtdkjgpehlgejnaaG2
import Derived.Test.YtdkjgpehlgejnaaG3
import Derived.Carry
import Derived.Test.YtdkjgpehlgejnaaG4
namespace Go.Proofs.Ytdkjgpehlgejnaa
open Go.ChangeShapes Go.WideShapes Go.ChangeAt Go.RowKit SmWord
set_option maxRecDepth 100000

theorem Try.laidOutX : laidOutB Try.prog = true := by kernel_rfl
/-- A row of words in memory. -/
structure WsS (w : World) (A : Option Addr) (n : Nat) (X : Nat → Nat) : Prop where
  small : ∀ i, i < n → X i < M
  cells : 0 < n → ∃ b off, A = some ⟨b, off, none⟩ ∧ b < w.heap.size ∧ ∀ i, i < n → ∀ j v, (wa (X i))[j]? = some v → w.cell? ⟨b, off + 4 * i + j, none⟩ = some v
theorem WsS.below {w w' : World} {A : Option Addr} {n : Nat} {X : Nat → Nat} (h : WsS w A n X) (hb : Below w.heap.size w w') : WsS w' A n X :=
  ⟨h.small, fun hn => by
    obtain ⟨b, off, e, hlt, hc⟩ := h.cells hn
    exact ⟨b, off, e, Nat.lt_of_lt_of_le hlt hb.size, fun i hi j v hv => (hb.cell (p := ⟨b, off + 4 * i + j, none⟩) hlt).trans (hc i hi j v hv)⟩⟩

section
variable {H : Type} {enc : TypeId × Value → H} {W : World} {base : Nat} {v : Value} {d : DataW H} {p : List MemPlace}
theorem open_u64 (hv : Value.okWide Try.prog W .any base 22 v) (h : DataW.Trod enc Try.prog W 0 (fun _ => true) true 22 v d p) : ∃ z : Nat, v = .int .u64 (z : Int) ∧ z < B := by
  obtain ⟨n, rfl⟩ := okWide_int Try.underlying22 hv
  obtain ⟨fuel, hf⟩ := h
  obtain ⟨z, e, _, wz⟩ := DataW.trod_int Try.underlying22 hf
  simp [Value.cells] at e
  subst e
  obtain ⟨m, rfl, hm⟩ := wf_u64 wz
  exact ⟨m, rfl, hm⟩
theorem open_u8 (hv : Value.okWide Try.prog W .any base 5 v) (h : DataW.Trod enc Try.prog W 0 (fun _ => true) true 5 v d p) : ∃ z : Nat, v = .int .u8 (z : Int) ∧ z < 256 := by
  obtain ⟨n, rfl⟩ := okWide_int Try.underlying5 hv
  obtain ⟨fuel, hf⟩ := h
  obtain ⟨z, e, _, wz⟩ := DataW.trod_int Try.underlying5 hf
  simp [Value.cells] at e
  subst e
  have hz : 0 ≤ n ∧ n ≤ 255 := by simpa [Lit.wf, IntKind.min, IntKind.max, IntKind.signed, IntKind.bits] using wz
  exact ⟨n.toNat, by rw [Int.toNat_of_nonneg hz.1], by omega⟩
theorem open_bytesArg (hv : Value.okWide Try.prog W .any base 40 v) (h : DataW.Trod enc Try.prog W 0 (fun _ => true) true 40 v d p) : ∃ (A : Option Addr) (n c : Nat) (f : Nat → Nat), v = .slice A n c ∧ n ≤ maxLen ∧ n ≤ c ∧ (A = none → n = 0 ∧ c = 0) ∧ Sl W A n f := by
  obtain ⟨a1, len, cap, rfl⟩ := okWide_slice Try.underlying40 hv
  obtain ⟨fuel, hf⟩ := h
  exact open_bytes Try.underlying40 Try.underlying5 (by kernel_rfl) hf
theorem mod_M (n : Nat) : n % M < M := Nat.mod_lt _ (by decide)
theorem wa_mod (n : Nat) : wa (n % M) = wa n := wa_congr (Nat.mod_mod _ _)
theorem open_wd (hv : Value.okWide Try.prog W .any base 24 v) (h : DataW.Trod enc Try.prog W 0 (fun _ => true) true 24 v d p) : ∃ z : Nat, v = wd z ∧ z < M := by
  obtain ⟨n, rfl, _, _⟩ := open_word hv h
  exact ⟨n % M, by rw [wd, wd, wa_mod], mod_M n⟩
theorem open_w4 {fuel : Nat} {cs : List Value} {y : DataW H × List MemPlace} (hl : cs.length = 4) (hf : DataW.trod enc Try.prog W 0 (fun _ => true) true fuel 24 cs = some y) : ∃ z : Nat, cs = (wa z).toList ∧ z < M := by
  match cs, hl with
  | [c0, c1, c2, c3], _ =>
    obtain ⟨y0, y1, y2, y3, m, hx, hy0, hy1, hy2, hy3⟩ := trod_array4 Try.underlying24 Try.cells22 hf
    obtain ⟨x0, e0, _, w0⟩ := DataW.trod_int Try.underlying22 hy0
    obtain ⟨x1, e1, _, w1⟩ := DataW.trod_int Try.underlying22 hy1
    obtain ⟨x2, e2, _, w2⟩ := DataW.trod_int Try.underlying22 hy2
    obtain ⟨x3, e3, _, w3⟩ := DataW.trod_int Try.underlying22 hy3
    simp at e0 e1 e2 e3
    subst e0 e1 e2 e3
    obtain ⟨n0, rfl, b0⟩ := wf_u64 w0
    obtain ⟨n1, rfl, b1⟩ := wf_u64 w1
    obtain ⟨n2, rfl, b2⟩ := wf_u64 w2
    obtain ⟨n3, rfl, b3⟩ := wf_u64 w3
    have e := wd_num b0 b1 b2 b3
    refine ⟨num n0 n1 n2 n3 % M, ?_, mod_M _⟩
    rw [wa_mod]
    have e' : wa (num n0 n1 n2 n3) = #[.int .u64 (n0 : Int), .int .u64 (n1 : Int), .int .u64 (n2 : Int), .int .u64 (n3 : Int)] := by simpa [wd] using e
    rw [e']
theorem Try.cellsWd : Try.prog.cellsOf 24 = 4 := by kernel_rfl
theorem okWide_sl {t u : TypeId} (ht : Try.prog.underlying t = some (.slice u)) (hv : Value.okWide Try.prog W .any base t v) : ∃ a len cap, v = .slice a len cap := by
  obtain ⟨a, len, cap, rfl⟩ := okWide_slice ht hv
  exact ⟨a, len, cap, rfl⟩
theorem open_ws (hv : Value.okWide Try.prog W .any base 38 v) (h : DataW.Trod enc Try.prog W 0 (fun _ => true) true 38 v d p) : ∃ (A : Option Addr) (n c : Nat) (X : Nat → Nat), v = .slice A n c ∧ n ≤ maxLen ∧ n ≤ c ∧ (A = none → n = 0 ∧ c = 0) ∧ WsS W A n X := by
  obtain ⟨a0, len0, cap0, rfl⟩ := okWide_sl Try.underlying38 hv
  obtain ⟨fuel, hf⟩ := h
  rcases Go.Deep.open_slice Try.underlying38 hf with ⟨hcs, _⟩ | ⟨a, len, cap, m, n, D, Pl, hcs, _, hl, hm, hmm, _, hel⟩
  · simp [Value.cells] at hcs
    obtain ⟨rfl, rfl, rfl⟩ := hcs
    exact ⟨none, 0, 0, fun _ => 0, rfl, Nat.zero_le _, Nat.le_refl _, fun _ => ⟨rfl, rfl⟩, ⟨fun i hi => by omega, fun h => by omega⟩⟩
  · simp [Value.cells] at hcs
    obtain ⟨rfl, rfl, rfl⟩ := hcs
    simp only [if_true] at hmm
    subst hmm
    rw [Try.cellsWd] at hel
    obtain ⟨b0, s0, spot⟩ := a
    have hsp : 0 < len0 → spot = none ∧ b0 < W.heap.size := fun h => by
      obtain ⟨cs', hc, _⟩ := hel 0 (by omega)
      obtain ⟨_, hlen, hat⟩ := World.cells?_some hc
      have a0 := hat 0 (by omega)
      rw [List.getElem?_eq_getElem (by omega)] at a0
      exact ⟨by simpa [Addr.add] using World.cell?_spot a0, by simpa [Addr.add] using World.block_lt_of_cell? W _ a0⟩
    have one : ∀ i, i < len0 → ∃ x : Nat, x < M ∧ ∀ j v, (wa x)[j]? = some v → W.cell? ⟨b0, s0 + 4 * i + j, none⟩ = some v := fun i hi => by
      obtain ⟨rfl, _⟩ := hsp (by omega)
      obtain ⟨cs', hc, ht'⟩ := hel i (by omega)
      obtain ⟨_, hlen, hat⟩ := World.cells?_some hc
      obtain ⟨x, e, hx⟩ := open_w4 (by omega) ht'
      refine ⟨x, hx, fun j v hv => ?_⟩
      have hj : j < 4 := (Array.getElem?_eq_some_iff.1 hv).1
      have a1 := hat j hj
      rw [Addr.add_lit, Addr.add_lit, e, Array.getElem?_toList, hv] at a1
      rw [show s0 + 4 * i + j = s0 + i * 4 + j by omega]
      exact a1
    refine ⟨some ⟨b0, s0, spot⟩, len0, _, fun i => if h : i < len0 then Classical.choose (one i h) else 0, rfl, Nat.le_trans hl hm, hl, (fun h => by cases h), ⟨fun i hi => ?_, fun hn => ?_⟩⟩
    · show (if h : i < len0 then Classical.choose (one i h) else 0) < M
      rw [dif_pos hi]
      exact (Classical.choose_spec (one i hi)).1
    · obtain ⟨rfl, hbl⟩ := hsp hn
      refine ⟨b0, s0, rfl, hbl, fun i hi => ?_⟩
      show ∀ j v, (wa (if h : i < len0 then Classical.choose (one i h) else 0))[j]? = some v → _
      rw [dif_pos hi]
      exact (Classical.choose_spec (one i hi)).2
end
end Go.Proofs.Ytdkjgpehlgejnaa
/- The statement on rows of stores: its walk. -/
namespace Go.Proofs.Ytdkjgpehlgejnaa
open Go.RowKit SmWord
set_option maxRecDepth 100000

theorem never_far (f : Nat) (A : Option Addr) (n c : Nat) (w : World) (hn : 500 < n) (hn2 : n ≤ maxLen) : Calls Try.prog 6 #[wd f, .slice A n c] w fun e w' => e = .returned (.bool true) ∧ Below w.heap.size w w' := by
  have hs := wa_size
  have KF := Lib.hid gfixed_walk
  have hn3 : n ≤ 9223372036854775807 := hn2
  have hc : decide (500 < (n : Int)) = true := by rw [decide_eq_true_eq]; omega
  go_enter Try.func6, Try.ntmps6
  go_wp2_with (go_at_call 10; refine (KF.out _).mono ?_; rintro e w3 ⟨rfl, b3⟩; have HB := Lib.hid b3; clear b3)
  go_ret
  exact ⟨rfl, ((Below.refl _ _).alloc (Nat.le_refl _) _).trans (HB.out.mono (by simp))⟩
theorem ws_cells {w : World} {b off n : Nat} {X : Nat → Nat} {i : Nat} (h : ∀ i, i < n → ∀ j v, (wa (X i))[j]? = some v → w.cell? ⟨b, off + 4 * i + j, none⟩ = some v) (hi : i < n) :
    w.cell? ⟨b, off + i * 4, none⟩ = some (.int .u64 ((l0 (X i) : Nat) : Int)) ∧ w.cell? ⟨b, off + i * 4 + 1, none⟩ = some (.int .u64 ((l1 (X i) : Nat) : Int)) ∧ w.cell? ⟨b, off + i * 4 + 2, none⟩ = some (.int .u64 ((l2 (X i) : Nat) : Int)) ∧ w.cell? ⟨b, off + i * 4 + 3, none⟩ = some (.int .u64 ((l3 (X i) : Nat) : Int)) := by
  have k : ∀ j v, (wa (X i))[j]? = some v → w.cell? ⟨b, off + i * 4 + j, none⟩ = some v := fun j v hv => by
    have := h i hi j v hv
    rwa [Nat.mul_comm 4 i] at this
  exact ⟨k 0 _ rfl, k 1 _ rfl, k 2 _ rfl, k 3 _ rfl⟩
theorem store_old {w : World} {b n m : Nat} (hb : w.heap[b]? = some (.cells (wa n) 24)) : (storeCells ⟨b, 0, none⟩ (wa m).toList 0).run Try.prog w = .ok () (w.setRow b (wa m)) := by
  have := run_storeCells_from (P := Try.prog) b _ (wa m).toList 0 (wa n) w hb (by simp [wa_size]) (fun v hv => (Array.all_eq_true_iff_forall_mem.1 (wa_one (n := m))) v (by simpa using hv))
  simpa using this
theorem nw_lt {f n : Nat} {X : Nat → Nat} (hf : f < M) (hX : ∀ i, i < n → X i < M) : ∀ j, j ≤ n → nw f X j < M
  | 0, _ => hf
  | j + 1, h => hX j h
set_option maxHeartbeats 4000000 in
theorem never_near (f : Nat) (A : Option Addr) (n c : Nat) (X : Nat → Nat) (w : World) (hn : n ≤ 500) (hf : f < M) (hX : WsS w A n X) : Calls Try.prog 6 #[wd f, .slice A n c] w fun e w' => e = .returned (.bool true) ∧ Below w.heap.size w w' := by
  have hs := wa_size
  have fo := fold_wa
  have KF := Lib.hid gfixed_walk
  have hn3 : n ≤ 9223372036854775807 := by omega
  have hc : decide (500 < (n : Int)) = false := by rw [decide_eq_false_iff_not]; omega
  have hsn := store_new
  have HX := Lib.hid hX
  have HN := Lib.hid (nw_lt (n := n) hf hX.small)
  obtain ⟨W0, hW0⟩ : ∃ W0, w.alloc (.cells (wa f) 24) = W0 := ⟨_, rfl⟩
  obtain ⟨f0, f1, bW⟩ := boxes w f f
  have s0 : w.heap.size + 1 = W0.heap.size := by rw [← hW0]; simp
  have g0 : W0.heap[w.heap.size]? = some (.cells (wa f) 24) := hW0 ▸ heap_alloc_new _ _
  rw [hW0] at f0 f1 bW
  rw [s0] at f1
  have F0 := Lib.hid f0
  have F1 := Lib.hid f1
  have HB := Lib.hid bW
  have hbz : w.heap.size < W0.heap.size := by omega
  clear f0 f1 bW hX s0
  obtain ⟨p0, p1, p2, p3⟩ := wcells g0
  clear g0
  go_enter Try.func6, Try.ntmps6
  go_upto_region 1 with fail
  clear hW0
  go_upto_region 4 with fail
  clear p0 p1 p2 p3 hc
  generalize (W0.alloc (.cells (wa f) 24)) = W at *
  generalize W0.heap.size = z at *
  go_wp2_with fail
  go_loopw [6, 7, 19] (fun r c i wr => ∃ j : Nat, j ≤ n ∧ i = .int .i64 (j : Int) ∧ r = .int .i64 (refN f X j) ∧ c = .int .u64 ((cosN f X j : Nat) : Int) ∧ Hid (wr.heap[w.heap.size]? = some (.cells (wa f) 24)) ∧ Hid (wr.heap[z]? = some (.cells (wa (nw f X j)) 24)) ∧ Hid (Below w.heap.size w wr)) (fun _ _ i _ => n - (intOf i).toNat)
  case atStart => exact ⟨0, Nat.zero_le _, rfl, rfl, rfl, F0, F1, HB⟩
  case round =>
    clear F0 F1 HB
    obtain ⟨j, hj, rfl, rfl, rfl, F0, F1, HB⟩ := hrel
    by_cases hlt : j < n
    · obtain ⟨b, off, rfl, hbl, hcs⟩ := (HX.out.below HB.out).cells (by omega)
      obtain ⟨q0, q1, q2, q3⟩ := ws_cells hcs hlt
      have hjn : (j : Int) < (n : Int) := by omega
      have hx := HX.out.small j hlt
      have KS := Lib.hid fun w => sstore_wd f (nw f X j) (X j) false w hf (HN.out j hj) hx
      have hr0 := refN_nought f X j
      have hr1 := refN_le f X j
      have hr2 := refN_nought f X (j + 1)
      have hsB := sB_le f (nw f X j) (X j)
      have hc1 := cosN_le f X j
      have hsC := sC_le f (nw f X j) (X j)
      have er : refN f X (j + 1) = refN f X j + sB f (nw f X j) (X j) := rfl
      have ec : cosN f X (j + 1) = cosN f X j + sC f (nw f X j) (X j) := rfl
      simp only [Bool.false_eq_true, if_false, Nat.zero_add] at KS
      clear hcs hx
      go_upto_region 8 with fail
      clear q0 q1 q2 q3
      have F9 : Hid ((wr.alloc (.cells (wa (X j)) 24)).heap[wr.heap.size]? = some (.cells (wa (X j)) 24)) := Lib.hid (heap_alloc_new _ _)
      replace F0 := Lib.hid (blk_alloc (o' := .cells (wa (X j)) 24) F0.out)
      replace F1 := Lib.hid (blk_alloc (o' := .cells (wa (X j)) 24) F1.out)
      replace HB := Lib.hid (HB.out.alloc HB.out.size (.cells (wa (X j)) 24))
      generalize (wr.alloc (.cells (wa (X j)) 24)) = V at *
      generalize wr.heap.size = y at *
      generalize sB f (nw f X j) (X j) = S at *
      generalize sC f (nw f X j) (X j) = D at *
      rw [er] at hr2
      replace er := Lib.hid er
      replace ec := Lib.hid ec
      generalize refN f X j = R at *
      generalize cosN f X j = C at *
      obtain ⟨p0, p1, p2, p3⟩ := wcells F0.out
      obtain ⟨r0, r1, r2, r3⟩ := wcells F1.out
      obtain ⟨s0, s1, s2, s3⟩ := wcells F9.out
      go_upto_region 9 with (go_at_call 22; refine (KS.out _).mono ?_; rintro e w1 ⟨rfl, b1⟩; replace HB := Lib.hid (HB.out.trans (b1.mono HB.out.size)); replace F0 := Lib.hid (stay b1 F0.out); replace F1 := Lib.hid (stay b1 F1.out); replace F9 := Lib.hid (stay b1 F9.out); clear b1)
      clear p0 p1 p2 p3 r0 r1 r2 r3 s0 s1 s2 s3 KS
      obtain ⟨s0, s1, s2, s3⟩ := wcells F9.out
      have so := store_old (m := X j) F1.out
      have hd : decide (R + S < 0) = false := by rw [decide_eq_false_iff_not]; omega
      go_wp2_with fail
      clear so
      refine ⟨⟨j + 1, by omega, by go_num, ?_, ?_, Lib.hid (blk_row_other F0.out (by omega)), Lib.hid ?_, Lib.hid (below_setRow HB.out (by omega) _)⟩, by simp only [intOf]; omega⟩
      · rw [er.out]
      · rw [ec.out]; simp
      · exact blk_row F1.out
    · obtain rfl : j = n := by omega
      have hr0 := refN_nought f X j
      have hr1 := refN_le f X j
      have hc1 := cosN_le f X j
      have hnl := HN.out j hj
      have E : ∀ w : World, (Op.equalIn 10000 24 (.agg (wa (nw f X j))) (.agg (wa f))).run Try.prog w = .ok (decide (nw f X j = f)) w := fun w => by
        rw [equal_wa, Nat.mod_eq_of_lt hnl, Nat.mod_eq_of_lt hf]
      have eg := Try.guardW
      by_cases hnf : nw f X j = f
      · rw [decide_eq_true hnf] at E
        by_cases h0 : j = 0
        · subst h0
          clear hnf hr0 hr1 hc1 hnl HN HX
          generalize nw f X 0 = m at *
          generalize refN f X 0 = R at *
          generalize cosN f X 0 = C at *
          go_wp2_with (go_at_call 10; refine (KF.out _).mono ?_; rintro e w3 ⟨rfl, b3⟩; have F0' := Lib.hid (stay b3 F0.out); have F1' := Lib.hid (stay b3 F1.out); have HB' := Lib.hid (HB.out.trans (b3.mono HB.out.size)); clear b3; obtain ⟨p0, p1, p2, p3⟩ := wcells F0'.out; obtain ⟨r0, r1, r2, r3⟩ := wcells F1'.out)
          go_ret
          exact ⟨rfl, HB'.out⟩
        · have hls := refN_less f X j (by omega) hnf
          have hj0 : ((j : Int) == 0) = false := by rw [beq_eq_false_iff_ne]; omega
          clear hnf hnl HN HX
          generalize nw f X j = m at *
          generalize refN f X j = R at *
          generalize cosN f X j = C at *
          go_wp2_with (go_at_call 10; refine (KF.out _).mono ?_; rintro e w3 ⟨rfl, b3⟩; have F0' := Lib.hid (stay b3 F0.out); have F1' := Lib.hid (stay b3 F1.out); have HB' := Lib.hid (HB.out.trans (b3.mono HB.out.size)); clear b3; obtain ⟨p0, p1, p2, p3⟩ := wcells F0'.out; obtain ⟨r0, r1, r2, r3⟩ := wcells F1'.out)
          go_ret
          exact ⟨rfl, HB'.out⟩
      · rw [decide_eq_false hnf] at E
        clear hnf hnl HN HX
        generalize nw f X j = m at *
        generalize refN f X j = R at *
        generalize cosN f X j = C at *
        go_wp2_with (go_at_call 10; refine (KF.out _).mono ?_; rintro e w3 ⟨rfl, b3⟩; have F0' := Lib.hid (stay b3 F0.out); have F1' := Lib.hid (stay b3 F1.out); have HB' := Lib.hid (HB.out.trans (b3.mono HB.out.size)); clear b3; obtain ⟨p0, p1, p2, p3⟩ := wcells F0'.out; obtain ⟨r0, r1, r2, r3⟩ := wcells F1'.out)
        go_ret
        exact ⟨rfl, HB'.out⟩
theorem never_walk (f : Nat) (A : Option Addr) (n c : Nat) (X : Nat → Nat) (w : World) (hn : n ≤ maxLen) (hf : f < M) (hX : WsS w A n X) : Calls Try.prog 6 #[wd f, .slice A n c] w fun e w' => e = .returned (.bool true) ∧ Below w.heap.size w w' := by
  by_cases h : n ≤ 500
  · exact never_near f A n c X w h hf hX
  · exact never_far f A n c w (by omega) hn
end Go.Proofs.Ytdkjgpehlgejnaa
