/- Which quantity a text says: the document's Word. -/
import Derived.Test.YtlplncfonphkeaaDoorHxJ
import Derived.Test.YtlplncfonphkeaaDoorShiftR
import Derived.Test.YtlplncfonphkeaaDoorRefB
namespace Go.Proofs.YtlplncfonphkeaaDoor
open Go.RowKit SmWord
set_option maxRecDepth 100000

theorem run_build_fst {P : Program} {o : Oper} {t : TypeId} {z : Array Value} {x : Operand} {k : IntKind} {i : Int} (ho : o.op = .build t #[(0, x)]) {n : Nat} {e : TypeId} (hu : P.underlying t = some (.array n e)) (hn : 0 < n) (he : ∀ w : World, (sizeOf e).run P w = .ok 1 w) (hz : ∀ w : World, (zeroValue t).run P w = .ok (.agg z) w) (hzn : z.size = n)
    (ρ : Operand → Value) (w : World) (hx : ρ x = .int k i) : (execOp ρ o).run P w = .ok (.value (.agg (z.setIfInBounds 0 (.int k i)))) w := by
  obtain ⟨dst, op, type, pos, after, guard⟩ := o
  simp only at ho
  subst ho
  have h0 : ¬ z = #[] := by rintro rfl; simp at hzn; omega
  simp [execOp, go_sem, hz, run_underlying hu, he, hx, h0]
theorem wpList_build_fst {P : Program} {ops : Array Oper} {Q : Exit → Act → World → Prop} {a : Act} {w : World} {rest : List Oper} {o : Oper} (hg : o.guard = none) (t : TypeId) (x : Operand) (ho : o.op = .build t #[(0, x)]) {n : Nat} {e : TypeId} (hu : P.underlying t = some (.array n e)) (hn : 0 < n) (he : ∀ w : World, (sizeOf e).run P w = .ok 1 w) (z : Array Value) (hz : ∀ w : World, (zeroValue t).run P w = .ok (.agg z) w) (hzn : z.size = n) (k : IntKind) (i : Int) (v : Value)
    (hx : a.eval x = .int k i) (hv : Value.agg (z.setIfInBounds 0 (.int k i)) = v) (h : wpList P ops Q rest (a.put o.dst v) w) : wpList P ops Q (o :: rest) a w :=
  wpList_plain hg fun _ hK => by
    unfold Oper.wp
    rw [run_build_fst ho hu hn he hz hzn a.eval w hx, hv]
    exact hK _ _ h
theorem one_dig {v : Nat} (hv : v < 256) : Value.agg (zD.setIfInBounds 0 (Value.int .i64 (v : Int))) = .agg (da v) := by
  unfold zD da
  rw [arr_set _ _ _ (by decide)]
  congr 1
  refine arr_congr fun i hi => ?_
  unfold dig
  by_cases h : i = 0
  · subst h; simp; omega
  · have h1 : v < 256 ^ i := Nat.lt_of_lt_of_le hv (by
      calc 256 = 256 ^ 1 := rfl
        _ ≤ 256 ^ i := Nat.pow_le_pow_right (by decide) (by omega))
    rw [if_neg h, Nat.div_eq_of_lt h1]; rfl
theorem four_bits (a : Nat) : ∀ i : Nat, i < 256 → bitI a ((i : Int) - 4) = ((bitN (a % M * 2 ^ 4) i : Nat) : Int) := fun i hi => by
  unfold bitI
  by_cases h : i < 4
  · rw [if_pos (by omega), bit_up_low _ _ _ h]; rfl
  · rw [if_neg (by omega), show ((i : Int) - 4).toNat = i - 4 by omega, bit_up _ _ _ (by omega)]
    rw [bit_congr (Nat.mod_mod a M) (by omega)]
theorem nm_next {d : List UInt8} {k : Nat} (hk : k < d.length) : da (nm (d.take k) % M * 2 ^ 4 + vc (d.getD k 0).toNat) = da (nm (d.take (k + 1))) := by
  refine da_congr ?_
  rw [List.take_succ_eq_append_getElem hk, nm_snoc]
  have e : d[k] = d.getD k 0 := by rw [List.getD, List.getElem?_eq_getElem hk]; rfl
  rw [e]
  show (_ % M * 16 + vl _) % M = _
  rw [Nat.add_mod, Nat.mod_mul_mod, ← Nat.add_mod, Nat.mul_comm]
set_option maxHeartbeats 1000000 in
theorem rword_no0 (s : ByteArray) (w : World) (hs : s.size < 3) :
    Calls Tryd.prog 14 #[.string s] w fun e w' => e = .returned (.tuple #[wd 0, .int .i64 2]) ∧ Below w.heap.size w w' := by
  go_enter Tryd.func14, Tryd.ntmps14
  go_wp2_with fail
  refine bodyPost_ret (v := .tuple #[wd 0, .int .i64 2]) (results_pair rfl _ _ _ 25 (wa 0) (0, 0) _ _ rfl (heap_alloc_new _ _) Tryd.underlying25 rfl Tryd.infoWa rfl) rfl ⟨rfl, (Below.refl _ _).alloc (Nat.le_refl _) _⟩
set_option maxHeartbeats 1000000 in
theorem rword_no1 (s : ByteArray) (x y z : Nat) (w : World) (h3 : 3 ≤ s.size) (hn : s.size ≤ 140737488355328) (h0 : s[0].toNat = x) (h1 : s[1].toNat = y) (h2 : s[2].toNat = z) (h : ¬ (x = 48 ∧ y = 120 ∧ (z = 48 → s.size = 3))) :
    Calls Tryd.prog 14 #[.string s] w fun e w' => e = .returned (.tuple #[wd 0, .int .i64 2]) ∧ Below w.heap.size w w' := by
  by_cases hx : x = 48
  · by_cases hy : y = 120
    · have hz : z = 48 ∧ 3 < s.size := by omega
      obtain ⟨rfl, h4⟩ := hz
      subst hx; subst hy
      clear h
      go_enter Tryd.func14, Tryd.ntmps14
      go_wp2_with fail
      refine bodyPost_ret (v := .tuple #[wd 0, .int .i64 2]) (results_pair rfl _ _ _ 25 (wa 0) (0, 0) _ _ rfl (heap_alloc_new _ _) Tryd.underlying25 rfl Tryd.infoWa rfl) rfl ⟨rfl, (Below.refl _ _).alloc (Nat.le_refl _) _⟩
    · subst hx
      clear h
      go_enter Tryd.func14, Tryd.ntmps14
      go_wp2_with fail
      all_goals first | (exfalso; omega) | (refine bodyPost_ret (v := .tuple #[wd 0, .int .i64 2]) (results_pair rfl _ _ _ 25 (wa 0) (0, 0) _ _ rfl (heap_alloc_new _ _) Tryd.underlying25 rfl Tryd.infoWa rfl) rfl ⟨rfl, (Below.refl _ _).alloc (Nat.le_refl _) _⟩)
  · clear h
    go_enter Tryd.func14, Tryd.ntmps14
    go_wp2_with fail
    all_goals first | (exfalso; omega) | (refine bodyPost_ret (v := .tuple #[wd 0, .int .i64 2]) (results_pair rfl _ _ _ 25 (wa 0) (0, 0) _ _ rfl (heap_alloc_new _ _) Tryd.underlying25 rfl Tryd.infoWa rfl) rfl ⟨rfl, (Below.refl _ _).alloc (Nat.le_refl _) _⟩)
/-- What the document's Word leaves behind 0x and digits that have no nought ahead. -/
def LeftW (d : List UInt8) (w : World) (e : Ending) (w' : World) : Prop :=
  (¬ okD d → e = .returned (.tuple #[wd 0, .int .i64 2])) ∧ (okD d → 64 < d.length → e = .returned (.tuple #[wd 0, .int .i64 4])) ∧
  (okD d → d.length ≤ 64 → e = .returned (.tuple #[wd (nm d), .int .i64 0])) ∧ Below w.heap.size w w'
theorem leftW_no {d : List UInt8} {w w' : World} (h : ¬ okD d) (hb : Below w.heap.size w w') : LeftW d w (.returned (.tuple #[wd 0, .int .i64 2])) w' :=
  ⟨fun _ => rfl, fun h' => absurd h' h, fun h' => absurd h' h, hb⟩
theorem leftW_long {d : List UInt8} {w w' : World} (h : okD d) (hl : 64 < d.length) (hb : Below w.heap.size w w') : LeftW d w (.returned (.tuple #[wd 0, .int .i64 4])) w' :=
  ⟨fun h' => absurd h h', fun _ _ => rfl, fun _ h' => by omega, hb⟩
theorem leftW_ok {d : List UInt8} {w w' : World} (h : okD d) (hl : d.length ≤ 64) (hb : Below w.heap.size w w') : LeftW d w (.returned (.tuple #[wd (nm d), .int .i64 0])) w' :=
  ⟨fun h' => absurd h h', fun _ h' => by omega, fun _ _ => rfl, hb⟩
theorem da_none (d : List UInt8) : da (nm (d.take 0)) = zD := by
  rw [show nm (d.take 0) = 0 from rfl]
  unfold da zD
  exact arr_congr fun i _ => by simp [dig]
set_option maxHeartbeats 4000000 in
theorem rword_walk (s : ByteArray) (z : Nat) (d : List UInt8) (w : World) (h3 : 3 ≤ s.size) (hn : s.size ≤ 140737488355328) (h0 : s[0].toNat = 48) (h1 : s[1].toNat = 120) (h2 : s[2].toNat = z)
    (hh : (z = 48 ∧ s.size = 3) ∨ ((z : Int) == 48) = false) (hs : Hid (Str s (48 :: 120 :: d))) :
    Calls Tryd.prog 14 #[.string s] w (LeftW d w) := by
  have hz := wa_size
  have w0 : (#[Value.int .u64 0, .int .u64 0, .int .u64 0, .int .u64 0] : Array Value) = wa 0 := rfl
  have q3 : decide ((s.size : Int) < 3) = false := decide_eq_false (by omega)
  have HW1 := Lib.hid (show Below w.heap.size w (((w.alloc (.cells (wa 0) 25)).alloc (.cells zD 65)).setRow (w.heap.size + 1) zD) from below_setRow (((Below.refl _ _).alloc (Nat.le_refl _) _).alloc (by simp) _) (by omega) _)
  have HF0 := Lib.hid (show (((w.alloc (.cells (wa 0) 25)).alloc (.cells zD 65)).setRow (w.heap.size + 1) zD).heap[w.heap.size]? = some (.cells (wa 0) 25) from blk_row_other (blk_alloc (heap_alloc_new _ _)) (by omega))
  have HF1 := Lib.hid (show (((w.alloc (.cells (wa 0) 25)).alloc (.cells zD 65)).setRow (w.heap.size + 1) zD).heap[w.heap.size + 1]? = some (.cells (da (nm (d.take 0))) 65) from (blk_row (heap_alloc2_new _ _ _)).trans (by rw [da_none]))
  rcases hh with ⟨rfl, hsz⟩ | hc
  · have h4 : s.size ≤ 3 := by omega
    have hc := trivial
    clear hsz
    go_enter Tryd.func14, Tryd.ntmps14
    go_wp2_with (first | (refine wpList_alloc_row rfl 65 rfl zD zD_run ?_) | (refine wpList_build_zero rfl 65 rfl Tryd.underlying65 Tryd.sizeOf3 zD zD_run ?_) | (refine wpList_store_row rfl 65 _ _ rfl _ zD zD rfl rfl (heap_alloc_new _ _) (infoArr _) rfl (arr_one _ _ _) ?_))
    generalize ((w.alloc (.cells (wa 0) 25)).alloc (.cells zD 65)).setRow (w.heap.size + 1) zD = W at *
    clear h0 h1 h2 q3 hc
    go_loopw [5] (fun i wr => ∃ k : Nat, k + 2 ≤ s.size ∧ i = .int .i64 ((k + 2 : Nat) : Int) ∧ okD (d.take k) ∧ wr.heap[w.heap.size]? = some (.cells (wa 0) 25) ∧ wr.heap[w.heap.size + 1]? = some (.cells (da (nm (d.take k))) 65) ∧ Below w.heap.size w wr) (fun i _ => s.size - (intOf i).toNat)
    case atStart => exact ⟨0, by omega, rfl, (by intro c hc; cases hc), HF0.out, HF1.out, HW1.out⟩
    case round =>
      obtain ⟨k, hk, rfl, ho, hr, hd, hb⟩ := hrel
      have HO := Lib.hid ho
      have HR := Lib.hid hr
      have HD := Lib.hid hd
      have HB := Lib.hid hb
      clear ho hr hd hb HF0 HF1 HW1
      by_cases hlt : k + 2 < s.size
      · have g1 := hs.out.get (k + 2) hlt
        rw [show (48 :: 120 :: d).getD (k + 2) 0 = d.getD k 0 from rfl] at g1
        have hl : k < d.length := by have := hs.out.size; simp at this; omega
        have HT := Lib.hid (fun h => okD_take HO.out hl h)
        have HX := Lib.hid (fun h => okD_bad (d := d) (k := k) hl h)
        have HN := Lib.hid (nm_next hl)
        have c1 := UInt8.toNat_lt (d.getD k 0)
        have v1 := vc_lt (d.getD k 0).toNat
        clear hl HO
        generalize (d.getD k 0).toNat = c at *
        generalize hp : k + 2 = p at *
        have HP := Lib.hid hp
        clear hp
        by_cases hx : vc c < 16
        · clear v1 HX
          have HV := Lib.hid (one_dig (v := vc c) (by omega))
          go_wp2_with (first | (go_at_call 27; refine (rvalue_yes c _ c1 hx).mono ?_; rintro e w' ⟨rfl, rfl⟩) | (refine wpList_load_row rfl 65 _ rfl _ rfl 65 (da (nm (d.take k))) (0, 0) _ HD.out Tryd.underlying65 rfl (infoArr _) ?_))
          refine (shift_ref (nm (d.take k)) (nm (d.take k) % M * 2 ^ 4) 4 _ (by decide) (by decide) (Lib.hid (four_bits _))).mono ?_
          rintro e w1 ⟨rfl, b1⟩
          have HR1 := Lib.hid (below_of b1 HR.out)
          have HD1 := Lib.hid (below_of b1 HD.out)
          have HB1 := Lib.hid (HB.out.trans (b1.mono HB.out.size))
          clear b1 HR HD HB
          go_wp2_with (refine wpList_build_fst rfl 65 _ rfl Tryd.underlying65 (by decide) Tryd.sizeOf3 zD zD_run (arr_size _ _ _) .i64 _ (.agg (da (vc c))) rfl HV.out ?_)
          refine (add_ref _ (vc c) _).mono ?_
          rintro e w2 ⟨rfl, b2⟩
          have HR := Lib.hid (below_of b2 HR1.out)
          have HD := Lib.hid (below_of b2 HD1.out)
          have HB := Lib.hid (HB1.out.trans (b2.mono HB1.out.size))
          clear b2 HR1 HD1 HB1
          go_wp2_with (refine wpList_store_row rfl 65 _ _ rfl _ (da (nm (d.take k))) _ rfl rfl HD.out (infoArr _) rfl (arr_one _ _ _) ?_)
          have hp := HP.out
          refine ⟨⟨k + 1, by omega, by rw [show k + 1 + 2 = p + 1 by omega]; go_num, HT.out hx, blk_row_other HR.out (by omega), ?_, below_setRow HB.out (by omega) _⟩, by simp [intOf]; omega⟩
          rw [← HN.out]
          exact blk_row HD.out
        · have hx1 : vc c = 16 := by omega
          clear v1 hx
          have HN := HX hx1
          clear HX
          go_wp2_with (first | (go_at_call 27; refine (rvalue_no c _ c1 hx1).mono ?_; rintro e w' ⟨rfl, rfl⟩) | (refine wpList_store_row rfl 25 _ _ rfl _ (wa 0) (wa 0) rfl rfl HR.out Tryd.infoWa rfl wa_one ?_))
          refine bodyPost_ret (v := .tuple #[wd 0, .int .i64 2]) (results_pair rfl _ _ _ 25 (wa 0) (0, 0) _ _ rfl (blk_row HR.out) Tryd.underlying25 rfl Tryd.infoWa rfl) rfl (leftW_no HN (below_setRow HB.out (Nat.le_refl _) _))
      · have hl : d.length = k := by have := hs.out.size; simp at this; omega
        have hok : okD d := by have := HO.out; rwa [List.take_of_length_le (by omega)] at this
        have hv : d.take k = d := List.take_of_length_le (by omega)
        have HV := Lib.hid hv
        have HL := Lib.hid hl
        have HK := Lib.hid hok
        clear hl hok hv
        generalize hp : k + 2 = p at *
        have HP := Lib.hid hp
        clear hp
        have hp1 : p = s.size := by omega
        subst hp1
        have H64 := Lib.hid (show d.length + 2 = s.size by have := HL.out; have := HP.out; omega)
        clear HP
        by_cases h64 : 66 < s.size
        · go_wp2_with (refine wpList_store_row rfl 25 _ _ rfl _ (wa 0) (wa 0) rfl rfl HR.out Tryd.infoWa rfl wa_one ?_)
          all_goals refine bodyPost_ret (v := .tuple #[wd 0, .int .i64 4]) (results_pair rfl _ _ _ 25 (wa 0) (0, 0) _ _ rfl (blk_row HR.out) Tryd.underlying25 rfl Tryd.infoWa rfl) rfl (leftW_long HK.out (by have := H64.out; omega) (below_setRow HB.out (Nat.le_refl _) _))
        · rw [HV.out] at HD
          go_wp2_with (first | (refine wpList_load_row rfl 65 _ rfl _ rfl 65 (da (nm d)) (0, 0) _ HD.out Tryd.underlying65 rfl (infoArr _) ?_))
          refine (word_ref (nm d) _).mono ?_
          rintro e w2 ⟨rfl, b2⟩
          have HR1 := Lib.hid (below_of b2 HR.out)
          have HB1 := Lib.hid (HB.out.trans (b2.mono HB.out.size))
          clear b2 HR HB
          have HR := HR1
          have HB := HB1
          clear HR1 HB1
          go_wp2_with (refine wpList_store_row rfl 25 _ _ rfl _ (wa 0) (wa (nm d)) rfl rfl HR.out Tryd.infoWa rfl wa_one ?_)
          refine bodyPost_ret (v := .tuple #[wd (nm d), .int .i64 0]) (results_pair rfl _ _ _ 25 (wa (nm d)) (0, 0) _ _ rfl (blk_row HR.out) Tryd.underlying25 rfl Tryd.infoWa rfl) rfl (leftW_ok HK.out (by have := H64.out; omega) (below_setRow HB.out (Nat.le_refl _) _))
  · have hc' : 3 < s.size ∨ s.size ≤ 3 := by omega
    rcases hc' with h4 | h4
    · go_enter Tryd.func14, Tryd.ntmps14
      go_wp2_with (first | (refine wpList_alloc_row rfl 65 rfl zD zD_run ?_) | (refine wpList_build_zero rfl 65 rfl Tryd.underlying65 Tryd.sizeOf3 zD zD_run ?_) | (refine wpList_store_row rfl 65 _ _ rfl _ zD zD rfl rfl (heap_alloc_new _ _) (infoArr _) rfl (arr_one _ _ _) ?_))
      generalize ((w.alloc (.cells (wa 0) 25)).alloc (.cells zD 65)).setRow (w.heap.size + 1) zD = W at *
      clear h0 h1 h2 q3 hc
      go_loopw [5] (fun i wr => ∃ k : Nat, k + 2 ≤ s.size ∧ i = .int .i64 ((k + 2 : Nat) : Int) ∧ okD (d.take k) ∧ wr.heap[w.heap.size]? = some (.cells (wa 0) 25) ∧ wr.heap[w.heap.size + 1]? = some (.cells (da (nm (d.take k))) 65) ∧ Below w.heap.size w wr) (fun i _ => s.size - (intOf i).toNat)
      case atStart => exact ⟨0, by omega, rfl, (by intro c hc; cases hc), HF0.out, HF1.out, HW1.out⟩
      case round =>
        obtain ⟨k, hk, rfl, ho, hr, hd, hb⟩ := hrel
        have HO := Lib.hid ho
        have HR := Lib.hid hr
        have HD := Lib.hid hd
        have HB := Lib.hid hb
        clear ho hr hd hb HF0 HF1 HW1
        by_cases hlt : k + 2 < s.size
        · have g1 := hs.out.get (k + 2) hlt
          rw [show (48 :: 120 :: d).getD (k + 2) 0 = d.getD k 0 from rfl] at g1
          have hl : k < d.length := by have := hs.out.size; simp at this; omega
          have HT := Lib.hid (fun h => okD_take HO.out hl h)
          have HX := Lib.hid (fun h => okD_bad (d := d) (k := k) hl h)
          have HN := Lib.hid (nm_next hl)
          have c1 := UInt8.toNat_lt (d.getD k 0)
          have v1 := vc_lt (d.getD k 0).toNat
          clear hl HO
          generalize (d.getD k 0).toNat = c at *
          generalize hp : k + 2 = p at *
          have HP := Lib.hid hp
          clear hp
          by_cases hx : vc c < 16
          · clear v1 HX
            have HV := Lib.hid (one_dig (v := vc c) (by omega))
            go_wp2_with (first | (go_at_call 27; refine (rvalue_yes c _ c1 hx).mono ?_; rintro e w' ⟨rfl, rfl⟩) | (refine wpList_load_row rfl 65 _ rfl _ rfl 65 (da (nm (d.take k))) (0, 0) _ HD.out Tryd.underlying65 rfl (infoArr _) ?_))
            refine (shift_ref (nm (d.take k)) (nm (d.take k) % M * 2 ^ 4) 4 _ (by decide) (by decide) (Lib.hid (four_bits _))).mono ?_
            rintro e w1 ⟨rfl, b1⟩
            have HR1 := Lib.hid (below_of b1 HR.out)
            have HD1 := Lib.hid (below_of b1 HD.out)
            have HB1 := Lib.hid (HB.out.trans (b1.mono HB.out.size))
            clear b1 HR HD HB
            go_wp2_with (refine wpList_build_fst rfl 65 _ rfl Tryd.underlying65 (by decide) Tryd.sizeOf3 zD zD_run (arr_size _ _ _) .i64 _ (.agg (da (vc c))) rfl HV.out ?_)
            refine (add_ref _ (vc c) _).mono ?_
            rintro e w2 ⟨rfl, b2⟩
            have HR := Lib.hid (below_of b2 HR1.out)
            have HD := Lib.hid (below_of b2 HD1.out)
            have HB := Lib.hid (HB1.out.trans (b2.mono HB1.out.size))
            clear b2 HR1 HD1 HB1
            go_wp2_with (refine wpList_store_row rfl 65 _ _ rfl _ (da (nm (d.take k))) _ rfl rfl HD.out (infoArr _) rfl (arr_one _ _ _) ?_)
            have hp := HP.out
            refine ⟨⟨k + 1, by omega, by rw [show k + 1 + 2 = p + 1 by omega]; go_num, HT.out hx, blk_row_other HR.out (by omega), ?_, below_setRow HB.out (by omega) _⟩, by simp [intOf]; omega⟩
            rw [← HN.out]
            exact blk_row HD.out
          · have hx1 : vc c = 16 := by omega
            clear v1 hx
            have HN := HX hx1
            clear HX
            go_wp2_with (first | (go_at_call 27; refine (rvalue_no c _ c1 hx1).mono ?_; rintro e w' ⟨rfl, rfl⟩) | (refine wpList_store_row rfl 25 _ _ rfl _ (wa 0) (wa 0) rfl rfl HR.out Tryd.infoWa rfl wa_one ?_))
            refine bodyPost_ret (v := .tuple #[wd 0, .int .i64 2]) (results_pair rfl _ _ _ 25 (wa 0) (0, 0) _ _ rfl (blk_row HR.out) Tryd.underlying25 rfl Tryd.infoWa rfl) rfl (leftW_no HN (below_setRow HB.out (Nat.le_refl _) _))
        · have hl : d.length = k := by have := hs.out.size; simp at this; omega
          have hok : okD d := by have := HO.out; rwa [List.take_of_length_le (by omega)] at this
          have hv : d.take k = d := List.take_of_length_le (by omega)
          have HV := Lib.hid hv
          have HL := Lib.hid hl
          have HK := Lib.hid hok
          clear hl hok hv
          generalize hp : k + 2 = p at *
          have HP := Lib.hid hp
          clear hp
          have hp1 : p = s.size := by omega
          subst hp1
          have H64 := Lib.hid (show d.length + 2 = s.size by have := HL.out; have := HP.out; omega)
          clear HP
          by_cases h64 : 66 < s.size
          · go_wp2_with (refine wpList_store_row rfl 25 _ _ rfl _ (wa 0) (wa 0) rfl rfl HR.out Tryd.infoWa rfl wa_one ?_)
            all_goals refine bodyPost_ret (v := .tuple #[wd 0, .int .i64 4]) (results_pair rfl _ _ _ 25 (wa 0) (0, 0) _ _ rfl (blk_row HR.out) Tryd.underlying25 rfl Tryd.infoWa rfl) rfl (leftW_long HK.out (by have := H64.out; omega) (below_setRow HB.out (Nat.le_refl _) _))
          · rw [HV.out] at HD
            go_wp2_with (first | (refine wpList_load_row rfl 65 _ rfl _ rfl 65 (da (nm d)) (0, 0) _ HD.out Tryd.underlying65 rfl (infoArr _) ?_))
            refine (word_ref (nm d) _).mono ?_
            rintro e w2 ⟨rfl, b2⟩
            have HR1 := Lib.hid (below_of b2 HR.out)
            have HB1 := Lib.hid (HB.out.trans (b2.mono HB.out.size))
            clear b2 HR HB
            have HR := HR1
            have HB := HB1
            clear HR1 HB1
            go_wp2_with (refine wpList_store_row rfl 25 _ _ rfl _ (wa 0) (wa (nm d)) rfl rfl HR.out Tryd.infoWa rfl wa_one ?_)
            refine bodyPost_ret (v := .tuple #[wd (nm d), .int .i64 0]) (results_pair rfl _ _ _ 25 (wa (nm d)) (0, 0) _ _ rfl (blk_row HR.out) Tryd.underlying25 rfl Tryd.infoWa rfl) rfl (leftW_ok HK.out (by have := H64.out; omega) (below_setRow HB.out (Nat.le_refl _) _))
    · go_enter Tryd.func14, Tryd.ntmps14
      go_wp2_with (first | (refine wpList_alloc_row rfl 65 rfl zD zD_run ?_) | (refine wpList_build_zero rfl 65 rfl Tryd.underlying65 Tryd.sizeOf3 zD zD_run ?_) | (refine wpList_store_row rfl 65 _ _ rfl _ zD zD rfl rfl (heap_alloc_new _ _) (infoArr _) rfl (arr_one _ _ _) ?_))
      generalize ((w.alloc (.cells (wa 0) 25)).alloc (.cells zD 65)).setRow (w.heap.size + 1) zD = W at *
      clear h0 h1 h2 q3 hc
      go_loopw [5] (fun i wr => ∃ k : Nat, k + 2 ≤ s.size ∧ i = .int .i64 ((k + 2 : Nat) : Int) ∧ okD (d.take k) ∧ wr.heap[w.heap.size]? = some (.cells (wa 0) 25) ∧ wr.heap[w.heap.size + 1]? = some (.cells (da (nm (d.take k))) 65) ∧ Below w.heap.size w wr) (fun i _ => s.size - (intOf i).toNat)
      case atStart => exact ⟨0, by omega, rfl, (by intro c hc; cases hc), HF0.out, HF1.out, HW1.out⟩
      case round =>
        obtain ⟨k, hk, rfl, ho, hr, hd, hb⟩ := hrel
        have HO := Lib.hid ho
        have HR := Lib.hid hr
        have HD := Lib.hid hd
        have HB := Lib.hid hb
        clear ho hr hd hb HF0 HF1 HW1
        by_cases hlt : k + 2 < s.size
        · have g1 := hs.out.get (k + 2) hlt
          rw [show (48 :: 120 :: d).getD (k + 2) 0 = d.getD k 0 from rfl] at g1
          have hl : k < d.length := by have := hs.out.size; simp at this; omega
          have HT := Lib.hid (fun h => okD_take HO.out hl h)
          have HX := Lib.hid (fun h => okD_bad (d := d) (k := k) hl h)
          have HN := Lib.hid (nm_next hl)
          have c1 := UInt8.toNat_lt (d.getD k 0)
          have v1 := vc_lt (d.getD k 0).toNat
          clear hl HO
          generalize (d.getD k 0).toNat = c at *
          generalize hp : k + 2 = p at *
          have HP := Lib.hid hp
          clear hp
          by_cases hx : vc c < 16
          · clear v1 HX
            have HV := Lib.hid (one_dig (v := vc c) (by omega))
            go_wp2_with (first | (go_at_call 27; refine (rvalue_yes c _ c1 hx).mono ?_; rintro e w' ⟨rfl, rfl⟩) | (refine wpList_load_row rfl 65 _ rfl _ rfl 65 (da (nm (d.take k))) (0, 0) _ HD.out Tryd.underlying65 rfl (infoArr _) ?_))
            refine (shift_ref (nm (d.take k)) (nm (d.take k) % M * 2 ^ 4) 4 _ (by decide) (by decide) (Lib.hid (four_bits _))).mono ?_
            rintro e w1 ⟨rfl, b1⟩
            have HR1 := Lib.hid (below_of b1 HR.out)
            have HD1 := Lib.hid (below_of b1 HD.out)
            have HB1 := Lib.hid (HB.out.trans (b1.mono HB.out.size))
            clear b1 HR HD HB
            go_wp2_with (refine wpList_build_fst rfl 65 _ rfl Tryd.underlying65 (by decide) Tryd.sizeOf3 zD zD_run (arr_size _ _ _) .i64 _ (.agg (da (vc c))) rfl HV.out ?_)
            refine (add_ref _ (vc c) _).mono ?_
            rintro e w2 ⟨rfl, b2⟩
            have HR := Lib.hid (below_of b2 HR1.out)
            have HD := Lib.hid (below_of b2 HD1.out)
            have HB := Lib.hid (HB1.out.trans (b2.mono HB1.out.size))
            clear b2 HR1 HD1 HB1
            go_wp2_with (refine wpList_store_row rfl 65 _ _ rfl _ (da (nm (d.take k))) _ rfl rfl HD.out (infoArr _) rfl (arr_one _ _ _) ?_)
            have hp := HP.out
            refine ⟨⟨k + 1, by omega, by rw [show k + 1 + 2 = p + 1 by omega]; go_num, HT.out hx, blk_row_other HR.out (by omega), ?_, below_setRow HB.out (by omega) _⟩, by simp [intOf]; omega⟩
            rw [← HN.out]
            exact blk_row HD.out
          · have hx1 : vc c = 16 := by omega
            clear v1 hx
            have HN := HX hx1
            clear HX
            go_wp2_with (first | (go_at_call 27; refine (rvalue_no c _ c1 hx1).mono ?_; rintro e w' ⟨rfl, rfl⟩) | (refine wpList_store_row rfl 25 _ _ rfl _ (wa 0) (wa 0) rfl rfl HR.out Tryd.infoWa rfl wa_one ?_))
            refine bodyPost_ret (v := .tuple #[wd 0, .int .i64 2]) (results_pair rfl _ _ _ 25 (wa 0) (0, 0) _ _ rfl (blk_row HR.out) Tryd.underlying25 rfl Tryd.infoWa rfl) rfl (leftW_no HN (below_setRow HB.out (Nat.le_refl _) _))
        · have hl : d.length = k := by have := hs.out.size; simp at this; omega
          have hok : okD d := by have := HO.out; rwa [List.take_of_length_le (by omega)] at this
          have hv : d.take k = d := List.take_of_length_le (by omega)
          have HV := Lib.hid hv
          have HL := Lib.hid hl
          have HK := Lib.hid hok
          clear hl hok hv
          generalize hp : k + 2 = p at *
          have HP := Lib.hid hp
          clear hp
          have hp1 : p = s.size := by omega
          subst hp1
          have H64 := Lib.hid (show d.length + 2 = s.size by have := HL.out; have := HP.out; omega)
          clear HP
          by_cases h64 : 66 < s.size
          · go_wp2_with (refine wpList_store_row rfl 25 _ _ rfl _ (wa 0) (wa 0) rfl rfl HR.out Tryd.infoWa rfl wa_one ?_)
            all_goals refine bodyPost_ret (v := .tuple #[wd 0, .int .i64 4]) (results_pair rfl _ _ _ 25 (wa 0) (0, 0) _ _ rfl (blk_row HR.out) Tryd.underlying25 rfl Tryd.infoWa rfl) rfl (leftW_long HK.out (by have := H64.out; omega) (below_setRow HB.out (Nat.le_refl _) _))
          · rw [HV.out] at HD
            go_wp2_with (first | (refine wpList_load_row rfl 65 _ rfl _ rfl 65 (da (nm d)) (0, 0) _ HD.out Tryd.underlying65 rfl (infoArr _) ?_))
            refine (word_ref (nm d) _).mono ?_
            rintro e w2 ⟨rfl, b2⟩
            have HR1 := Lib.hid (below_of b2 HR.out)
            have HB1 := Lib.hid (HB.out.trans (b2.mono HB.out.size))
            clear b2 HR HB
            have HR := HR1
            have HB := HB1
            clear HR1 HB1
            go_wp2_with (refine wpList_store_row rfl 25 _ _ rfl _ (wa 0) (wa (nm d)) rfl rfl HR.out Tryd.infoWa rfl wa_one ?_)
            refine bodyPost_ret (v := .tuple #[wd (nm d), .int .i64 0]) (results_pair rfl _ _ _ 25 (wa (nm d)) (0, 0) _ _ rfl (blk_row HR.out) Tryd.underlying25 rfl Tryd.infoWa rfl) rfl (leftW_ok HK.out (by have := H64.out; omega) (below_setRow HB.out (Nat.le_refl _) _))
theorem rword_any (d : List UInt8) (w : World) (hd : d ≠ []) (hn : d.length ≤ 1000000) (hh : ∀ t, d = 48 :: t → t = []) :
    Calls Tryd.prog 14 #[.string (str (48 :: 120 :: d))] w (LeftW d w) := by
  match d, hd, hn, hh with
  | c :: t, _, hn, hh =>
    have hz : (str (48 :: 120 :: c :: t)).size = t.length + 3 := str_size _
    have h3 : 3 ≤ (str (48 :: 120 :: c :: t)).size := by omega
    refine rword_walk (str (48 :: 120 :: c :: t)) c.toNat (c :: t) w h3 (by rw [hz]; simp at hn; omega) rfl rfl rfl ?_ (Lib.hid (Str.of _))
    by_cases h : c = 48
    · subst h
      exact .inl ⟨rfl, by rw [hz, hh t rfl]; rfl⟩
    · exact .inr (sign_int h)
theorem rword_no (l : List UInt8) (w : World) (hn : l.length ≤ 1000000) (h : ∀ d, ¬ wform l d) :
    Calls Tryd.prog 14 #[.string (str l)] w fun e w' => e = .returned (.tuple #[wd 0, .int .i64 2]) ∧ Below w.heap.size w w' := by
  match l, hn, h with
  | [], _, _ => exact rword_no0 _ w (by rw [str_size]; simp)
  | [a], _, _ => exact rword_no0 _ w (by rw [str_size]; simp)
  | [a, b], _, _ => exact rword_no0 _ w (by rw [str_size]; simp)
  | a :: b :: c :: t, hn, h =>
    have hz : (str (a :: b :: c :: t)).size = t.length + 3 := str_size _
    have hn' : t.length + 3 ≤ 1000000 := hn
    by_cases hf : a.toNat = 48 ∧ b.toNat = 120 ∧ (c.toNat = 48 → (str (a :: b :: c :: t)).size = 3)
    · obtain ⟨ha, hb, hc⟩ := hf
      obtain rfl := sign_of (d := 48) ha
      obtain rfl := sign_of (d := 120) hb
      have hh : ∀ u, c :: t = 48 :: u → u = [] := by
        intro u hu
        simp only [List.cons.injEq] at hu
        obtain ⟨rfl, rfl⟩ := hu
        have := hc rfl
        rw [hz] at this
        exact List.eq_nil_of_length_eq_zero (by omega)
      refine (rword_any (c :: t) w (by simp) (by simp; omega) hh).mono ?_
      rintro e w' ⟨hbad, _, _, hB⟩
      exact ⟨hbad fun ho => h (c :: t) ⟨rfl, ho, by simp, hh⟩, hB⟩
    · exact rword_no1 (str (a :: b :: c :: t)) a.toNat b.toNat c.toNat w (by omega) (by omega) rfl rfl rfl hf
theorem rword_long (l d : List UInt8) (w : World) (hn : d.length ≤ 1000000) (h : wform l d) (h64 : 64 < d.length) :
    Calls Tryd.prog 14 #[.string (str l)] w fun e w' => e = .returned (.tuple #[wd 0, .int .i64 4]) ∧ Below w.heap.size w w' := by
  obtain ⟨rfl, ho, hne, hh⟩ := h
  refine (rword_any d w hne hn hh).mono ?_
  rintro e w' ⟨_, h2, _, hB⟩
  exact ⟨h2 ho h64, hB⟩
theorem rword_ok (l d : List UInt8) (w : World) (h : wform l d) (h64 : d.length ≤ 64) :
    Calls Tryd.prog 14 #[.string (str l)] w fun e w' => e = .returned (.tuple #[wd (nm d), .int .i64 0]) ∧ Below w.heap.size w w' := by
  obtain ⟨rfl, ho, hne, hh⟩ := h
  refine (rword_any d w hne (by omega) hh).mono ?_
  rintro e w' ⟨_, _, h3, hB⟩
  exact ⟨h3 ho h64, hB⟩
end Go.Proofs.YtlplncfonphkeaaDoor
