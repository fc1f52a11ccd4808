/- The same account, the same accounts: the document's Same and SameAll. -/
import Derived.Test.YtpkoiifidlnbeaaG8
import Derived.Test.YtpkoiifidlnbeaaG4
import Derived.Test.YtpkoiifidlnbeaaG5
import Derived.Laws.BytesArg
import Derived.Test.YtpkoiifidlnbeaaGa
namespace Go.Proofs.Ytpkoiifidlnbeaa
open Go.RowKit SmWord
set_option maxRecDepth 100000

theorem equal_at {P : Program} {t e : TypeId} {n : Nat} {k k' : IntKind} (d : Nat) (hu : P.underlying t = some (.array n e)) (he : P.underlying e = some (.int k')) (hc : P.cellsOf e = 1)
    (xs ys : Array Value) (hx : xs.size = n) (hy : ys.size = n) (h : ∀ i, i < n → ∃ a b : Int, xs[i]? = some (.int k a) ∧ ys[i]? = some (.int k b)) (w : World) :
    ∃ r : Bool, (Op.equalIn (d + 2) t (.agg xs) (.agg ys)).run P w = .ok r w ∧ (r = true ↔ xs = ys) := by
  obtain ⟨i, hi⟩ := info_of_underlying he
  obtain ⟨r, hr, hiff⟩ := eqItems_ints he d xs ys w (List.range n) (fun j hj => h j (List.mem_range.1 hj))
  refine ⟨r, by rw [show d + 2 = d + 1 + 1 from rfl, run_equalIn_array w (d + 1) xs ys hu hi, hc]; exact hr, hiff.trans ⟨fun H => ?_, fun H => by simp [H]⟩⟩
  apply Array.ext_getElem?
  intro j
  by_cases hj : j < n
  · exact H j (List.mem_range.2 hj)
  · rw [Array.getElem?_eq_none (by omega), Array.getElem?_eq_none (by omega)]
theorem eq_refl_wa (k : Nat) (w : World) : (Op.equalIn 9999 27 (.agg (wa k)) (.agg (wa k))).run Try.prog w = .ok true w := by
  obtain ⟨r, hr, hiff⟩ := equal_at 9997 (k := .u64) Try.underlying27 Try.underlying25 Try.cells25 (wa k) (wa k) (wa_size k) (wa_size k) (fun i hi => by
    obtain ⟨a, ha⟩ := wa_get k i hi
    exact ⟨a, a, ha, ha⟩) w
  rw [hr, hiff.2 rfl]
theorem eq_refl_ad (A : Nat) (w : World) : (Op.equalIn 10000 24 (.agg (aN A)) (.agg (aN A))).run Try.prog w = .ok true w := by
  obtain ⟨r, hr, hiff⟩ := equal_at 9998 (k := .u8) Try.underlying24 Try.underlying5 cells8 (aN A) (aN A) (aN_size A) (aN_size A) (fun i hi => by
    have := arr_get .u8 (n := 20) (fun i => ((ab A i : Nat) : Int)) hi
    exact ⟨_, _, this, this⟩) w
  rw [hr, hiff.2 rfl]
theorem stoodSlot : Try.prog.stoodInHeld 82 = false := by kernel_rfl
theorem part_s0 (s : Nat × Nat) (w : World) : (part 27 (scs s).toArray 0).run Try.prog w = .ok (.agg (wa s.1)) w := by kernel_rfl
theorem part_s4 (s : Nat × Nat) (w : World) : (part 27 (scs s).toArray 4).run Try.prog w = .ok (.agg (wa s.2)) w := by kernel_rfl
theorem eq_refl_slot (s : Nat × Nat) (w : World) : (Op.equalIn 10000 82 (.agg (scs s).toArray) (.agg (scs s).toArray)).run Try.prog w = .ok true w := by
  rw [show (10000 : Nat) = 9999 + 1 from rfl, run_equalIn_struct w 9999 82 _ _ Try.underlying82 stoodSlot]
  simp [Program.fieldsOf, Try.underlying82, Op.eqFields, part_s0, part_s4, eq_refl_wa, Result.andThen]
/-- The text that bytes make. -/
def strC (co : List Nat) : ByteArray := strOfNums (co.map fun (c : Nat) => (c : Int))
theorem conv_z {w : World} {v : Value} {co : List Nat} (h : RowZ (hp w) v co.length 1 (co.map u8v)) : (convert 43 9 v).run Try.prog w = .ok (.string (strC co)) w := by
  obtain ⟨A, c, rfl, hn, hc, hA, hcells⟩ := h.val
  cases A with
  | none =>
    have h0 := (hA rfl).1
    have : co = [] := List.eq_nil_of_length_eq_zero h0
    subst this
    rw [run_convert_bytes_nil w _ _ Try.underlying43 Try.underlying5 _ _ _ Try.underlying9]
    simp [strC, strOfNums, ByteArray.empty, ByteArray.emptyWithCapacity]
    rfl
  | some a =>
    by_cases h0 : 0 < co.length
    · obtain ⟨b, off, e, hr⟩ := hcells h0
      cases e
      refine run_convert_bytes_arg w _ _ Try.underlying43 Try.underlying5 b off _ c _ (by simp) (fun i hi => ?_) _ Try.underlying9
      refine hr.cell ?_
      simp [u8v, hi, List.getD]
    · have : co = [] := List.eq_nil_of_length_eq_zero (by omega)
      subst this
      show (convert 43 9 (.slice (some a) 0 c)).run Try.prog w = _
      rw [run_convert_bytes_string w _ _ _ _ _ _ Try.underlying43 Try.underlying5 Try.underlying9, run_bytesToString w a 0 c [] (by simp [loadCells, loadCellsFrom])]
      simp [strC, strOfNums, ByteArray.empty, ByteArray.emptyWithCapacity]
      rfl
theorem infoW4 (n : Nat) : (Try.prog.info? 27).map (·.size) = some (wa n).toList.length := by rw [show (wa n).toList.length = 4 from rfl]; kernel_rfl
set_option maxHeartbeats 2000000 in
theorem same_walk (x y : AV) (w : World) (hxy : y.a = x.a) (hx : AccZ (hp w) x) (hy : AccZ (hp w) y) : Calls Try.prog 19 #[aval x, aval y] w fun e w' => e = .returned (.bool true) ∧ Below w.heap.size w w' := by
  unfold aval
  have hs : (acs x).toArray.size = 27 := by simp [acs_len]
  have hs' : (acs y).toArray.size = 27 := by simp [acs_len]
  obtain ⟨f0, bW⟩ := boxA w x
  obtain ⟨W, hW⟩ : ∃ W, w.alloc (.cells (acs x).toArray 46) = W := ⟨_, rfl⟩
  rw [hW] at f0 bW
  obtain ⟨f1, bV⟩ := boxA W y
  obtain ⟨V, hV⟩ : ∃ V, W.alloc (.cells (acs y).toArray 46) = V := ⟨_, rfl⟩
  rw [hV] at f1 bV
  have bwV : Below w.heap.size w V := bW.trans (bV.mono bW.size)
  have sW : W.heap.size = w.heap.size + 1 := by rw [← hW]; simp
  rw [sW] at f1
  obtain ⟨PA, pc, hp1, -⟩ := hx.cod.val
  obtain ⟨QA, qc, hq1, hqn, hqc, hqA, hqcells⟩ := hx.sto.one (fun s _ => scs_len s)
  obtain ⟨PB, pd, hp2, -⟩ := hy.cod.val
  obtain ⟨QB, qd, hq2, hqn2, hqc2, hqA2, hqcells2⟩ := hy.sto.one (fun s _ => scs_len s)
  have cx := fun g : Ext V => conv_z (hx.cod.sub (hp_below (bwV.trans (g.below.mono bwV.size))))
  have cy := fun g : Ext V => conv_z (hy.cod.sub (hp_below (bwV.trans (g.below.mono bwV.size))))
  have e0 := fun g : Ext V => boxcells (g.block (stay bV f0))
  have e1 := fun g : Ext V => boxcells (g.block f1)
  have hsl := hx.sl
  rw [hxy] at e1 cy hp2 hq2 hqn2 hqcells2
  rw [hp1] at cx
  rw [hp2] at cy
  rw [hp1, hq1] at e0
  rw [hp2, hq2] at e1
  have n0 := fun g => (e0 g).1
  have n1 := fun g => (e1 g).1
  have b0 := fun g => (e0 g).2.1
  have b1 := fun g => (e1 g).2.1
  have q0 := fun g => (e0 g).2.2.1
  have q1 := fun g => (e1 g).2.2.1
  have s0 := fun g => (e0 g).2.2.2.1
  have s1 := fun g => (e1 g).2.2.2.1
  have a0 := fun g => (e0 g).2.2.2.2
  have a1 := fun g => (e1 g).2.2.2.2
  have eqa := eq_refl_ad x.a.ad
  have eqw : ∀ w : World, (Op.equalIn 10000 27 (.agg (wa x.a.ba)) (.agg (wa x.a.ba))).run Try.prog w = .ok true w := fun w => by rw [equal_wa]; simp
  have HB := Lib.hid bwV
  have F0 := Lib.hid (stay bV f0)
  have F1 := Lib.hid f1
  have HX : Hid (0 < x.a.so.length → ∃ b off, QA = some ⟨b, off, none⟩ ∧ ∀ i s, x.a.so[i]? = some s → rng (hp V) b (off + i * 8) (scs s)) := Lib.hid fun hn => by
    obtain ⟨b, off, e, _, hi⟩ := hqcells hn
    exact ⟨b, off, e, fun i s hs => (hi i s hs).sub (hp_below bwV)⟩
  have HY : Hid (0 < x.a.so.length → ∃ b off, QB = some ⟨b, off, none⟩ ∧ ∀ i s, x.a.so[i]? = some s → rng (hp V) b (off + i * 8) (scs s)) := Lib.hid fun hn => by
    obtain ⟨b, off, e, _, hi⟩ := hqcells2 hn
    exact ⟨b, off, e, fun i s hs => (hi i s hs).sub (hp_below bwV)⟩
  clear e0 e1 hqcells hqcells2 hx hy f0 f1 bW bV bwV hp1 hq1 hp2 hq2
  go_enter Try.func19, Try.ntmps19
  go_upto_region 1 with fail
  clear hW hV
  refine region_seq ?_
  repeat (first
    | (go_big_quiet_want; refine quiet_load_mid 24 _ rfl w.heap.size 0 (aN x.a.ad).toList rfl (fun w2 hw2 => by obtain ⟨g1, rfl⟩ := hw2; exact a0 g1) Try.underlying24 rfl (infoAd _) ?_; simp only [Act.put, List.setIfInBounds_toArray, List.set_cons_succ, List.set_cons_zero, Array.toArray_toList]; go_big_quiet_on)
    | (go_big_quiet_want; refine quiet_load_mid 24 _ rfl (w.heap.size + 1) 0 (aN x.a.ad).toList rfl (fun w2 hw2 => by obtain ⟨g1, rfl⟩ := hw2; exact a1 g1) Try.underlying24 rfl (infoAd _) ?_; simp only [Act.put, List.setIfInBounds_toArray, List.set_cons_succ, List.set_cons_zero, Array.toArray_toList]; go_big_quiet_on)
    | (go_big_quiet_want; refine quiet_load_mid 27 _ rfl w.heap.size 21 (wa x.a.ba).toList rfl (fun w2 hw2 => by obtain ⟨g1, rfl⟩ := hw2; exact b0 g1) Try.underlying27 rfl (infoW4 _) ?_; simp only [Act.put, List.setIfInBounds_toArray, List.set_cons_succ, List.set_cons_zero, Array.toArray_toList]; go_big_quiet_on)
    | (go_big_quiet_want; refine quiet_load_mid 27 _ rfl (w.heap.size + 1) 21 (wa x.a.ba).toList rfl (fun w2 hw2 => by obtain ⟨g1, rfl⟩ := hw2; exact b1 g1) Try.underlying27 rfl (infoW4 _) ?_; simp only [Act.put, List.setIfInBounds_toArray, List.set_cons_succ, List.set_cons_zero, Array.toArray_toList]; go_big_quiet_on)
    | go_big_quiet_step (fail))
  refine wpQuiet_nil ?_
  rintro w' ⟨gg, rfl⟩
  have HG := Lib.hid gg.below
  have HC0 : Hid (∀ g : Ext V, g.on.cell? ⟨w.heap.size, 26, none⟩ = some (.slice QA x.a.so.length qc)) := Lib.hid s0
  have HC1 : Hid (∀ g : Ext V, g.on.cell? ⟨w.heap.size + 1, 26, none⟩ = some (.slice QB x.a.so.length qd)) := Lib.hid s1
  have g0 := s0 gg
  generalize gg.on = wg at *
  clear n0 n1 b0 b1 q0 q1 s0 s1 a0 a1 eqa eqw cx cy F0 F1
  generalize x.a.so = so at *
  generalize hN : so.length = n at *
  have HN := Lib.hid hN
  clear hN
  go_wp2_with fail
  go_loopw [46] (fun i wr => ∃ k : Nat, k ≤ n ∧ i = .int .i64 k ∧ Hid (Below V.heap.size V wr)) (fun i _ => n - (intOf i).toNat)
  case atStart => exact ⟨0, Nat.zero_le _, rfl, HG⟩
  case round =>
    obtain ⟨k, hk, rfl, HW⟩ := hrel
    clear g0
    by_cases hlt : k < n
    · obtain ⟨b, off, rfl, hi⟩ := HX.out (by omega)
      obtain ⟨b', off', rfl, hi'⟩ := HY.out (by omega)
      obtain ⟨s, hs⟩ : ∃ s, so[k]? = some s := ⟨so[k]'(by rw [HN.out]; exact hlt), by simp⟩
      have r0 := fun g : Ext wr => ((hi k _ hs).sub (hp_below (HW.out.trans (g.below.mono HW.out.size)))).at
      have r1 := fun g : Ext wr => ((hi' k _ hs).sub (hp_below (HW.out.trans (g.below.mono HW.out.size)))).at
      have s0 := fun g : Ext wr => HC0.out ⟨g.on, HW.out.trans (g.below.mono HW.out.size)⟩
      have s1 := fun g : Ext wr => HC1.out ⟨g.on, HW.out.trans (g.below.mono HW.out.size)⟩
      have eqs := eq_refl_slot s
      clear hi hi' hs
      go_upto_region 6 with fail
      refine region_ext (by kernel_rfl) (by kernel_rfl) ?_
      repeat (first
        | (go_big_quiet_want; refine quiet_load_mid 82 _ rfl b (off + k * 8) (scs s) rfl (fun w2 hw2 => by obtain ⟨g1, rfl⟩ := hw2; exact r0 g1) Try.underlying82 rfl (infoScs _) ?_; simp only [Act.put, List.setIfInBounds_toArray, List.set_cons_succ, List.set_cons_zero]; go_big_quiet_on)
        | (go_big_quiet_want; refine quiet_load_mid 82 _ rfl b' (off' + k * 8) (scs s) rfl (fun w2 hw2 => by obtain ⟨g1, rfl⟩ := hw2; exact r1 g1) Try.underlying82 rfl (infoScs _) ?_; simp only [Act.put, List.setIfInBounds_toArray, List.set_cons_succ, List.set_cons_zero]; go_big_quiet_on)
        | go_big_quiet_step (fail))
      refine wpQuiet_nil ?_
      rintro w' ⟨gg2, rfl⟩
      have HG2 := Lib.hid (HW.out.trans (gg2.below.mono HW.out.size))
      generalize gg2.on = wg2 at *
      clear r0 r1 s0 s1 eqs
      go_wp2_with fail
      exact ⟨⟨k + 1, by omega, by go_num, HG2⟩, by simp [intOf]; omega⟩
    · obtain rfl : k = n := by omega
      go_wp2_with fail
      go_ret
      exact ⟨rfl, HB.out.trans (HW.out.mono HB.out.size)⟩
set_option maxHeartbeats 2000000 in
theorem sameAll_walk (v u : Value) (l m : List AV) (w : World) (hlm : m.map AV.a = l.map AV.a) (h : AccsZ (hp w) v l) (h' : AccsZ (hp w) u m) (hl : l.length ≤ 1000000) :
    Calls Try.prog 21 #[v, u] w fun e w' => e = .returned (.bool true) ∧ Below w.heap.size w w' := by
  obtain ⟨A, c, rfl, hn, hc, hA, hcells⟩ := h.row.one (fun x _ => acs_len x)
  obtain ⟨A', c', rfl, hn', hc', hA', hcells'⟩ := h'.row.one (fun x _ => acs_len x)
  have HE := Lib.hid h.each
  have HE' := Lib.hid h'.each
  have hml : m.length = l.length := by have := congrArg List.length hlm; simpa using this
  have HLM := Lib.hid hlm
  have HML := Lib.hid hml
  rw [hml] at hn' hcells'
  have hs : ∀ x, (acs x).toArray.size = 27 := fun x => by simp [acs_len]
  rw [hml]
  generalize hN : l.length = n at *
  have HN := Lib.hid hN
  have HC : Hid (0 < n → ∃ b off, A = some ⟨b, off, none⟩ ∧ ∀ i x, l[i]? = some x → rng (hp w) b (off + i * 27) (acs x)) := Lib.hid fun hn => by
    obtain ⟨b, off, e, _, hi⟩ := hcells hn
    exact ⟨b, off, e, hi⟩
  have HC' : Hid (0 < n → ∃ b off, A' = some ⟨b, off, none⟩ ∧ ∀ i x, m[i]? = some x → rng (hp w) b (off + i * 27) (acs x)) := Lib.hid fun hn => by
    obtain ⟨b, off, e, _, hi⟩ := hcells' hn
    exact ⟨b, off, e, hi⟩
  clear hcells hcells' h h' hN hlm hml
  go_enter Try.func21, Try.ntmps21
  go_wp2_with fail
  go_loopw [13] (fun i wr => ∃ k : Nat, k ≤ n ∧ i = .int .i64 k ∧ Hid (Below w.heap.size w wr)) (fun i _ => n - (intOf i).toNat)
  case atStart => exact ⟨0, Nat.zero_le _, rfl, Lib.hid (Below.refl _ _)⟩
  case round =>
    obtain ⟨k, hk, rfl, HW⟩ := hrel
    by_cases hlt : k < n
    · obtain ⟨b, off, rfl, hi⟩ := HC.out (by omega)
      obtain ⟨b', off', rfl, hi'⟩ := HC'.out (by omega)
      obtain ⟨x, hx⟩ : ∃ x, l[k]? = some x := ⟨l[k]'(by rw [HN.out]; exact hlt), by simp⟩
      obtain ⟨y, hy⟩ : ∃ y, m[k]? = some y := ⟨m[k]'(by rw [HML.out]; exact hlt), by simp⟩
      have hxy : y.a = x.a := by
        have := congrArg (fun l : List Acc => l[k]?) HLM.out
        simp only [List.getElem?_map, hx, hy, Option.map_some] at this
        injection this
      have r0 := fun g : Ext wr => ((hi k _ hx).sub (hp_below (HW.out.trans (g.below.mono HW.out.size)))).at
      have r1 := fun g : Ext wr => ((hi' k _ hy).sub (hp_below (HW.out.trans (g.below.mono HW.out.size)))).at
      have KS := Lib.hid fun g : Ext wr => same_walk x y g.on hxy ((HE.out x (List.mem_of_getElem? hx)).sub (hp_below (HW.out.trans (g.below.mono HW.out.size)))) ((HE'.out y (List.mem_of_getElem? hy)).sub (hp_below (HW.out.trans (g.below.mono HW.out.size))))
      unfold aval at KS
      clear hi hi' hx hy hxy
      go_upto_region 6 with fail
      refine region_ext (by kernel_rfl) (by kernel_rfl) ?_
      repeat (first
        | (go_big_quiet_want; refine quiet_load_mid 46 _ rfl b (off + k * 27) (acs x) rfl (fun w2 hw2 => by obtain ⟨g1, rfl⟩ := hw2; exact r0 g1) Try.underlying46 rfl (infoAcs _) ?_; simp only [Act.put, List.setIfInBounds_toArray, List.set_cons_succ, List.set_cons_zero]; go_big_quiet_on)
        | (go_big_quiet_want; refine quiet_load_mid 46 _ rfl b' (off' + k * 27) (acs y) rfl (fun w2 hw2 => by obtain ⟨g1, rfl⟩ := hw2; exact r1 g1) Try.underlying46 rfl (infoAcs _) ?_; simp only [Act.put, List.setIfInBounds_toArray, List.set_cons_succ, List.set_cons_zero]; go_big_quiet_on)
        | go_big_quiet_step (first | (go_at_call 19; with_reducible exact calls_ext (KS.out _))))
      refine wpQuiet_nil ?_
      rintro w' ⟨gg2, rfl⟩
      have HG2 := Lib.hid (HW.out.trans (gg2.below.mono HW.out.size))
      generalize gg2.on = wg2 at *
      clear r0 r1 KS
      go_wp2_with fail
      exact ⟨⟨k + 1, by omega, by go_num, HG2⟩, by simp [intOf]; omega⟩
    · obtain rfl : k = n := by omega
      go_wp2_with fail
      go_ret
      exact ⟨rfl, HW.out⟩
end Go.Proofs.Ytpkoiifidlnbeaa
/- The rows of commits that are gone through: cut. -/
namespace Go.Proofs.Ytpkoiifidlnbeaa
open Go.RowKit SmWord
set_option maxRecDepth 100000

theorem infoO2 (o : CO) : (Try.prog.info? 36).map (·.size) = some (ocs o).length := by rw [show (ocs o).length = 2 from rfl]; kernel_rfl
theorem great2_walk (v : Value) (l : List AV) (w : World) (h : AccsB (hp w) v l) : Calls Try.prog 23 #[v] w fun e w' => e = .returned (.bool (greatL l)) ∧ Below w.heap.size w w' :=
  (great_walk v l w h).mono fun _ _ ⟨he, hb⟩ => ⟨he, by rw [← hb]; exact Below.refl _ _⟩
set_option maxHeartbeats 2000000 in
theorem cut_walk (v : Value) (l : List CO) (w : World) (h : RowZ (hp w) v l.length 2 (l.flatMap ocs)) (ho : ∀ o ∈ l, OpB (hp w) o) :
    Calls Try.prog 10 #[v] w fun e w' => (∃ m A c, m ≤ 31 ∧ m ≤ l.length ∧ (∀ o ∈ l.take m, greatL o.l = false) ∧ v = .slice A l.length c ∧ e = .returned (.slice A m c)) ∧ Below w.heap.size w w' := by
  obtain ⟨A, c, rfl, hn, hc, hA, hcells⟩ := h.one (fun x _ => rfl)
  have HX := Lib.hid ho
  generalize hN : l.length = n at *
  have HN := Lib.hid hN
  have HC : Hid (0 < n → ∃ b off, A = some ⟨b, off, none⟩ ∧ ∀ i x, l[i]? = some x → rng (hp w) b (off + i * 2) (ocs x)) := Lib.hid fun hn => by
    obtain ⟨b, off, e, _, hi⟩ := hcells hn
    exact ⟨b, off, e, hi⟩
  clear hcells h hN ho
  go_enter Try.func10, Try.ntmps10
  go_wp2_with fail
  go_loopw [7] (fun i wr => ∃ k : Nat, k ≤ n ∧ k ≤ 31 ∧ i = .int .i64 k ∧ Hid (∀ o ∈ l.take k, greatL o.l = false) ∧ Hid (Below w.heap.size w wr)) (fun i _ => n - (intOf i).toNat)
  case atStart => exact ⟨0, Nat.zero_le _, by omega, rfl, Lib.hid (fun o ho => by simp at ho), Lib.hid (Below.refl _ _)⟩
  case round =>
    obtain ⟨k, hk, hk31, rfl, HO, HW⟩ := hrel
    by_cases hlt : k < n
    · obtain ⟨b, off, rfl, hi⟩ := HC.out (by omega)
      obtain ⟨o, hx⟩ : ∃ o, l[k]? = some o := ⟨l[k]'(by rw [HN.out]; exact hlt), by simp⟩
      have r1 := ((hi k _ hx).sub (hp_below HW.out)).at
      have HOo := Lib.hid ((HX.out o (List.mem_of_getElem? hx)))
      have HXg := Lib.hid hx
      obtain ⟨A2, c2, hv2, -⟩ := HOo.out.row.val
      clear hx hi
      have d0 : wr.cell? ⟨b, off + k * 2, none⟩ = some (.int .i64 o.par) := r1 0 _ rfl
      have d1 : wr.cell? ⟨b, off + k * 2 + 1, none⟩ = some o.v := r1 1 _ rfl
      rw [hv2] at d1
      obtain ⟨W2, hW2⟩ : ∃ W2, wr.alloc (.cells #[.int .i64 o.par, .slice A2 o.l.length c2] 36) = W2 := ⟨_, rfl⟩
      have g0 : W2.heap[wr.heap.size]? = some (.cells #[.int .i64 o.par, .slice A2 o.l.length c2] 36) := hW2 ▸ heap_alloc_new _ _
      have HW2 : Hid (Below wr.heap.size wr W2) := Lib.hid (hW2 ▸ (Below.refl _ _).alloc (Nat.le_refl _) _)
      have bW2 : Below w.heap.size w W2 := HW.out.trans (HW2.out.mono HW.out.size)
      have BW2 := Lib.hid bW2
      have d2 := fun g : Ext W2 => blk_cell (j := 1) (g.block g0) rfl
      have KG := Lib.hid fun g : Ext W2 => great2_walk o.v o.l g.on (HOo.out.sub (hp_below (bW2.trans (g.below.mono bW2.size))))
      rw [hv2] at KG
      clear g0 bW2 r1
      go_upto_region 4 with fail
      clear hW2
      by_cases h30 : 30 < k
      · obtain rfl : k = 31 := by omega
        go_wp2_with fail
        go_ret
        exact ⟨⟨31, _, _, by omega, hk, HO.out, rfl, rfl⟩, BW2.out⟩
      · have hd : decide ((30 : Int) < (k : Int)) = false := decide_eq_false (by omega)
        cases hg : greatL o.l
        · have HGr := Lib.hid hg
          rw [hg] at KG
          clear hg
          refine region_seq ?_
          repeat (go_big_quiet_step (first | (go_at_call 23; with_reducible exact calls_ext (KG.out _))))
          refine wpQuiet_nil ?_
          rintro w' ⟨gg2, rfl⟩
          have HG2 := Lib.hid (BW2.out.trans (gg2.below.mono BW2.out.size))
          generalize gg2.on = wg2 at *
          clear d2 KG
          go_wp2_with fail
          exact ⟨⟨k + 1, by omega, by omega, by go_num, Lib.hid (fun o' ho' => by
            rw [List.take_add_one, HXg.out] at ho'
            rcases List.mem_append.1 ho' with ho' | ho'
            · exact HO.out o' ho'
            · simp at ho'
              subst ho'
              exact HGr.out), HG2⟩, by simp [intOf]; omega⟩
        · rw [hg] at KG
          clear hg
          refine region_seq ?_
          repeat (go_big_quiet_step (first | (go_at_call 23; with_reducible exact calls_ext (KG.out _))))
          refine wpQuiet_nil ?_
          rintro w' ⟨gg2, rfl⟩
          have HG2 := Lib.hid (BW2.out.trans (gg2.below.mono BW2.out.size))
          generalize gg2.on = wg2 at *
          clear d2 KG
          go_wp2_with fail
          go_ret
          exact ⟨⟨k, _, _, hk31, hk, HO.out, rfl, rfl⟩, HG2.out⟩
    · obtain rfl : k = n := by omega
      go_wp2_with fail
      go_ret
      exact ⟨⟨k, A, c, hk31, Nat.le_refl _, HO.out, rfl, rfl⟩, HW.out⟩
end Go.Proofs.Ytpkoiifidlnbeaa
/- Any commit on a store; what it leaves. -/
namespace Go.Proofs.Ytpkoiifidlnbeaa
open Go.RowKit SmWord
set_option maxRecDepth 100000

theorem small_accs {Z : Hp} {v : Value} {l : List AV} (h : AccsB Z v l) (hg : greatL l = false) : AccsZ Z v l ∧ l.length ≤ 50 := by
  unfold greatL at hg
  rw [Bool.or_eq_false_iff, decide_eq_false_iff_not, List.any_eq_false] at hg
  refine ⟨⟨h.row, fun x hx => ?_⟩, by omega⟩
  have := hg.2 x hx
  unfold greatA at this
  simp at this
  exact (h.each x hx).small (by omega) (by omega)
section
variable {base : Nat} {Z : Hp} {w : World} {sb : Nat} {g : Gh} {L : Nat → List Acc}
theorem StoreAt.baseLe (h : StoreAt base Z w sb g L) : base ≤ w.heap.size := Nat.le_trans h.bsb (Nat.le_of_lt (Array.getElem?_eq_some_iff.1 h.blk).1)
theorem putA_len {a : Acc} : ∀ L : List Acc, (putA a L).length ≤ L.length + 1
  | [] => by simp [putA]
  | x :: L => by
    unfold putA
    split
    · simp
    · split
      · simp
      · have := putA_len (a := a) L; simp; omega
theorem putAll_len : ∀ (l La : List Acc), (putAll La l).length ≤ La.length + l.length
  | [], La => by simp [putAll]
  | a :: l, La => by
    have h1 := putAll_len l (putA a La)
    have h2 := putA_len (a := a) La
    have : putAll La (a :: l) = putAll (putA a La) l := rfl
    rw [this]
    simp
    omega
/-- Whatever is committed: it is a store behind it, with one version more at most. -/
theorem commit_any (h : StoreAt base Z w sb g L) (par : Int) (lv : Value) (l : List AV) (hl : AccsZ (hp w) lv l) (hll : l.length ≤ 1000000) (hn : g.n < 1048576) (N : Nat) (hN : ∀ v, v < g.n → (L v).length ≤ N) :
    Calls Try.prog 11 #[.pointer (some ⟨sb, 0, none⟩), .int .i64 par, lv] w fun e w' => ∃ (r1 r2 : Int) (Z' : Hp) (g' : Gh) (L' : Nat → List Acc), e = .returned (.tuple #[.int .i64 r1, .int .i64 r2]) ∧ StoreAt base Z' w' sb g' L' ∧ (g'.n ≤ g.n + 1 ∧ ∀ v, v < g'.n → (L' v).length ≤ N + l.length) ∧ Below base w w' := by
  have hN' : ∀ v, v < g.n → (L v).length ≤ N + l.length := fun v hv => by have := hN v hv; omega
  by_cases hp : 0 ≤ par ∧ par < g.n
  · obtain ⟨p, rfl⟩ : ∃ p : Nat, par = p := ⟨par.toNat, by omega⟩
    have hp' : p < g.n := by omega
    cases hr : (l.all fun x => rightA x.a)
    · exact (commit_arg h p lv l hp' hl hll hr).mono fun e w' ⟨he, hb⟩ => ⟨_, _, Z, g, L, he, h.below hb, ⟨by omega, hN'⟩, hb.mono h.baseLe⟩
    · exact (commit_ok h p lv l hp' hl hll (fun x hx => List.all_eq_true.1 hr x hx) hn).mono fun e w' ⟨he, ha⟩ => by
        obtain ⟨Z', g', h1, h2, _, _, _, _, _, h8⟩ := ha
        refine ⟨_, _, Z', g', _, he, h1, ⟨by omega, fun v hv => ?_⟩, h8⟩
        by_cases e : v = g.n
        · simp only [e, if_true]
          have := putAll_len (l.map AV.a) (L p)
          have := hN p hp'
          simp at *
          omega
        · simp only [e, if_false]
          exact hN' v (by omega)
  · exact (commit_none h par lv hp).mono fun e w' ⟨he, hb⟩ => ⟨_, _, Z, g, L, he, hb ▸ h, ⟨by omega, hN'⟩, hb ▸ Below.refl _ _⟩
theorem StoreAt.right (h : StoreAt base Z w sb g L) {v : Nat} (hv : v < g.n) {x : Acc} (hx : x ∈ L v) : rightA x = true := by
  have hA := h.adL v hv x hx
  have h1 := h.look v x.ad hv hA
  rw [lookA_of_mem (h.srt v hv) hx] at h1
  cases hn : near g.par (fun v => g.acc v x.ad) v with
  | none => rw [hn] at h1; cases h1
  | some b =>
    rw [hn] at h1
    obtain ⟨_, _, _, hr⟩ := h.found hv hA hn
    have : x = (g.X b).a := by simpa using h1
    rw [this]
    exact hr
end
/-- What is there already, set again: the same. -/
theorem putAll_same {La : List Acc} (hs : Srt La) : putAll La (La.filter fun x => !emptyA x) = La := by
  have hk : ∀ A, lookA (putAll La (La.filter fun x => !emptyA x)) A = lookA La A := fun A => by
    rw [putAll_look A hs]
    cases hl : lastA (La.filter fun x => !emptyA x) A with
    | none => rfl
    | some x =>
      unfold lastA at hl
      obtain ⟨h1, h2⟩ := lookA_some hl
      have h3 : x ∈ La := (List.mem_filter.1 (List.mem_reverse.1 h1)).1
      subst h2
      rw [lookA_of_mem hs h3]
      rfl
  refine srt_ext (putAll_srt hs) hs fun x => ?_
  rw [mem_look (putAll_srt hs), mem_look hs, hk]
end Go.Proofs.Ytpkoiifidlnbeaa
