/- Stage 14: Back. -/
import Derived.Test.YtnjeoeekidnffaaGreatNc
import Derived.RangeFuncCalls
import Derived.Lib.AppendZeros
import Derived.Deep.AppendSrc
import Derived.Deep.RegionWith
namespace Go.Proofs.YtnjeoeekidnffaaGreat
open Go.RowKit SmWord Go.Maps
set_option maxRecDepth 100000

attribute [local go_sem] Oper.semAt_some

theorem clear_row {W : World} {ub mark k : Nat} {row : Array Value} (h : W.heap[ub]? = some (.cells row 1)) (hk : mark + k ≤ row.size) (cap : Nat) (h0 : 0 < k) (ty : TypeId) :
    (Builtin.clear_ #[86] ty #[.slice (some ⟨ub, mark, none⟩) k cap]).run Tryz.prog W = .ok (.tuple #[]) (W.setRow ub (row.toList.take mark ++ List.replicate k Value.nilFunc ++ row.toList.drop (mark + k)).toArray) := by
  obtain ⟨k, rfl⟩ : ∃ k', k = k' + 1 := ⟨k - 1, by omega⟩
  have hz : (zeroValue 1).run Tryz.prog W = .ok .nilFunc W := (zero_of_info (by kernel_rfl : (Tryz.prog.info? 1).map (fun i => (i.zero, i.size)) = some (some .nilFunc, 1))).1 W
  have hzc : (Builtin.zeroCells (Value.nilFunc).cells (k + 1)).toList = List.replicate (k + 1) Value.nilFunc := by
    simp [Builtin.zeroCells, Value.cells]
    exact List.eq_replicate_iff.2 ⟨by simp, fun b hb => by obtain ⟨i, _, rfl⟩ := List.mem_map.1 hb; simp [Nat.mod_one]⟩
  have hst := run_storeCells_at Tryz.prog ub mark 1 (List.replicate (k + 1) Value.nilFunc) 0 row W h (by simp; omega) (fun v hv => by rw [List.eq_of_mem_replicate hv]; rfl)
  simp only [Nat.add_zero, List.length_replicate] at hst
  simp [Builtin.clear_, run_underlying Tryz.underlying86, hz, hzc, hst, Result.andThen]
set_option maxHeartbeats 4000000 in
theorem back_walk {w : World} {sb ub n cap mark : Nat} {cs : List Value} {row : Array Value} (kf : Nat → Nat) (caps : Nat → Array Value) (I : Nat → World → Prop)
    (hs : w.heap[sb]? = some (.cells cs.toArray 88)) (hu : cs[25]? = some (.slice (some ⟨ub, 0, none⟩) n cap)) (hrow : w.heap[ub]? = some (.cells row 1)) (hc : ∀ i, i < n → row[i]? = some (.func (.func (kf i)) #[] (caps i)))
    (he : ∀ i, i < n → ∀ args w, (callFunc (kf i) args).run Tryz.prog w = .ok (.enter (kf i) args) w) (hcap : n ≤ cap) (hn : n ≤ 1048576) (hm : mark < n) (h0 : I 0 w) (hI : ∀ j W W', I j W → Below w.heap.size W W' → I j W')
    (hcell : ∀ j W, I j W → ∃ cs' : List Value, W.heap[sb]? = some (.cells cs'.toArray 88) ∧ cs'.length = 26 ∧ cs'[25]? = some (.slice (some ⟨ub, 0, none⟩) n cap) ∧ W.heap[ub]? = w.heap[ub]?)
    (hstep : ∀ j W, j < n - mark → w.heap.size ≤ W.heap.size → I j W → Calls Tryz.prog (kf (n - 1 - j)) (caps (n - 1 - j)) W fun e W' => e = .returned (.tuple #[]) ∧ I (j + 1) W' ∧ W.heap.size ≤ W'.heap.size ∧ ∀ b, w.heap.size ≤ b → b < W.heap.size → W'.heap[b]? = W.heap[b]?) :
    Calls Tryz.prog 16 #[.pointer (some ⟨sb, 0, none⟩), .int .i64 (mark : Int)] w fun e w' => e = .returned (.tuple #[]) ∧ ∃ W W2 cs' row', I (n - mark) W ∧ w.heap.size ≤ W.heap.size ∧ W.heap[sb]? = some (.cells cs'.toArray 88) ∧
      W.grownBy W2 (some ub) ∧ W2.heap[ub]? = some (.cells row' 1) ∧ (∀ i, i < mark → row'[i]? = row[i]?) ∧ row'.size = row.size ∧ Below w.heap.size (W2.setRow sb (putAt cs' 25 [.slice (some ⟨ub, 0, none⟩) mark cap]).toArray) w' := by
  have hc25 : w.cell? ⟨sb, 25, none⟩ = some (.slice (some ⟨ub, 0, none⟩) n cap) := blk_cell hs (by simpa using hu)
  have hsb : sb < w.heap.size := (Array.getElem?_eq_some_iff.1 hs).1
  have hub : ub < w.heap.size := (Array.getElem?_eq_some_iff.1 hrow).1
  refine (callsIn_wide (n := 5)).1 ?_
  refine callsIn_of_wp_marks Tryz.func16 rfl trivial ?_ rfl
  simp only [Tryz.ntmps16, List.size_toArray, List.length_cons, List.length_nil, Nat.reduceAdd, Nat.reduceSub, Array.replicate_succ, Array.replicate_zero, List.push_toArray, List.append_toArray, List.nil_append, List.cons_append]
  have h62 : Fence.wide.fn 62 := trivial
  have hcm : ¬ cap = mark := by omega
  have hd1 : decide ((mark : Int) < 0) = false := by simp
  have hd2 : ¬ (n < mark) := by omega
  have HC := Lib.hid hc
  have HI := Lib.hid hI
  have HCell := Lib.hid hcell
  have HStep := Lib.hid hstep
  have H0 := Lib.hid h0
  have HRow := Lib.hid hrow
  have HS := Lib.hid hs
  have HE := Lib.hid he
  clear hc he hI hcell hstep h0 hrow hs hu
  gi_wp2_with (gi_at_call 62; refine (backward_in _ _ _ _ _).mono ?_; rintro e w' ⟨rfl, rfl⟩)
  obtain ⟨w1, hw1⟩ : ∃ w1, w.alloc (.cells #[.slice (some ⟨ub, mark, none⟩) (n - mark) (cap - mark)] 86) = w1 := ⟨_, rfl⟩
  have b1 : Below w.heap.size w w1 := hw1 ▸ (Below.refl _ _).alloc (Nat.le_refl _) _
  have s1 : w1.heap.size = w.heap.size + 1 := hw1 ▸ by simp
  have f1 : w1.heap[w.heap.size]? = some (.cells #[.slice (some ⟨ub, mark, none⟩) (n - mark) (cap - mark)] 86) := hw1 ▸ heap_alloc_new _ _
  have hbw : BwAt w.heap.size (n - mark) (cap - mark) (some ⟨ub, mark, none⟩) (fun i => .func (.func (kf (mark + i))) #[] (caps (mark + i))) w1 := by
    refine ⟨blk_cell f1 rfl, fun _ => ⟨_, _, rfl, fun i hi => ?_⟩⟩
    exact blk_cell (stay b1 HRow.out) (HC.out (mark + i) (by omega))
  have hseq := backward_row 4 w.heap.size ub mark (n - mark) (cap - mark) _ (by omega) w1 (by omega) (by omega) hbw
  have B1 := Lib.hid b1
  have S1 := Lib.hid s1
  rw [hw1]
  clear hbw f1 b1 hw1
  refine range_row (n := 5) rfl (enters_of Tryz.func94 (by kernel_rfl) rfl) hseq (by decide) (fun _ => rfl) (by omega) (by omega)
    (fun j W => w1.heap.size ≤ W.heap.size ∧ I j W) ⟨fun j W l o h hl => ⟨by simp [World.putObj]; exact h.1, HI.out _ _ _ h.2 ?c1⟩, fun j W o h => ⟨by simp; omega, HI.out _ _ _ h.2 ?c2⟩⟩ ⟨Nat.le_refl _, HI.out _ _ _ H0.out B1.out⟩
    (fun j => { tmps := #[.pointer (some ⟨sb, 0, none⟩), .int .i64 (mark : Int), undef, undef, .slice (some ⟨ub, mark, none⟩) (n - mark) (cap - mark), undef, (.func (.func (kf (mark + (n - mark - 1 - j)))) #[] (caps (mark + (n - mark - 1 - j)))), .pointer (some ⟨sb, 0, none⟩), .bool false, .bool false, .int .i64 (mark : Int), .bool false, .bool false, .bool false, .int .i64 (mark : Int), .pointer (some ⟨sb, 0, none⟩), .pointer (some ⟨sb, 0, none⟩), .pointer (some ⟨sb, 25, none⟩), .slice (some ⟨ub, 0, none⟩) n cap, .int .i64 (n : Int), .bool false, .bool false, .pointer (some ⟨sb, 0, none⟩), .pointer (some ⟨sb, 0, none⟩), .pointer (some ⟨sb, 25, none⟩), .slice (some ⟨ub, 0, none⟩) n cap, .int .i64 (mark : Int), .slice (some ⟨ub, mark, none⟩) (n - mark) (cap - mark), .slice (some ⟨ub, mark, none⟩) (n - mark) (cap - mark), .func (.func 94) #[] #[.pointer (some ⟨w.heap.size, 0, none⟩)], .int .i64 ((n - mark - 1 - j : Nat) : Int), (.func (.func (kf (mark + (n - mark - 1 - j)))) #[] (caps (mark + (n - mark - 1 - j)))), undef, undef, undef, undef, undef, undef, undef, undef, undef, undef, undef, undef], defers := [] }) ?assign ?body ?done
  case c1 => exact ⟨rfl, rfl, rfl, by simp [World.putObj], fun k hk => World.putObj_heap_other (by omega)⟩
  case c2 => exact (Below.refl _ _).alloc (by omega) _
  case assign =>
    intro l j W K hK
    clear hseq
    gi_wp2
    exact hK
  case body =>
    rintro l j W hj hsz ⟨_, hi⟩
    have hst := Lib.hid (HStep.out j W hj (by omega) hi)
    have HJ := Lib.hid hi
    clear hseq hi
    obtain ⟨i, hi⟩ : ∃ i, mark + (n - mark - 1 - j) = i := ⟨_, rfl⟩
    have hE := HE.out i (by omega)
    rw [show n - 1 - j = i by omega] at hst
    rw [hi]
    have hw : Fence.wide.fn (kf i) := trivial
    clear hi
    gi_wp2
    refine (CallsIn.inRound l ((callsIn_wide (n := 2)).2 hst.out)).mono ?_
    rintro e W' ⟨rfl, hi', hsz', hkb⟩
    have HI' := Lib.hid hi'
    have HK' := Lib.hid hkb
    clear hi' hkb hst
    gi_wp2
    obtain ⟨c1, _, _, _, hu1⟩ := HCell.out _ _ HJ.out
    obtain ⟨c2, _, _, _, hu2⟩ := HCell.out _ _ HI'.out
    exact ⟨⟨hsz', fun k o hB ho _ => (HK'.out k (by omega) (Array.getElem?_eq_some_iff.1 ho).1).trans ho⟩, ⟨HK'.out _ (Nat.le_refl _) (by omega), hu2.trans hu1.symm⟩, by omega, HI'.out⟩
  case done =>
    rintro D W hD hsz ⟨_, hi⟩ hdef
    clear hseq
    obtain ⟨cs', hs', hl', hu', hub'⟩ := HCell.out _ _ hi
    rw [HRow.out] at hub'
    have hcl := clear_row hub' (show mark + (n - mark) ≤ row.size by have := (Array.getElem?_eq_some_iff.1 (HC.out (n - 1) (by omega))).1; omega) (cap - mark) (by omega)
    have HH := Lib.hid hi
    have HD := Lib.hid hdef
    obtain ⟨row', hr'⟩ : ∃ row', (row.toList.take mark ++ List.replicate (n - mark) Value.nilFunc ++ row.toList.drop (mark + (n - mark))).toArray = row' := ⟨_, rfl⟩
    rw [hr'] at hcl
    obtain ⟨W2, hW2⟩ : ∃ W2, W.setRow ub row' = W2 := ⟨_, rfl⟩
    rw [hW2] at hcl
    have hne : sb ≠ ub := fun e => by
      rw [e, hub'] at hs'
      simp at hs'
    have hs2 : W2.heap[sb]? = some (.cells cs'.toArray 88) := by rw [← hW2, setRow_other _ _ _ _ hne]; exact hs'
    have hu2 : W2.heap[ub]? = some (.cells row' 1) := by rw [← hW2]; exact blk_row hub'
    have q2 : W2.cell? ⟨sb, 25, none⟩ = some (.slice (some ⟨ub, 0, none⟩) n cap) := blk_cell hs2 (by simpa using hu')
    have hf2 : W2.frozen? ⟨sb, 25, none⟩ = false := by simp [World.frozen?, hs2]
    have hsc := setCell_put hs2 (by rw [hl']; decide : 25 < cs'.length)
    have hd2' : W2.heap[D]? = some (.deferred (some [])) := by rw [← hW2, setRow_other _ _ _ _ (by omega)]; exact hdef
    have g2 : W.grownBy W2 (some ub) := hW2 ▸ ⟨rfl, rfl, rfl, by rw [setRow_size]; exact Nat.le_refl _, fun k _ hk => setRow_other _ _ _ _ (fun e => hk (by rw [e]))⟩
    have HS2 := Lib.hid hs2
    have HU2 := Lib.hid hu2
    have HD2 := Lib.hid hd2'
    have HG2 := Lib.hid g2
    have HR' := Lib.hid hr'
    have HS' := Lib.hid hs'
    clear hs2 hu2 hd2' g2 hW2 hdef hi hs' hub' hr' hu' hl'
    gi_wp2
    have hdX : (W2.setRow sb (putAt cs' 25 [.slice (some ⟨ub, 0, none⟩) mark cap]).toArray).heap[D]? = some (.deferred (some [])) := by rw [setRow_other _ _ _ _ (by omega)]; exact HD2.out
    refine ⟨by simp, .inl ⟨_, _, rfl, run_takeDeferred hdX, ?_⟩⟩
    refine ⟨_, results_none rfl _ _ _, rfl, W, W2, cs', row', HH.out, by omega, HS'.out, HG2.out, HU2.out, fun i hi => ?_, ?_, ⟨rfl, rfl, rfl, by simp [World.putObj], fun k hk => World.putObj_heap_other (by omega)⟩⟩
    · have hlen : mark ≤ row.size := by have := (Array.getElem?_eq_some_iff.1 (HC.out (n - 1) (by omega))).1; omega
      rw [← HR'.out]
      simp [List.getElem?_append, hi, show i < row.size by omega]
      intro h
      omega
    · have hlen : n ≤ row.size := by have := (Array.getElem?_eq_some_iff.1 (HC.out (n - 1) (by omega))).1; omega
      rw [← HR'.out]
      simp
      omega
end Go.Proofs.YtnjeoeekidnffaaGreat
/- Stage 14: Mark; Back where nothing is undone. -/
namespace Go.Proofs.YtnjeoeekidnffaaGreat
open Go.RowKit SmWord Go.Maps
set_option maxRecDepth 100000

theorem mark_walk {w : World} {sb n cap : Nat} {A : Option Addr} (hc25 : w.cell? ⟨sb, 25, none⟩ = some (.slice A n cap)) :
    Calls Tryz.prog 17 #[.pointer (some ⟨sb, 0, none⟩)] w fun e w' => e = .returned (.int .i64 (n : Int)) ∧ w' = w := by
  go_enter Tryz.func17, Tryz.ntmps17
  go_wp2_with fail
  go_ret
  exact ⟨rfl, rfl⟩
theorem mark_nil (w : World) : Calls Tryz.prog 17 #[.pointer none] w fun e w' => e = .returned (.int .i64 0) ∧ w' = w := by
  go_enter Tryz.func17, Tryz.ntmps17
  go_wp2_with fail
  go_ret
  exact ⟨rfl, rfl⟩

attribute [local go_sem] Oper.semAt_some

theorem back_nil (w : World) (q : Int) : Calls Tryz.prog 16 #[.pointer none, .int .i64 q] w fun e w' => e = .returned (.tuple #[]) ∧ w' = w := by
  refine (callsIn_wide (n := 5)).1 ?_
  refine callsIn_of_wp_marks Tryz.func16 rfl trivial ?_ rfl
  simp only [Tryz.ntmps16, List.size_toArray, List.length_cons, List.length_nil, Nat.reduceAdd, Nat.reduceSub, Array.replicate_succ, Array.replicate_zero, List.push_toArray, List.append_toArray, List.nil_append, List.cons_append]
  gi_wp2_with fail
  exact ⟨_, results_none rfl _ _ _, rfl, rfl⟩
theorem back_out {w : World} {sb n cap : Nat} {A : Option Addr} (hc25 : w.cell? ⟨sb, 25, none⟩ = some (.slice A n cap)) (q : Int) (hq : q < 0 ∨ (n : Int) < q) :
    Calls Tryz.prog 16 #[.pointer (some ⟨sb, 0, none⟩), .int .i64 q] w fun e w' => e = .returned (.tuple #[]) ∧ w' = w := by
  refine (callsIn_wide (n := 5)).1 ?_
  refine callsIn_of_wp_marks Tryz.func16 rfl trivial ?_ rfl
  simp only [Tryz.ntmps16, List.size_toArray, List.length_cons, List.length_nil, Nat.reduceAdd, Nat.reduceSub, Array.replicate_succ, Array.replicate_zero, List.push_toArray, List.append_toArray, List.nil_append, List.cons_append]
  by_cases h : q < 0
  · have hd : decide (q < 0) = true := by simp [h]
    gi_wp2_with fail
    exact ⟨_, results_none rfl _ _ _, rfl, rfl⟩
  · have hd : decide (q < 0) = false := by simp; omega
    have hd2 : decide ((n : Int) < q) = true := by simp; omega
    gi_wp2_with fail
    exact ⟨_, results_none rfl _ _ _, rfl, rfl⟩
end Go.Proofs.YtnjeoeekidnffaaGreat
/- Stage 14: Back where nothing is left to undo. Printed by gsym.py. -/
namespace Go.Proofs.YtnjeoeekidnffaaGreat
open Go.RowKit SmWord Go.Maps
set_option maxRecDepth 100000

attribute [local go_sem] Oper.semAt_some

theorem set_same {cs : List Value} {i : Nat} {v : Value} (h : cs[i]? = some v) : cs.set i v = cs := by
  apply List.ext_getElem?
  intro j
  rw [List.getElem?_set]
  have hl := (List.getElem?_eq_some_iff.1 h).1
  by_cases e : i = j
  · subst e
    rw [if_pos rfl, if_pos hl, h]
  · rw [if_neg e]
theorem bw_zero (n l cb cp : Nat) (A : Option Addr) (J : Nat → World → Prop) (W : World) (hb : W.cell? ⟨cb, 0, none⟩ = some (.slice A 0 cp)) (h0 : J 0 W) :
    CallsIn Fence.wide n Tryz.prog 94 #[.func (.yield l) #[] #[], .pointer (some ⟨cb, 0, none⟩)] W fun e W' => (∃ v, e = .returned v) ∧ J 0 W' := by
  refine callsIn_of_wp Tryz.func94 rfl trivial ?_ rfl
  simp only [Tryz.ntmps94, List.size_toArray, List.length_cons, List.length_nil, Nat.reduceAdd, Nat.reduceSub, Array.replicate_succ, Array.replicate_zero, List.push_toArray, List.append_toArray, List.nil_append, List.cons_append]
  gi_wp2
  gi_loopw [3] (fun v wr => v = .int .i64 (-1) ∧ Hid (J 0 wr)) (fun v _ => (intOf v + 1).toNat)
  case atStart => exact ⟨rfl, Lib.hid h0⟩
  case round =>
    obtain ⟨rfl, HJ⟩ := hrel
    gi_wp2
    go_end0
    exact ⟨⟨_, rfl⟩, HJ.out⟩
theorem zero_row (n cb cp : Nat) (A : Option Addr) (encs : Nat → Array Value) (w : World) (hcb : cb < w.heap.size) (hb : w.cell? ⟨cb, 0, none⟩ = some (.slice A 0 cp)) :
    RowRuns n Tryz.prog 94 #[.pointer (some ⟨cb, 0, none⟩)] 0 encs cb cb w := fun l J W hW _ h0 =>
  bw_zero n l cb cp A J W ((hW.cell (p := ⟨cb, 0, none⟩) hcb).trans hb) h0
set_option maxHeartbeats 4000000 in
theorem back_none_nil {w : World} {sb : Nat}  {cs : List Value} (hs : w.heap[sb]? = some (.cells cs.toArray 88)) (hu : cs[25]? = some (.slice none 0 0)) :
    Calls Tryz.prog 16 #[.pointer (some ⟨sb, 0, none⟩), .int .i64 0] w fun e w' => e = .returned (.tuple #[]) ∧ Below w.heap.size w w' := by
  have hc25 : w.cell? ⟨sb, 25, none⟩ = some (.slice none 0 0) := blk_cell hs (by simpa using hu)
  have hsb : sb < w.heap.size := (Array.getElem?_eq_some_iff.1 hs).1
  have hl : 25 < cs.length := (List.getElem?_eq_some_iff.1 hu).1
  refine (callsIn_wide (n := 5)).1 ?_
  refine callsIn_of_wp_marks Tryz.func16 rfl trivial ?_ rfl
  simp only [Tryz.ntmps16, List.size_toArray, List.length_cons, List.length_nil, Nat.reduceAdd, Nat.reduceSub, Array.replicate_succ, Array.replicate_zero, List.push_toArray, List.append_toArray, List.nil_append, List.cons_append]
  have h62 : Fence.wide.fn 62 := trivial
  have hd1 : decide (0 < 0) = false := by simp
  have HS := Lib.hid hs
  have HU := Lib.hid hu
  clear hs hu
  gi_wp2_with (gi_at_call 62; refine (backward_in _ _ _ _ _).mono ?_; rintro e w' ⟨rfl, rfl⟩)
  obtain ⟨w1, hw1⟩ : ∃ w1, w.alloc (.cells #[.slice none 0 0] 86) = w1 := ⟨_, rfl⟩
  have b1 : Below w.heap.size w w1 := hw1 ▸ (Below.refl _ _).alloc (Nat.le_refl _) _
  have s1 : w1.heap.size = w.heap.size + 1 := hw1 ▸ by simp
  have f1 : w1.heap[w.heap.size]? = some (.cells #[.slice none 0 0] 86) := hw1 ▸ heap_alloc_new _ _
  have B1 := Lib.hid b1
  rw [hw1]
  have hseq := zero_row 4 w.heap.size 0 none (fun _ => #[.int .i64 0, .nilFunc]) w1 (by omega) (blk_cell f1 rfl)
  clear f1 b1 hw1
  refine range_row (n := 5) rfl (enters_of Tryz.func94 (by kernel_rfl) rfl) hseq (by decide) (fun _ => rfl) (by omega) (by omega)
    (fun j W => Below w.heap.size w W) ⟨fun j W l o h hl => h.trans ⟨rfl, rfl, rfl, by simp [World.putObj], fun k hk => World.putObj_heap_other (by omega)⟩, fun j W o h => h.alloc h.size o⟩ B1.out
    (fun j => { tmps := #[.pointer (some ⟨sb, 0, none⟩), .int .i64 0, undef, undef, .slice none 0 0, undef, .nilFunc, .pointer (some ⟨sb, 0, none⟩), .bool false, .bool false, .int .i64 0, .bool false, .bool false, .bool false, .int .i64 0, .pointer (some ⟨sb, 0, none⟩), .pointer (some ⟨sb, 0, none⟩), .pointer (some ⟨sb, 25, none⟩), .slice none 0 0, .int .i64 0, .bool false, .bool false, .pointer (some ⟨sb, 0, none⟩), .pointer (some ⟨sb, 0, none⟩), .pointer (some ⟨sb, 25, none⟩), .slice none 0 0, .int .i64 0, .slice none 0 0, .slice none 0 0, .func (.func 94) #[] #[.pointer (some ⟨w.heap.size, 0, none⟩)], .int .i64 0, .nilFunc, undef, undef, undef, undef, undef, undef, undef, undef, undef, undef, undef, undef], defers := [] }) ?assign ?body ?done
  case assign =>
    intro l j W K hK
    clear hseq
    gi_wp2
    exact hK
  case body =>
    rintro l j W hj
    omega
  case done =>
    rintro D W hD hsz hi hdef
    have HB := Lib.hid hi
    have hs2 := stay hi HS.out
    have q2 : W.cell? ⟨sb, 25, none⟩ = some (.slice none 0 0) := blk_cell hs2 (by simpa using HU.out)
    have hf2 : W.frozen? ⟨sb, 25, none⟩ = false := by simp [World.frozen?, hs2]
    have hsc := setCell_put hs2 hl
    have hcl : ∀ ty, (Builtin.clear_ #[86] ty #[.slice none 0 0]).run Tryz.prog W = .ok (.tuple #[]) W := fun ty => by simp [Builtin.clear_, run_underlying Tryz.underlying86, Result.andThen]
    have HD := Lib.hid hdef
    have HS2 := Lib.hid hs2
    clear hseq hi hs2 hdef
    gi_wp2
    have hdX : (W.setRow sb (putAt cs 25 [.slice none 0 0]).toArray).heap[D]? = some (.deferred (some [])) := by rw [setRow_other _ _ _ _ (by omega)]; exact HD.out
    refine ⟨by simp, .inl ⟨_, _, rfl, run_takeDeferred hdX, ?_⟩⟩
    refine ⟨_, results_none rfl _ _ _, rfl, ?_⟩
    have hid : W.setRow sb (putAt cs 25 [.slice none 0 0]).toArray = W := by
      rw [putAt_one hl, set_same HU.out]
      exact setRow_self W sb _ _ _ HS2.out
    rw [hid]
    exact HB.out.trans ⟨rfl, rfl, rfl, by simp [World.putObj], fun k hk => World.putObj_heap_other (by omega)⟩
set_option maxHeartbeats 4000000 in
theorem back_none_full {w : World} {sb ub n : Nat}  {cs : List Value} (hs : w.heap[sb]? = some (.cells cs.toArray 88)) (hu : cs[25]? = some (.slice (some ⟨ub, 0, none⟩) n n)) :
    Calls Tryz.prog 16 #[.pointer (some ⟨sb, 0, none⟩), .int .i64 (n : Int)] w fun e w' => e = .returned (.tuple #[]) ∧ Below w.heap.size w w' := by
  have hc25 : w.cell? ⟨sb, 25, none⟩ = some (.slice (some ⟨ub, 0, none⟩) n n) := blk_cell hs (by simpa using hu)
  have hsb : sb < w.heap.size := (Array.getElem?_eq_some_iff.1 hs).1
  have hl : 25 < cs.length := (List.getElem?_eq_some_iff.1 hu).1
  refine (callsIn_wide (n := 5)).1 ?_
  refine callsIn_of_wp_marks Tryz.func16 rfl trivial ?_ rfl
  simp only [Tryz.ntmps16, List.size_toArray, List.length_cons, List.length_nil, Nat.reduceAdd, Nat.reduceSub, Array.replicate_succ, Array.replicate_zero, List.push_toArray, List.append_toArray, List.nil_append, List.cons_append]
  have h62 : Fence.wide.fn 62 := trivial
  have hd1 : decide ((n : Int) < 0) = false := by simp
  have HS := Lib.hid hs
  have HU := Lib.hid hu
  clear hs hu
  gi_wp2_with (gi_at_call 62; refine (backward_in _ _ _ _ _).mono ?_; rintro e w' ⟨rfl, rfl⟩)
  obtain ⟨w1, hw1⟩ : ∃ w1, w.alloc (.cells #[.slice (some ⟨ub, 0, none⟩) 0 0] 86) = w1 := ⟨_, rfl⟩
  have b1 : Below w.heap.size w w1 := hw1 ▸ (Below.refl _ _).alloc (Nat.le_refl _) _
  have s1 : w1.heap.size = w.heap.size + 1 := hw1 ▸ by simp
  have f1 : w1.heap[w.heap.size]? = some (.cells #[.slice (some ⟨ub, 0, none⟩) 0 0] 86) := hw1 ▸ heap_alloc_new _ _
  have B1 := Lib.hid b1
  rw [hw1]
  have hseq := zero_row 4 w.heap.size 0 (some ⟨ub, 0, none⟩) (fun _ => #[.int .i64 0, .nilFunc]) w1 (by omega) (blk_cell f1 rfl)
  clear f1 b1 hw1
  refine range_row (n := 5) rfl (enters_of Tryz.func94 (by kernel_rfl) rfl) hseq (by decide) (fun _ => rfl) (by omega) (by omega)
    (fun j W => Below w.heap.size w W) ⟨fun j W l o h hl => h.trans ⟨rfl, rfl, rfl, by simp [World.putObj], fun k hk => World.putObj_heap_other (by omega)⟩, fun j W o h => h.alloc h.size o⟩ B1.out
    (fun j => { tmps := #[.pointer (some ⟨sb, 0, none⟩), .int .i64 (n : Int), undef, undef, .slice (some ⟨ub, 0, none⟩) 0 0, undef, .nilFunc, .pointer (some ⟨sb, 0, none⟩), .bool false, .bool false, .int .i64 (n : Int), .bool false, .bool false, .bool false, .int .i64 (n : Int), .pointer (some ⟨sb, 0, none⟩), .pointer (some ⟨sb, 0, none⟩), .pointer (some ⟨sb, 25, none⟩), .slice (some ⟨ub, 0, none⟩) n n, .int .i64 (n : Int), .bool false, .bool false, .pointer (some ⟨sb, 0, none⟩), .pointer (some ⟨sb, 0, none⟩), .pointer (some ⟨sb, 25, none⟩), .slice (some ⟨ub, 0, none⟩) n n, .int .i64 (n : Int), .slice (some ⟨ub, 0, none⟩) 0 0, .slice (some ⟨ub, 0, none⟩) 0 0, .func (.func 94) #[] #[.pointer (some ⟨w.heap.size, 0, none⟩)], .int .i64 0, .nilFunc, undef, undef, undef, undef, undef, undef, undef, undef, undef, undef, undef, undef], defers := [] }) ?assign ?body ?done
  case assign =>
    intro l j W K hK
    clear hseq
    gi_wp2
    exact hK
  case body =>
    rintro l j W hj
    omega
  case done =>
    rintro D W hD hsz hi hdef
    have HB := Lib.hid hi
    have hs2 := stay hi HS.out
    have q2 : W.cell? ⟨sb, 25, none⟩ = some (.slice (some ⟨ub, 0, none⟩) n n) := blk_cell hs2 (by simpa using HU.out)
    have hf2 : W.frozen? ⟨sb, 25, none⟩ = false := by simp [World.frozen?, hs2]
    have hsc := setCell_put hs2 hl
    have hcl : ∀ ty, (Builtin.clear_ #[86] ty #[.slice (some ⟨ub, 0, none⟩) 0 0]).run Tryz.prog W = .ok (.tuple #[]) W := fun ty => by simp [Builtin.clear_, run_underlying Tryz.underlying86, Result.andThen]
    have HD := Lib.hid hdef
    have HS2 := Lib.hid hs2
    clear hseq hi hs2 hdef
    gi_wp2
    have hdX : (W.setRow sb (putAt cs 25 [.slice (some ⟨ub, 0, none⟩) n n]).toArray).heap[D]? = some (.deferred (some [])) := by rw [setRow_other _ _ _ _ (by omega)]; exact HD.out
    refine ⟨by simp, .inl ⟨_, _, rfl, run_takeDeferred hdX, ?_⟩⟩
    refine ⟨_, results_none rfl _ _ _, rfl, ?_⟩
    have hid : W.setRow sb (putAt cs 25 [.slice (some ⟨ub, 0, none⟩) n n]).toArray = W := by
      rw [putAt_one hl, set_same HU.out]
      exact setRow_self W sb _ _ _ HS2.out
    rw [hid]
    exact HB.out.trans ⟨rfl, rfl, rfl, by simp [World.putObj], fun k hk => World.putObj_heap_other (by omega)⟩
set_option maxHeartbeats 4000000 in
theorem back_none_room {w : World} {sb ub n cap : Nat} (hcap : n < cap) {cs : List Value} (hs : w.heap[sb]? = some (.cells cs.toArray 88)) (hu : cs[25]? = some (.slice (some ⟨ub, 0, none⟩) n cap)) (hn : n ≤ 1048576) :
    Calls Tryz.prog 16 #[.pointer (some ⟨sb, 0, none⟩), .int .i64 (n : Int)] w fun e w' => e = .returned (.tuple #[]) ∧ Below w.heap.size w w' := by
  have hc25 : w.cell? ⟨sb, 25, none⟩ = some (.slice (some ⟨ub, 0, none⟩) n cap) := blk_cell hs (by simpa using hu)
  have hsb : sb < w.heap.size := (Array.getElem?_eq_some_iff.1 hs).1
  have hl : 25 < cs.length := (List.getElem?_eq_some_iff.1 hu).1
  refine (callsIn_wide (n := 5)).1 ?_
  refine callsIn_of_wp_marks Tryz.func16 rfl trivial ?_ rfl
  simp only [Tryz.ntmps16, List.size_toArray, List.length_cons, List.length_nil, Nat.reduceAdd, Nat.reduceSub, Array.replicate_succ, Array.replicate_zero, List.push_toArray, List.append_toArray, List.nil_append, List.cons_append]
  have h62 : Fence.wide.fn 62 := trivial
  have hcm : ¬ cap = n := by omega
  have hd1 : decide ((n : Int) < 0) = false := by simp
  have HS := Lib.hid hs
  have HU := Lib.hid hu
  clear hs hu
  gi_wp2_with (gi_at_call 62; refine (backward_in _ _ _ _ _).mono ?_; rintro e w' ⟨rfl, rfl⟩)
  obtain ⟨w1, hw1⟩ : ∃ w1, w.alloc (.cells #[.slice (some ⟨ub, n, none⟩) 0 (cap - n)] 86) = w1 := ⟨_, rfl⟩
  have b1 : Below w.heap.size w w1 := hw1 ▸ (Below.refl _ _).alloc (Nat.le_refl _) _
  have s1 : w1.heap.size = w.heap.size + 1 := hw1 ▸ by simp
  have f1 : w1.heap[w.heap.size]? = some (.cells #[.slice (some ⟨ub, n, none⟩) 0 (cap - n)] 86) := hw1 ▸ heap_alloc_new _ _
  have B1 := Lib.hid b1
  rw [hw1]
  have hseq := zero_row 4 w.heap.size (cap - n) (some ⟨ub, n, none⟩) (fun _ => #[.int .i64 0, .nilFunc]) w1 (by omega) (blk_cell f1 rfl)
  clear f1 b1 hw1
  refine range_row (n := 5) rfl (enters_of Tryz.func94 (by kernel_rfl) rfl) hseq (by decide) (fun _ => rfl) (by omega) (by omega)
    (fun j W => Below w.heap.size w W) ⟨fun j W l o h hl => h.trans ⟨rfl, rfl, rfl, by simp [World.putObj], fun k hk => World.putObj_heap_other (by omega)⟩, fun j W o h => h.alloc h.size o⟩ B1.out
    (fun j => { tmps := #[.pointer (some ⟨sb, 0, none⟩), .int .i64 (n : Int), undef, undef, .slice (some ⟨ub, n, none⟩) 0 (cap - n), undef, .nilFunc, .pointer (some ⟨sb, 0, none⟩), .bool false, .bool false, .int .i64 (n : Int), .bool false, .bool false, .bool false, .int .i64 (n : Int), .pointer (some ⟨sb, 0, none⟩), .pointer (some ⟨sb, 0, none⟩), .pointer (some ⟨sb, 25, none⟩), .slice (some ⟨ub, 0, none⟩) n cap, .int .i64 (n : Int), .bool false, .bool false, .pointer (some ⟨sb, 0, none⟩), .pointer (some ⟨sb, 0, none⟩), .pointer (some ⟨sb, 25, none⟩), .slice (some ⟨ub, 0, none⟩) n cap, .int .i64 (n : Int), .slice (some ⟨ub, n, none⟩) 0 (cap - n), .slice (some ⟨ub, n, none⟩) 0 (cap - n), .func (.func 94) #[] #[.pointer (some ⟨w.heap.size, 0, none⟩)], .int .i64 0, .nilFunc, undef, undef, undef, undef, undef, undef, undef, undef, undef, undef, undef, undef], defers := [] }) ?assign ?body ?done
  case assign =>
    intro l j W K hK
    clear hseq
    gi_wp2
    exact hK
  case body =>
    rintro l j W hj
    omega
  case done =>
    rintro D W hD hsz hi hdef
    have HB := Lib.hid hi
    have hs2 := stay hi HS.out
    have q2 : W.cell? ⟨sb, 25, none⟩ = some (.slice (some ⟨ub, 0, none⟩) n cap) := blk_cell hs2 (by simpa using HU.out)
    have hf2 : W.frozen? ⟨sb, 25, none⟩ = false := by simp [World.frozen?, hs2]
    have hsc := setCell_put hs2 hl
    have hcl : ∀ ty, (Builtin.clear_ #[86] ty #[.slice (some ⟨ub, n, none⟩) 0 (cap - n)]).run Tryz.prog W = .ok (.tuple #[]) W := fun ty => by simp [Builtin.clear_, run_underlying Tryz.underlying86, Result.andThen]
    have HD := Lib.hid hdef
    have HS2 := Lib.hid hs2
    clear hseq hi hs2 hdef
    gi_wp2
    have hdX : (W.setRow sb (putAt cs 25 [.slice (some ⟨ub, 0, none⟩) n cap]).toArray).heap[D]? = some (.deferred (some [])) := by rw [setRow_other _ _ _ _ (by omega)]; exact HD.out
    refine ⟨by simp, .inl ⟨_, _, rfl, run_takeDeferred hdX, ?_⟩⟩
    refine ⟨_, results_none rfl _ _ _, rfl, ?_⟩
    have hid : W.setRow sb (putAt cs 25 [.slice (some ⟨ub, 0, none⟩) n cap]).toArray = W := by
      rw [putAt_one hl, set_same HU.out]
      exact setRow_self W sb _ _ _ HS2.out
    rw [hid]
    exact HB.out.trans ⟨rfl, rfl, rfl, by simp [World.putObj], fun k hk => World.putObj_heap_other (by omega)⟩
end Go.Proofs.YtnjeoeekidnffaaGreat
/- Stage 14: newStorage; the closures of Set and TouchSlot. -/
namespace Go.Proofs.YtnjeoeekidnffaaGreat
open Go.RowKit SmWord Go.Maps
set_option maxRecDepth 100000

theorem run_makeW (w : World) : (Instr.makeMap 162 none).run Tryz.prog w = .ok (.map (some w.heap.size)) (w.alloc (.map #[] 0)) := by
  simp [Instr.makeMap, Result.andThen]
theorem newSto_walk {w : World} {so : List (Nat × Nat)} {qa : Option Addr} {c : Nat} (hq : 0 < so.length → ∃ b off, qa = some ⟨b, off, none⟩ ∧ ∀ i s, so[i]? = some s → rng (hp w) b (off + i * 8) (scs s)) (hl : so.length ≤ 1000000) (hM : ∀ s ∈ so, s.1 < M ∧ s.2 < M) (hr : rightS so = true) :
    Calls Tryz.prog 84 #[.slice qa so.length c] w fun e w' => e = .returned (.pointer (some ⟨w.heap.size + 1, 0, none⟩)) ∧ StoAt w' (w.heap.size + 1) so (fun _ => none) 0 w.heap.size ∧ Below w.heap.size w w' := by
  have HQ := Lib.hid hq
  have HM := Lib.hid hM
  have HL := Lib.hid hl
  obtain ⟨W1, hW1⟩ : ∃ W1, w.alloc (.map #[] 0) = W1 := ⟨_, rfl⟩
  obtain ⟨W2, hW2⟩ : ∃ W2, W1.alloc (.cells #[.slice qa so.length c, .map (some w.heap.size)] 164) = W2 := ⟨_, rfl⟩
  have s1 : W1.heap.size = w.heap.size + 1 := hW1 ▸ by simp
  have b1 : Below w.heap.size w W1 := hW1 ▸ (Below.refl _ _).alloc (Nat.le_refl _) _
  have b2 : Below W1.heap.size W1 W2 := hW2 ▸ (Below.refl _ _).alloc (Nat.le_refl _) _
  have m1 : mapIsW W1 w.heap.size 0 (fun _ => none) := hW1 ▸ mapIs_madeW w
  have f2 : W2.heap[w.heap.size + 1]? = some (.cells #[.slice qa so.length c, .map (some w.heap.size)] 164) := by rw [← s1]; exact hW2 ▸ heap_alloc_new _ _
  have bb := b1.trans (b2.mono b1.size)
  have m2 : mapIsW W2 w.heap.size 0 (fun _ => none) := m1.same (b2.block _ (by omega))
  have hst : StoAt W2 (w.heap.size + 1) so (fun _ => none) 0 w.heap.size := ⟨⟨qa, c, f2, fun hn => by
    obtain ⟨b, off, e, hi⟩ := HQ.out hn
    exact ⟨b, off, e, fun i s hs => (hi i s hs).sub (hp_below bb)⟩⟩, HL.out, HM.out, hr, m2, fun _ _ h => by cases h⟩
  have HST := Lib.hid hst
  have HB := Lib.hid bb
  clear hq hM hl hr b1 b2 m1 f2 bb m2 hst
  have hmk := run_makeW w
  go_enter Tryz.func84, Tryz.ntmps84
  go_wp2_with fail
  go_ret
  exact ⟨rfl, HST.out, HB.out⟩
set_option maxHeartbeats 1000000 in
/-- Set's closure: what was stored ahead is stored again. -/
theorem undo_set {w : World} {c0 c1 c2 p k v : Nat} {so : List (Nat × Nat)} {g : Nat → Option Nat} {n m : Nat} (h : StoAt w p so g n m) (hk : k < M) (hv : v < M) (hn : n < maxLen) (h0 : w.cell? ⟨c0, 0, none⟩ = some (.pointer (some ⟨p, 0, none⟩))) (h1 : w.heap[c1]? = some (.cells (wa k) 44)) (h2 : w.heap[c2]? = some (.cells (wa v) 44)) :
    Calls Tryz.prog 73 #[.pointer (some ⟨c0, 0, none⟩), .pointer (some ⟨c1, 0, none⟩), .pointer (some ⟨c2, 0, none⟩)] w fun e w' => e = .returned (.tuple #[]) ∧ mapIsW w' m (n + 1) (fun k' => (setS so g k v k').map wd) ∧ w.grownBy w' (some m) := by
  have hw := wa_size
  have r1 := (rng_block (cs := (wa k).toList) (by simpa using h1)).at
  have r2 := (rng_block (cs := (wa v).toList) (by simpa using h2)).at
  have KS := Lib.hid (sset_walk k v w h hk hv hn)
  clear h hk hv hn h1 h2
  unfold wd at KS
  go_enter Tryz.func73, Tryz.ntmps73
  go_wp2_with (first
    | (refine wpList_load_mid rfl 44 _ rfl c1 0 rfl (wa k).toList _ r1 Tryz.underlying44 rfl (infoW4 _) ?_; simp only [Array.toArray_toList])
    | (refine wpList_load_mid rfl 44 _ rfl c2 0 rfl (wa v).toList _ r2 Tryz.underlying44 rfl (infoW4 _) ?_; simp only [Array.toArray_toList])
    | (go_at_call 72; refine KS.out.mono ?_; rintro e w5 ⟨rfl, hm5, hg5⟩))
  exact bodyPost_end (results_none rfl _ _ _) rfl ⟨rfl, hm5, hg5⟩
set_option maxHeartbeats 1000000 in
/-- TouchSlot's closure: the key is taken out. -/
theorem undo_slot {w : World} {c0 c1 k n m : Nat} {f : Nat → Option Value} (h : mapIsW w m n f) (hk : k < M) (h0 : w.cell? ⟨c0, 0, none⟩ = some (.map (some m))) (h1 : w.heap[c1]? = some (.cells (wa k) 44)) :
    Calls Tryz.prog 66 #[.pointer (some ⟨c0, 0, none⟩), .pointer (some ⟨c1, 0, none⟩)] w fun e w' => e = .returned (.tuple #[]) ∧ mapIsW w' m n (updN f k) ∧ w.grownBy w' (some m) := by
  have hw := wa_size
  have r1 := (rng_block (cs := (wa k).toList) (by simpa using h1)).at
  have HM := Lib.hid h
  have HK := Lib.hid hk
  clear h hk h1
  go_enter Tryz.func66, Tryz.ntmps66
  go_wp2_with (first
    | (refine wpList_load_mid rfl 44 _ rfl c1 0 rfl (wa k).toList _ r1 Tryz.underlying44 rfl (infoW4 _) ?_; simp only [Array.toArray_toList])
    | (refine wpList_delW rfl _ _ 118 rfl 123 Tryz.underlying118 m n _ rfl HM.out k HK.out rfl ?_; intro w5 h5 g5))
  exact bodyPost_end (results_none rfl _ _ _) rfl ⟨rfl, h5, g5⟩
end Go.Proofs.YtnjeoeekidnffaaGreat
/- Stage 14: the closure of Log: the last log is deleted. -/
namespace Go.Proofs.YtnjeoeekidnffaaGreat
open Go.RowKit SmWord Go.Maps
set_option maxRecDepth 100000

theorem infoLg : (Tryz.prog.info? 60).map (·.size) = some 22 := by kernel_rfl
theorem app_zero (w : World) (ty : TypeId) (a : Addr) (n c cp : Nat) (q : Option Addr) (h : n ≤ c) : (Builtin.append_ #[34, 34] ty #[.slice (some a) n c, .slice q 0 cp]).run Tryz.prog w = .ok (.slice (some a) n c) w := by
  obtain ⟨i, hi⟩ : ∃ i, Tryz.prog.info? 60 = some i := by
    have h2 := infoLg
    cases h : Tryz.prog.info? 60 with
    | none => rw [h] at h2; cases h2
    | some i => exact ⟨i, rfl⟩
  cases q <;> simp [Builtin.append_, run_underlying Tryz.underlying34, sizeOf, typeInfo, hi, Builtin.lenOf, Builtin.firstCells, h, storeCells, loadCells, loadCellsFrom]
def zL : Array Value := aN 0 ++ #[.slice none 0 0, .slice none 0 0]
theorem infoLz : (Tryz.prog.info? 60).map (fun i => (i.zero, i.size)) = some (some (.agg zL), 22) := by kernel_rfl
theorem zL_len : (Builtin.zeroCells zL 1).toList.length = 22 := by kernel_rfl
theorem log_cut {row : Array Value} {n : Nat} (hr : (n + 1) * 22 ≤ row.size) :
    (row.toList.take (n * 22) ++ (Builtin.zeroCells zL 1).toList ++ row.toList.drop (n * 22 + 22)).toArray.size = row.size ∧ ∀ i, i < n * 22 → (row.toList.take (n * 22) ++ (Builtin.zeroCells zL 1).toList ++ row.toList.drop (n * 22 + 22)).toArray[i]? = row[i]? := by
  have h22 := zL_len
  generalize (Builtin.zeroCells zL 1).toList = z at *
  refine ⟨?_, fun i hi => ?_⟩
  · rw [List.size_toArray, List.length_append, List.length_append, h22, List.length_take, List.length_drop, Array.length_toList]
    omega
  · rw [List.getElem?_toArray, List.append_assoc, List.getElem?_append_left (by rw [List.length_take, Array.length_toList]; omega), List.getElem?_take_of_lt hi, Array.getElem?_toList]
theorem clear_log {W : World} {lb n : Nat} {row : Array Value} (h : W.heap[lb]? = some (.cells row 60)) (hk : (n + 1) * 22 ≤ row.size) (cap : Nat) (ty : TypeId) :
    (Builtin.clear_ #[34] ty #[.slice (some ⟨lb, n * 22, none⟩) 1 cap]).run Tryz.prog W = .ok (.tuple #[]) (W.setRow lb (row.toList.take (n * 22) ++ (Builtin.zeroCells zL 1).toList ++ row.toList.drop (n * 22 + 22)).toArray) := by
  have hz : (zeroValue 60).run Tryz.prog W = .ok (.agg zL) W := (zero_of_info infoLz).1 W
  have hlen : (Builtin.zeroCells zL 1).toList.length = 22 := by kernel_rfl
  have hone : (Builtin.zeroCells zL 1).toList.all (·.oneCell') = true := by kernel_rfl
  have hst := run_storeCells_at Tryz.prog lb (n * 22) 60 (Builtin.zeroCells zL 1).toList 0 row W h (by rw [hlen]; omega) (fun v hv => List.all_eq_true.1 hone v hv)
  rw [Nat.add_zero, hlen] at hst
  simp [Builtin.clear_, run_underlying Tryz.underlying34, hz, Value.cells, hst, Result.andThen]
set_option maxHeartbeats 4000000 in
theorem delLast_walk {w : World} {lb n c : Nat} {row : Array Value} (h : w.heap[lb]? = some (.cells row 60)) (hr : (n + 1) * 22 ≤ row.size) (hc : n + 1 ≤ c) (hn : n ≤ 1048576) :
    Calls Tryz.prog 70 #[.slice (some ⟨lb, 0, none⟩) (n + 1) c, .int .i64 (n : Int), .int .i64 ((n : Int) + 1)] w fun e w' => e = .returned (.slice (some ⟨lb, 0, none⟩) n c) ∧ w.grownBy w' (some lb) ∧ ∃ row', w'.heap[lb]? = some (.cells row' 60) ∧ row'.size = row.size ∧ ∀ i, i < n * 22 → row'[i]? = row[i]? := by
  have H := Lib.hid h
  have hd : ((n : Int) == (n : Int) + 1) = false := by simp; omega
  clear h
  go_enter Tryz.func70, Tryz.ntmps70
  go_upto_region 5 with fail
  refine region_tail 6 (by kernel_rfl) (by kernel_rfl) ?_
  simp only [List.take_succ_cons, List.take_zero, List.drop_succ_cons, List.drop_zero]
  have hnc : n ≤ c := by omega
  have hn1 : (n : Int) ≤ ((n + 1 : Nat) : Int) := by omega
  have hz0 : (0 : Int) ≤ (n : Int) + 1 := by omega
  have hn2 : n ≤ n + 1 := by omega
  have hn3 : (n : Int) ≤ (n : Int) + 1 := by omega
  by_cases hcc : c = n + 1
  · subst hcc
    repeat still_step
    refine wpStill_nil ?_
    refine Lib.wpList_append_run _ rfl _ _ _ _ rfl _ _ rfl rfl _ _ (app_zero _ _ _ _ _ _ _ (by omega)) ?_
    have hcl := clear_log (show w.drew.heap[lb]? = _ from H.out) hr
    have HL := Lib.hid (log_cut hr)
    go_wp2_with fail
    go_ret
    exact ⟨rfl, ⟨rfl, rfl, rfl, by rw [setRow_size]; exact Nat.le_refl _, fun k _ hk => setRow_other _ _ _ _ (fun e => hk (by rw [e]))⟩, _, blk_row H.out, by rw [← List.append_assoc]; exact HL.out.1, fun i hi => by rw [← List.append_assoc]; exact HL.out.2 i hi⟩
  · repeat still_step
    refine wpStill_nil ?_
    refine Lib.wpList_append_run _ rfl _ _ _ _ rfl _ _ rfl rfl _ _ (app_zero _ _ _ _ _ _ _ (by omega)) ?_
    have hcl := clear_log (show w.drew.heap[lb]? = _ from H.out) hr
    have HL := Lib.hid (log_cut hr)
    go_wp2_with fail
    go_ret
    exact ⟨rfl, ⟨rfl, rfl, rfl, by rw [setRow_size]; exact Nat.le_refl _, fun k _ hk => setRow_other _ _ _ _ (fun e => hk (by rw [e]))⟩, _, blk_row H.out, by rw [← List.append_assoc]; exact HL.out.1, fun i hi => by rw [← List.append_assoc]; exact HL.out.2 i hi⟩
end Go.Proofs.YtnjeoeekidnffaaGreat
