/- What the functions Turn, take and first of package keccak do: a state behind 24 rounds; bytes put into the lanes; the first bytes of the lanes. -/
import Derived.Test.YtmcbaolecmkpdaaDoorG8
import Derived.Test.YtmcbaolecmkpdaaDoorG3
import Derived.Laws.CopyOwn
import Derived.Deep.MidRow
import Derived.Deep.CutRange
namespace Go.Proofs.YtmcbaolecmkpdaaDoor
open Go.RowKit SmWord
set_option maxRecDepth 100000

/-- 136 bytes. -/
def pa (f : Nat → Nat) : Array Value := arr .u8 136 (fun i => ((f i : Nat) : Int))
def zP : Array Value := pa fun _ => 0
theorem Tryd.infoP : (Tryd.prog.info? 76).map (fun i => (i.zero, i.size)) = some (some (.agg zP), 136) := by kernel_rfl
theorem zP_run (w : World) : (zeroValue 76).run Tryd.prog w = .ok (.agg zP) w := (zero_of_info Tryd.infoP).1 w
theorem infoArrP (f : Nat → Nat) : (Tryd.prog.info? 76).map (·.size) = some (pa f).size := by rw [pa, arr_size]; exact (zero_of_info Tryd.infoP).2
/-- 32 bytes. -/
def ha (f : Nat → Nat) : Array Value := arr .u8 32 (fun i => ((f i : Nat) : Int))
def zH : Array Value := ha fun _ => 0
theorem Tryd.infoH : (Tryd.prog.info? 57).map (fun i => (i.zero, i.size)) = some (some (.agg zH), 32) := by kernel_rfl
theorem zH_run (w : World) : (zeroValue 57).run Tryd.prog w = .ok (.agg zH) w := (zero_of_info Tryd.infoH).1 w
theorem infoArrH (f : Nat → Nat) : (Tryd.prog.info? 57).map (·.size) = some (ha f).size := by rw [ha, arr_size]; exact (zero_of_info Tryd.infoH).2

theorem index_pa (f : Nat → Nat) {k : Nat} (hk : k < 136) (w : World) : (Instr.index 76 (.agg (pa f)) (.int .i64 (k : Int))).run Tryd.prog w = .ok (.int .u8 ((f k : Nat) : Int)) w := by
  have hn : (0 : Int) ≤ (k : Int) ∧ (k : Int) < ((136 : Nat) : Int) := by omega
  simp [Instr.index, run_underlying Tryd.underlying76, asIntOf, hn, go_sem, hk, show (pa f)[k]? = _ from arr_get _ _ hk]
theorem put_put (T : Nat → Nat) {k x z : Nat} (hk : k < 136) (hz : x * 2 ^ (8 * (k % 8)) = z) : (sa T).setIfInBounds (k / 8) (.int .u64 ((T (k / 8) ^^^ z : Nat) : Int)) = sa (put T k x) := by
  rw [sa_set (by omega)]
  refine sa_congr fun i _ => ?_
  unfold put
  by_cases e : i = k / 8
  · rw [if_pos e, if_pos e, ← hz, ← e]
  · rw [if_neg e, if_neg e]
theorem wrap_put {x z s : Nat} (hz : x * 2 ^ s = z) (h : z < B) : IntKind.u64.wrap ((x : Int) * 2 ^ s) = (z : Int) := by
  rw [show (x : Int) * 2 ^ s = ((x * 2 ^ s : Nat) : Int) by simp, hz, IntKind.wrap_u64]
  simp only [B] at h
  omega
set_option maxHeartbeats 2000000 in
theorem take_walk (b : Nat) (S f : Nat → Nat) (w : World) (hS : okS S) (hf : ∀ i, i < 136 → f i < 256) (hb : w.heap[b]? = some (.cells (sa S) 72)) :
    Calls Tryd.prog 43 #[.pointer (some ⟨b, 0, none⟩), .agg (pa f)] w fun e w' => e = .returned (.tuple #[]) ∧ Wrote b w w' ∧ w'.heap[b]? = some (.cells (sa (tk S f 136)) 72) := by
  have HS := Lib.hid hS
  have HF := Lib.hid hf
  have hl := (Array.getElem?_eq_some_iff.1 hb).1
  have f1 : (w.alloc (.cells (pa f) 76)).heap[w.heap.size]? = some (.cells (pa f) 76) := heap_alloc_new _ _
  have HW := Lib.hid hb
  clear hS hb hf
  go_enter Tryd.func43, Tryd.ntmps43
  go_wp2_with (first | (refine wpList_load_row rfl 76 _ rfl _ rfl 76 (pa f) (0, 0) _ f1 Tryd.underlying76 rfl (infoArrP _) ?_))
  clear f1
  have hW : Wrote b w (w.alloc (.cells (pa f) 76)) := Wrote.of_below ((Below.refl _ _).alloc (Nat.le_refl _) _)
  have f0 : (w.alloc (.cells (pa f) 76)).heap[b]? = some (.cells (sa S) 72) := blk_alloc HW.out
  generalize w.alloc (.cells (pa f) 76) = W at *
  go_loopw [7] (fun i wr => ∃ k : Nat, k ≤ 136 ∧ i = .int .i64 k ∧ Wrote b w wr ∧ wr.heap[b]? = some (.cells (sa (tk S f k)) 72)) (fun i _ => 136 - (intOf i).toNat)
  case atStart => exact ⟨0, by omega, rfl, hW, f0⟩
  case round =>
    clear hW f0 HW hl
    obtain ⟨k, hk, rfl, hw, f0⟩ := hrel
    by_cases hlt : k < 136
    · have hq : k / 8 < 25 := by omega
      have hfk := HF.out k hlt
      have hfg := index_pa f hlt wr
      obtain ⟨z, hz⟩ : ∃ z, f k * 2 ^ (8 * (k % 8)) = z := ⟨_, rfl⟩
      have hzB : z < B := by rw [← hz]; exact byte_up hfk
      have hwr := wrap_put hz hzB
      obtain ⟨T, hTk⟩ : ∃ T, T = tk S f k := ⟨_, rfl⟩
      have hok : okS T := by rw [hTk]; exact tk_lt HS.out k (fun i hi => HF.out i (by omega))
      rw [← hTk] at f0
      have hx : bits .xor .u64 ((T (k / 8) : Nat) : Int) ((z : Nat) : Int) = ((T (k / 8) ^^^ z : Nat) : Int) := xor_nat (hok _ hq) hzB
      have HK := Lib.hid hTk
      have HF0 := Lib.hid f0
      have HWr := Lib.hid hw
      have HZ := Lib.hid hz
      clear hTk f0 hw hok hz hzB
      go_wp2_with fail
      clear hfg
      refine region_last2 (aQ := ?aQ) 15 (by kernel_rfl) (by kernel_rfl) (fun w1 => ?hq) (fun w0' hb' => ?hh)
      case hq =>
        have cg : ∀ g : Ext w1.on, g.on.cell? ⟨b, k / 8, none⟩ = some (.int .u64 ((T (k / 8) : Nat) : Int)) := fun g =>
          blk_cell (g.block (w1.block HF0.out)) (sa_get (S := T) (i := k / 8) hq)
        simp only [List.take_succ_cons, List.take_zero]
        repeat (go_big_quiet_step (fail))
        refine wpQuiet_nil ?_
        rfl
      have g0 : w0'.heap[b]? = some (.cells (sa T) 72) := Ext.block ⟨w0', hb'⟩ HF0.out
      replace HWr := Lib.hid (HWr.out.trans (Wrote.of_below hb'))
      clear HF0 hb'
      have cx := blk_cell g0 (sa_get (i := k / 8) hq)
      have fz := blk_frozen (j := k / 8) g0
      have h0 : (w0'.setCell ⟨b, k / 8, none⟩ (.int .u64 ((T (k / 8) ^^^ z : Nat) : Int))).heap[b]? = _ := blk_set g0 _
      rw [put_put T hlt HZ.out, show put T k (f k) = tk S f (k + 1) by rw [tk, ← HK.out]] at h0
      have HH := Lib.hid h0
      clear h0 g0
      simp only [List.drop_succ_cons, List.drop_zero]
      go_wp2_with fail
      refine ⟨⟨k + 1, by omega, by go_num, HWr.out.trans (Wrote.put _ _), HH.out⟩, by simp [intOf]; omega⟩
    · obtain rfl : k = 136 := by omega
      have HF0 := Lib.hid f0
      have HWr := Lib.hid hw
      clear f0 hw
      go_wp2_with fail
      first | go_ret | go_end0
      exact ⟨rfl, HWr.out, HF0.out⟩
/-- The lanes' bytes, below k. -/
def hk (S : Nat → Nat) (k i : Nat) : Nat := if i < k then hb S i else 0
theorem hk_next (S : Nat → Nat) {k : Nat} (h : k < 32) : (ha (hk S k)).setIfInBounds k (.int .u8 ((hb S k : Nat) : Int)) = ha (hk S (k + 1)) := by
  unfold ha
  rw [arr_set _ _ _ h]
  refine arr_congr fun i _ => ?_
  unfold hk
  by_cases e : i = k
  · subst e; simp
  · by_cases l : i < k
    · simp [e, l, show i < k + 1 by omega]
    · simp [e, l, show ¬ i < k + 1 by omega]
theorem hk_start (S : Nat → Nat) : ha (hk S 0) = zH := arr_congr fun i _ => by simp [hk]
theorem hk_end (S : Nat → Nat) : ha (hk S 32) = ha (hb S) := arr_congr fun i hi => by simp [hk, hi]
set_option maxHeartbeats 2000000 in
theorem first_walk (S : Nat → Nat) (w : World) :
    Calls Tryd.prog 45 #[.agg (sa S)] w fun e w' => e = .returned (.agg (ha (hb S))) ∧ Below w.heap.size w w' := by
  go_enter Tryd.func45, Tryd.ntmps45
  go_wp2_with (first | (refine wpList_alloc_row rfl 57 rfl zH zH_run ?_))
  have f0 : (((w.alloc (.cells (sa S) 72)).alloc (.cells zH 57)).alloc (.cells zH 57)).heap[w.heap.size]? = some (.cells (sa S) 72) := blk_alloc (blk_alloc (heap_alloc_new _ _))
  have f1 : (((w.alloc (.cells (sa S) 72)).alloc (.cells zH 57)).alloc (.cells zH 57)).heap[w.heap.size + 1]? = some (.cells zH 57) := blk_alloc (heap_alloc2_new _ _ _)
  have f2 : (((w.alloc (.cells (sa S) 72)).alloc (.cells zH 57)).alloc (.cells zH 57)).heap[w.heap.size + 1 + 1]? = some (.cells (ha (hk S 0)) 57) := by
    rw [hk_start]
    have := heap_alloc_new ((w.alloc (.cells (sa S) 72)).alloc (.cells zH 57)) (.cells zH 57)
    simpa using this
  have bW : Below w.heap.size w (((w.alloc (.cells (sa S) 72)).alloc (.cells zH 57)).alloc (.cells zH 57)) := (((Below.refl _ _).alloc (Nat.le_refl _) _).alloc (by simp) _).alloc (by simp; omega) _
  generalize (((w.alloc (.cells (sa S) 72)).alloc (.cells zH 57)).alloc (.cells zH 57)) = W at *
  go_loopw [5] (fun i wr => ∃ k : Nat, k ≤ 32 ∧ i = .int .i64 k ∧ Below w.heap.size w wr ∧ wr.heap[w.heap.size]? = some (.cells (sa S) 72) ∧ wr.heap[w.heap.size + 1]? = some (.cells zH 57) ∧ wr.heap[w.heap.size + 1 + 1]? = some (.cells (ha (hk S k)) 57)) (fun i _ => 32 - (intOf i).toNat)
  case atStart => exact ⟨0, by omega, rfl, bW, f0, f1, f2⟩
  case round =>
    clear bW f0 f1 f2
    obtain ⟨k, hk', rfl, hbw, f0, f1, f2⟩ := hrel
    by_cases hlt : k < 32
    · have hq : k / 8 < 25 := by omega
      have c0 := blk_cell f0 (sa_get (S := S) (i := k / 8) hq)
      have c2 := blk_cell f2 (arr_get .u8 (fun i => ((hk S k i : Nat) : Int)) hlt)
      have fz := blk_frozen (j := k) f2
      have hv : IntKind.u8.wrap (((S (k / 8) : Nat) : Int) / 2 ^ (8 * (k % 8))) = ((hb S k : Nat) : Int) := by
        unfold hb
        rw [IntKind.wrap_u8, show ((S (k / 8) : Nat) : Int) / 2 ^ (8 * (k % 8)) = ((S (k / 8) / 2 ^ (8 * (k % 8)) : Nat) : Int) by simp]
        omega
      have F0 := Lib.hid f0
      have F1 := Lib.hid f1
      have F2 := Lib.hid f2
      have HB := Lib.hid hbw
      clear f0 f1 f2 hbw
      go_wp2_with fail
      refine ⟨⟨k + 1, by omega, by go_num, HB.out.setCell (by simp; omega) _, blk_other F0.out (by omega) _, blk_other F1.out (by omega) _, ?_⟩, by simp [intOf]; omega⟩
      rw [← hk_next S hlt]
      exact blk_set F2.out _
    · obtain rfl : k = 32 := by omega
      rw [hk_end] at f2
      have HB := Lib.hid hbw
      clear hbw f0
      go_wp2_with (first | (refine wpList_load_row rfl 57 _ rfl _ rfl 57 (ha (hb S)) (0, 0) _ f2 Tryd.underlying57 rfl (infoArrH _) ?_) | (refine wpList_store_row rfl 57 _ _ rfl _ zH (ha (hb S)) rfl rfl f1 (infoArrH _) rfl (arr_one _ _ _) ?_))
      refine bodyPost_ret (v := .agg (ha (hb S))) (results_cell_row rfl _ _ _ 57 (ha (hb S)) (0, 0) _ rfl (blk_row f1) Tryd.underlying57 rfl (infoArrH _)) rfl ⟨rfl, below_setRow HB.out (by omega) _⟩
end Go.Proofs.YtmcbaolecmkpdaaDoor
/- What the function Sum of package keccak does: the hash of bytes. -/
namespace Go.Proofs.YtmcbaolecmkpdaaDoor
open Go.RowKit SmWord
set_option maxRecDepth 100000

theorem Tryd.arrayP (a : Addr) (n c : Nat) (h : 136 ≤ n) (w : World) : (Instr.arrayAt 76 (.slice (some a) n c)).run Tryd.prog w = .ok (.pointer (some a)) w := by
  simp [Instr.arrayAt, run_underlying Tryd.underlying76]
  omega
def lenOf : Value → Nat | .slice _ n _ => n | _ => 0
/-- 136 bytes, loaded out of the middle of a block. -/
theorem load_pa {ops : Array Oper} {rest : List Oper} {o : Oper} {a : Act} {w : World} {Q : Exit → Act → World → Prop} (hg : o.guard = none) (x : Operand) (ho : o.op = .load 76 x)
    (b off : Nat) (hx : a.eval x = .pointer (some ⟨b, off, none⟩)) (g : Nat → Nat) (hc : ∀ i, i < 136 → w.cell? ⟨b, off + i, none⟩ = some (.int .u8 ((g i : Nat) : Int)))
    (h : wpList Tryd.prog ops Q rest (a.put o.dst (.agg (pa g))) w) : wpList Tryd.prog ops Q (o :: rest) a w :=
  wpList_load_mid hg 76 x ho b off hx ((List.range 136).map fun i => Value.int .u8 ((g i : Nat) : Int)) _ (fun i v hv => by
    have hi : i < 136 := by have := (List.getElem?_eq_some_iff.1 hv).1; simpa using this
    rw [List.getElem?_map, List.getElem?_range hi] at hv
    cases hv
    exact hc i hi) Tryd.underlying76 rfl (by rw [List.length_map, List.length_range]; exact (zero_of_info Tryd.infoP).2) h
/-- m bytes, and noughts behind them. -/
def cp (F : Nat → Nat) (m i : Nat) : Nat := if i < m then F i else 0
theorem splice_pa (F : Nat → Nat) (m : Nat) (hm : m ≤ 136) : (splice ((List.range 136).map fun _ => Value.int .u8 ((0 : Nat) : Int)) 0 ((List.range m).map fun i => Value.int .u8 ((F i : Nat) : Int))).toArray = pa (cp F m) := by
  have hl : ((List.range m).map fun i => Value.int .u8 ((F i : Nat) : Int)).length = m := by simp
  apply Array.ext'
  apply List.ext_getElem?
  intro i
  have e1 : (pa (cp F m)).toList[i]? = (pa (cp F m))[i]? := Array.getElem?_toList
  have e2 : (splice ((List.range 136).map fun _ => Value.int .u8 ((0 : Nat) : Int)) 0 ((List.range m).map fun i => Value.int .u8 ((F i : Nat) : Int))) = ((List.range m).map fun i => Value.int .u8 ((F i : Nat) : Int)) ++ ((List.range 136).map fun _ => Value.int .u8 ((0 : Nat) : Int)).drop m := by
    unfold splice
    rw [hl, Nat.zero_add, List.take_zero, List.nil_append]
  rw [e1, e2, List.toList_toArray]
  by_cases h : i < 136
  · rw [show (pa (cp F m))[i]? = _ from arr_get _ _ h]
    by_cases l : i < m
    · rw [List.getElem?_append_left (by rw [hl]; exact l), List.getElem?_map, List.getElem?_range l]
      simp [cp, l]
    · rw [List.getElem?_append_right (by rw [hl]; omega), hl, List.getElem?_drop, List.getElem?_map, List.getElem?_range (by omega)]
      simp [cp, l]
  · rw [List.getElem?_eq_none (by rw [List.length_append, hl, List.length_drop, List.length_map, List.length_range]; omega), Array.getElem?_eq_none (by rw [pa, arr_size]; omega)]
theorem Tryd.size8 : (Tryd.prog.info? 5).map (·.size) = some 1 := by kernel_rfl
theorem copy_pa {ops : Array Oper} {rest : List Oper} {o : Oper} {a : Act} {w : World} {Q : Exit → Act → World → Prop} (hg : o.guard = none) (d s : Operand)
    (ho : o.op = .call { callee := .builtin .copy, args := #[d, s], argTypes := #[33, 33] }) (g m c : Nat) (A : Option Addr) (hd : a.eval d = .slice (some ⟨g, 0, none⟩) 136 136) (hs : a.eval s = .slice A m c) (hm : m ≤ 136) (F : Nat → Nat)
    (hsl : Sl w A m F) (hb : w.heap[g]? = some (.cells zP 76))
    (h : ∀ w', Hid (w'.heap[g]? = some (.cells (pa (cp F m)) 76)) → Below g w w' → wpList Tryd.prog ops Q rest (a.put o.dst (goInt m)) w') : wpList Tryd.prog ops Q (o :: rest) a w := by
  have hl : ((List.range m).map fun i => Value.int .u8 ((F i : Nat) : Int)).length = m := by simp
  refine wpList_copy_splice hg d s 33 33 ho 5 Tryd.underlying33 Tryd.size8 _ _ _ _ _ _ hd hs g 0 ((List.range 136).map fun _ => Value.int .u8 ((0 : Nat) : Int)) 76 hb ((List.range m).map fun i => Value.int .u8 ((F i : Nat) : Int))
    (by rw [hl]; exact (Nat.min_eq_left hm).symm) (fun h0 => ⟨rfl, ?_⟩) (by rw [hl, List.length_map, List.length_range]; omega) (fun v hv => ?_) g w (Below.refl _ _) (Nat.le_refl _) (fun w' hh hbel => ?_)
  · rw [hl] at h0
    obtain ⟨b, off, rfl, _, hc⟩ := hsl.cells h0
    refine ⟨_, rfl, fun i v hv => ?_⟩
    have hi : i < m := by have := (List.getElem?_eq_some_iff.1 hv).1; simpa using this
    rw [List.getElem?_map, List.getElem?_range hi] at hv
    cases hv
    rw [Addr.add_mid]
    exact hc i hi
  · simp at hv
    obtain ⟨i, _, rfl⟩ := hv
    rfl
  · rw [splice_pa F m hm] at hh
    rw [hl]
    exact h w' hh hbel
theorem cp_one (F : Nat → Nat) {m : Nat} (h : m < 136) : (pa (cp F m)).setIfInBounds m (.int .u8 1) = pa (pd F m) := by
  unfold pa
  rw [show (Value.int .u8 1) = .int .u8 ((1 : Nat) : Int) from rfl, arr_set _ _ _ h]
  refine arr_congr fun i _ => ?_
  unfold cp pd
  by_cases e : i = m
  · subst e; simp
  · by_cases l : i < m
    · simp [e, l]
    · simp [e, l]
theorem pd_last (f : Nat → Nat) {n m j : Nat} (hm : m + 136 * j = n) (hj : n / 136 = j) : (pa (pd (fun i => f (136 * j + i)) m)).setIfInBounds 135 (.int .u8 ((pd (fun i => f (136 * j + i)) m 135 ||| 128 : Nat) : Int)) = pa (fun i => pad f n (136 * j + i)) := by
  unfold pa
  rw [arr_set _ _ _ (by omega)]
  refine arr_congr fun i _ => ?_
  have e1 : pd f n (136 * j + i) = pd (fun i => f (136 * j + i)) m i := by
    unfold pd
    by_cases h1 : i < m
    · rw [if_pos h1, if_pos (by omega)]
    · by_cases h2 : i = m
      · rw [if_neg h1, if_neg (by omega), if_pos h2, if_pos (by omega)]
      · rw [if_neg h1, if_neg (by omega), if_neg h2, if_neg (by omega)]
  have e2 : pad f n (136 * j + i) = if i = 135 then pd (fun i => f (136 * j + i)) m i ||| 128 else pd (fun i => f (136 * j + i)) m i := by
    unfold pad
    rw [hj, e1]
    by_cases h : i = 135
    · rw [if_pos h, if_pos (by omega)]
    · rw [if_neg h, if_neg (by omega)]
  show _ = ((pad f n (136 * j + i) : Nat) : Int)
  rw [e2]
  by_cases h : i = 135
  · subst h; rw [if_pos rfl, if_pos rfl]
  · rw [if_neg h, if_neg h]
set_option maxHeartbeats 2000000 in
theorem sum_walk (A : Option Addr) (n c : Nat) (f : Nat → Nat) (w : World) (hn : n ≤ maxLen) (hc : n ≤ c) (hT : Tab w) (hs : Sl w A n f) :
    Calls Tryd.prog 33 #[.slice A n c] w fun e w' => e = .returned (.agg (ha (kk f n))) ∧ Below w.heap.size w w' := by
  have hn' : n ≤ 9223372036854775807 := hn
  have HS := Lib.hid hs
  have HT := Lib.hid hT
  clear hT hs
  go_enter Tryd.func33, Tryd.ntmps33
  go_wp2_with (first | (refine wpList_alloc_row rfl 57 rfl zH zH_run ?_) | (refine wpList_alloc_row rfl 72 rfl zS zS_run ?_))
  simp only [Act.put, List.setIfInBounds_toArray, List.set_cons_succ, List.set_cons_zero, World.size_alloc]
  have f0 : ((w.alloc (.cells zH 57)).alloc (.cells zS 72)).heap[w.heap.size]? = some (.cells zH 57) := blk_alloc (heap_alloc_new _ _)
  have f1 : ((w.alloc (.cells zH 57)).alloc (.cells zS 72)).heap[w.heap.size + 1]? = some (.cells (sa (ss (pad f n) (136 * 0))) 72) := heap_alloc2_new _ _ _
  have bW : Below w.heap.size w ((w.alloc (.cells zH 57)).alloc (.cells zS 72)) := ((Below.refl _ _).alloc (Nat.le_refl _) _).alloc (by simp) _
  generalize ((w.alloc (.cells zH 57)).alloc (.cells zS 72)) = W at *
  go_loopw [0] (fun v wr => ∃ (j m c' : Nat) (A' : Option Addr), v = .slice A' m c' ∧ Hid (m + 136 * j = n) ∧ m ≤ c' ∧ Hid (Sl w A' m (fun i => f (136 * j + i))) ∧ Below w.heap.size w wr ∧ wr.heap[w.heap.size]? = some (.cells zH 57) ∧ wr.heap[w.heap.size + 1]? = some (.cells (sa (ss (pad f n) (136 * j))) 72)) (fun v _ => lenOf v)
  case atStart => exact ⟨0, n, c, A, rfl, Lib.hid (by omega), hc, Lib.hid (by simpa using HS.out), bW, f0, f1⟩
  case round =>
    clear f0 f1 bW hc
    obtain ⟨j, m, c', A', rfl, hm, hc', hs', hbw, f0, f1⟩ := hrel
    have hm2 : m ≤ 9223372036854775807 := by have := hm.out; omega
    by_cases hge : 136 ≤ m
    · obtain ⟨b, off, rfl, hbl, hcell⟩ := (hs'.out.below hbw).cells (by omega)
      have ha := fun w => Tryd.arrayP ⟨b, off, none⟩ m c' hge w
      have HR : Hid (∀ i, i < 136 → wr.cell? ⟨b, off + i, none⟩ = some (.int .u8 ((f (136 * j + i) : Nat) : Int))) := Lib.hid fun i hi => hcell i (by omega)
      have F0 := Lib.hid f0
      have F1 := Lib.hid f1
      have HB := Lib.hid hbw
      have HC := Lib.hid hcell
      clear f0 f1 hbw hcell
      go_wp2_with (first | (refine load_pa rfl _ rfl b off rfl (fun i => f (136 * j + i)) HR.out ?_))
      have hfn : ∀ i, i < n → f i < 256 := HS.out.small
      refine (take_walk (w.heap.size + 1) (ss (pad f n) (136 * j)) (fun i => f (136 * j + i)) wr (ss_lt _ fun i _ => pad_lt hfn i) (fun i hi => hs'.out.small i (by omega)) F1.out).mono ?_
      rintro e w1 ⟨rfl, b1, g1⟩
      have F0' := Lib.hid (b1.other F0.out (by omega))
      have HB1 := Lib.hid (HB.out.trans (b1.below (Nat.le_succ _) HB.out.size))
      have G1 := Lib.hid g1
      clear b1 g1 F0 F1 HR ha hfn
      go_wp2_with fail
      refine (turn_walk (w.heap.size + 1) _ w1 (tk_lt (ss_lt _ fun i _ => pad_lt HS.out.small i) 136 (fun i hi => hs'.out.small i (by omega))) (HT.out.below HB1.out) (by have := HT.out.two; omega) G1.out).mono ?_
      rintro e w2 ⟨rfl, b2, g2⟩
      have F0 := Lib.hid (b2.other F0'.out (by omega))
      replace HB := Lib.hid (HB1.out.trans (b2.below (Nat.le_succ _) HB1.out.size))
      rw [tk_congr (g := fun i => pad f n (136 * j + i)) 136 (fun i hi => (pad_own f (by have := hm.out; omega)).symm), block_ss] at g2
      have F1 := Lib.hid g2
      clear b2 g2 G1 F0' HB1
      go_wp2_with fail
      refine ⟨⟨j + 1, m - 136, c' - 136, _, rfl, Lib.hid (by have := hm.out; omega), by omega, Lib.hid ⟨fun i hi => ?_, fun h0 => ?_⟩, HB.out, F0.out, F1.out⟩, by simp [lenOf]; omega⟩
      · have := hs'.out.small (136 + i) (by omega)
        rwa [show 136 * j + (136 + i) = 136 * (j + 1) + i by omega] at this
      · obtain ⟨b1, off1, e1, hl1, hc1⟩ := hs'.out.cells (by omega)
        cases e1
        refine ⟨b, off + 136, by rw [if_neg (by omega)], hl1, fun i hi => ?_⟩
        have := hc1 (136 + i) (by omega)
        rwa [show off + (136 + i) = off + 136 + i by omega, show 136 * j + (136 + i) = 136 * (j + 1) + i by omega] at this
    · have hj : n / 136 = j := by have := hm.out; omega
      have F1 := Lib.hid f1
      have F0 := Lib.hid f0
      have HB := Lib.hid hbw
      clear f0 f1 hbw
      have hf2 : (wr.alloc (.cells zP 76)).heap[wr.heap.size]? = some (.cells zP 76) := heap_alloc_new _ _
      have hsl := hs'.out.below (HB.out.alloc HB.out.size (.cells zP 76))
      go_upto_region 8 with (first | (refine wpList_alloc_row rfl 76 rfl zP zP_run ?_) | (refine copy_pa rfl _ _ rfl wr.heap.size m c' A' rfl rfl (by omega) _ hsl hf2 ?_; intro w3 F2 b3))
      have hlt1 : w.heap.size + 1 < wr.heap.size := (Array.getElem?_eq_some_iff.1 F1.out).1
      replace HB := Lib.hid (HB.out.trans (((Below.refl _ wr).alloc HB.out.size (.cells zP 76)).trans (b3.mono HB.out.size)))
      have hb3 : Below wr.heap.size wr w3 := ((Below.refl _ wr).alloc (Nat.le_refl _) (.cells zP 76)).trans b3
      replace F0 := Lib.hid (stay hb3 F0.out)
      replace F1 := Lib.hid (stay hb3 F1.out)
      have hm6 : m < 136 := by omega
      have c4 := blk_cell F2.out (arr_get .u8 (fun i => ((cp (fun i => f (136 * j + i)) m i : Nat) : Int)) hm6)
      have fz := blk_frozen (j := m) F2.out
      have h4 : (w3.setCell ⟨wr.heap.size, m, none⟩ (.int .u8 1)).heap[wr.heap.size]? = _ := blk_set F2.out _
      rw [cp_one _ hm6] at h4
      have F4 := Lib.hid h4
      clear h4 F2 b3 hb3 hf2 hsl
      go_upto_region 9 with fail
      replace HB := Lib.hid (HB.out.setCell (p := ⟨wr.heap.size, m, none⟩) (by simp; omega) (.int .u8 1))
      replace F0 := Lib.hid (blk_other (b := wr.heap.size) (j := m) F0.out (by omega) (.int .u8 1))
      replace F1 := Lib.hid (blk_other (b := wr.heap.size) (j := m) F1.out (by omega) (.int .u8 1))
      clear c4 fz
      generalize w3.setCell ⟨wr.heap.size, m, none⟩ (.int .u8 1) = w4 at *
      have hp8 : pd (fun i => f (136 * j + i)) m 135 < 256 := pd_lt hs'.out.small 135
      have ho : bits .or .u8 ((pd (fun i => f (136 * j + i)) m 135 : Nat) : Int) 128 = ((pd (fun i => f (136 * j + i)) m 135 ||| 128 : Nat) : Int) := u8_or_nat _ 128 hp8 (by decide)
      have c5 := blk_cell F4.out (arr_get .u8 (fun i => ((pd (fun i => f (136 * j + i)) m i : Nat) : Int)) (i := 135) (by omega))
      have fz := blk_frozen (j := 135) F4.out
      have h5 : (w4.setCell ⟨wr.heap.size, 135, none⟩ (.int .u8 ((pd (fun i => f (136 * j + i)) m 135 ||| 128 : Nat) : Int))).heap[wr.heap.size]? = _ := blk_set F4.out _
      rw [pd_last f hm.out hj] at h5
      have F5 := Lib.hid h5
      clear h5 F4
      go_upto_region 10 with fail
      replace HB := Lib.hid (HB.out.setCell (p := ⟨wr.heap.size, 135, none⟩) (by simp; omega) (.int .u8 ((pd (fun i => f (136 * j + i)) m 135 ||| 128 : Nat) : Int)))
      replace F0 := Lib.hid (blk_other (b := wr.heap.size) (j := 135) F0.out (by omega) (.int .u8 ((pd (fun i => f (136 * j + i)) m 135 ||| 128 : Nat) : Int)))
      replace F1 := Lib.hid (blk_other (b := wr.heap.size) (j := 135) F1.out (by omega) (.int .u8 ((pd (fun i => f (136 * j + i)) m 135 ||| 128 : Nat) : Int)))
      clear c5 fz ho hp8
      generalize w4.setCell ⟨wr.heap.size, 135, none⟩ (.int .u8 ((pd (fun i => f (136 * j + i)) m 135 ||| 128 : Nat) : Int)) = w5 at *
      go_wp2_with (first | (refine wpList_load_row rfl 76 _ rfl _ rfl 76 (pa (fun i => pad f n (136 * j + i))) (0, 0) _ F5.out Tryd.underlying76 rfl (infoArrP _) ?_))
      have hfn : ∀ i, i < n → f i < 256 := HS.out.small
      refine (take_walk (w.heap.size + 1) (ss (pad f n) (136 * j)) (fun i => pad f n (136 * j + i)) w5 (ss_lt _ fun i _ => pad_lt hfn i) (fun i _ => pad_lt hfn _) F1.out).mono ?_
      rintro e w6 ⟨rfl, b6, g6⟩
      replace F0 := Lib.hid (b6.other F0.out (by omega))
      replace HB := Lib.hid (HB.out.trans (b6.below (Nat.le_succ _) HB.out.size))
      have G6 := Lib.hid g6
      clear b6 g6 F1 F5 hfn
      go_wp2_with fail
      refine (turn_walk (w.heap.size + 1) _ w6 (tk_lt (ss_lt _ fun i _ => pad_lt HS.out.small i) 136 (fun i _ => pad_lt HS.out.small _)) (HT.out.below HB.out) (by have := HT.out.two; omega) G6.out).mono ?_
      rintro e w7 ⟨rfl, b7, g7⟩
      have f0 := b7.other F0.out (by omega)
      replace HB := Lib.hid (HB.out.trans (b7.below (Nat.le_succ _) HB.out.size))
      rw [block_ss] at g7
      have hk : hb (ss (pad f n) (136 * (j + 1))) = kk f n := by rw [← hj]; rfl
      have HK := Lib.hid hk
      clear b7 G6 F0 hk
      go_wp2_with (first | (refine wpList_load_row rfl 72 _ rfl _ rfl 72 (sa (ss (pad f n) (136 * (j + 1)))) (0, 0) _ g7 Tryd.underlying72 rfl (infoArrS _) ?_))
      refine (first_walk _ w7).mono ?_
      rintro e w8 ⟨rfl, b8⟩
      have f8 := stay b8 f0
      replace HB := Lib.hid (HB.out.trans (b8.mono HB.out.size))
      clear f0 g7 b8
      rw [HK.out]
      go_wp2_with (first | (refine wpList_store_row rfl 57 _ _ rfl _ zH (ha (kk f n)) rfl rfl f8 (infoArrH _) rfl (arr_one _ _ _) ?_))
      refine bodyPost_ret (v := .agg (ha (kk f n))) (results_cell_row rfl _ _ _ 57 (ha (kk f n)) (0, 0) _ rfl (blk_row f8) Tryd.underlying57 rfl (infoArrH _)) rfl ⟨rfl, below_setRow HB.out (Nat.le_refl _) _⟩
end Go.Proofs.YtmcbaolecmkpdaaDoor
