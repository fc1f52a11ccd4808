/- What the functions Turn, take and first of package keccak do: a state behind 24 rounds; bytes put into the lanes; the first bytes of the lanes. -/
import Derived.Test.YtgejfdbbapjpmaaDoorKkE
namespace Go.Proofs.YtgejfdbbapjpmaaDoor
open Go.RowKit SmWord
set_option maxRecDepth 100000

set_option maxHeartbeats 2000000 in
theorem Turn_walk (S : Nat → Nat) (w : World) (hS : okS S) (hT : Tab w) :
    Calls Tryd.prog 7 #[.agg (sa S)] w fun e w' => e = .returned (.agg (sa (tn S 24))) ∧ Below w.heap.size w w' := by
  have HS := Lib.hid hS
  have HT := Lib.hid hT
  clear hS hT
  go_enter Tryd.func7, Tryd.ntmps7
  go_wp2_with (first | (refine wpList_alloc_row rfl 23 rfl zS zS_run ?_))
  have f0 : ((w.alloc (.cells (sa S) 23)).alloc (.cells zS 23)).heap[w.heap.size]? = some (.cells (sa S) 23) := blk_alloc (heap_alloc_new _ _)
  have f1 : ((w.alloc (.cells (sa S) 23)).alloc (.cells zS 23)).heap[w.heap.size + 1]? = some (.cells zS 23) := heap_alloc2_new _ _ _
  have bW : Below w.heap.size w ((w.alloc (.cells (sa S) 23)).alloc (.cells zS 23)) := ((Below.refl _ _).alloc (Nat.le_refl _) _).alloc (by simp) _
  have hl : w.heap.size + 2 ≤ ((w.alloc (.cells (sa S) 23)).alloc (.cells zS 23)).heap.size := by simp
  generalize ((w.alloc (.cells (sa S) 23)).alloc (.cells zS 23)) = W at *
  have HB := Lib.hid bW
  have HL := Lib.hid hl
  have H1 := Lib.hid f1
  have H0 := Lib.hid f0
  clear bW f1 f0 hl
  refine (turn_walk w.heap.size S W HS.out (HT.out.below HB.out) HT.out.two H0.out).mono ?_
  rintro e w1 ⟨rfl, b1, f2⟩
  have f3 := b1.other H1.out (by omega)
  replace HB := Lib.hid (HB.out.trans (b1.below (Nat.le_refl _) (by have := HL.out; omega)))
  clear H1 H0 b1
  go_wp2_with (first | (refine wpList_load_row rfl 23 _ rfl _ rfl 23 (sa (tn S 24)) (0, 0) _ f2 Tryd.underlying23 rfl (infoArrS _) ?_) | (refine wpList_store_row rfl 23 _ _ rfl _ zS (sa (tn S 24)) rfl rfl f3 (infoArrS _) rfl (arr_one _ _ _) ?_))
  refine bodyPost_ret (v := .agg (sa (tn S 24))) (results_cell_row rfl _ _ _ 23 (sa (tn S 24)) (0, 0) _ rfl (blk_row f3) Tryd.underlying23 rfl (infoArrS _)) rfl ⟨rfl, below_setRow HB.out (by omega) _⟩
/-- 136 bytes. -/
def pa (f : Nat → Nat) : Array Value := arr .u8 136 (fun i => ((f i : Nat) : Int))
def zP : Array Value := pa fun _ => 0
theorem Tryd.infoP : (Tryd.prog.info? 42).map (fun i => (i.zero, i.size)) = some (some (.agg zP), 136) := by kernel_rfl
theorem zP_run (w : World) : (zeroValue 42).run Tryd.prog w = .ok (.agg zP) w := (zero_of_info Tryd.infoP).1 w
theorem infoArrP (f : Nat → Nat) : (Tryd.prog.info? 42).map (·.size) = some (pa f).size := by rw [pa, arr_size]; exact (zero_of_info Tryd.infoP).2
/-- 32 bytes. -/
def ha (f : Nat → Nat) : Array Value := arr .u8 32 (fun i => ((f i : Nat) : Int))
def zH : Array Value := ha fun _ => 0
theorem Tryd.infoH : (Tryd.prog.info? 29).map (fun i => (i.zero, i.size)) = some (some (.agg zH), 32) := by kernel_rfl
theorem zH_run (w : World) : (zeroValue 29).run Tryd.prog w = .ok (.agg zH) w := (zero_of_info Tryd.infoH).1 w
theorem infoArrH (f : Nat → Nat) : (Tryd.prog.info? 29).map (·.size) = some (ha f).size := by rw [ha, arr_size]; exact (zero_of_info Tryd.infoH).2

theorem index_pa (f : Nat → Nat) {k : Nat} (hk : k < 136) (w : World) : (Instr.index 42 (.agg (pa f)) (.int .i64 (k : Int))).run Tryd.prog w = .ok (.int .u8 ((f k : Nat) : Int)) w := by
  have hn : (0 : Int) ≤ (k : Int) ∧ (k : Int) < ((136 : Nat) : Int) := by omega
  simp [Instr.index, run_underlying Tryd.underlying42, asIntOf, hn, go_sem, hk, show (pa f)[k]? = _ from arr_get _ _ hk]
theorem put_put (T : Nat → Nat) {k x z : Nat} (hk : k < 136) (hz : x * 2 ^ (8 * (k % 8)) = z) : (sa T).setIfInBounds (k / 8) (.int .u64 ((T (k / 8) ^^^ z : Nat) : Int)) = sa (put T k x) := by
  rw [sa_set (by omega)]
  refine sa_congr fun i _ => ?_
  unfold put
  by_cases e : i = k / 8
  · rw [if_pos e, if_pos e, ← hz, ← e]
  · rw [if_neg e, if_neg e]
theorem wrap_put {x z s : Nat} (hz : x * 2 ^ s = z) (h : z < B) : IntKind.u64.wrap ((x : Int) * 2 ^ s) = (z : Int) := by
  rw [show (x : Int) * 2 ^ s = ((x * 2 ^ s : Nat) : Int) by simp, hz, IntKind.wrap_u64]
  simp only [B] at h
  omega
set_option maxHeartbeats 2000000 in
theorem take_walk (b : Nat) (S f : Nat → Nat) (w : World) (hS : okS S) (hf : ∀ i, i < 136 → f i < 256) (hb : w.heap[b]? = some (.cells (sa S) 23)) :
    Calls Tryd.prog 16 #[.pointer (some ⟨b, 0, none⟩), .agg (pa f)] w fun e w' => e = .returned (.tuple #[]) ∧ Wrote b w w' ∧ w'.heap[b]? = some (.cells (sa (tk S f 136)) 23) := by
  have HS := Lib.hid hS
  have HF := Lib.hid hf
  have hl := (Array.getElem?_eq_some_iff.1 hb).1
  have f1 : (w.alloc (.cells (pa f) 42)).heap[w.heap.size]? = some (.cells (pa f) 42) := heap_alloc_new _ _
  have HW := Lib.hid hb
  clear hS hb hf
  go_enter Tryd.func16, Tryd.ntmps16
  go_wp2_with (first | (refine wpList_load_row rfl 42 _ rfl _ rfl 42 (pa f) (0, 0) _ f1 Tryd.underlying42 rfl (infoArrP _) ?_))
  clear f1
  have hW : Wrote b w (w.alloc (.cells (pa f) 42)) := Wrote.of_below ((Below.refl _ _).alloc (Nat.le_refl _) _)
  have f0 : (w.alloc (.cells (pa f) 42)).heap[b]? = some (.cells (sa S) 23) := blk_alloc HW.out
  generalize w.alloc (.cells (pa f) 42) = W at *
  go_loopw [7] (fun i wr => ∃ k : Nat, k ≤ 136 ∧ i = .int .i64 k ∧ Wrote b w wr ∧ wr.heap[b]? = some (.cells (sa (tk S f k)) 23)) (fun i _ => 136 - (intOf i).toNat)
  case atStart => exact ⟨0, by omega, rfl, hW, f0⟩
  case round =>
    clear hW f0 HW hl
    obtain ⟨k, hk, rfl, hw, f0⟩ := hrel
    by_cases hlt : k < 136
    · have hq : k / 8 < 25 := by omega
      have hfk := HF.out k hlt
      have hfg := index_pa f hlt wr
      obtain ⟨z, hz⟩ : ∃ z, f k * 2 ^ (8 * (k % 8)) = z := ⟨_, rfl⟩
      have hzB : z < B := by rw [← hz]; exact byte_up hfk
      have hwr := wrap_put hz hzB
      obtain ⟨T, hTk⟩ : ∃ T, T = tk S f k := ⟨_, rfl⟩
      have hok : okS T := by rw [hTk]; exact tk_lt HS.out k (fun i hi => HF.out i (by omega))
      rw [← hTk] at f0
      have hx : bits .xor .u64 ((T (k / 8) : Nat) : Int) ((z : Nat) : Int) = ((T (k / 8) ^^^ z : Nat) : Int) := xor_nat (hok _ hq) hzB
      have HK := Lib.hid hTk
      have HF0 := Lib.hid f0
      have HWr := Lib.hid hw
      have HZ := Lib.hid hz
      clear hTk f0 hw hok hz hzB
      go_wp2_with fail
      clear hfg
      refine region_last2 (aQ := ?aQ) 15 (by kernel_rfl) (by kernel_rfl) (fun w1 => ?hq) (fun w0' hb' => ?hh)
      case hq =>
        have cg : ∀ g : Ext w1.on, g.on.cell? ⟨b, k / 8, none⟩ = some (.int .u64 ((T (k / 8) : Nat) : Int)) := fun g =>
          blk_cell (g.block (w1.block HF0.out)) (sa_get (S := T) (i := k / 8) hq)
        simp only [List.take_succ_cons, List.take_zero]
        repeat (go_big_quiet_step (fail))
        refine wpQuiet_nil ?_
        rfl
      have g0 : w0'.heap[b]? = some (.cells (sa T) 23) := Ext.block ⟨w0', hb'⟩ HF0.out
      replace HWr := Lib.hid (HWr.out.trans (Wrote.of_below hb'))
      clear HF0 hb'
      have cx := blk_cell g0 (sa_get (i := k / 8) hq)
      have fz := blk_frozen (j := k / 8) g0
      have h0 : (w0'.setCell ⟨b, k / 8, none⟩ (.int .u64 ((T (k / 8) ^^^ z : Nat) : Int))).heap[b]? = _ := blk_set g0 _
      rw [put_put T hlt HZ.out, show put T k (f k) = tk S f (k + 1) by rw [tk, ← HK.out]] at h0
      have HH := Lib.hid h0
      clear h0 g0
      simp only [List.drop_succ_cons, List.drop_zero]
      go_wp2_with fail
      refine ⟨⟨k + 1, by omega, by go_num, HWr.out.trans (Wrote.put _ _), HH.out⟩, by simp [intOf]; omega⟩
    · obtain rfl : k = 136 := by omega
      have HF0 := Lib.hid f0
      have HWr := Lib.hid hw
      clear f0 hw
      go_wp2_with fail
      first | go_ret | go_end0
      exact ⟨rfl, HWr.out, HF0.out⟩
/-- The lanes' bytes, below k. -/
def hk (S : Nat → Nat) (k i : Nat) : Nat := if i < k then hb S i else 0
theorem hk_next (S : Nat → Nat) {k : Nat} (h : k < 32) : (ha (hk S k)).setIfInBounds k (.int .u8 ((hb S k : Nat) : Int)) = ha (hk S (k + 1)) := by
  unfold ha
  rw [arr_set _ _ _ h]
  refine arr_congr fun i _ => ?_
  unfold hk
  by_cases e : i = k
  · subst e; simp
  · by_cases l : i < k
    · simp [e, l, show i < k + 1 by omega]
    · simp [e, l, show ¬ i < k + 1 by omega]
theorem hk_start (S : Nat → Nat) : ha (hk S 0) = zH := arr_congr fun i _ => by simp [hk]
theorem hk_end (S : Nat → Nat) : ha (hk S 32) = ha (hb S) := arr_congr fun i hi => by simp [hk, hi]
set_option maxHeartbeats 2000000 in
theorem first_walk (S : Nat → Nat) (w : World) :
    Calls Tryd.prog 17 #[.agg (sa S)] w fun e w' => e = .returned (.agg (ha (hb S))) ∧ Below w.heap.size w w' := by
  go_enter Tryd.func17, Tryd.ntmps17
  go_wp2_with (first | (refine wpList_alloc_row rfl 29 rfl zH zH_run ?_))
  have f0 : (((w.alloc (.cells (sa S) 23)).alloc (.cells zH 29)).alloc (.cells zH 29)).heap[w.heap.size]? = some (.cells (sa S) 23) := blk_alloc (blk_alloc (heap_alloc_new _ _))
  have f1 : (((w.alloc (.cells (sa S) 23)).alloc (.cells zH 29)).alloc (.cells zH 29)).heap[w.heap.size + 1]? = some (.cells zH 29) := blk_alloc (heap_alloc2_new _ _ _)
  have f2 : (((w.alloc (.cells (sa S) 23)).alloc (.cells zH 29)).alloc (.cells zH 29)).heap[w.heap.size + 1 + 1]? = some (.cells (ha (hk S 0)) 29) := by
    rw [hk_start]
    have := heap_alloc_new ((w.alloc (.cells (sa S) 23)).alloc (.cells zH 29)) (.cells zH 29)
    simpa using this
  have bW : Below w.heap.size w (((w.alloc (.cells (sa S) 23)).alloc (.cells zH 29)).alloc (.cells zH 29)) := (((Below.refl _ _).alloc (Nat.le_refl _) _).alloc (by simp) _).alloc (by simp; omega) _
  generalize (((w.alloc (.cells (sa S) 23)).alloc (.cells zH 29)).alloc (.cells zH 29)) = W at *
  go_loopw [5] (fun i wr => ∃ k : Nat, k ≤ 32 ∧ i = .int .i64 k ∧ Below w.heap.size w wr ∧ wr.heap[w.heap.size]? = some (.cells (sa S) 23) ∧ wr.heap[w.heap.size + 1]? = some (.cells zH 29) ∧ wr.heap[w.heap.size + 1 + 1]? = some (.cells (ha (hk S k)) 29)) (fun i _ => 32 - (intOf i).toNat)
  case atStart => exact ⟨0, by omega, rfl, bW, f0, f1, f2⟩
  case round =>
    clear bW f0 f1 f2
    obtain ⟨k, hk', rfl, hbw, f0, f1, f2⟩ := hrel
    by_cases hlt : k < 32
    · have hq : k / 8 < 25 := by omega
      have c0 := blk_cell f0 (sa_get (S := S) (i := k / 8) hq)
      have c2 := blk_cell f2 (arr_get .u8 (fun i => ((hk S k i : Nat) : Int)) hlt)
      have fz := blk_frozen (j := k) f2
      have hv : IntKind.u8.wrap (((S (k / 8) : Nat) : Int) / 2 ^ (8 * (k % 8))) = ((hb S k : Nat) : Int) := by
        unfold hb
        rw [IntKind.wrap_u8, show ((S (k / 8) : Nat) : Int) / 2 ^ (8 * (k % 8)) = ((S (k / 8) / 2 ^ (8 * (k % 8)) : Nat) : Int) by simp]
        omega
      have F0 := Lib.hid f0
      have F1 := Lib.hid f1
      have F2 := Lib.hid f2
      have HB := Lib.hid hbw
      clear f0 f1 f2 hbw
      go_wp2_with fail
      refine ⟨⟨k + 1, by omega, by go_num, HB.out.setCell (by simp; omega) _, blk_other F0.out (by omega) _, blk_other F1.out (by omega) _, ?_⟩, by simp [intOf]; omega⟩
      rw [← hk_next S hlt]
      exact blk_set F2.out _
    · obtain rfl : k = 32 := by omega
      rw [hk_end] at f2
      have HB := Lib.hid hbw
      clear hbw f0
      go_wp2_with (first | (refine wpList_load_row rfl 29 _ rfl _ rfl 29 (ha (hb S)) (0, 0) _ f2 Tryd.underlying29 rfl (infoArrH _) ?_) | (refine wpList_store_row rfl 29 _ _ rfl _ zH (ha (hb S)) rfl rfl f1 (infoArrH _) rfl (arr_one _ _ _) ?_))
      refine bodyPost_ret (v := .agg (ha (hb S))) (results_cell_row rfl _ _ _ 29 (ha (hb S)) (0, 0) _ rfl (blk_row f1) Tryd.underlying29 rfl (infoArrH _)) rfl ⟨rfl, below_setRow HB.out (by omega) _⟩
end Go.Proofs.YtgejfdbbapjpmaaDoor
