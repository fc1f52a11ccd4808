/- What the functions written and Sum of package sha do: the hash of bytes. -/
import Derived.Test.YtnnodibjocilmaaDoorShC
import Derived.Laws.CopyOwn
import Derived.Deep.MidRow
namespace Go.Proofs.YtnnodibjocilmaaDoor
open Go.RowKit SmWord
set_option maxRecDepth 100000

theorem Tryd.arrayP (a : Addr) (n c : Nat) (h : 64 ≤ n) (w : World) : (Instr.arrayAt 41 (.slice (some a) n c)).run Tryd.prog w = .ok (.pointer (some a)) w := by
  simp [Instr.arrayAt, run_underlying Tryd.underlying41]
  omega
def lenOf : Value → Nat | .slice _ n _ => n | _ => 0
/-- 64 bytes, loaded out of the middle of a block. -/
theorem load_pa {ops : Array Oper} {rest : List Oper} {o : Oper} {a : Act} {w : World} {Q : Exit → Act → World → Prop} (hg : o.guard = none) (x : Operand) (ho : o.op = .load 41 x)
    (b off : Nat) (hx : a.eval x = .pointer (some ⟨b, off, none⟩)) (g : Nat → Nat) (hc : ∀ i, i < 64 → w.cell? ⟨b, off + i, none⟩ = some (.int .u8 ((g i : Nat) : Int)))
    (h : wpList Tryd.prog ops Q rest (a.put o.dst (.agg (pa g))) w) : wpList Tryd.prog ops Q (o :: rest) a w :=
  wpList_load_mid hg 41 x ho b off hx ((List.range 64).map fun i => Value.int .u8 ((g i : Nat) : Int)) _ (fun i v hv => by
    have hi : i < 64 := by have := (List.getElem?_eq_some_iff.1 hv).1; simpa using this
    rw [List.getElem?_map, List.getElem?_range hi] at hv
    cases hv
    exact hc i hi) Tryd.underlying41 rfl (by rw [List.length_map, List.length_range]; exact (zero_of_info Tryd.infoP).2) h
/-- m bytes, and noughts behind them. -/
def cp (F : Nat → Nat) (m i : Nat) : Nat := if i < m then F i else 0
theorem splice_pa (F : Nat → Nat) (m : Nat) (hm : m ≤ 64) : (splice ((List.range 64).map fun _ => Value.int .u8 ((0 : Nat) : Int)) 0 ((List.range m).map fun i => Value.int .u8 ((F i : Nat) : Int))).toArray = pa (cp F m) := by
  have hl : ((List.range m).map fun i => Value.int .u8 ((F i : Nat) : Int)).length = m := by simp
  apply Array.ext'
  apply List.ext_getElem?
  intro i
  have e1 : (pa (cp F m)).toList[i]? = (pa (cp F m))[i]? := Array.getElem?_toList
  have e2 : (splice ((List.range 64).map fun _ => Value.int .u8 ((0 : Nat) : Int)) 0 ((List.range m).map fun i => Value.int .u8 ((F i : Nat) : Int))) = ((List.range m).map fun i => Value.int .u8 ((F i : Nat) : Int)) ++ ((List.range 64).map fun _ => Value.int .u8 ((0 : Nat) : Int)).drop m := by
    unfold splice
    rw [hl, Nat.zero_add, List.take_zero, List.nil_append]
  rw [e1, e2, List.toList_toArray]
  by_cases h : i < 64
  · rw [show (pa (cp F m))[i]? = _ from arr_get _ _ h]
    by_cases l : i < m
    · rw [List.getElem?_append_left (by rw [hl]; exact l), List.getElem?_map, List.getElem?_range l]
      simp [cp, l]
    · rw [List.getElem?_append_right (by rw [hl]; omega), hl, List.getElem?_drop, List.getElem?_map, List.getElem?_range (by omega)]
      simp [cp, l]
  · rw [List.getElem?_eq_none (by rw [List.length_append, hl, List.length_drop, List.length_map, List.length_range]; omega), Array.getElem?_eq_none (by rw [pa, arr_size]; omega)]
theorem Tryd.size8 : (Tryd.prog.info? 5).map (·.size) = some 1 := by kernel_rfl
theorem copy_pa {ops : Array Oper} {rest : List Oper} {o : Oper} {a : Act} {w : World} {Q : Exit → Act → World → Prop} (hg : o.guard = none) (d s : Operand)
    (ho : o.op = .call { callee := .builtin .copy, args := #[d, s], argTypes := #[22, 22] }) (g m c : Nat) (A : Option Addr) (hd : a.eval d = .slice (some ⟨g, 0, none⟩) 64 64) (hs : a.eval s = .slice A m c) (hm : m ≤ 64) (F : Nat → Nat)
    (hsl : Sl w A m F) (hb : w.heap[g]? = some (.cells zP 41))
    (h : ∀ w', Hid (w'.heap[g]? = some (.cells (pa (cp F m)) 41)) → Below g w w' → wpList Tryd.prog ops Q rest (a.put o.dst (goInt m)) w') : wpList Tryd.prog ops Q (o :: rest) a w := by
  have hl : ((List.range m).map fun i => Value.int .u8 ((F i : Nat) : Int)).length = m := by simp
  refine wpList_copy_splice hg d s 22 22 ho 5 Tryd.underlying22 Tryd.size8 _ _ _ _ _ _ hd hs g 0 ((List.range 64).map fun _ => Value.int .u8 ((0 : Nat) : Int)) 41 hb ((List.range m).map fun i => Value.int .u8 ((F i : Nat) : Int))
    (by rw [hl]; exact (Nat.min_eq_left hm).symm) (fun h0 => ⟨rfl, ?_⟩) (by rw [hl, List.length_map, List.length_range]; omega) (fun v hv => ?_) g w (Below.refl _ _) (Nat.le_refl _) (fun w' hh hbel => ?_)
  · rw [hl] at h0
    obtain ⟨b, off, rfl, _, hc⟩ := hsl.cells h0
    refine ⟨_, rfl, fun i v hv => ?_⟩
    have hi : i < m := by have := (List.getElem?_eq_some_iff.1 hv).1; simpa using this
    rw [List.getElem?_map, List.getElem?_range hi] at hv
    cases hv
    rw [Addr.add_mid]
    exact hc i hi
  · simp at hv
    obtain ⟨i, _, rfl⟩ := hv
    rfl
  · rw [splice_pa F m hm] at hh
    rw [hl]
    exact h w' hh hbel

/-- The first k bytes of the hash. -/
def hk (S : Nat → Nat) (k i : Nat) : Nat := if i < k then hs S i else 0
theorem hk_next (S : Nat → Nat) {k : Nat} (h : k < 32) : (ha (hk S k)).setIfInBounds k (.int .u8 ((hs S k : Nat) : Int)) = ha (hk S (k + 1)) := by
  rw [ha_set h]
  refine ha_congr fun i _ => ?_
  unfold hk
  by_cases e : i = k
  · subst e; simp
  · by_cases l : i < k
    · simp [e, l, show i < k + 1 by omega]
    · simp [e, l, show ¬ i < k + 1 by omega]
theorem hk_start (S : Nat → Nat) : ha (hk S 0) = zH := ha_congr fun i _ => by simp [hk]
theorem hk_end (S : Nat → Nat) : ha (hk S 32) = ha (hs S) := ha_congr fun i hi => by simp [hk, hi]
set_option maxHeartbeats 2000000 in
theorem written_walk (S : Nat → Nat) (w : World) :
    Calls Tryd.prog 12 #[.agg (va S)] w fun e w' => e = .returned (.agg (ha (hs S))) ∧ Below w.heap.size w w' := by
  go_enter Tryd.func12, Tryd.ntmps12
  go_wp2_with (first | (refine wpList_alloc_row rfl 30 rfl zH zH_run ?_))
  have f0 : (((w.alloc (.cells (va S) 26)).alloc (.cells zH 30)).alloc (.cells zH 30)).heap[w.heap.size]? = some (.cells (va S) 26) := blk_alloc (blk_alloc (heap_alloc_new _ _))
  have f1 : (((w.alloc (.cells (va S) 26)).alloc (.cells zH 30)).alloc (.cells zH 30)).heap[w.heap.size + 1]? = some (.cells zH 30) := blk_alloc (heap_alloc2_new _ _ _)
  have f2 : (((w.alloc (.cells (va S) 26)).alloc (.cells zH 30)).alloc (.cells zH 30)).heap[w.heap.size + 1 + 1]? = some (.cells (ha (hk S 0)) 30) := by
    rw [hk_start]
    have := heap_alloc_new ((w.alloc (.cells (va S) 26)).alloc (.cells zH 30)) (.cells zH 30)
    simpa using this
  have bW : Below w.heap.size w (((w.alloc (.cells (va S) 26)).alloc (.cells zH 30)).alloc (.cells zH 30)) := (((Below.refl _ _).alloc (Nat.le_refl _) _).alloc (by simp) _).alloc (by simp; omega) _
  generalize (((w.alloc (.cells (va S) 26)).alloc (.cells zH 30)).alloc (.cells zH 30)) = W at *
  go_loopw [5] (fun i wr => ∃ k : Nat, k ≤ 32 ∧ i = .int .i64 k ∧ Below w.heap.size w wr ∧ wr.heap[w.heap.size]? = some (.cells (va S) 26) ∧ wr.heap[w.heap.size + 1]? = some (.cells zH 30) ∧ wr.heap[w.heap.size + 1 + 1]? = some (.cells (ha (hk S k)) 30)) (fun i _ => 32 - (intOf i).toNat)
  case atStart => exact ⟨0, by omega, rfl, bW, f0, f1, f2⟩
  case round =>
    clear bW f0 f1 f2
    obtain ⟨k, hk', rfl, hbw, f0, f1, f2⟩ := hrel
    by_cases hlt : k < 32
    · have hq : k / 4 < 8 := by omega
      obtain ⟨m, hm⟩ : ∃ m, 24 - 8 * (k % 4) = m := ⟨_, rfl⟩
      have hmI : 24 - 8 * ((k : Int) % 4) = (m : Int) := by omega
      have c0 := blk_cell f0 (va_get (S := S) (i := k / 4) hq)
      have c2 := blk_cell f2 (ha_get (S := hk S k) hlt)
      have fz := blk_frozen (j := k) f2
      have hv : ((S (k / 4) : Nat) : Int) / 2 ^ m % 256 = ((hs S k : Nat) : Int) := by
        unfold hs
        rw [hm, show ((S (k / 4) : Nat) : Int) / 2 ^ m = ((S (k / 4) / 2 ^ m : Nat) : Int) by simp]
        omega
      have F0 := Lib.hid f0
      have F1 := Lib.hid f1
      have F2 := Lib.hid f2
      have HB := Lib.hid hbw
      clear f0 f1 f2 hbw hm
      go_wp2_with fail
      refine ⟨⟨k + 1, by omega, by go_num, HB.out.setCell (by simp; omega) _, blk_other F0.out (by omega) _, blk_other F1.out (by omega) _, ?_⟩, by simp [intOf]; omega⟩
      rw [← hk_next S hlt]
      exact blk_set F2.out _
    · obtain rfl : k = 32 := by omega
      rw [hk_end] at f2
      have HB := Lib.hid hbw
      clear hbw f0
      go_wp2_with (first | (refine wpList_load_row rfl 30 _ rfl _ rfl 30 (ha (hs S)) (0, 0) _ f2 Tryd.underlying30 rfl (infoArrH _) ?_) | (refine wpList_store_row rfl 30 _ _ rfl _ zH (ha (hs S)) rfl rfl f1 (infoArrH _) rfl (arr_one _ _ _) ?_))
      refine bodyPost_ret (v := .agg (ha (hs S))) (results_cell_row rfl _ _ _ 30 (ha (hs S)) (0, 0) _ rfl (blk_row f1) Tryd.underlying30 rfl (infoArrH _)) rfl ⟨rfl, below_setRow HB.out (by omega) _⟩
end Go.Proofs.YtnnodibjocilmaaDoor
