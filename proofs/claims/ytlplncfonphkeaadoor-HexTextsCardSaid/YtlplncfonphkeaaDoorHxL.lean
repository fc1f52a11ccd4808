/- Which address a text says: package hex's Address. -/
import Derived.Test.YtlplncfonphkeaaDoorHxJ
import Derived.Test.YtlplncfonphkeaaDoorHxD
namespace Go.Proofs.YtlplncfonphkeaaDoor
open Go.RowKit SmWord
set_option maxRecDepth 100000

theorem hbytes_walk3 (S s : ByteArray) (w : World) (n : Nat) (Q : World → Prop) (hn : s.size ≤ 140737488355328) (hm : s.size % 2 = 0)
    (H : Hid (∀ w, Calls Tryd.prog 22 #[.string S] w fun e w' => e = .returned (.tuple #[.string s, .bool true]) ∧ w = w'))
    (HP : Hid (Calls Tryd.prog 23 #[.string s] w fun e w' => e = .returned (.slice (some ⟨w.heap.size, 0, none⟩) n n) ∧ Below w.heap.size w w' ∧ Q w')) :
    Calls Tryd.prog 9 #[.string S] w fun e w' => e = .returned (.tuple #[.slice (some ⟨w.heap.size, 0, none⟩) n n, .int .i64 0]) ∧ Below w.heap.size w w' ∧ Q w' := by
  have e1 : (s.size : Int) % 2 = 0 := by omega
  clear hm
  go_enter Tryd.func9, Tryd.ntmps9
  go_wp2_with (first | (go_at_call 22; refine (H.out _).mono ?_; rintro e w' ⟨rfl, rfl⟩) | (go_at_call 23; refine HP.out.mono ?_; rintro e w' ⟨rfl, hb, hs⟩; have HB := Lib.hid hb; have HS := Lib.hid hs; clear hb hs))
  go_ret2
  exact ⟨rfl, HB.out, HS.out⟩
/-- Package hex's Bytes leaves a row of its own. -/
theorem hbytes_row (d : List UInt8) (n : Nat) (w : World) (hn : d.length ≤ 140737488355328) (h : okD d) (h2 : d.length = 2 * n) :
    Calls Tryd.prog 9 #[.string (str (48 :: 120 :: d))] w fun e w' => e = .returned (.tuple #[.slice (some ⟨w.heap.size, 0, none⟩) n n, .int .i64 0]) ∧ Below w.heap.size w w' ∧ w'.heap[w.heap.size]? = some (.cells (arr .u8 n (pr d n)) 5) :=
  hbytes_walk3 _ (str d) w n _ (by rw [str_size]; exact hn) (by rw [str_size]; omega) (Lib.hid fun w => digits_ok d w (by omega) h)
    (Lib.hid (pairs_walk (str d) d n w (by rw [str_size]; exact hn) (by rw [str_size]; omega) (Lib.hid (Str.of d)) (Lib.hid h)))

/-- The address of these bytes. -/
def aa (f : Nat → Nat) : Array Value := arr .u8 20 (fun i => ((f i : Nat) : Int))
def zA : Array Value := arr .u8 20 (fun _ => 0)
theorem Tryd.infoA20 : (Tryd.prog.info? 40).map (fun i => (i.zero, i.size)) = some (some (.agg zA), 20) := by kernel_rfl
theorem zA_run (w : World) : (zeroValue 40).run Tryd.prog w = .ok (.agg zA) w := (zero_of_info Tryd.infoA20).1 w
theorem infoArrA (f : Nat → Int) : (Tryd.prog.info? 40).map (·.size) = some (arr .u8 20 f).size := by rw [arr_size]; exact (zero_of_info Tryd.infoA20).2
theorem aa_pr (d : List UInt8) : arr .u8 20 (pr d 20) = aa (pv d) := arr_congr fun i hi => by rw [pr, if_pos hi]

set_option maxHeartbeats 1000000 in
theorem addr_no (S : ByteArray) (w : World) (H : Hid (∀ w, Calls Tryd.prog 9 #[.string S] w fun e w' => e = .returned (.tuple #[.slice none 0 0, .int .i64 2]) ∧ w = w')) :
    Calls Tryd.prog 15 #[.string S] w fun e w' => e = .returned (.tuple #[.agg zA, .int .i64 2]) ∧ Below w.heap.size w w' := by
  go_enter Tryd.func15, Tryd.ntmps15
  go_wp2_with (first | (refine wpList_alloc_row rfl 40 rfl zA zA_run ?_) | (refine wpList_build_zero rfl 40 rfl Tryd.underlying40 Tryd.sizeOf5 zA zA_run ?_) | (refine wpList_store_row rfl 40 _ _ rfl _ zA zA rfl rfl (heap_alloc_new _ _) (infoArrA _) rfl (arr_one _ _ _) ?_) | (go_at_call 9; refine (H.out _).mono ?_; rintro e w' ⟨rfl, rfl⟩))
  refine bodyPost_ret (v := .tuple #[.agg zA, .int .i64 2]) (results_pair rfl _ _ _ 40 zA (0, 0) _ _ rfl (blk_row (heap_alloc_new _ _)) Tryd.underlying40 rfl (infoArrA _) rfl) rfl ⟨rfl, below_setRow ((Below.refl _ _).alloc (Nat.le_refl _) _) (Nat.le_refl _) _⟩
set_option maxHeartbeats 1000000 in
theorem addr_short (S : ByteArray) (n : Nat) (Q : World → Nat → Prop) (w : World) (hn : n < 20)
    (H : Hid (∀ w, Calls Tryd.prog 9 #[.string S] w fun e w' => e = .returned (.tuple #[.slice (some ⟨w.heap.size, 0, none⟩) n n, .int .i64 0]) ∧ Below w.heap.size w w' ∧ Q w' w.heap.size)) :
    Calls Tryd.prog 15 #[.string S] w fun e w' => e = .returned (.tuple #[.agg (zA), .int .i64 3]) ∧ Below w.heap.size w w' := by
  go_enter Tryd.func15, Tryd.ntmps15
  go_wp2_with (refine wpList_alloc_row rfl 40 rfl zA zA_run ?_)
  have f0 : (w.alloc (.cells zA 40)).heap[w.heap.size]? = some (.cells zA 40) := heap_alloc_new _ _
  have bW : Below w.heap.size w (w.alloc (.cells zA 40)) := (Below.refl _ _).alloc (Nat.le_refl _) _
  generalize w.alloc (.cells zA 40) = W at *
  refine (H.out _).mono ?_
  rintro e w1 ⟨rfl, b1, hq⟩
  have HR := Lib.hid (below_of b1 f0)
  have HB := Lib.hid (bW.trans (b1.mono bW.size))
  have HQ := Lib.hid hq
  clear b1 hq bW f0
  clear HQ
  go_wp2_with (first | (refine wpList_build_zero rfl 40 rfl Tryd.underlying40 Tryd.sizeOf5 zA zA_run ?_) | (refine wpList_store_row rfl 40 _ _ rfl _ zA zA rfl rfl HR.out (infoArrA _) rfl (arr_one _ _ _) ?_))
  refine bodyPost_ret (v := .tuple #[.agg (zA), .int .i64 3]) (results_pair rfl _ _ _ 40 (zA) (0, 0) _ _ rfl (blk_row HR.out) Tryd.underlying40 rfl (infoArrA _) rfl) rfl ⟨rfl, below_setRow HB.out (Nat.le_refl _) _⟩
set_option maxHeartbeats 1000000 in
theorem addr_long (S : ByteArray) (n : Nat) (Q : World → Nat → Prop) (w : World) (h1 : 20 < n) (hn : n ≤ 140737488355328)
    (H : Hid (∀ w, Calls Tryd.prog 9 #[.string S] w fun e w' => e = .returned (.tuple #[.slice (some ⟨w.heap.size, 0, none⟩) n n, .int .i64 0]) ∧ Below w.heap.size w w' ∧ Q w' w.heap.size)) :
    Calls Tryd.prog 15 #[.string S] w fun e w' => e = .returned (.tuple #[.agg (zA), .int .i64 4]) ∧ Below w.heap.size w w' := by
  go_enter Tryd.func15, Tryd.ntmps15
  go_wp2_with (refine wpList_alloc_row rfl 40 rfl zA zA_run ?_)
  have f0 : (w.alloc (.cells zA 40)).heap[w.heap.size]? = some (.cells zA 40) := heap_alloc_new _ _
  have bW : Below w.heap.size w (w.alloc (.cells zA 40)) := (Below.refl _ _).alloc (Nat.le_refl _) _
  generalize w.alloc (.cells zA 40) = W at *
  refine (H.out _).mono ?_
  rintro e w1 ⟨rfl, b1, hq⟩
  have HR := Lib.hid (below_of b1 f0)
  have HB := Lib.hid (bW.trans (b1.mono bW.size))
  have HQ := Lib.hid hq
  clear b1 hq bW f0
  clear HQ
  go_wp2_with (first | (refine wpList_build_zero rfl 40 rfl Tryd.underlying40 Tryd.sizeOf5 zA zA_run ?_) | (refine wpList_store_row rfl 40 _ _ rfl _ zA zA rfl rfl HR.out (infoArrA _) rfl (arr_one _ _ _) ?_))
  refine bodyPost_ret (v := .tuple #[.agg (zA), .int .i64 4]) (results_pair rfl _ _ _ 40 (zA) (0, 0) _ _ rfl (blk_row HR.out) Tryd.underlying40 rfl (infoArrA _) rfl) rfl ⟨rfl, below_setRow HB.out (Nat.le_refl _) _⟩
theorem Tryd.arrayA (a : Option Addr) (c : Nat) (w : World) : (Instr.arrayAt 40 (.slice a 20 c)).run Tryd.prog w = .ok (.pointer a) w := by
  simp [Instr.arrayAt, run_underlying Tryd.underlying40]
set_option maxHeartbeats 1000000 in
theorem addr_ok (S : ByteArray) (n : Nat) (Q : World → Nat → Prop) (w : World) (f : Nat → Nat) (hn : n = 20) (hq : Hid (∀ w' b, Q w' b → w'.heap[b]? = some (.cells (aa f) 5)))
    (H : Hid (∀ w, Calls Tryd.prog 9 #[.string S] w fun e w' => e = .returned (.tuple #[.slice (some ⟨w.heap.size, 0, none⟩) n n, .int .i64 0]) ∧ Below w.heap.size w w' ∧ Q w' w.heap.size)) :
    Calls Tryd.prog 15 #[.string S] w fun e w' => e = .returned (.tuple #[.agg (aa f), .int .i64 0]) ∧ Below w.heap.size w w' := by
  subst hn
  have har := Tryd.arrayA
  go_enter Tryd.func15, Tryd.ntmps15
  go_wp2_with (refine wpList_alloc_row rfl 40 rfl zA zA_run ?_)
  have f0 : (w.alloc (.cells zA 40)).heap[w.heap.size]? = some (.cells zA 40) := heap_alloc_new _ _
  have bW : Below w.heap.size w (w.alloc (.cells zA 40)) := (Below.refl _ _).alloc (Nat.le_refl _) _
  generalize w.alloc (.cells zA 40) = W at *
  refine (H.out _).mono ?_
  rintro e w1 ⟨rfl, b1, hq'⟩
  have HR := Lib.hid (below_of b1 f0)
  have HB := Lib.hid (bW.trans (b1.mono bW.size))
  have HQ := Lib.hid (hq.out _ _ hq')
  clear b1 hq' bW f0
  go_wp2_with (first | (refine wpList_load_row rfl 40 _ rfl _ rfl 5 (aa f) (0, 0) _ HQ.out Tryd.underlying40 rfl (infoArrA _) ?_) | (refine wpList_store_row rfl 40 _ _ rfl _ zA (aa f) rfl rfl HR.out (infoArrA _) rfl (arr_one _ _ _) ?_))
  refine bodyPost_ret (v := .tuple #[.agg (aa f), .int .i64 0]) (results_pair rfl _ _ _ 40 (aa f) (0, 0) _ _ rfl (blk_row HR.out) Tryd.underlying40 rfl (infoArrA _) rfl) rfl ⟨rfl, below_setRow HB.out (Nat.le_refl _) _⟩
theorem haddr_no (l : List UInt8) (w : World) (hn : l.length ≤ 140737488355328) (h : ∀ d, ¬ form l d) :
    Calls Tryd.prog 15 #[.string (str l)] w fun e w' => e = .returned (.tuple #[.agg zA, .int .i64 2]) ∧ Below w.heap.size w w' :=
  addr_no (str l) w (Lib.hid fun w => hbytes_no l w hn h)
theorem haddr_short (l d : List UInt8) (w : World) (h : form l d) (h20 : d.length / 2 < 20) :
    Calls Tryd.prog 15 #[.string (str l)] w fun e w' => e = .returned (.tuple #[.agg zA, .int .i64 3]) ∧ Below w.heap.size w w' := by
  obtain ⟨rfl, ho, h2⟩ := h
  exact addr_short _ (d.length / 2) (fun _ _ => True) w h20 (Lib.hid fun w => (hbytes_row d (d.length / 2) w (by omega) ho (by omega)).mono fun _ _ ⟨a, b, _⟩ => ⟨a, b, trivial⟩)
theorem haddr_long (l d : List UInt8) (w : World) (hn : d.length ≤ 140737488355328) (h : form l d) (h20 : 20 < d.length / 2) :
    Calls Tryd.prog 15 #[.string (str l)] w fun e w' => e = .returned (.tuple #[.agg zA, .int .i64 4]) ∧ Below w.heap.size w w' := by
  obtain ⟨rfl, ho, h2⟩ := h
  exact addr_long _ (d.length / 2) (fun _ _ => True) w h20 (by omega) (Lib.hid fun w => (hbytes_row d (d.length / 2) w (by omega) ho (by omega)).mono fun _ _ ⟨a, b, _⟩ => ⟨a, b, trivial⟩)
theorem haddr_ok (l d : List UInt8) (w : World) (h : form l d) (h20 : d.length / 2 = 20) :
    Calls Tryd.prog 15 #[.string (str l)] w fun e w' => e = .returned (.tuple #[.agg (aa (pv d)), .int .i64 0]) ∧ Below w.heap.size w w' := by
  obtain ⟨rfl, ho, h2⟩ := h
  exact addr_ok _ (d.length / 2) (fun w b => w.heap[b]? = some (.cells (arr .u8 (d.length / 2) (pr d (d.length / 2))) 5)) w (pv d) h20 (Lib.hid fun w' b hq => by rw [h20] at hq; rw [hq, aa_pr])
    (Lib.hid fun w => hbytes_row d (d.length / 2) w (by omega) ho (by omega))
end Go.Proofs.YtlplncfonphkeaaDoor
