/- Stage 17: the chapter's examples. -/
import Derived.Test.YtdpbjdecbilaeaaG8
import Derived.Test.YtdpbjdecbilaeaaG5
import Derived.BigQuiet
import Derived.Test.YtdpbjdecbilaeaaG3
import Derived.Carry
namespace Go.Proofs.Ytdpbjdecbilaeaa
open Go.RowKit SmWord
set_option maxRecDepth 100000

def xA : Nat := 5 + (M - 1 - 7 % M + 1)
def xB : Nat := 1 * 2 ^ sh 8
def xC : Nat := fl (decide (1 % M < 2 % M))
def xN : Nat := M - 1 - 2 % M + 1
theorem fxA (w : World) : Calls Try.prog 5 #[.int .u8 3, .agg #[.int .u64 5, .int .u64 0, .int .u64 0, .int .u64 0], .agg #[.int .u64 7, .int .u64 0, .int .u64 0, .int .u64 0], .agg #[.int .u64 0, .int .u64 0, .int .u64 0, .int .u64 0]] w fun e w' => e = .returned (.tuple #[wd xA, .bool true]) ∧ Below w.heap.size w w' := do_3 5 7 0 w
theorem fxB (w : World) : Calls Try.prog 5 #[.int .u8 27, .agg #[.int .u64 8, .int .u64 0, .int .u64 0, .int .u64 0], .agg #[.int .u64 1, .int .u64 0, .int .u64 0, .int .u64 0], .agg #[.int .u64 0, .int .u64 0, .int .u64 0, .int .u64 0]] w fun e w' => e = .returned (.tuple #[wd xB, .bool true]) ∧ Below w.heap.size w w' := do_27 8 1 0 w
theorem fxC (w : World) : Calls Try.prog 5 #[.int .u8 16, .agg #[.int .u64 1, .int .u64 0, .int .u64 0, .int .u64 0], .agg #[.int .u64 2, .int .u64 0, .int .u64 0, .int .u64 0], .agg #[.int .u64 0, .int .u64 0, .int .u64 0, .int .u64 0]] w fun e w' => e = .returned (.tuple #[wd xC, .bool true]) ∧ Below w.heap.size w w' := do_16 1 2 0 w
theorem fxL : da 2 = #[.int .i64 2, .int .i64 0, .int .i64 0, .int .i64 0, .int .i64 0, .int .i64 0, .int .i64 0, .int .i64 0, .int .i64 0, .int .i64 0, .int .i64 0, .int .i64 0, .int .i64 0, .int .i64 0, .int .i64 0, .int .i64 0, .int .i64 0, .int .i64 0, .int .i64 0, .int .i64 0, .int .i64 0, .int .i64 0, .int .i64 0, .int .i64 0, .int .i64 0, .int .i64 0, .int .i64 0, .int .i64 0, .int .i64 0, .int .i64 0, .int .i64 0, .int .i64 0] := rfl
theorem fxN (w : World) : Calls Try.prog 12 #[.agg #[.int .i64 2, .int .i64 0, .int .i64 0, .int .i64 0, .int .i64 0, .int .i64 0, .int .i64 0, .int .i64 0, .int .i64 0, .int .i64 0, .int .i64 0, .int .i64 0, .int .i64 0, .int .i64 0, .int .i64 0, .int .i64 0, .int .i64 0, .int .i64 0, .int .i64 0, .int .i64 0, .int .i64 0, .int .i64 0, .int .i64 0, .int .i64 0, .int .i64 0, .int .i64 0, .int .i64 0, .int .i64 0, .int .i64 0, .int .i64 0, .int .i64 0, .int .i64 0]] w fun e w' => e = .returned (.agg (da xN)) ∧ Below w.heap.size w w' := by
  have h := neg_ref 2 w
  rw [fxL] at h
  exact h
theorem fxE (w : World) : (Op.equalIn 10000 24 (.agg (wa xA)) (.agg (wa xN))).run Try.prog w = .ok true w := by
  rw [equal_wa, decide_eq_true (by decide +kernel)]
theorem fxF (w : World) : (Op.equalIn 10000 24 (.agg (wa xB)) (.agg #[.int .u64 256, .int .u64 0, .int .u64 0, .int .u64 0])).run Try.prog w = .ok true w := by
  rw [show (.agg #[.int .u64 256, .int .u64 0, .int .u64 0, .int .u64 0] : Value) = .agg (wa 256) from rfl, equal_wa, decide_eq_true (by decide +kernel)]
theorem fxG (w : World) : (Op.equalIn 10000 24 (.agg (wa xC)) (.agg #[.int .u64 1, .int .u64 0, .int .u64 0, .int .u64 0])).run Try.prog w = .ok true w := by
  rw [show (.agg #[.int .u64 1, .int .u64 0, .int .u64 0, .int .u64 0] : Value) = .agg (wa 1) from rfl, equal_wa, decide_eq_true (by decide +kernel)]
set_option maxHeartbeats 4000000 in
theorem fixed17_walk (w : World) : Calls Try.prog 7 #[] w fun e w' => e = .returned (.bool true) ∧ Below w.heap.size w w' := by
  have hz := z4_wa
  have hsz := wa_size
  have bW := Below.refl w.heap.size w
  go_enter Try.func7, Try.ntmps7
  go_upto_region 2 with (first | (go_at_call 5; refine (fxA _).mono ?_; rintro e w1 ⟨rfl, b1⟩; replace bW := bW.trans (b1.mono bW.size); clear b1) | (refine wpList_store_row rfl 24 (.tmp 1) _ rfl _ _ (wa xA) rfl rfl (heap_alloc_new _ _) Try.infoWa rfl wa_one ?_))
  try simp only [Act.put]
  rw [World.setRow_alloc_new]
  have fA : (w1.alloc (.cells (wa xA) 24)).heap[w1.heap.size]? = some (.cells (wa xA) 24) := heap_alloc_new _ _
  replace bW : Below w.heap.size w (w1.alloc (.cells (wa xA) 24)) := bW.alloc bW.size _
  generalize (w1.alloc (.cells (wa xA) 24)) = w2 at *
  generalize w1.heap.size = pA at *
  go_upto_region 3 with (first | (go_at_call 5; refine (fxB _).mono ?_; rintro e w3 ⟨rfl, b1⟩; replace fA := Below.stays b1 fA; replace bW := bW.trans (b1.mono bW.size); clear b1) | (refine wpList_store_row rfl 24 (.tmp 3) _ rfl _ _ (wa xB) rfl rfl (heap_alloc_new _ _) Try.infoWa rfl wa_one ?_))
  try simp only [Act.put]
  rw [World.setRow_alloc_new]
  replace fA := blk_alloc (o' := .cells (wa xB) 24) fA
  have fB : (w3.alloc (.cells (wa xB) 24)).heap[w3.heap.size]? = some (.cells (wa xB) 24) := heap_alloc_new _ _
  replace bW : Below w.heap.size w (w3.alloc (.cells (wa xB) 24)) := bW.alloc bW.size _
  generalize (w3.alloc (.cells (wa xB) 24)) = w4 at *
  generalize w3.heap.size = pB at *
  go_upto_region 4 with (first | (go_at_call 5; refine (fxC _).mono ?_; rintro e w5 ⟨rfl, b1⟩; replace fA := Below.stays b1 fA; replace fB := Below.stays b1 fB; replace bW := bW.trans (b1.mono bW.size); clear b1) | (refine wpList_store_row rfl 24 (.tmp 5) _ rfl _ _ (wa xC) rfl rfl (heap_alloc_new _ _) Try.infoWa rfl wa_one ?_))
  try simp only [Act.put]
  rw [World.setRow_alloc_new]
  replace fA := blk_alloc (o' := .cells (wa xC) 24) fA
  replace fB := blk_alloc (o' := .cells (wa xC) 24) fB
  have fC : (w5.alloc (.cells (wa xC) 24)).heap[w5.heap.size]? = some (.cells (wa xC) 24) := heap_alloc_new _ _
  replace bW : Below w.heap.size w (w5.alloc (.cells (wa xC) 24)) := bW.alloc bW.size _
  generalize (w5.alloc (.cells (wa xC) 24)) = w6 at *
  generalize w5.heap.size = pC at *
  have gA : ∀ g : Ext w6, g.on.heap[pA]? = some (.cells (wa xA) 24) := fun g => g.block fA
  have gB : ∀ g : Ext w6, g.on.heap[pB]? = some (.cells (wa xB) 24) := fun g => g.block fB
  have gC : ∀ g : Ext w6, g.on.heap[pC]? = some (.cells (wa xC) 24) := fun g => g.block fC
  have eg := Try.guardW
  have eE := fxE
  have eF := fxF
  have eG := fxG
  clear hz
  refine region_ext (by kernel_rfl) (by kernel_rfl) ?_
  repeat (first | (go_big_quiet_want; refine quiet_load_row 24 _ rfl _ (wa xA) rfl (fun w2 hw2 => by obtain ⟨g, rfl⟩ := hw2; exact gA g) Try.underlying24 Try.infoWa ?_; simp only [Act.put, List.setIfInBounds_toArray, List.set_cons_succ, List.set_cons_zero]; go_big_quiet_on) | (go_big_quiet_want; refine quiet_load_row 24 _ rfl _ (wa xB) rfl (fun w2 hw2 => by obtain ⟨g, rfl⟩ := hw2; exact gB g) Try.underlying24 Try.infoWa ?_; simp only [Act.put, List.setIfInBounds_toArray, List.set_cons_succ, List.set_cons_zero]; go_big_quiet_on) | (go_big_quiet_want; refine quiet_load_row 24 _ rfl _ (wa xC) rfl (fun w2 hw2 => by obtain ⟨g, rfl⟩ := hw2; exact gC g) Try.underlying24 Try.infoWa ?_; simp only [Act.put, List.setIfInBounds_toArray, List.set_cons_succ, List.set_cons_zero]; go_big_quiet_on) | go_big_quiet_step (first | (go_at_call 12; with_reducible exact calls_ext (fxN _)) | (go_at_call 13; with_reducible exact calls_ext (word_ref _ _))))
  refine wpQuiet_nil ?_
  rintro _ ⟨g, rfl⟩
  go_wp2
  go_ret
  exact ⟨rfl, bW.trans (g.below.mono bW.size)⟩
end Go.Proofs.Ytdpbjdecbilaeaa
/- Stage 17: the arguments of layer 17's statements, as they read. -/
namespace Go.Proofs.Ytdpbjdecbilaeaa
open Go.ChangeShapes Go.WideShapes Go.ChangeAt Go.RowKit SmWord
set_option maxRecDepth 100000

theorem Try.laidOutX : laidOutB Try.prog = true := by kernel_rfl
section
variable {H : Type} {enc : TypeId × Value → H} {W : World} {base : Nat} {v : Value} {d : DataW H} {p : List MemPlace}
theorem open_u8 (hv : Value.okWide Try.prog W .any base 5 v) (h : DataW.Trod enc Try.prog W 0 (fun _ => true) true 5 v d p) : ∃ z : Nat, v = .int .u8 (z : Int) ∧ z < 256 := by
  obtain ⟨n, rfl⟩ := okWide_int Try.underlying5 hv
  obtain ⟨fuel, hf⟩ := h
  obtain ⟨z, e, _, wz⟩ := DataW.trod_int Try.underlying5 hf
  simp [Value.cells] at e
  subst e
  have hz : 0 ≤ n ∧ n ≤ 255 := by simpa [Lit.wf, IntKind.min, IntKind.max, IntKind.signed, IntKind.bits] using wz
  exact ⟨n.toNat, by rw [Int.toNat_of_nonneg hz.1], by omega⟩
theorem open_wd (hv : Value.okWide Try.prog W .any base 24 v) (h : DataW.Trod enc Try.prog W 0 (fun _ => true) true 24 v d p) : ∃ z : Nat, v = wd z ∧ z < M := by
  obtain ⟨n, rfl, _, _⟩ := open_word hv h
  exact ⟨n % M, wd_congr (Nat.mod_mod n M).symm, Nat.mod_lt _ (by decide)⟩
end
section
variable {H : Type} {enc : TypeId × Value → H} {P : Program} {w : World} {base : Nat} {spare : Nat → Bool} {held : Bool}
theorem trodAll_five {t t' t'' t3 t4 : TypeId} {args : Array Value} {ds : List (DataW H)} {ps : List MemPlace} (h : DataW.TrodAll enc P w base spare held [t, t', t'', t3, t4] args.toList ds ps) :
    ∃ v v' v'' v3 v4 d d' d'' d3 d4 p p' p'' p3 p4, args = #[v, v', v'', v3, v4] ∧ ds = [d, d', d'', d3, d4] ∧ ps = p ++ p' ++ p'' ++ p3 ++ p4 ∧ DataW.Trod enc P w base spare held t v d p ∧ DataW.Trod enc P w base spare held t' v' d' p' ∧ DataW.Trod enc P w base spare held t'' v'' d'' p'' ∧ DataW.Trod enc P w base spare held t3 v3 d3 p3 ∧ DataW.Trod enc P w base spare held t4 v4 d4 p4 := by
  obtain ⟨v, vs, d, ds', p, q, hargs, rfl, rfl, hd, hrest⟩ := trodAll_cons h
  obtain ⟨v', vs', d', ds'', p', q', rfl, rfl, rfl, hd', hrest'⟩ := trodAll_cons hrest
  obtain ⟨v'', vs'', d'', ds''', p'', q'', rfl, rfl, rfl, hd'', hrest''⟩ := trodAll_cons hrest'
  obtain ⟨v3, vs3, d3, ds3, p3, q3, rfl, rfl, rfl, hd3, hrest3⟩ := trodAll_cons hrest''
  obtain ⟨v4, vs4, d4, ds4, p4, q4, rfl, rfl, rfl, hd4, hrest4⟩ := trodAll_cons hrest3
  obtain ⟨rfl, rfl, rfl⟩ := trodAll_nil hrest4
  exact ⟨v, v', v'', v3, v4, d, d', d'', d3, d4, p, p', p'', p3, p4, by cases args; simp_all, rfl, by simp, hd, hd', hd'', hd3, hd4⟩
theorem trodAll_mk5 {t t' t'' t3 t4 : TypeId} {v v' v'' v3 v4 : Value} {d d' d'' d3 d4 : DataW H} {p p' p'' p3 p4 : List MemPlace} (h : DataW.Trod enc P w base spare held t v d p) (h' : DataW.Trod enc P w base spare held t' v' d' p')
    (h'' : DataW.Trod enc P w base spare held t'' v'' d'' p'') (h3 : DataW.Trod enc P w base spare held t3 v3 d3 p3) (h4 : DataW.Trod enc P w base spare held t4 v4 d4 p4) : DataW.TrodAll enc P w base spare held [t, t', t'', t3, t4] [v, v', v'', v3, v4] [d, d', d'', d3, d4] (p ++ (p' ++ (p'' ++ (p3 ++ p4)))) := ⟨p, p' ++ (p'' ++ (p3 ++ p4)), h, trodAll_mk4 h' h'' h3 h4, rfl⟩
end
end Go.Proofs.Ytdpbjdecbilaeaa
