/- Stage 17: the chapter's examples. -/
import Derived.Test.YtdpbjdecbilaeaaGreatG8
import Derived.Test.YtdpbjdecbilaeaaGreatG6
import Derived.BigQuiet
import Derived.Test.YtdpbjdecbilaeaaGreatGa
import Derived.Test.YtdpbjdecbilaeaaGreatG3
import Derived.Carry
namespace Go.Proofs.YtdpbjdecbilaeaaGreat
open Go.RowKit SmWord
set_option maxRecDepth 100000

def xA : Nat := 5 + (M - 1 - 7 % M + 1)
def xB : Nat := 1 * 2 ^ sh 8
def xC : Nat := fl (decide (1 % M < 2 % M))
def xN : Nat := M - 1 - 2 % M + 1
theorem fxA (w : World) : Calls Tryz.prog 4 #[.int .u8 3, .agg #[.int .u64 5, .int .u64 0, .int .u64 0, .int .u64 0], .agg #[.int .u64 7, .int .u64 0, .int .u64 0, .int .u64 0], .agg #[.int .u64 0, .int .u64 0, .int .u64 0, .int .u64 0]] w fun e w' => e = .returned (.tuple #[wd xA, .bool true]) ∧ Below w.heap.size w w' := do_3 5 7 0 w
theorem fxB (w : World) : Calls Tryz.prog 4 #[.int .u8 27, .agg #[.int .u64 8, .int .u64 0, .int .u64 0, .int .u64 0], .agg #[.int .u64 1, .int .u64 0, .int .u64 0, .int .u64 0], .agg #[.int .u64 0, .int .u64 0, .int .u64 0, .int .u64 0]] w fun e w' => e = .returned (.tuple #[wd xB, .bool true]) ∧ Below w.heap.size w w' := do_27 8 1 0 w
theorem fxC (w : World) : Calls Tryz.prog 4 #[.int .u8 16, .agg #[.int .u64 1, .int .u64 0, .int .u64 0, .int .u64 0], .agg #[.int .u64 2, .int .u64 0, .int .u64 0, .int .u64 0], .agg #[.int .u64 0, .int .u64 0, .int .u64 0, .int .u64 0]] w fun e w' => e = .returned (.tuple #[wd xC, .bool true]) ∧ Below w.heap.size w w' := do_16 1 2 0 w
theorem fxL : da 2 = #[.int .i64 2, .int .i64 0, .int .i64 0, .int .i64 0, .int .i64 0, .int .i64 0, .int .i64 0, .int .i64 0, .int .i64 0, .int .i64 0, .int .i64 0, .int .i64 0, .int .i64 0, .int .i64 0, .int .i64 0, .int .i64 0, .int .i64 0, .int .i64 0, .int .i64 0, .int .i64 0, .int .i64 0, .int .i64 0, .int .i64 0, .int .i64 0, .int .i64 0, .int .i64 0, .int .i64 0, .int .i64 0, .int .i64 0, .int .i64 0, .int .i64 0, .int .i64 0] := rfl
theorem fxN (w : World) : Calls Tryz.prog 14 #[.agg #[.int .i64 2, .int .i64 0, .int .i64 0, .int .i64 0, .int .i64 0, .int .i64 0, .int .i64 0, .int .i64 0, .int .i64 0, .int .i64 0, .int .i64 0, .int .i64 0, .int .i64 0, .int .i64 0, .int .i64 0, .int .i64 0, .int .i64 0, .int .i64 0, .int .i64 0, .int .i64 0, .int .i64 0, .int .i64 0, .int .i64 0, .int .i64 0, .int .i64 0, .int .i64 0, .int .i64 0, .int .i64 0, .int .i64 0, .int .i64 0, .int .i64 0, .int .i64 0]] w fun e w' => e = .returned (.agg (da xN)) ∧ Below w.heap.size w w' := by
  have h := neg_ref 2 w
  rw [fxL] at h
  exact h
theorem fxE (w : World) : (Op.equalIn 10000 24 (.agg (wa xA)) (.agg (wa xN))).run Tryz.prog w = .ok true w := by
  rw [equal_wa, decide_eq_true (by decide +kernel)]
theorem fxF (w : World) : (Op.equalIn 10000 24 (.agg (wa xB)) (.agg #[.int .u64 256, .int .u64 0, .int .u64 0, .int .u64 0])).run Tryz.prog w = .ok true w := by
  rw [show (.agg #[.int .u64 256, .int .u64 0, .int .u64 0, .int .u64 0] : Value) = .agg (wa 256) from rfl, equal_wa, decide_eq_true (by decide +kernel)]
theorem fxG (w : World) : (Op.equalIn 10000 24 (.agg (wa xC)) (.agg #[.int .u64 1, .int .u64 0, .int .u64 0, .int .u64 0])).run Tryz.prog w = .ok true w := by
  rw [show (.agg #[.int .u64 1, .int .u64 0, .int .u64 0, .int .u64 0] : Value) = .agg (wa 1) from rfl, equal_wa, decide_eq_true (by decide +kernel)]
set_option maxHeartbeats 4000000 in
theorem fixed17_walk (w : World) : Calls Tryz.prog 6 #[] w fun e w' => e = .returned (.bool true) ∧ Below w.heap.size w w' := by
  have hz := z4_wa
  have hsz := wa_size
  have bW := Below.refl w.heap.size w
  go_enter Tryz.func6, Tryz.ntmps6
  go_upto_region 2 with (first | (go_at_call 4; refine (fxA _).mono ?_; rintro e w1 ⟨rfl, b1⟩; replace bW := bW.trans (b1.mono bW.size); clear b1) | (refine wpList_store_row rfl 24 (.tmp 1) _ rfl _ _ (wa xA) rfl rfl (heap_alloc_new _ _) Tryz.infoWa rfl wa_one ?_))
  try simp only [Act.put]
  rw [World.setRow_alloc_new]
  have fA : (w1.alloc (.cells (wa xA) 24)).heap[w1.heap.size]? = some (.cells (wa xA) 24) := heap_alloc_new _ _
  replace bW : Below w.heap.size w (w1.alloc (.cells (wa xA) 24)) := bW.alloc bW.size _
  generalize (w1.alloc (.cells (wa xA) 24)) = w2 at *
  generalize w1.heap.size = pA at *
  go_upto_region 3 with (first | (go_at_call 4; refine (fxB _).mono ?_; rintro e w3 ⟨rfl, b1⟩; replace fA := Below.stays b1 fA; replace bW := bW.trans (b1.mono bW.size); clear b1) | (refine wpList_store_row rfl 24 (.tmp 3) _ rfl _ _ (wa xB) rfl rfl (heap_alloc_new _ _) Tryz.infoWa rfl wa_one ?_))
  try simp only [Act.put]
  rw [World.setRow_alloc_new]
  replace fA := blk_alloc (o' := .cells (wa xB) 24) fA
  have fB : (w3.alloc (.cells (wa xB) 24)).heap[w3.heap.size]? = some (.cells (wa xB) 24) := heap_alloc_new _ _
  replace bW : Below w.heap.size w (w3.alloc (.cells (wa xB) 24)) := bW.alloc bW.size _
  generalize (w3.alloc (.cells (wa xB) 24)) = w4 at *
  generalize w3.heap.size = pB at *
  go_upto_region 4 with (first | (go_at_call 4; refine (fxC _).mono ?_; rintro e w5 ⟨rfl, b1⟩; replace fA := Below.stays b1 fA; replace fB := Below.stays b1 fB; replace bW := bW.trans (b1.mono bW.size); clear b1) | (refine wpList_store_row rfl 24 (.tmp 5) _ rfl _ _ (wa xC) rfl rfl (heap_alloc_new _ _) Tryz.infoWa rfl wa_one ?_))
  try simp only [Act.put]
  rw [World.setRow_alloc_new]
  replace fA := blk_alloc (o' := .cells (wa xC) 24) fA
  replace fB := blk_alloc (o' := .cells (wa xC) 24) fB
  have fC : (w5.alloc (.cells (wa xC) 24)).heap[w5.heap.size]? = some (.cells (wa xC) 24) := heap_alloc_new _ _
  replace bW : Below w.heap.size w (w5.alloc (.cells (wa xC) 24)) := bW.alloc bW.size _
  generalize (w5.alloc (.cells (wa xC) 24)) = w6 at *
  generalize w5.heap.size = pC at *
  have gA : ∀ g : Ext w6, g.on.heap[pA]? = some (.cells (wa xA) 24) := fun g => g.block fA
  have gB : ∀ g : Ext w6, g.on.heap[pB]? = some (.cells (wa xB) 24) := fun g => g.block fB
  have gC : ∀ g : Ext w6, g.on.heap[pC]? = some (.cells (wa xC) 24) := fun g => g.block fC
  have eg := Tryz.guardW
  have eE := fxE
  have eF := fxF
  have eG := fxG
  clear hz
  refine region_ext (by kernel_rfl) (by kernel_rfl) ?_
  repeat (first | (go_big_quiet_want; refine quiet_load_row 24 _ rfl _ (wa xA) rfl (fun w2 hw2 => by obtain ⟨g, rfl⟩ := hw2; exact gA g) Tryz.underlying24 Tryz.infoWa ?_; simp only [Act.put, List.setIfInBounds_toArray, List.set_cons_succ, List.set_cons_zero]; go_big_quiet_on) | (go_big_quiet_want; refine quiet_load_row 24 _ rfl _ (wa xB) rfl (fun w2 hw2 => by obtain ⟨g, rfl⟩ := hw2; exact gB g) Tryz.underlying24 Tryz.infoWa ?_; simp only [Act.put, List.setIfInBounds_toArray, List.set_cons_succ, List.set_cons_zero]; go_big_quiet_on) | (go_big_quiet_want; refine quiet_load_row 24 _ rfl _ (wa xC) rfl (fun w2 hw2 => by obtain ⟨g, rfl⟩ := hw2; exact gC g) Tryz.underlying24 Tryz.infoWa ?_; simp only [Act.put, List.setIfInBounds_toArray, List.set_cons_succ, List.set_cons_zero]; go_big_quiet_on) | go_big_quiet_step (first | (go_at_call 14; with_reducible exact calls_ext (fxN _)) | (go_at_call 20; with_reducible exact calls_ext (word_ref _ _))))
  refine wpQuiet_nil ?_
  rintro _ ⟨g, rfl⟩
  go_wp2
  go_ret
  exact ⟨rfl, bW.trans (g.below.mono bW.size)⟩
end Go.Proofs.YtdpbjdecbilaeaaGreat
/- Stage 17: the statement AluDoes, walked. -/
namespace Go.Proofs.YtdpbjdecbilaeaaGreat
open Go.RowKit SmWord
set_option maxRecDepth 100000

theorem wpList_load_row_if {P : Program} {ops : Array Oper} {rest : List Oper} {o : Oper} {a : Act} {w : World} {Q : Exit → Act → World → Prop} (hw : Region.wanted o (yielded ops a.tmps) = true) (ty : TypeId) (x : Operand) (ho : o.op = .load ty x)
    (g : Nat) (hx : a.eval x = .pointer (some ⟨g, 0, none⟩)) (t : TypeId) (cs : Array Value) (fr : Nat × Nat) (d : TypeDesc) (hg : w.heap[g]? = some (.cells cs t fr))
    (hu : P.underlying ty = some d) (hd : (match d with | .struct _ | .array _ _ => true | _ => false) = true) (hi : (P.info? ty).map (·.size) = some cs.size)
    (h : wpList P ops Q rest (a.put o.dst (.agg cs)) w) : wpList P ops Q (o :: rest) a w := by
  unfold wpList
  rw [if_pos hw]
  exact .inl (wp_load_row ty x ho g hx t cs fr d hg hu hd hi h)
theorem lboxes (w : World) (a b c : Nat) : ∃ W, ((w.alloc (.cells (wa a) 24)).alloc (.cells (wa b) 24)).alloc (.cells (wa c) 24) = W ∧ W.heap[w.heap.size]? = some (.cells (wa a) 24) ∧ W.heap[w.heap.size + 1]? = some (.cells (wa b) 24) ∧ W.heap[w.heap.size + 2]? = some (.cells (wa c) 24) ∧ Below w.heap.size w W :=
  ⟨_, rfl, blk_alloc (blk_alloc (blk_new _ rfl)), blk_alloc (blk_new _ (by simp)), blk_new _ (by simp), (((Below.refl _ _).alloc (Nat.le_refl _) _).alloc (by simp) _).alloc (by simp; omega) _⟩
set_option maxHeartbeats 4000000 in
theorem does_walk (op : Int) (a b c v t : Nat) (k : Bool) (w : World)
    (H1 : Hid (∀ w : World, Calls Tryz.prog 4 #[.int .u8 op, wd a, wd b, wd c] w fun e w' => e = .returned (.tuple #[wd v, .bool k]) ∧ Below w.heap.size w w')) (H2 : Hid (∀ w : World, Calls Tryz.prog 5 #[.int .u8 op, wd a, wd b, wd c] w fun e w' => e = .returned (.tuple #[wd v, .bool k]) ∧ Below w.heap.size w w'))
    (H3 : Hid (∀ w : World, Calls Tryz.prog 7 #[.int .u8 op] w fun e w' => e = .returned (.int .i64 (t : Int)) ∧ Below w.heap.size w w')) (H4 : Hid (∀ w : World, Calls Tryz.prog 8 #[.int .u8 op] w fun e w' => e = .returned (.int .i64 (t : Int)) ∧ Below w.heap.size w w')) (HE : ∀ w : World, (Op.equalIn 10000 24 (.agg (wa v)) (.agg (wa v))).run Tryz.prog w = .ok true w) :
    Calls Tryz.prog 3 #[.int .u8 op, wd a, wd b, wd c] w fun e w' => e = .returned (.bool true) ∧ Below w.heap.size w w' := by
  obtain ⟨W, hW, f0, f1, f2, bW⟩ := lboxes w a b c
  have hz := z4_wa
  have hsz := wa_size
  have eg := Tryz.guardW
  go_enter Tryz.func3, Tryz.ntmps3
  go_upto_region 1 with fail
  try rw [hW]
  clear hW
  go_upto_region 2 with (first | (refine wpList_load_row rfl 24 _ rfl _ rfl 24 _ (0, 0) _ (by assumption) Tryz.underlying24 rfl Tryz.infoWa ?_) | (go_at_call 4; refine (H1.out _).mono ?_; rintro e w1 ⟨rfl, b1⟩; replace f0 := Below.stays b1 f0; replace f1 := Below.stays b1 f1; replace f2 := Below.stays b1 f2; replace bW := bW.trans (b1.mono bW.size); clear b1) | (refine wpList_store_row rfl 24 (.tmp 9) _ rfl _ _ (wa v) rfl rfl (heap_alloc_new _ _) Tryz.infoWa rfl wa_one ?_))
  try simp only [Act.put]
  rw [World.setRow_alloc_new]
  replace f0 := blk_alloc (o' := .cells (wa v) 24) f0
  replace f1 := blk_alloc (o' := .cells (wa v) 24) f1
  replace f2 := blk_alloc (o' := .cells (wa v) 24) f2
  have f9 : (w1.alloc (.cells (wa v) 24)).heap[w1.heap.size]? = some (.cells (wa v) 24) := heap_alloc_new _ _
  replace bW : Below w.heap.size w (w1.alloc (.cells (wa v) 24)) := bW.alloc bW.size _
  generalize (w1.alloc (.cells (wa v) 24)) = w2 at *
  generalize w1.heap.size = p9 at *
  go_upto_region 3 with (first | (refine wpList_load_row rfl 24 _ rfl _ rfl 24 _ (0, 0) _ (by assumption) Tryz.underlying24 rfl Tryz.infoWa ?_) | (go_at_call 5; refine (H2.out _).mono ?_; rintro e w3 ⟨rfl, b1⟩; replace f0 := Below.stays b1 f0; replace f1 := Below.stays b1 f1; replace f2 := Below.stays b1 f2; replace f9 := Below.stays b1 f9; replace bW := bW.trans (b1.mono bW.size); clear b1) | (refine wpList_store_row rfl 24 (.tmp 11) _ rfl _ _ (wa v) rfl rfl (heap_alloc_new _ _) Tryz.infoWa rfl wa_one ?_))
  try simp only [Act.put]
  rw [World.setRow_alloc_new]
  replace f0 := blk_alloc (o' := .cells (wa v) 24) f0
  replace f1 := blk_alloc (o' := .cells (wa v) 24) f1
  replace f2 := blk_alloc (o' := .cells (wa v) 24) f2
  replace f9 := blk_alloc (o' := .cells (wa v) 24) f9
  have f11 : (w3.alloc (.cells (wa v) 24)).heap[w3.heap.size]? = some (.cells (wa v) 24) := heap_alloc_new _ _
  replace bW : Below w.heap.size w (w3.alloc (.cells (wa v) 24)) := bW.alloc bW.size _
  generalize (w3.alloc (.cells (wa v) 24)) = w4 at *
  generalize w3.heap.size = p11 at *
  go_wp2_with (first | (refine wpList_load_row_if rfl 24 _ rfl _ rfl 24 (wa v) (0, 0) _ f9 Tryz.underlying24 rfl Tryz.infoWa ?_) | (refine wpList_load_row_if rfl 24 _ rfl _ rfl 24 (wa v) (0, 0) _ f11 Tryz.underlying24 rfl Tryz.infoWa ?_) | (go_at_call 6; refine (fixed17_walk _).mono ?_; rintro e w5 ⟨rfl, b1⟩; replace f9 := Below.stays b1 f9; replace f11 := Below.stays b1 f11; replace bW := bW.trans (b1.mono bW.size); clear b1) | (go_at_call 7; refine (H3.out _).mono ?_; rintro e w6 ⟨rfl, b1⟩; replace f9 := Below.stays b1 f9; replace f11 := Below.stays b1 f11; replace bW := bW.trans (b1.mono bW.size); clear b1) | (go_at_call 8; refine (H4.out _).mono ?_; rintro e w7 ⟨rfl, b1⟩; replace f9 := Below.stays b1 f9; replace f11 := Below.stays b1 f11; replace bW := bW.trans (b1.mono bW.size); clear b1))
  go_ret
  exact ⟨rfl, bW⟩
theorem does_law (op a b c : Nat) (w : World) : Calls Tryz.prog 3 #[.int .u8 (op : Int), wd a, wd b, wd c] w fun e w' => e = .returned (.bool true) ∧ Below w.heap.size w w' :=
  does_walk op a b c _ _ _ w (Lib.hid fun w => do_walk op a b c w) (Lib.hid fun w => rdo_walk op a b c w) (Lib.hid fun w => takes_walk op w) (Lib.hid fun w => rtakes_walk op w) (fun w => by rw [equal_wa]; simp)
end Go.Proofs.YtdpbjdecbilaeaaGreat
/- Stage 17: the arguments of layer 17's statements, as they read. -/
namespace Go.Proofs.YtdpbjdecbilaeaaGreat
open Go.ChangeShapes Go.WideShapes Go.ChangeAt Go.RowKit SmWord
set_option maxRecDepth 100000

theorem Tryz.laidOutX : laidOutB Tryz.prog = true := by kernel_rfl
section
variable {H : Type} {enc : TypeId × Value → H} {W : World} {base : Nat} {v : Value} {d : DataW H} {p : List MemPlace}
theorem open_u8 (hv : Value.okWide Tryz.prog W .any base 5 v) (h : DataW.Trod enc Tryz.prog W 0 (fun _ => true) true 5 v d p) : ∃ z : Nat, v = .int .u8 (z : Int) ∧ z < 256 := by
  obtain ⟨n, rfl⟩ := okWide_int Tryz.underlying5 hv
  obtain ⟨fuel, hf⟩ := h
  obtain ⟨z, e, _, wz⟩ := DataW.trod_int Tryz.underlying5 hf
  simp [Value.cells] at e
  subst e
  have hz : 0 ≤ n ∧ n ≤ 255 := by simpa [Lit.wf, IntKind.min, IntKind.max, IntKind.signed, IntKind.bits] using wz
  exact ⟨n.toNat, by rw [Int.toNat_of_nonneg hz.1], by omega⟩
theorem open_wd (hv : Value.okWide Tryz.prog W .any base 24 v) (h : DataW.Trod enc Tryz.prog W 0 (fun _ => true) true 24 v d p) : ∃ z : Nat, v = wd z ∧ z < M := by
  obtain ⟨n, rfl, _, _⟩ := open_word hv h
  exact ⟨n % M, wd_congr (Nat.mod_mod n M).symm, Nat.mod_lt _ (by decide)⟩
end
section
variable {H : Type} {enc : TypeId × Value → H} {P : Program} {w : World} {base : Nat} {spare : Nat → Bool} {held : Bool}
theorem trodAll_five {t t' t'' t3 t4 : TypeId} {args : Array Value} {ds : List (DataW H)} {ps : List MemPlace} (h : DataW.TrodAll enc P w base spare held [t, t', t'', t3, t4] args.toList ds ps) :
    ∃ v v' v'' v3 v4 d d' d'' d3 d4 p p' p'' p3 p4, args = #[v, v', v'', v3, v4] ∧ ds = [d, d', d'', d3, d4] ∧ ps = p ++ p' ++ p'' ++ p3 ++ p4 ∧ DataW.Trod enc P w base spare held t v d p ∧ DataW.Trod enc P w base spare held t' v' d' p' ∧ DataW.Trod enc P w base spare held t'' v'' d'' p'' ∧ DataW.Trod enc P w base spare held t3 v3 d3 p3 ∧ DataW.Trod enc P w base spare held t4 v4 d4 p4 := by
  obtain ⟨v, vs, d, ds', p, q, hargs, rfl, rfl, hd, hrest⟩ := trodAll_cons h
  obtain ⟨v', vs', d', ds'', p', q', rfl, rfl, rfl, hd', hrest'⟩ := trodAll_cons hrest
  obtain ⟨v'', vs'', d'', ds''', p'', q'', rfl, rfl, rfl, hd'', hrest''⟩ := trodAll_cons hrest'
  obtain ⟨v3, vs3, d3, ds3, p3, q3, rfl, rfl, rfl, hd3, hrest3⟩ := trodAll_cons hrest''
  obtain ⟨v4, vs4, d4, ds4, p4, q4, rfl, rfl, rfl, hd4, hrest4⟩ := trodAll_cons hrest3
  obtain ⟨rfl, rfl, rfl⟩ := trodAll_nil hrest4
  exact ⟨v, v', v'', v3, v4, d, d', d'', d3, d4, p, p', p'', p3, p4, by cases args; simp_all, rfl, by simp, hd, hd', hd'', hd3, hd4⟩
theorem trodAll_mk5 {t t' t'' t3 t4 : TypeId} {v v' v'' v3 v4 : Value} {d d' d'' d3 d4 : DataW H} {p p' p'' p3 p4 : List MemPlace} (h : DataW.Trod enc P w base spare held t v d p) (h' : DataW.Trod enc P w base spare held t' v' d' p')
    (h'' : DataW.Trod enc P w base spare held t'' v'' d'' p'') (h3 : DataW.Trod enc P w base spare held t3 v3 d3 p3) (h4 : DataW.Trod enc P w base spare held t4 v4 d4 p4) : DataW.TrodAll enc P w base spare held [t, t', t'', t3, t4] [v, v', v'', v3, v4] [d, d', d'', d3, d4] (p ++ (p' ++ (p'' ++ (p3 ++ p4)))) := ⟨p, p' ++ (p'' ++ (p3 ++ p4)), h, trodAll_mk4 h' h'' h3 h4, rfl⟩
end
end Go.Proofs.YtdpbjdecbilaeaaGreat
