/- Stage 14: a storage is made and written: newStorage, set. -/
import Derived.Test.YtnjeoeekidnffaaGreatNa
import Derived.Maps.AppendAt
namespace Go.Proofs.YtnjeoeekidnffaaGreat
open Go.RowKit SmWord Go.Maps
set_option maxRecDepth 100000

theorem still_load_mid {P : Program} {ops : Array Oper} {w : World} {Q : Act → Prop} {rest : List Oper} {o : Oper} {a : Act} (hg : o.guard = none) (t : TypeId) (x : Operand) (ho : o.op = .load t x) (b off : Nat) (cs : List Value) {d : TypeDesc} (hx : a.eval x = .pointer (some ⟨b, off, none⟩))
    (hb : w.rangeAt b off cs) (hu : P.underlying t = some d) (hd : d.isRow = true) (hi : (P.info? t).map (·.size) = some cs.length)
    (hk : wpStill P ops w Q rest (a.put o.dst (.agg cs.toArray))) : wpStill P ops w Q (o :: rest) a := by
  refine wpStill_step (fun K hK => ?_)
  rw [if_pos (by simp [Region.wanted, hg])]
  have h2 : (execOp a.eval o).run P w = .ok (.value (.agg cs.toArray)) w := by
    unfold execOp
    simp only [ho, hx, Instr.loadAt, Instr.sureAddr, Sem.run_bind, Sem.run_pure, Result.andThen_ok, run_loadVar_mid w b off t cs d hb hu hd hi]
  unfold Oper.still
  rw [h2]
  exact ⟨rfl, hK _ hk⟩
theorem run_eq_wa {m n : Nat} (hm : m < M) (hn : n < M) (w : World) : (Op.equalIn 10000 44 (.agg (wa m)) (.agg (wa n))).run Tryz.prog w = .ok (m == n) w := by
  rw [equal_wa, Nat.mod_eq_of_lt hm, Nat.mod_eq_of_lt hn]
  by_cases h : m = n <;> simp [h]
theorem wboxes2 (w : World) (k v : Nat) : ∃ W, (w.alloc (.cells (wa k) 44)).alloc (.cells (wa v) 44) = W ∧ W.heap[w.heap.size]? = some (.cells (wa k) 44) ∧ W.heap[w.heap.size + 1]? = some (.cells (wa v) 44) ∧ Below w.heap.size w W ∧ W.heap.size = w.heap.size + 2 := by
  exact ⟨_, rfl, blk_alloc (heap_alloc_new _ _), heap_alloc2_new _ _ _, ((Below.refl _ _).alloc (Nat.le_refl _) _).alloc (by simp) _, by simp⟩
/-- What is stored after a set. -/
def setS (so : List (Nat × Nat)) (g : Nat → Option Nat) (k v : Nat) : Nat → Option Nat := fun k' => if k' = k then (if v = slotV so k then none else some v) else g k'
theorem setS_val (so : List (Nat × Nat)) (g : Nat → Option Nat) (k v k' : Nat) : stoV so (setS so g k v) k' = if k' = k then v else stoV so g k' := by
  unfold stoV setS
  by_cases h : k' = k
  · subst h
    rw [if_pos rfl, if_pos rfl]
    by_cases h2 : v = slotV so k'
    · rw [if_pos h2]; exact h2.symm
    · rw [if_neg h2]; rfl
  · rw [if_neg h, if_neg h]
theorem updN_wd (g : Nat → Option Nat) (k : Nat) : updN (fun k => (g k).map wd) k = fun k' => (if k' = k then none else g k').map wd := by
  funext k'
  unfold updN
  split <;> rfl
theorem upd_wd (g : Nat → Option Nat) (k v : Nat) : upd (fun k => (g k).map wd) k (wd v) = fun k' => (if k' = k then some v else g k').map wd := by
  funext k'
  unfold upd
  split <;> rfl
theorem wpList_mapUpdW {ops : Array Oper} {rest : List Oper} {o : Oper} {a : Act} {w : World} {Q : Exit → Act → World → Prop} (hg : o.guard = none) (m x v : Operand) (t : TypeId) (hop : o.op = Op.mapUpdate t m x v)
    (e : TypeId) (ht : Tryz.prog.underlying t = some (.map 44 e)) (b n : Nat) (f : Nat → Option Value) (hm : a.eval m = .map (some b)) (h : mapIsW w b n f) (hn : n < maxLen) (A : Nat) (hA : A < M) (val : Value)
    (hx : a.eval x = .agg (wa A)) (hv : a.eval v = val) (hK : ∀ w', mapIsW w' b (n + 1) (upd f A val) → w.grownBy w' (some b) → wpList Tryz.prog ops Q rest (a.put o.dst undef) w') : wpList Tryz.prog ops Q (o :: rest) a w := by
  refine wpList_plain hg fun K' hK' => ?_
  obtain ⟨w', hrun, r1, r2⟩ := h.update ht hn hA val
  unfold Oper.wp
  simp [execOp, hop, hm, hx, hv, hrun, Result.andThen]
  exact hK' _ _ (hK w' r1 r2)
theorem wpList_delW {ops : Array Oper} {rest : List Oper} {o : Oper} {a : Act} {w : World} {Q : Exit → Act → World → Prop} (hg : o.guard = none) (m x : Operand) (t : TypeId) (hop : o.op = Op.call ⟨.builtin .delete, #[m, x], #[t, 44]⟩)
    (e : TypeId) (ht : Tryz.prog.underlying t = some (.map 44 e)) (b n : Nat) (f : Nat → Option Value) (hm : a.eval m = .map (some b)) (h : mapIsW w b n f) (A : Nat) (hA : A < M)
    (hx : a.eval x = .agg (wa A)) (hK : ∀ w', mapIsW w' b n (updN f A) → w.grownBy w' (some b) → wpList Tryz.prog ops Q rest (a.put o.dst (.tuple #[])) w') : wpList Tryz.prog ops Q (o :: rest) a w := by
  refine wpList_plain hg fun K' hK' => ?_
  obtain ⟨w', hrun, r1, r2⟩ := h.drop ht hA o.type
  unfold Oper.wp
  simp [execOp, hop, resolve, invoke, builtin, hm, hx, hrun, Result.andThen]
  exact hK' _ _ (hK w' r1 r2)
theorem grown_trod {w wg w5 : World} {m : Nat} (h : Below w.heap.size w wg) (g : wg.drew.grownBy w5 (some m)) : w.grownBy w5 (some m) :=
  ⟨g.os.trans h.os, g.tape.trans h.tape, g.output.trans h.output, Nat.le_trans h.size g.size, fun k hk hne => (g.block k (Nat.lt_of_lt_of_le hk h.size) hne).trans (h.block k hk)⟩
set_option maxHeartbeats 4000000 in
theorem sset_walk {p : Nat} {so : List (Nat × Nat)} {g : Nat → Option Nat} {n m : Nat} (k v : Nat) (w : World) (h : StoAt w p so g n m) (hk : k < M) (hv : v < M) (hn : n < maxLen) :
    Calls Tryz.prog 72 #[.pointer (some ⟨p, 0, none⟩), wd k, wd v] w fun e w' => e = .returned (.tuple #[]) ∧ mapIsW w' m (n + 1) (fun k' => (setS so g k v k').map wd) ∧ w.grownBy w' (some m) := by
  have hw := wa_size
  obtain ⟨qa, qc, hp, -⟩ := h.at'
  obtain ⟨W, hW, f0, f1, bW, sW⟩ := wboxes2 w k v
  have HS := Lib.hid (h.below bW)
  have F0 := Lib.hid f0
  have F1 := Lib.hid f1
  have HB := Lib.hid bW
  have hpW := stay bW hp
  have p1' : W.cell? ⟨p, 1, none⟩ = some (.map (some m)) := by simp [World.cell?, hpW]
  have HP1 := Lib.hid p1'
  have HK := Lib.hid hk
  have eq := run_eq_wa hv (slotV_lt h.sM k)
  have KF := Lib.hid (fun g1 : Ext W => first_walk k g1.on (HS.out.below g1.below) hk)
  have HV := Lib.hid (show ∀ k', setS so g k v k' = if k' = k then (if v = slotV so k then none else some v) else g k' from fun _ => rfl)
  unfold wd at KF
  have r0 : ∀ g1 : Ext W, g1.on.rangeAt w.heap.size 0 (wa k).toList := fun g1 => (rng_block (cs := (wa k).toList) (by simpa using g1.block F0.out)).at
  have r1 : ∀ g1 : Ext W, g1.on.rangeAt (w.heap.size + 1) 0 (wa v).toList := fun g1 => (rng_block (cs := (wa v).toList) (by simpa using g1.block F1.out)).at
  clear h hk hp hpW p1' f0 f1 bW
  generalize hgs : setS so g k v = gs at *
  clear hgs
  generalize slotV so k = fv at *
  unfold wd
  go_enter Tryz.func72, Tryz.ntmps72
  go_upto_region 1 with fail
  clear hW
  refine region_ext (by kernel_rfl) (by kernel_rfl) ?_
  repeat (first
    | (go_big_quiet_want; refine quiet_load_mid 44 _ rfl w.heap.size 0 (wa k).toList rfl (fun w2 hw2 => by obtain ⟨g1, rfl⟩ := hw2; exact r0 g1) Tryz.underlying44 rfl (infoW4 _) ?_; simp only [Act.put, List.setIfInBounds_toArray, List.set_cons_succ, List.set_cons_zero, Array.toArray_toList]; go_big_quiet_on)
    | (go_big_quiet_want; refine quiet_load_mid 44 _ rfl (w.heap.size + 1) 0 (wa v).toList rfl (fun w2 hw2 => by obtain ⟨g1, rfl⟩ := hw2; exact r1 g1) Tryz.underlying44 rfl (infoW4 _) ?_; simp only [Act.put, List.setIfInBounds_toArray, List.set_cons_succ, List.set_cons_zero, Array.toArray_toList]; go_big_quiet_on)
    | go_big_quiet_step (first | (go_at_call 78; with_reducible exact calls_ext (KF.out _))))
  refine wpQuiet_nil ?_
  rintro w' ⟨gg, rfl⟩
  have HBg := Lib.hid (HB.out.trans (gg.below.mono HB.out.size))
  have HSg := Lib.hid (HS.out.below gg.below)
  have q1 := (gg.below.cell (p := ⟨p, 1, none⟩) (by simpa using World.block_lt_of_cell? W _ HP1.out)).trans HP1.out
  have r0g := r0 gg
  have r1g := r1 gg
  clear r0 r1 KF HP1 eq
  generalize gg.on = wg at *
  by_cases hvf : v = fv
  · rw [show (v == fv) = true by simp [hvf]]
    go_wp2_with fail
    refine region_tail 5 (by kernel_rfl) (by kernel_rfl) ?_
    simp only [List.take_succ_cons, List.take_zero, List.drop_succ_cons, List.drop_zero]
    repeat (first
      | (refine still_load_mid rfl 44 _ rfl w.heap.size 0 (wa k).toList rfl r0g Tryz.underlying44 rfl (infoW4 _) ?_; simp only [Act.put, List.setIfInBounds_toArray, List.set_cons_succ, List.set_cons_zero, Array.toArray_toList])
      | still_step)
    refine wpStill_nil ?_
    have HM : mapIsW wg.drew m n (fun k => (g k).map wd) := HSg.out.map.same rfl
    refine wpList_delW rfl _ _ 162 rfl 44 Tryz.underlying162 m n _ rfl HM k HK.out rfl ?_
    intro w5 h5 g5
    go_wp2_with fail
    refine bodyPost_ret (results_none rfl _ _ _) rfl ⟨rfl, ?_, grown_trod HBg.out g5⟩
    have e : updN (fun k => (g k).map wd) k = fun k' => (gs k').map wd := by
      rw [updN_wd]
      funext k'
      rw [HV.out k', if_pos hvf]
    rw [e] at h5
    exact h5.mono (Nat.le_succ n)
  · rw [show (v == fv) = false by simp [hvf]]
    go_wp2_with fail
    refine region_tail 6 (by kernel_rfl) (by kernel_rfl) ?_
    simp only [List.take_succ_cons, List.take_zero, List.drop_succ_cons, List.drop_zero]
    repeat (first
      | (refine still_load_mid rfl 44 _ rfl w.heap.size 0 (wa k).toList rfl r0g Tryz.underlying44 rfl (infoW4 _) ?_; simp only [Act.put, List.setIfInBounds_toArray, List.set_cons_succ, List.set_cons_zero, Array.toArray_toList])
      | (refine still_load_mid rfl 44 _ rfl (w.heap.size + 1) 0 (wa v).toList rfl r1g Tryz.underlying44 rfl (infoW4 _) ?_; simp only [Act.put, List.setIfInBounds_toArray, List.set_cons_succ, List.set_cons_zero, Array.toArray_toList])
      | still_step)
    refine wpStill_nil ?_
    have HM : mapIsW wg.drew m n (fun k => (g k).map wd) := HSg.out.map.same rfl
    refine wpList_mapUpdW rfl _ _ _ 162 rfl 44 Tryz.underlying162 m n _ rfl HM hn k HK.out (wd v) rfl rfl ?_
    intro w5 h5 g5
    go_wp2_with fail
    refine bodyPost_end (results_none rfl _ _ _) rfl ⟨rfl, ?_, grown_trod HBg.out g5⟩
    have e : upd (fun k => (g k).map wd) k (wd v) = fun k' => (gs k').map wd := by
      rw [upd_wd]
      funext k'
      rw [HV.out k', if_neg hvf]
    rw [e] at h5
    exact h5
end Go.Proofs.YtnjeoeekidnffaaGreat
/- Stage 14: the closures that put a place back. Printed by gsye.py. -/
namespace Go.Proofs.YtnjeoeekidnffaaGreat
open Go.RowKit SmWord Go.Maps
set_option maxRecDepth 100000

/-- Cells, some of them anew. -/
def putAt (cs : List Value) (o : Nat) (vs : List Value) : List Value := cs.take o ++ vs ++ cs.drop (o + vs.length)
theorem putAt_len {cs : List Value} {o : Nat} {vs : List Value} (h : o + vs.length ≤ cs.length) : (putAt cs o vs).length = cs.length := by
  unfold putAt
  simp
  omega
theorem putAt_one {cs : List Value} {o : Nat} (ho : o < cs.length) (v : Value) : putAt cs o [v] = cs.set o v := by
  unfold putAt
  rw [List.set_eq_take_append_cons_drop, if_pos ho]
  simp
theorem setCell_put {w : World} {b o : Nat} {cs : List Value} {T : TypeId} (hb : w.heap[b]? = some (.cells cs.toArray T)) (ho : o < cs.length) (v : Value) : w.setCell ⟨b, o, none⟩ v = w.setRow b (putAt cs o [v]).toArray := by
  rw [setCell_eq_setRow w b o cs.toArray T (0, 0) v hb, putAt_one ho]
  simp
theorem store_put {w : World} {b o : Nat} {cs : List Value} {T : TypeId} (hb : w.heap[b]? = some (.cells cs.toArray T)) (x : Nat) (ho : o + 4 ≤ cs.length) : (storeCells ⟨b, o, none⟩ (wa x).toList 0).run Tryz.prog w = .ok () (w.setRow b (putAt cs o (wa x).toList).toArray) := by
  have h4 : (wa x).toList.length = 4 := rfl
  have := run_storeCells_at Tryz.prog b o T (wa x).toList 0 cs.toArray w hb (by rw [h4]; simp; omega) (fun v hv => (Array.all_eq_true_iff_forall_mem.1 (wa_one (n := x))) v (by simpa using hv))
  simpa [putAt, h4] using this
set_option maxHeartbeats 1000000 in
theorem undo_bool (c0 c1 b o : Nat) (x : Bool) (cs : List Value) (T : TypeId) (w : World) (h0 : w.cell? ⟨c0, 0, none⟩ = some (.bool x)) (h1 : w.cell? ⟨c1, 0, none⟩ = some (.pointer (some ⟨b, o, none⟩))) (hb : w.heap[b]? = some (.cells cs.toArray T)) (ho : o < cs.length) :
    Calls Tryz.prog 97 #[.pointer (some ⟨c0, 0, none⟩), .pointer (some ⟨c1, 0, none⟩)] w fun e w' => e = .returned (.tuple #[]) ∧ w' = w.setRow b (putAt cs o [.bool x]).toArray := by
  have hc : w.cell? ⟨b, o, none⟩ = some (cs[o]'ho) := blk_cell hb (by simp [ho])
  have hf : w.frozen? ⟨b, o, none⟩ = false := by simp [World.frozen?, hb]
  have hsc := setCell_put hb ho
  go_enter Tryz.func97, Tryz.ntmps97
  go_wp2_with fail
  exact bodyPost_end (results_none rfl _ _ _) rfl ⟨rfl, rfl⟩
set_option maxHeartbeats 1000000 in
theorem undo_str (c0 c1 b o : Nat) (x : ByteArray) (cs : List Value) (T : TypeId) (w : World) (h0 : w.cell? ⟨c0, 0, none⟩ = some (.string x)) (h1 : w.cell? ⟨c1, 0, none⟩ = some (.pointer (some ⟨b, o, none⟩))) (hb : w.heap[b]? = some (.cells cs.toArray T)) (ho : o < cs.length) :
    Calls Tryz.prog 98 #[.pointer (some ⟨c0, 0, none⟩), .pointer (some ⟨c1, 0, none⟩)] w fun e w' => e = .returned (.tuple #[]) ∧ w' = w.setRow b (putAt cs o [.string x]).toArray := by
  have hc : w.cell? ⟨b, o, none⟩ = some (cs[o]'ho) := blk_cell hb (by simp [ho])
  have hf : w.frozen? ⟨b, o, none⟩ = false := by simp [World.frozen?, hb]
  have hsc := setCell_put hb ho
  go_enter Tryz.func98, Tryz.ntmps98
  go_wp2_with fail
  exact bodyPost_end (results_none rfl _ _ _) rfl ⟨rfl, rfl⟩
set_option maxHeartbeats 1000000 in
theorem undo_u64 (c0 c1 b o : Nat) (x : Nat) (cs : List Value) (T : TypeId) (w : World) (h0 : w.cell? ⟨c0, 0, none⟩ = some (.int .u64 (x : Int))) (h1 : w.cell? ⟨c1, 0, none⟩ = some (.pointer (some ⟨b, o, none⟩))) (hb : w.heap[b]? = some (.cells cs.toArray T)) (ho : o < cs.length) :
    Calls Tryz.prog 107 #[.pointer (some ⟨c0, 0, none⟩), .pointer (some ⟨c1, 0, none⟩)] w fun e w' => e = .returned (.tuple #[]) ∧ w' = w.setRow b (putAt cs o [.int .u64 (x : Int)]).toArray := by
  have hc : w.cell? ⟨b, o, none⟩ = some (cs[o]'ho) := blk_cell hb (by simp [ho])
  have hf : w.frozen? ⟨b, o, none⟩ = false := by simp [World.frozen?, hb]
  have hsc := setCell_put hb ho
  go_enter Tryz.func107, Tryz.ntmps107
  go_wp2_with fail
  exact bodyPost_end (results_none rfl _ _ _) rfl ⟨rfl, rfl⟩
set_option maxHeartbeats 1000000 in
theorem undo_i64 (c0 c1 b o : Nat) (x : Int) (cs : List Value) (T : TypeId) (w : World) (h0 : w.cell? ⟨c0, 0, none⟩ = some (.int .i64 x)) (h1 : w.cell? ⟨c1, 0, none⟩ = some (.pointer (some ⟨b, o, none⟩))) (hb : w.heap[b]? = some (.cells cs.toArray T)) (ho : o < cs.length) :
    Calls Tryz.prog 110 #[.pointer (some ⟨c0, 0, none⟩), .pointer (some ⟨c1, 0, none⟩)] w fun e w' => e = .returned (.tuple #[]) ∧ w' = w.setRow b (putAt cs o [.int .i64 x]).toArray := by
  have hc : w.cell? ⟨b, o, none⟩ = some (cs[o]'ho) := blk_cell hb (by simp [ho])
  have hf : w.frozen? ⟨b, o, none⟩ = false := by simp [World.frozen?, hb]
  have hsc := setCell_put hb ho
  go_enter Tryz.func110, Tryz.ntmps110
  go_wp2_with fail
  exact bodyPost_end (results_none rfl _ _ _) rfl ⟨rfl, rfl⟩
set_option maxHeartbeats 1000000 in
theorem undo_sto (c0 c1 b o : Nat) (x : Option Addr) (cs : List Value) (T : TypeId) (w : World) (h0 : w.cell? ⟨c0, 0, none⟩ = some (.pointer x)) (h1 : w.cell? ⟨c1, 0, none⟩ = some (.pointer (some ⟨b, o, none⟩))) (hb : w.heap[b]? = some (.cells cs.toArray T)) (ho : o < cs.length) :
    Calls Tryz.prog 109 #[.pointer (some ⟨c0, 0, none⟩), .pointer (some ⟨c1, 0, none⟩)] w fun e w' => e = .returned (.tuple #[]) ∧ w' = w.setRow b (putAt cs o [.pointer x]).toArray := by
  have hc : w.cell? ⟨b, o, none⟩ = some (cs[o]'ho) := blk_cell hb (by simp [ho])
  have hf : w.frozen? ⟨b, o, none⟩ = false := by simp [World.frozen?, hb]
  have hsc := setCell_put hb ho
  go_enter Tryz.func109, Tryz.ntmps109
  go_wp2_with fail
  exact bodyPost_end (results_none rfl _ _ _) rfl ⟨rfl, rfl⟩
set_option maxHeartbeats 1000000 in
theorem undo_word (c0 c1 b o x : Nat) (cs : List Value) (T : TypeId) (w : World) (h0 : w.heap[c0]? = some (.cells (wa x) 44)) (h1 : w.cell? ⟨c1, 0, none⟩ = some (.pointer (some ⟨b, o, none⟩))) (hb : w.heap[b]? = some (.cells cs.toArray T)) (ho : o + 4 ≤ cs.length) :
    Calls Tryz.prog 108 #[.pointer (some ⟨c0, 0, none⟩), .pointer (some ⟨c1, 0, none⟩)] w fun e w' => e = .returned (.tuple #[]) ∧ w' = w.setRow b (putAt cs o (wa x).toList).toArray := by
  have hw := wa_size
  have hsc := store_put hb x ho
  have r0 := (rng_block (cs := (wa x).toList) (by simpa using h0)).at
  go_enter Tryz.func108, Tryz.ntmps108
  go_wp2_with (first
    | (refine wpList_load_mid rfl 44 _ rfl c0 0 rfl (wa x).toList _ r0 Tryz.underlying44 rfl (infoW4 _) ?_; simp only [Array.toArray_toList]))
  exact bodyPost_end (results_none rfl _ _ _) rfl ⟨rfl, rfl⟩
end Go.Proofs.YtnjeoeekidnffaaGreat
/- Stage 14: how what was done is noted: done. -/
namespace Go.Proofs.YtnjeoeekidnffaaGreat
open Go.RowKit SmWord Go.Maps
set_option maxRecDepth 100000

theorem infoFn : (Tryz.prog.info? 1).map (fun i => (i.zero, i.size, i.bytes)) = some (some .nilFunc, 1, 8) := by kernel_rfl
theorem own_blk {w : World} {base : Nat} {e : TypeId} {k n : Nat} {v : Value} {xs : List Value} (h : w.ownsRow base e k v n xs) {b : Nat} (hb : v.ownBlock = some b) : ∃ cs, w.heap[b]? = some (.cells cs e) := by
  rcases h.2 with ⟨e, _⟩ | ⟨vb, c, cur, e, _, hg, _⟩
  · rw [e] at hb; cases hb
  · rw [e] at hb
    cases hb
    exact ⟨cur, hg⟩
set_option maxHeartbeats 4000000 in
/-- What was done is noted; a state has 26 cells, its undo row stands in the last. -/
theorem done_walk {w : World} {sb base n k : Nat} {cs xs : List Value} {uv : Value} {cap : Array Value} (hs : w.heap[sb]? = some (.cells cs.toArray 88)) (hl : cs.length = 26) (hu : cs[25]? = some uv) (ho : w.ownsRow base 1 1 uv n xs) (hb : base ≤ w.heap.size) (hn : n < 1048576) :
    Calls Tryz.prog 65 #[.pointer (some ⟨sb, 0, none⟩), .func (.func k) #[] cap] w fun e w' => e = .returned (.tuple #[]) ∧ ∃ uv' w1, w' = w1.setRow sb (putAt cs 25 [uv']).toArray ∧ w1.heap[sb]? = w.heap[sb]? ∧ w1.ownsRow base 1 1 uv' (n + 1) (xs ++ [.func (.func k) #[] cap]) ∧ w.grownBy w1 uv.ownBlock ∧ ∀ b, uv'.ownBlock = some b → uv.ownBlock = some b ∨ w.heap.size ≤ b := by
  obtain ⟨i0, hi0, hz0, hz1, hz2⟩ := info_parts infoFn
  have hc0 : w.cell? ⟨sb, 25, none⟩ = some uv := blk_cell hs (by simpa using hu)
  have hne : some sb ≠ uv.ownBlock := fun e => by
    obtain ⟨cs', h'⟩ := own_blk ho e.symm
    rw [hs] at h'
    simp at h'
  have hsb : sb < w.heap.size := (Array.getElem?_eq_some_iff.1 hs).1
  have HS := Lib.hid hs
  have HO := Lib.hid ho
  have HL := Lib.hid hl
  have HU := Lib.hid hu
  clear hs ho hl hu
  go_enter Tryz.func65, Tryz.ntmps65
  go_wp2_with (first
    | (at_builtin
       refine wpList_append_own_at _ rfl _ _ 86 rfl base 1 i0 .nilFunc 1 8 Tryz.underlying86 hi0 hz0 hz1 hz2 rfl (by decide) _ _ _ rfl (HO.out.alloc _) ⟨w.heap.size, 0, none⟩ 1 1 [.func (.func k) #[] cap] rfl rfl (cell_one_new _ _ _) (by simp [Value.oneCell']) (by unfold maxLen; omega) (by omega) (by simp; omega) ?_
       intro v' w1 h1 h2 _ h4
       have G0 : w.grownBy w1 uv.ownBlock := (World.grownBy_alloc w _ _).trans h2
       have H4 : v'.ownBlock = uv.ownBlock ∨ v'.ownBlock = some (w.alloc (.cells #[.func (.func k) #[] cap] 1)).heap.size := h4
       clear h2 h4
       obtain ⟨vb, c, rfl⟩ : ∃ vb c, v' = .slice (some ⟨vb, 0, none⟩) (n + 1) c := by
         rcases h1.2 with ⟨_, h0⟩ | ⟨vb, c, cur, e, _⟩
         · omega
         · exact ⟨_, _, e⟩
       have hs1 : w1.heap[sb]? = w.heap[sb]? := G0.block sb hsb hne
       have hs2 := hs1.trans HS.out
       have hc1 : w1.cell? ⟨sb, 25, none⟩ = some uv := blk_cell hs2 (by simpa using HU.out)
       have hf1 : w1.frozen? ⟨sb, 25, none⟩ = false := by simp [World.frozen?, hs2]
       have hsc := setCell_put hs2 (by rw [HL.out]; decide : 25 < cs.length)
       have HS2 := Lib.hid hs2
       have HS1 := Lib.hid hs1
       clear hs2 hs1))
  refine bodyPost_end (results_none rfl _ _ _) rfl ⟨rfl, _, w1, rfl, HS1.out, h1, G0, fun b hb' => ?_⟩
  rcases H4 with h | h
  · exact .inl (h ▸ hb')
  · rw [h] at hb'
    simp at hb'
    exact .inr (by omega)
end Go.Proofs.YtnjeoeekidnffaaGreat
