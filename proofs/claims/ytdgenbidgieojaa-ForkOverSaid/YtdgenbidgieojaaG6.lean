/- An account copied: what is handed on shares nothing with it. -/
import Derived.Test.YtdgenbidgieojaaG5
import Derived.Maps.AppendAt
import Derived.Laws.AppendOwnNone
namespace Go.Proofs.Ytdgenbidgieojaa
open Go.RowKit SmWord
set_option maxRecDepth 100000

/-- The blocks from n on. -/
def fr (n : Nat) (w : World) : Hp := fun b => if n ≤ b then w.heap[b]? else none
theorem fr_sub (n : Nat) (w : World) : Sub (fr n w) (hp w) := fun b o h => by
  unfold fr at h
  split at h
  · exact h
  · cases h
theorem fr_below {n : Nat} {w w' : World} (hb : Below w.heap.size w w') : Sub (fr n w) (fr n w') := fun b o h => by
  unfold fr at h ⊢
  split at h
  · rename_i hn
    rw [if_pos hn]
    exact (hb.block b (Array.getElem?_eq_some_iff.1 h).1).trans h
  · cases h
theorem fr_mono {m n : Nat} (h : m ≤ n) (w : World) : Sub (fr n w) (fr m w) := fun b o hb => by
  unfold fr at hb ⊢
  split at hb
  · rw [if_pos (by omega)]; exact hb
  · cases hb
theorem RowZ.ownF {w : World} {base : Nat} {e : TypeId} {k n : Nat} {v : Value} {xs : List Value} (h : w.ownsRow base e k v n xs) : RowZ (fr base w) v n k xs := by
  refine ⟨h.1, ?_⟩
  rcases h.2 with ⟨rfl, rfl⟩ | ⟨g, cap, cur, rfl, hbg, hg, hn, hc, hcs, ht⟩
  · exact ⟨none, 0, rfl, Nat.le_refl _, by simp [maxLen], fun _ => ⟨rfl, rfl⟩, fun h => absurd h (by decide)⟩
  · refine ⟨_, _, rfl, hn, hc, fun h => (by simp at h), fun _ => ⟨g, 0, rfl, cur, e, (0, 0), by unfold fr; rw [if_pos hbg]; exact hg, fun j u hj => ?_⟩⟩
    rw [Nat.zero_add]
    rw [← ht, List.getElem?_take] at hj
    split at hj
    · simpa using hj
    · cases hj
theorem own_sl {w : World} {base : Nat} {e : TypeId} {k n : Nat} {v : Value} {xs : List Value} (h : w.ownsRow base e k v n xs) : ∃ A c, v = .slice A n c := by
  rcases h.2 with ⟨rfl, rfl⟩ | ⟨g, cap, cur, rfl, _⟩
  · exact ⟨_, _, rfl⟩
  · exact ⟨_, _, rfl⟩
theorem own_not {w : World} {base : Nat} {e t : TypeId} {k n : Nat} {v : Value} {xs : List Value} (h : w.ownsRow base e k v n xs) {c : Nat} {cs : Array Value} (hc : w.heap[c]? = some (.cells cs t)) (hne : t ≠ e) : ∀ b, v.ownBlock = some b → b ≠ c := by
  rintro b hb rfl
  rcases h.2 with ⟨rfl, _⟩ | ⟨g, cap, cur, rfl, _, hg, _⟩
  · cases hb
  · simp [Value.ownBlock] at hb
    subst hb
    rw [hg] at hc
    simp at hc
    exact hne hc.2.symm
/-- A row is appended to a row of one's own. -/
theorem append_row {P : Program} {ops : Array Oper} {rest : List Oper} {o : Oper} {a : Act} {w : World} {Q : Exit → Act → World → Prop} (hg : o.guard = none) (s x : Operand) (t : TypeId)
    (ho : o.op = .call { callee := .builtin .append, args := #[s, x], argTypes := #[t, t] }) (e : TypeId) (z : Value) (size bytes : Nat) (ht : P.underlying t = some (.slice e)) (hi : (P.info? e).map (fun i => (i.zero, i.size, i.bytes)) = some (some z, size, bytes)) (hzs : z.cells.size = size) (hsz : 0 < size) (hby : bytes ≤ 1000)
    (base : Nat) (v : Value) (k : Nat) (xs : List Value) (hs : a.eval s = v) (hown : w.ownsRow base e size v k xs)
    (vx : Value) (n : Nat) (Lx : List Value) (hx : a.eval x = vx) (hr : RowZ (hp w) vx n size Lx) (h1 : ∀ u ∈ Lx, u.oneCell' = true) (hk : k + n ≤ 4294967296) (hbase : base ≤ w.heap.size)
    (h : ∀ v' w', w'.ownsRow base e size v' (k + n) (xs ++ Lx) → w.grownBy w' v.ownBlock → (v'.ownBlock = v.ownBlock ∨ v'.ownBlock = some w.heap.size) → wpList P ops Q rest (a.put o.dst v') w') : wpList P ops Q (o :: rest) a w := by
  obtain ⟨i0, hi0, hz0, hz1, hz2⟩ := info_parts hi
  obtain ⟨A, c, rfl, hnc, hcM, hA, hcells⟩ := hr.val
  cases A with
  | none =>
    obtain ⟨rfl, rfl⟩ := hA rfl
    have hL : Lx = [] := List.eq_nil_of_length_eq_zero (by have := hr.len; simpa using this)
    subst hL
    refine wpList_append_own_none hg s x t ho base e i0 size ht hi0 v k xs hs hown hx (h v w (by simpa using hown) ⟨rfl, rfl, rfl, Nat.le_refl _, fun _ _ _ => rfl⟩ (.inl rfl))
  | some ad =>
    have hmul : (k + n) * bytes ≤ 4294967296 * 1000 := Nat.mul_le_mul hk hby
    refine wpList_append_own_at w hg s x t ho base e i0 z size bytes ht hi0 hz0 hz1 hz2 hzs hsz v k xs hs hown ad n c Lx hx hr.len (fun j u hj => ?_) h1 (by unfold maxLen; omega) (by omega) hbase (fun v' w' h1 h2 _ h4 => h v' w' h1 h2 h4)
    have hjn : 0 < n := by
      have := (List.getElem?_eq_some_iff.1 hj).1
      rw [hr.len] at this
      exact Nat.pos_of_mul_pos_right (Nat.lt_of_le_of_lt (Nat.zero_le _) this)
    obtain ⟨b, off, e, hrg⟩ := hcells hjn
    cases e
    rw [Addr.add_mid]
    exact hrg.at j u hj
theorem u8_one (l : List Nat) : ∀ u ∈ l.map u8v, u.oneCell' = true := fun u hu => by
  obtain ⟨n, _, rfl⟩ := List.mem_map.1 hu
  rfl
theorem so_one (l : List (Nat × Nat)) : ∀ u ∈ l.flatMap scs, u.oneCell' = true := fun u hu => by
  obtain ⟨s, _, hs⟩ := List.mem_flatMap.1 hu
  exact (Array.all_eq_true_iff_forall_mem.1 (scs_one s)) u (by simpa using hs)
theorem infoU8 : (Try.prog.info? 5).map (fun i => (i.zero, i.size, i.bytes)) = some (some (.int .u8 0), 1, 1) := by kernel_rfl
theorem infoSlot : (Try.prog.info? 79).map (fun i => (i.zero, i.size, i.bytes)) = some (some (.agg (wa 0 ++ wa 0)), 8, 64) := by kernel_rfl
/-- The account that has nothing. -/
def noneAV : AV := ⟨⟨0, 0, 0, [], []⟩, .slice none 0 0, .slice none 0 0⟩
theorem infoAcc : (Try.prog.info? 39).map (fun i => (i.zero, i.size, i.bytes)) = some (some (.agg (acs noneAV).toArray), 27, 112) := by kernel_rfl
theorem zeroAcc (w : World) : (zeroValue 39).run Try.prog w = .ok (.agg (acs noneAV).toArray) w := by kernel_rfl
theorem acs_set (x : AV) (p q : Value) : ((acs x).toArray.setIfInBounds 25 p).setIfInBounds 26 q = (acs ⟨x.a, p, q⟩).toArray := by
  apply Array.ext'
  simp only [Array.toList_setIfInBounds]
  unfold acs
  have h1 : (aN x.a.ad).toList.length = 20 := by simp [aN_size]
  have h2 : (wa x.a.ba).toList.length = 4 := by simp [wa_size]
  have e1 : ((wa x.a.ba).toList ++ [x.p, x.q]).set 4 p = (wa x.a.ba).toList ++ [p, x.q] := by rw [List.set_append_right _ _ (by omega), h2]; rfl
  have e2 : ((wa x.a.ba).toList ++ [p, x.q]).set 5 q = (wa x.a.ba).toList ++ [p, q] := by rw [List.set_append_right _ _ (by omega), h2]; rfl
  rw [List.set_append_right _ _ (by omega), h1]
  simp only [List.set_cons_succ, show 25 - 20 = 4 + 1 from rfl, e1]
  rw [List.set_append_right _ _ (by omega), h1]
  simp only [List.set_cons_succ, show 26 - 20 = 5 + 1 from rfl, e2]
set_option maxHeartbeats 2000000 in
theorem copied_walk (x : AV) (w : World) (h : AccZ (hp w) x) : Calls Try.prog 51 #[aval x] w fun e w' => ∃ p q, e = .returned (aval ⟨x.a, p, q⟩) ∧ AccZ (fr w.heap.size w') ⟨x.a, p, q⟩ ∧ Below w.heap.size w w' := by
  unfold aval
  have hs : ∀ x, (acs x).toArray.size = 27 := fun x => by simp [acs_len]
  obtain ⟨W, hW⟩ : ∃ W, (w.alloc (.cells (acs x).toArray 39)).alloc (.cells (acs noneAV).toArray 39) = W := ⟨_, rfl⟩
  have f0 : W.heap[w.heap.size]? = some (.cells (acs x).toArray 39) := hW ▸ blk_alloc (heap_alloc_new _ _)
  have f1 : W.heap[w.heap.size + 1]? = some (.cells (acs noneAV).toArray 39) := hW ▸ heap_alloc2_new _ _ _
  have bW : Below w.heap.size w W := hW ▸ ((Below.refl _ _).alloc (Nat.le_refl _) _).alloc (by simp) _
  have sW : W.heap.size = w.heap.size + 2 := by rw [← hW]; simp
  obtain ⟨-, -, p2, -, -⟩ := boxcells f0
  have fz := blk_frozen (j := 25) f0
  go_enter Try.func51, Try.ntmps51
  go_upto_region 1 with (refine wpList_alloc_row rfl 39 rfl _ zeroAcc ?_)
  rw [hW]
  clear hW
  have F0 := Lib.hid f0
  have F1 := Lib.hid f1
  have HB := Lib.hid bW
  clear f0 f1 bW
  have HX := Lib.hid h
  clear h
  go_wp2_with (first
    | (refine append_row rfl _ _ 36 rfl 5 (.int .u8 0) 1 1 Try.underlying36 infoU8 rfl (by decide) (by decide) w.heap.size (.slice none 0 0) 0 [] rfl (World.ownsRow_nil _ _ _ _) x.p x.a.co.length (x.a.co.map u8v) rfl (HX.out.cod.sub (hp_below HB.out)) (u8_one _) (by have := HX.out.cl; omega) (by omega) ?_
       intro v1 w1 ho1 hg1 _
       simp only [Nat.zero_add, List.nil_append] at ho1
       obtain ⟨A1, c1, rfl⟩ := own_sl ho1
       have f2 := (hg1.block w.heap.size (by omega) (by simp [Value.ownBlock])).trans F0.out
       have fz1 := blk_frozen (j := 25) f2
       obtain ⟨-, -, g2, g3, -⟩ := boxcells f2
       have HO1 := Lib.hid ho1
       have F2 := Lib.hid f2
       have F3 := Lib.hid ((hg1.block (w.heap.size + 1) (by omega) (by simp [Value.ownBlock])).trans F1.out)
       have hz1 := hg1.size
       have HB1 : Hid (Below w.heap.size w w1) := Lib.hid (HB.out.grown hg1 (by omega) (by simp [Value.ownBlock]))
       clear ho1 hg1 f2)
    | (refine append_row rfl _ _ 37 rfl 79 (.agg (wa 0 ++ wa 0)) 8 64 Try.underlying37 infoSlot (by simp [Value.cells, wa_size]) (by decide) (by decide) w.heap.size (.slice none 0 0) 0 [] rfl (World.ownsRow_nil _ _ _ _) x.q x.a.so.length (x.a.so.flatMap scs) rfl (HX.out.sto.sub (hp_below (HB1.out.setCell (Nat.le_refl _) _))) (so_one _) (by have := HX.out.sl; omega) (by simp [World.setCell]; omega) ?_
       intro v2 w2 ho2 hg2 _
       simp only [Nat.zero_add, List.nil_append] at ho2
       obtain ⟨A2, c2, rfl⟩ := own_sl ho2
       have f3 := (hg2.block w.heap.size (by simp [World.setCell]; omega) (by simp [Value.ownBlock])).trans (blk_set F2.out (j := 25) (.slice A1 x.a.co.length c1))
       have f5 := (hg2.block (w.heap.size + 1) (by simp [World.setCell]; omega) (by simp [Value.ownBlock])).trans (blk_other F3.out (by omega) (j := 25) (.slice A1 x.a.co.length c1))
       have fz1 := blk_frozen (j := 26) f3
       have g5 : w2.cell? ⟨w.heap.size, 26, none⟩ = some x.q := blk_cell f3 (by rw [Array.getElem?_setIfInBounds_ne (by decide)]; simpa using acs_q x)
       have F4 := Lib.hid f3
       have F5 := Lib.hid f5
       have HO2 := Lib.hid ho2
       have HG2 := Lib.hid hg2
       have F6 : Hid ((w2.setCell ⟨w.heap.size, 26, none⟩ (.slice A2 x.a.so.length c2)).heap[w.heap.size]? = some (.cells (acs ⟨x.a, .slice A1 x.a.co.length c1, .slice A2 x.a.so.length c2⟩).toArray 39)) := Lib.hid (by rw [← acs_set x]; exact blk_set f3 _)
       have F7 := Lib.hid (blk_other f5 (show w.heap.size + 1 ≠ w.heap.size by omega) (j := 26) (.slice A2 x.a.so.length c2))
       have one := all_oneCell_toArray (oneA ⟨x.a, .slice A1 x.a.co.length c1, .slice A2 x.a.so.length c2⟩ rfl rfl)
       clear ho2 hg2 f3 f5)
    | (refine wpList_load_mid rfl 39 _ rfl w.heap.size 0 rfl (acs ⟨x.a, .slice A1 x.a.co.length c1, .slice A2 x.a.so.length c2⟩) _ (rng_block F6.out).at Try.underlying39 rfl (infoAcs _) ?_)
    | (refine wpList_store_row rfl 39 _ _ rfl (w.heap.size + 1) _ (acs ⟨x.a, .slice A1 x.a.co.length c1, .slice A2 x.a.so.length c2⟩).toArray rfl rfl F7.out (by simpa using infoAcs _) (by simp [acs_len]) one ?_))
  refine bodyPost_ret (v := .agg (acs ⟨x.a, .slice A1 x.a.co.length c1, .slice A2 x.a.so.length c2⟩).toArray) (results_cell_row rfl _ _ _ 39 _ (0, 0) _ rfl (blk_row F7.out) Try.underlying39 rfl (by simpa using infoAcs _)) rfl ⟨_, _, rfl, ?_, ?_⟩
  · have e1 : ∀ b, (Value.slice A1 x.a.co.length c1).ownBlock = some b → ((w2.setCell ⟨w.heap.size, 26, none⟩ (.slice A2 x.a.so.length c2)).setRow (w.heap.size + 1) (acs ⟨x.a, .slice A1 x.a.co.length c1, .slice A2 x.a.so.length c2⟩).toArray).heap[b]? = w1.heap[b]? := fun b hb => by
      have n1 := own_not HO1.out F2.out (by decide) b hb
      have n2 := own_not HO1.out F3.out (by decide) b hb
      rw [setRow_other _ _ _ _ n2, Below.heap_setCell _ _ _ _ n1, HG2.out.block b (by have := (HO1.out.lt b hb).2; simpa [World.setCell] using this) (by simp [Value.ownBlock]), Below.heap_setCell _ _ _ _ n1]
    have e2 : ∀ b, (Value.slice A2 x.a.so.length c2).ownBlock = some b → ((w2.setCell ⟨w.heap.size, 26, none⟩ (.slice A2 x.a.so.length c2)).setRow (w.heap.size + 1) (acs ⟨x.a, .slice A1 x.a.co.length c1, .slice A2 x.a.so.length c2⟩).toArray).heap[b]? = w2.heap[b]? := fun b hb => by
      have n1 := own_not HO2.out F4.out (by decide) b hb
      have n2 := own_not HO2.out F5.out (by decide) b hb
      rw [setRow_other _ _ _ _ n2, Below.heap_setCell _ _ _ _ n1]
    exact { HX.out with cod := RowZ.ownF (own_same HO1.out e1), sto := RowZ.ownF (own_same HO2.out e2) }
  · exact below_setRow ((((HB1.out.setCell (Nat.le_refl _) _).grown HG2.out (by simp [World.setCell]; omega) (by simp [Value.ownBlock]))).setCell (Nat.le_refl _) _) (by omega) _
end Go.Proofs.Ytdgenbidgieojaa
/- What a version answers: Find and Parent; a new store. -/
namespace Go.Proofs.Ytdgenbidgieojaa
open Go.RowKit SmWord
set_option maxRecDepth 100000

theorem results_cs {P : Program} {fn : Func} {p u : Tmp} {ty : TypeId} (h : fn.results = #[.cell p ty, .tmp u]) (tmps : Array Value) (w : World) (g : Nat) (t : TypeId) (cs : Array Value) (fr : Nat × Nat) (d : TypeDesc) (v : Value)
    (hp : tmps.getD p undef = .pointer (some ⟨g, 0, none⟩)) (hg : w.heap[g]? = some (.cells cs t fr))
    (hu : P.underlying ty = some d) (hd : (match d with | .struct _ | .array _ _ => true | _ => false) = true) (hi : (P.info? ty).map (·.size) = some cs.size) (hv : tmps.getD u undef = v) :
    (results fn tmps).run P w = .ok (.tuple #[.agg cs, v]) w := by
  have hp' : tmps[p]?.getD undef = .pointer (some ⟨g, 0, none⟩) := by simpa using hp
  have hv' : tmps[u]?.getD undef = v := by simpa using hv
  rw [results_cell_tmp h]
  simp [hp', asAddr, run_loadVar_row w g t ty cs fr d hg hu hd hi, hv']
theorem noneZ (Z : Hp) : AccZ Z noneAV :=
  ⟨by simp [noneAV], by simp [noneAV, B], by simp [noneAV, M], RowZ.nil Z 1, by simp [noneAV], by simp [noneAV], RowZ.nil Z 8, by simp [noneAV], by simp [noneAV]⟩
theorem store_newN (w : World) : (storeCells ⟨w.heap.size, 0, none⟩ (acs noneAV) 0).run Try.prog (w.alloc (.cells (acs noneAV).toArray 39)) = .ok () (w.alloc (.cells (acs noneAV).toArray 39)) := by
  have := run_storeCells_new (P := Try.prog) w 39 (acs noneAV).toArray (acs noneAV).toArray (by simpa using infoAcs noneAV) rfl (noneZ (fun _ => none)).ones
  simpa using this
/-- The boxes of Find. -/
theorem fboxes (w : World) (A : Nat) : ∃ W, (w.alloc (.cells (aN A) 32)).alloc (.cells (acs noneAV).toArray 39) = W ∧ W.heap[w.heap.size]? = some (.cells (aN A) 32) ∧ W.heap[w.heap.size + 1]? = some (.cells (acs noneAV).toArray 39) ∧ Below w.heap.size w W ∧ W.heap.size = w.heap.size + 2 :=
  ⟨_, rfl, blk_alloc (heap_alloc_new _ _), heap_alloc2_new _ _ _, ((Below.refl _ _).alloc (Nat.le_refl _) _).alloc (by simp) _, by simp⟩
set_option maxHeartbeats 1000000 in
theorem find_none (p : Option Addr) (v : Int) (A : Nat) (w : World) (HL : Hid (∀ w1, Below w.heap.size w w1 → Calls Try.prog 92 #[.pointer p, .int .i64 v, .agg (aN A)] w1 fun e w' => e = .returned (.pointer none) ∧ Below w1.heap.size w1 w')) :
    Calls Try.prog 91 #[.pointer p, .int .i64 v, .agg (aN A)] w fun e w' => e = .returned (.tuple #[aval noneAV, .bool false]) ∧ Below w.heap.size w w' := by
  have hs := aN_size A
  have hn : (acs noneAV).toArray.size = 27 := by simp [acs_len]
  obtain ⟨W, hW, f0, f1, bW, sW⟩ := fboxes w A
  have r0 := adblk f0
  have HB := Lib.hid bW
  have F1 := Lib.hid f1
  have HM : noneAV = noneAV := rfl
  clear f0 f1 bW
  go_enter Try.func91, Try.ntmps91
  go_upto_region 1 with (refine wpList_alloc_row rfl 39 rfl _ zeroAcc ?_)
  clear hW
  go_wp2_with (first
    | (refine wpList_load_mid rfl 32 _ rfl w.heap.size 0 rfl (aN A).toList _ r0 Try.underlying32 rfl (infoAd A) ?_; simp only [Array.toArray_toList])
    | (go_at_call 92; refine (HL.out _ HB.out).mono ?_; rintro e w1 ⟨rfl, b1⟩; replace HB := Lib.hid (HB.out.trans (b1.mono HB.out.size)); replace F1 := Lib.hid (stay b1 F1.out))
    | (refine wpList_store_row rfl 39 _ _ rfl (w.heap.size + 1) _ (acs noneAV).toArray rfl rfl F1.out (by simpa using infoAcs _) rfl (noneZ (fun _ => none)).ones ?_))
  exact bodyPost_ret (v := .tuple #[.agg (acs noneAV).toArray, .bool false]) (results_cs rfl _ _ _ 39 _ (0, 0) _ (.bool false) rfl (blk_row F1.out) Try.underlying39 rfl (by simpa using infoAcs _) rfl) rfl ⟨rfl, below_setRow HB.out (by omega) _⟩
theorem fr_row {m n c : Nat} {w : World} (hc : c < n) (hm : m ≤ n) (cs : Array Value) : Sub (fr n w) (fr m (w.setRow c cs)) := fun b o hb => by
  unfold fr at hb ⊢
  split at hb
  · rw [if_pos (by omega), setRow_other _ _ _ _ (by omega)]; exact hb
  · cases hb
set_option maxHeartbeats 1000000 in
theorem find_some (p : Option Addr) (v : Int) (A b : Nat) (xb : AV) (w : World) (hb : w.heap[b]? = some (.cells (acs xb).toArray 39)) (hx : AccZ (hp w) xb)
    (HL : Hid (∀ w1, Below w.heap.size w w1 → Calls Try.prog 92 #[.pointer p, .int .i64 v, .agg (aN A)] w1 fun e w' => e = .returned (.pointer (some ⟨b, 0, none⟩)) ∧ Below w1.heap.size w1 w')) :
    Calls Try.prog 91 #[.pointer p, .int .i64 v, .agg (aN A)] w fun e w' => ∃ r s, e = .returned (.tuple #[aval ⟨xb.a, r, s⟩, .bool true]) ∧ AccZ (fr w.heap.size w') ⟨xb.a, r, s⟩ ∧ Below w.heap.size w w' := by
  have hs := aN_size A
  obtain ⟨W, hW, f0, f1, bW, sW⟩ := fboxes w A
  have r0 := adblk f0
  have HB := Lib.hid bW
  have F1 := Lib.hid f1
  have FB := Lib.hid hb
  have HX := Lib.hid hx
  clear f0 f1 bW hb hx
  go_enter Try.func91, Try.ntmps91
  go_upto_region 1 with (refine wpList_alloc_row rfl 39 rfl _ zeroAcc ?_)
  clear hW
  go_wp2_with (first
    | (refine wpList_load_mid rfl 32 _ rfl w.heap.size 0 rfl (aN A).toList _ r0 Try.underlying32 rfl (infoAd A) ?_; simp only [Array.toArray_toList])
    | (go_at_call 92; refine (HL.out _ HB.out).mono ?_; rintro e w1 ⟨rfl, b1⟩; replace HB := Lib.hid (HB.out.trans (b1.mono HB.out.size)); replace F1 := Lib.hid (stay b1 F1.out); have hz := b1.size)
    | (refine wpList_load_mid rfl 39 _ rfl b 0 rfl (acs xb) _ (rng_block (stay HB.out FB.out)).at Try.underlying39 rfl (infoAcs _) ?_)
    | (go_at_call 51; refine (copied_walk xb _ (HX.out.sub (hp_below HB.out))).mono ?_; rintro e w2 ⟨r, s, rfl, ha, b2⟩; have HA := Lib.hid ha; have one := ha.ones; replace HB := Lib.hid (HB.out.trans (b2.mono HB.out.size)); replace F1 := Lib.hid (stay b2 F1.out); unfold aval; clear ha)
    | (refine wpList_store_row rfl 39 _ _ rfl (w.heap.size + 1) _ (acs ⟨xb.a, r, s⟩).toArray rfl rfl F1.out (by simpa using infoAcs _) (by simp [acs_len]) one ?_))
  exact bodyPost_ret (v := .tuple #[.agg (acs ⟨xb.a, r, s⟩).toArray, .bool true]) (results_cs rfl _ _ _ 39 _ (0, 0) _ (.bool true) rfl (blk_row F1.out) Try.underlying39 rfl (by simpa using infoAcs _) rfl) rfl ⟨_, _, rfl, HA.out.sub (fr_row (by omega) (by have := (W.heap.size); omega) _), below_setRow HB.out (by omega) _⟩
section
variable {base : Nat} {Z : Hp} {w : World} {sb : Nat} {g : Gh} {L : Nat → List Acc}
/-- What Find answers. -/
def FindIs (w : World) (o : Option Acc) (e : Ending) (w' : World) : Prop := ∃ x : AV, e = .returned (.tuple #[aval x, .bool o.isSome]) ∧ x.a = o.getD noneAV.a ∧ AccZ (hp w') x ∧ Below w.heap.size w w'
theorem sfind_out (h : StoreAt base Z w sb g L) (v : Int) (A : Nat) (hv : ¬ (0 ≤ v ∧ v < g.n)) : Calls Try.prog 91 #[.pointer (some ⟨sb, 0, none⟩), .int .i64 v, .agg (aN A)] w (FindIs w none) :=
  (find_none _ v A w (Lib.hid fun _ b1 => last_none _ g.n v A hv (Lib.hid fun _ b2 => has_walk ((h.below b1).below b2) v))).mono fun _ _ ⟨he, hb⟩ => ⟨noneAV, he, rfl, noneZ _, hb⟩
theorem sfind_nil (v : Int) (A : Nat) (w : World) : Calls Try.prog 91 #[.pointer none, .int .i64 v, .agg (aN A)] w (FindIs w none) :=
  (find_none _ v A w (Lib.hid fun _ _ => last_none _ 0 v A (by omega) (Lib.hid fun _ _ => by rw [decide_eq_false (by omega)]; exact has_nil v _))).mono fun _ _ ⟨he, hb⟩ => ⟨noneAV, he, rfl, noneZ _, hb⟩
theorem near_mem {par : Nat → Nat} {acc : Nat → Option Nat} {n : Nat} (_hp : ∀ v, 1 ≤ v → v < n → par v < v) : ∀ v, v < n → ∀ b, near par acc v = some b → ∃ x, x ≤ v ∧ acc x = some b := by
  intro v
  induction v using Nat.strongRecOn with
  | _ v ih =>
    intro hv b hb
    cases ha : acc v with
    | some c => rw [near_some ha] at hb; cases hb; exact ⟨v, Nat.le_refl _, ha⟩
    | none =>
      by_cases hl : par v < v
      · rw [near_none ha hl] at hb
        obtain ⟨x, hx, he⟩ := ih _ hl (by omega) b hb
        exact ⟨x, by omega, he⟩
      · rw [near_stop ha hl] at hb; cases hb
theorem StoreAt.found (h : StoreAt base Z w sb g L) {v A b : Nat} (hv : v < g.n) (hA : A < 2 ^ 160) (hb : near g.par (fun v => g.acc v A) v = some b) : Z b = some (.cells (acs (g.X b)).toArray 39) ∧ AccZ Z (g.X b) ∧ (g.X b).a.ad = A ∧ rightA (g.X b).a = true := by
  obtain ⟨x, hx, he⟩ := near_mem h.parlt v hv b hb
  exact h.accs x A b (by omega) hA he
theorem sfind_walk (h : StoreAt base Z w sb g L) (v A : Nat) (hv : v < g.n) (hA : A < 2 ^ 160) : Calls Try.prog 91 #[.pointer (some ⟨sb, 0, none⟩), .int .i64 (v : Int), .agg (aN A)] w (FindIs w (lookA (L v) A)) := by
  rw [h.look v A hv hA]
  have HL := fun w1 (b1 : Below w.heap.size w w1) => last_walk (h.below b1) v A hv hA
  cases hn : near g.par (fun v => g.acc v A) v with
  | none =>
    rw [hn] at HL
    exact (find_none _ _ A w (Lib.hid HL)).mono fun _ _ ⟨he, hb⟩ => ⟨noneAV, he, rfl, noneZ _, hb⟩
  | some b =>
    rw [hn] at HL
    obtain ⟨h1, h2, _, _⟩ := h.found hv hA hn
    exact (find_some _ _ A b (g.X b) w (h.sub _ _ h1) (h2.sub h.sub) (Lib.hid HL)).mono fun _ _ ⟨r, s, he, ha, hb⟩ => ⟨⟨(g.X b).a, r, s⟩, he, rfl, ha.sub (fr_sub _ _), hb⟩
end
theorem upR {par : Nat → Nat} (v : Nat) : Up par v v := .here v
/-- The ghost of a new store. -/
def gNew (vb mb : Nat) : Gh := ⟨1, fun _ => 0, fun _ => 0, fun _ => 0, fun _ _ => none, fun _ => 0, .slice (some ⟨vb, 0, none⟩) 1 1, mb, 0, fun _ => .slice none 0 0, fun _ => noneAV⟩
theorem new_walk (base : Nat) (w : World) (hbase : base ≤ w.heap.size) : Calls Try.prog 26 #[] w fun e w' => ∃ (sb : Nat) (g : Gh), e = .returned (.pointer (some ⟨sb, 0, none⟩)) ∧ StoreAt base (fun _ => none) w' sb g (fun _ => []) ∧ g.n = 1 ∧ (∀ b, soft g sb b → w.heap.size ≤ b) ∧ Below w.heap.size w w' := by
  have hmm := @run_makeMap Try.prog
  go_enter Try.func26, Try.ntmps26
  go_wp2_with fail
  have hq : ∀ vb mb A, seqA (gNew vb mb) A = [] := fun vb mb A => by
    unfold seqA gNew
    simp
  have s1 : (w.alloc (.cells #[.int .i64 0, .int .i64 0, .int .i64 0, .map none] 86)).heap.size = w.heap.size + 1 := by simp
  have f0 : (((w.alloc (.cells #[.int .i64 0, .int .i64 0, .int .i64 0, .map none] 86)).alloc (.map #[] 0)).alloc (.cells #[.slice (some ⟨w.heap.size, 0, none⟩) 1 1, .map (some (w.heap.size + 1))] 90)).heap[w.heap.size]? = some (.cells #[.int .i64 0, .int .i64 0, .int .i64 0, .map none] 86) := blk_alloc (blk_alloc (heap_alloc_new _ _))
  have f1 : mapIs (((w.alloc (.cells #[.int .i64 0, .int .i64 0, .int .i64 0, .map none] 86)).alloc (.map #[] 0)).alloc (.cells #[.slice (some ⟨w.heap.size, 0, none⟩) 1 1, .map (some (w.heap.size + 1))] 90)) (w.heap.size + 1) 0 (fun _ => none) := by
    have := mapIs_made (w.alloc (.cells #[.int .i64 0, .int .i64 0, .int .i64 0, .map none] 86))
    rw [s1] at this
    exact this.same (Below.heap_alloc _ _ _ this.lt)
  have f2 : (((w.alloc (.cells #[.int .i64 0, .int .i64 0, .int .i64 0, .map none] 86)).alloc (.map #[] 0)).alloc (.cells #[.slice (some ⟨w.heap.size, 0, none⟩) 1 1, .map (some (w.heap.size + 1))] 90)).heap[w.heap.size + 1 + 1]? = some (.cells #[.slice (some ⟨w.heap.size, 0, none⟩) 1 1, .map (some (w.heap.size + 1))] 90) := by
    have := heap_alloc_new ((w.alloc (.cells #[.int .i64 0, .int .i64 0, .int .i64 0, .map none] 86)).alloc (.map #[] 0)) (.cells #[.slice (some ⟨w.heap.size, 0, none⟩) 1 1, .map (some (w.heap.size + 1))] 90)
    simpa using this
  have bW : Below w.heap.size w (((w.alloc (.cells #[.int .i64 0, .int .i64 0, .int .i64 0, .map none] 86)).alloc (.map #[] 0)).alloc (.cells #[.slice (some ⟨w.heap.size, 0, none⟩) 1 1, .map (some (w.heap.size + 1))] 90)) := (((Below.refl _ _).alloc (Nat.le_refl _) _).alloc (by simp) _).alloc (by simp; omega) _
  generalize (((w.alloc (.cells #[.int .i64 0, .int .i64 0, .int .i64 0, .map none] 86)).alloc (.map #[] 0)).alloc (.cells #[.slice (some ⟨w.heap.size, 0, none⟩) 1 1, .map (some (w.heap.size + 1))] 90)) = W at *
  have hsf : ∀ b, soft (gNew w.heap.size (w.heap.size + 1)) (w.heap.size + 1 + 1) b → w.heap.size ≤ b := fun b hb => by
    rcases hb with rfl | hb | rfl | ⟨A, _, hs, _⟩
    · omega
    · simp [gNew, Value.ownBlock] at hb; omega
    · simp [gNew]
    · exact absurd (hq _ _ A) hs
  go_ret
  refine ⟨w.heap.size + 1 + 1, gNew w.heap.size (w.heap.size + 1), rfl, ?_, rfl, hsf, bW⟩
  exact {
    sub := fun b o h => by cases h
    bsb := by omega
    blk := f2
    row := ⟨rfl, .inr ⟨w.heap.size, 1, _, rfl, hbase, f0, Nat.le_refl _, by simp [maxLen], rfl, rfl⟩⟩
    bmb := by simp [gNew]; omega
    setm := by
      have e : setF (gNew w.heap.size (w.heap.size + 1)) = fun _ => none := by
        funext A
        unfold setF
        rw [hq]
        rfl
      rw [e]
      exact f1
    cntle := Nat.zero_le _
    sls := fun A _ hs => absurd (hq _ _ A) hs
    dist := fun A _ _ _ hs => absurd (hq _ _ A) hs
    maps := fun v h1 h2 => by simp [gNew] at h2; omega
    accs := fun v A b _ _ h => by simp [gNew] at h
    zm := fun _ _ => rfl
    n1 := Nat.le_refl _
    nM := by simp [gNew]
    par0 := rfl
    parlt := fun v h1 h2 => by simp [gNew] at h2; omega
    farUp := fun v _ => .here _
    acc0 := fun _ => rfl
    L0 := rfl
    look := fun v A h1 _ => by
      obtain rfl : v = 0 := by simpa [gNew] using h1
      rw [near_stop rfl (by simp [gNew])]
      rfl
    srt := fun _ _ => .nil
    adL := fun _ _ x hx => by simp at hx }
end Go.Proofs.Ytdgenbidgieojaa
/- Whether each account of a list is right. -/
namespace Go.Proofs.Ytdgenbidgieojaa
open Go.RowKit SmWord
set_option maxRecDepth 100000

theorem store_newA (w : World) (x : AV) (h1 : (acs x).toArray.all (·.oneCell') = true) : (storeCells ⟨w.heap.size, 0, none⟩ (acs x) 0).run Try.prog (w.alloc (.cells (acs noneAV).toArray 39)) = .ok () (w.alloc (.cells (acs x).toArray 39)) := by
  have := run_storeCells_new (P := Try.prog) w 39 (acs noneAV).toArray (acs x).toArray (by simpa using infoAcs x) (by simp [acs_len]) h1
  simpa using this
set_option maxHeartbeats 1000000 in
theorem allRight_walk (v : Value) (l : List AV) (w : World) (h : AccsZ (hp w) v l) (hl : l.length ≤ 1000000) : Calls Try.prog 40 #[v] w fun e w' => e = .returned (.bool (l.all fun x => rightA x.a)) ∧ Below w.heap.size w w' := by
  obtain ⟨A, c, rfl, hn, hc, hA, hcells⟩ := h.row.one (fun x _ => acs_len x)
  have HX := Lib.hid h.each
  have hs : ∀ x, (acs x).toArray.size = 27 := fun x => by simp [acs_len]
  generalize hN : l.length = n at *
  have HN := Lib.hid hN
  have HC : Hid (0 < n → ∃ b off, A = some ⟨b, off, none⟩ ∧ ∀ i x, l[i]? = some x → rng (hp w) b (off + i * 27) (acs x)) := Lib.hid fun hn => by
    obtain ⟨b, off, e, _, hi⟩ := hcells hn
    exact ⟨b, off, e, hi⟩
  clear hcells h hN
  go_enter Try.func40, Try.ntmps40
  go_wp2_with fail
  go_loopw [7] (fun i wr => ∃ k : Nat, k ≤ n ∧ i = .int .i64 k ∧ Hid ((l.take k).all (fun x => rightA x.a) = true) ∧ Hid (Below w.heap.size w wr)) (fun i _ => n - (intOf i).toNat)
  case atStart => exact ⟨0, Nat.zero_le _, rfl, Lib.hid rfl, Lib.hid (Below.refl _ _)⟩
  case round =>
    obtain ⟨k, hk, rfl, HO, HW⟩ := hrel
    by_cases hlt : k < n
    · obtain ⟨b, off, rfl, hi⟩ := HC.out (by omega)
      obtain ⟨x, hx⟩ : ∃ x, l[k]? = some x := ⟨l[k]'(by rw [HN.out]; exact hlt), by simp⟩
      have r1 := ((hi k _ hx).sub (hp_below HW.out)).at
      have HXx := Lib.hid (((HX.out x (List.mem_of_getElem? hx)).sub (hp_below HW.out)))
      have one := HXx.out.ones
      have HXg := Lib.hid hx
      clear hx hi
      have sn := fun w => store_newA w x one
      obtain ⟨W2, hW2⟩ : ∃ W2, wr.alloc (.cells (acs x).toArray 39) = W2 := ⟨_, rfl⟩
      have g0 : W2.heap[wr.heap.size]? = some (.cells (acs x).toArray 39) := hW2 ▸ heap_alloc_new _ _
      have HW2 : Hid (Below wr.heap.size wr W2) := Lib.hid (hW2 ▸ (Below.refl _ _).alloc (Nat.le_refl _) _)
      have r2 := (rng_block g0).at
      have KR := Lib.hid (right_walk x W2 (HXx.out.sub (hp_below HW2.out)))
      have HQ : Hid (((l.take (k + 1)).all fun x => rightA x.a) = rightA x.a) := Lib.hid (by
        rw [List.take_add_one, HXg.out, List.all_append, HO.out]
        simp)
      unfold aval at KR
      cases hr : rightA x.a <;> rw [hr] at KR HQ
      all_goals
        go_wp2_with (first
          | (refine wpList_load_mid rfl 39 _ rfl b _ rfl (acs x) _ r1 Try.underlying39 rfl (infoAcs _) ?_)
          | (refine wpList_load_mid rfl 39 _ rfl wr.heap.size 0 rfl (acs x) _ r2 Try.underlying39 rfl (infoAcs _) ?_)
          | (refine wpList_alloc_row rfl 39 rfl _ zeroAcc ?_)
          | (go_at_call 33; refine KR.out.mono ?_; rintro e w3 ⟨rfl, b3⟩; have HB3 := Lib.hid (HW.out.trans ((HW2.out.trans (b3.mono HW2.out.size)).mono HW.out.size)); clear b3))
      · go_ret
        refine ⟨?_, HB3.out⟩
        have : (l.all fun x => rightA x.a) = false := by
          cases ha : (l.all fun x => rightA x.a)
          · rfl
          · have := List.all_eq_true.1 ha x (List.mem_of_getElem? HXg.out)
            rw [hr] at this; cases this
        rw [this]
        rfl
      · exact ⟨⟨k + 1, by omega, by go_num, HQ, HB3⟩, by simp [intOf]; omega⟩
    · obtain rfl : k = n := by omega
      go_wp2_with fail
      go_ret
      refine ⟨?_, HW.out⟩
      have := HO.out
      rw [List.take_of_length_le (by rw [HN.out]; exact Nat.le_refl _)] at this
      rw [this]
      rfl
end Go.Proofs.Ytdgenbidgieojaa
/- A version's accounts are made: the first part of add. -/
namespace Go.Proofs.Ytdgenbidgieojaa
open Go.RowKit SmWord
set_option maxRecDepth 100000

theorem run_makeMapH (n : Int) (w : World) : (Instr.makeMap 84 (some (.int .i64 n))).run Try.prog w = .ok (.map (some w.heap.size)) (w.alloc (.map #[] 0)) := by
  simp [Instr.makeMap, run_underlying Try.underlying84, asInt, asIntOf, Result.andThen]
theorem wpList_mapUpd {ops : Array Oper} {rest : List Oper} {o : Oper} {a : Act} {w : World} {Q : Exit → Act → World → Prop} (hg : o.guard = none) (m x v : Operand) (t : TypeId) (hop : o.op = Op.mapUpdate t m x v)
    (e : TypeId) (ht : Try.prog.underlying t = some (.map 32 e)) (b n : Nat) (f : Nat → Option Value) (hm : a.eval m = .map (some b)) (h : mapIs w b n f) (hn : n < maxLen) (A : Nat) (hA : A < 2 ^ 160) (val : Value)
    (hx : a.eval x = .agg (aN A)) (hv : a.eval v = val) (hK : ∀ w', mapIs w' b (n + 1) (upd f A val) → w.grownBy w' (some b) → wpList Try.prog ops Q rest (a.put o.dst undef) w') : wpList Try.prog ops Q (o :: rest) a w := by
  refine wpList_plain hg fun K' hK' => ?_
  obtain ⟨w', hrun, r1, r2⟩ := h.update ht hn hA val
  unfold Oper.wp
  simp [execOp, hop, hm, hx, hv, hrun, Result.andThen]
  exact hK' _ _ (hK w' r1 r2)

/-- The blocks from n on, but m. -/
def frx (n m : Nat) (w : World) : Hp := fun b => if n ≤ b ∧ b ≠ m then w.heap[b]? else none
theorem frx_of {n m k : Nat} (w : World) (hm : m < k) (hn : n ≤ k) : Sub (fr k w) (frx n m w) := fun b o h => by
  unfold fr at h
  unfold frx
  split at h
  · rw [if_pos ⟨by omega, by omega⟩]; exact h
  · cases h
theorem frx_below {n m : Nat} {w w' : World} (hb : Below w.heap.size w w') : Sub (frx n m w) (frx n m w') := fun b o h => by
  unfold frx at h ⊢
  split at h
  · rename_i hn
    rw [if_pos hn]
    exact (hb.block b (Array.getElem?_eq_some_iff.1 h).1).trans h
  · cases h
theorem frx_grown {n m : Nat} {w w' : World} (hb : w.grownBy w' (some m)) : Sub (frx n m w) (frx n m w') := fun b o h => by
  unfold frx at h ⊢
  split at h
  · rename_i hn
    rw [if_pos hn]
    exact (hb.block b (Array.getElem?_eq_some_iff.1 h).1 (by simpa using hn.2)).trans h
  · cases h
def ptrB (b : Nat) : Value := .pointer (some ⟨b, 0, none⟩)
/-- Behind k accounts: what lies where. -/
structure P1 (w wr : World) (m0 : Nat) (l : List Acc) (k : Nat) (fb : Nat → Option Nat) (X : Nat → AV) : Prop where
  map : mapIs wr m0 k (fun A => (fb A).map ptrB)
  acc : ∀ A b, A < 2 ^ 160 → fb A = some b → wr.heap[b]? = some (.cells (acs (X b)).toArray 39) ∧ w.heap.size ≤ b ∧ AccZ (frx w.heap.size m0 wr) (X b) ∧ (X b).a.ad = A
  last : ∀ A, A < 2 ^ 160 → (fb A).map (fun b => (X b).a) = lastA (l.take k) A
  below : Below w.heap.size w wr
  m0 : w.heap.size ≤ m0
theorem P1.start (w : World) (l : List Acc) : P1 w (w.alloc (.map #[] 0)) w.heap.size l 0 (fun _ => none) (fun _ => noneAV) :=
  ⟨mapIs_made w, fun _ _ _ h => by (cases h), fun _ _ => rfl, (Below.refl _ _).alloc (Nat.le_refl _) _, Nat.le_refl _⟩
theorem P1.step {w wr w3 w4 : World} {m0 k b' : Nat} {l : List Acc} {fb : Nat → Option Nat} {X : Nat → AV} (h : P1 w wr m0 l k fb X) {a : Acc} {x' : AV} (hk : l[k]? = some a) (hx : x'.a = a) (b3 : Below wr.heap.size wr w3) (hb' : wr.heap.size ≤ b')
    (hh : w3.heap[b']? = some (.cells (acs x').toArray 39)) (hz : AccZ (fr wr.heap.size w3) x') (h4 : mapIs w4 m0 (k + 1) (upd (fun A => (fb A).map ptrB) a.ad (ptrB b'))) (hg : w3.grownBy w4 (some m0)) :
    P1 w w4 m0 l (k + 1) (fun A => if A = a.ad then some b' else fb A) (fun b => if b = b' then x' else X b) := by
  have hm0 := h.map.lt
  have hbm : ∀ (b : Nat) (c : AV), w3.heap[b]? = some (.cells (acs c).toArray 39) → w4.heap[b]? = some (.cells (acs c).toArray 39) := fun b c hb => by
    refine (hg.block b (Array.getElem?_eq_some_iff.1 hb).1 ?_).trans hb
    intro e
    cases e
    obtain ⟨D, ⟨es, clock, hmb, _⟩, _⟩ := h.map.same (b3.block m0 hm0)
    rw [hmb] at hb
    cases hb
  refine ⟨?_, fun A b hA hb => ?_, fun A hA => ?_, ?_, h.m0⟩
  · have e : upd (fun A => (fb A).map ptrB) a.ad (ptrB b') = fun A => ((fun A => if A = a.ad then some b' else fb A) A).map ptrB := by
      funext A
      unfold upd
      by_cases e : A = a.ad <;> simp [e]
    rw [← e]
    exact h4
  · by_cases e : A = a.ad
    · simp only [e, if_true] at hb
      cases hb
      simp only [if_true]
      refine ⟨hbm _ _ hh, Nat.le_trans h.below.size hb', (hz.sub (frx_of w3 hm0 h.below.size)).sub (frx_grown hg), by rw [hx]; exact e.symm⟩
    · simp only [e, if_false] at hb
      obtain ⟨g1, g2, g3, g4⟩ := h.acc A b hA hb
      have hlt := (Array.getElem?_eq_some_iff.1 g1).1
      have hne : b ≠ b' := by omega
      simp only [hne, if_false]
      exact ⟨hbm _ _ ((b3.block b hlt).trans g1), g2, (g3.sub (frx_below b3)).sub (frx_grown hg), g4⟩
  · rw [List.take_add_one, hk]
    show _ = lastA (l.take k ++ [a]) A
    rw [lastA_snoc]
    by_cases e : A = a.ad
    · simp [e, hx]
    · simp only [e, if_false]
      rw [← h.last A hA]
      cases hf : fb A with
      | none => rfl
      | some b =>
        have hne : b ≠ b' := by have := (Array.getElem?_eq_some_iff.1 (h.acc A b hA hf).1).1; omega
        simp [hne]
  · exact (h.below.trans (b3.mono h.below.size)).grown hg (Nat.le_trans h.below.size b3.size) (fun j hj => by cases hj; exact h.m0)
end Go.Proofs.Ytdgenbidgieojaa
/- In which versions an address was set: the map of rows that add writes on. -/
namespace Go.Proofs.Ytdgenbidgieojaa
open Go.RowKit SmWord
set_option maxRecDepth 100000

def rowV (seq : Nat → List Nat) (sl : Nat → Value) (A : Nat) : Option Value := if (seq A).isEmpty then none else some (sl A)
structure SetAt (base : Nat) (w : World) (mb c : Nat) (seq : Nat → List Nat) (sl : Nat → Value) : Prop where
  map : mapIs w mb c (rowV seq sl)
  sls : ∀ A, A < 2 ^ 160 → seq A ≠ [] → w.ownsRow base 3 1 (sl A) (seq A).length ((seq A).map i64v)
  dist : ∀ A A', A < 2 ^ 160 → A' < 2 ^ 160 → seq A ≠ [] → seq A' ≠ [] → A ≠ A' → (sl A).ownBlock ≠ (sl A').ownBlock
theorem SetAt.frame {base : Nat} {w w' : World} {mb c : Nat} {seq : Nat → List Nat} {sl : Nat → Value} (h : SetAt base w mb c seq sl) (hm : w'.heap[mb]? = w.heap[mb]?)
    (hb : ∀ A b, A < 2 ^ 160 → seq A ≠ [] → (sl A).ownBlock = some b → w'.heap[b]? = w.heap[b]?) : SetAt base w' mb c seq sl :=
  ⟨h.map.same hm, fun A hA hs => own_same (h.sls A hA hs) fun b hbb => hb A b hA hs hbb, h.dist⟩
theorem map_block {w : World} {b n : Nat} {f : Nat → Option Value} (h : mapIs w b n f) : ∃ es clock, w.heap[b]? = some (.map es clock) := by
  obtain ⟨D, ⟨es, clock, hb, _⟩, _⟩ := h
  exact ⟨es, clock, hb⟩
theorem own_block {w : World} {base : Nat} {e : TypeId} {k n : Nat} {v : Value} {xs : List Value} (h : w.ownsRow base e k v n xs) {b : Nat} (hb : v.ownBlock = some b) : ∃ cs, w.heap[b]? = some (.cells cs e) := by
  rcases h.2 with ⟨rfl, _⟩ | ⟨g, cap, cur, rfl, _, hg, _⟩
  · cases hb
  · simp [Value.ownBlock] at hb
    subst hb
    exact ⟨_, hg⟩
/-- The row at an address, nil where there is none. -/
def row0 (seq : Nat → List Nat) (sl : Nat → Value) (A : Nat) : Value := (rowV seq sl A).getD (.slice none 0 0)
theorem SetAt.own0 {base : Nat} {w : World} {mb c : Nat} {seq : Nat → List Nat} {sl : Nat → Value} (h : SetAt base w mb c seq sl) {A : Nat} (hA : A < 2 ^ 160) : w.ownsRow base 3 1 (row0 seq sl A) (seq A).length ((seq A).map i64v) := by
  unfold row0 rowV
  cases hq : seq A with
  | nil => exact World.ownsRow_nil _ _ _ _
  | cons x l =>
    have := h.sls A hA (by rw [hq]; simp)
    rw [hq] at this
    exact this
theorem SetAt.step {base : Nat} {wc wd we wf : World} {mb c n : Nat} {seq : Nat → List Nat} {sl : Nat → Value} (h : SetAt base wc mb c seq sl) {A : Nat} (hA : A < 2 ^ 160) (hd : wc.grownBy wd (some mb)) {v' : Value}
    (ho : we.ownsRow base 3 1 v' ((seq A).length + 1) ((seq A).map i64v ++ [i64v n])) (hg : wd.grownBy we (row0 seq sl A).ownBlock) (hloc : v'.ownBlock = (row0 seq sl A).ownBlock ∨ v'.ownBlock = some wd.heap.size)
    (hm : mapIs wf mb (c + 1) (upd (rowV seq sl) A v')) (hf : we.grownBy wf (some mb)) :
    SetAt base wf mb (c + 1) (fun B => if B = A then seq A ++ [n] else seq B) (fun B => if B = A then v' else sl B) := by
  obtain ⟨es, clock, hmb⟩ := map_block h.map
  have hmlt := h.map.lt
  -- another address's row is not the one that was appended to
  have other : ∀ B b, B < 2 ^ 160 → B ≠ A → seq B ≠ [] → (sl B).ownBlock = some b → b ≠ mb ∧ some b ≠ (row0 seq sl A).ownBlock ∧ b < wc.heap.size := fun B b hB hne hs hb => by
    obtain ⟨cs, hcs⟩ := own_block (h.sls B hB hs) hb
    refine ⟨fun e => (by rw [e, hmb] at hcs; cases hcs), fun e => ?_, (Array.getElem?_eq_some_iff.1 hcs).1⟩
    unfold row0 rowV at e
    cases hq : seq A with
    | nil => rw [hq] at e; simp [Value.ownBlock] at e
    | cons x l =>
      rw [hq] at e
      have e' : some b = (sl A).ownBlock := e
      exact h.dist B A hB hA hs (by rw [hq]; simp) hne (hb.trans e')
  refine ⟨?_, fun B hB hs => ?_, fun B B' hB hB' hs hs' hne => ?_⟩
  · have e : upd (rowV seq sl) A v' = rowV (fun B => if B = A then seq A ++ [n] else seq B) (fun B => if B = A then v' else sl B) := by
      funext B
      unfold upd rowV
      by_cases e : B = A
      · subst e; simp
      · simp [e]
    rw [← e]
    exact hm
  · by_cases e : B = A
    · subst e
      simp only [if_true, List.length_append, List.length_singleton, List.map_append, List.map_cons, List.map_nil]
      refine own_same ho fun b hb => hf.block b (ho.lt b hb).2 ?_
      intro e
      cases e
      obtain ⟨cs, hcs⟩ := own_block ho hb
      have h1 := hd.block mb hmlt
      rcases hloc with hl | hl
      · have h0 := h.own0 hA
        obtain ⟨cs0, hcs0⟩ := own_block h0 (hl.symm.trans hb)
        rw [hmb] at hcs0
        cases hcs0
      · rw [hl] at hb
        cases hb
        have := hd.size
        omega
    · simp only [e, if_false] at hs ⊢
      refine own_same (h.sls B hB hs) fun b hb => ?_
      obtain ⟨n1, n2, n3⟩ := other B b hB e hs hb
      have z1 := hd.size
      have z2 := hg.size
      rw [hf.block b (by omega) (by simpa using n1), hg.block b (by omega) n2, hd.block b n3 (by simpa using n1)]
  · by_cases e : B = A
    · by_cases e' : B' = A
      · exact absurd (e.trans e'.symm) hne
      · subst e
        simp only [if_true, e', if_false] at hs' ⊢
        cases hb : (sl B').ownBlock with
        | none =>
          have hlen : 0 < (seq B').length := List.length_pos_iff.2 hs'
          rcases (h.sls B' hB' hs').2 with ⟨h1, h2⟩ | ⟨gg, _, _, e1, _⟩
          · omega
          · rw [e1] at hb; cases hb
        | some b =>
          obtain ⟨n1, n2, n3⟩ := other B' b hB' e' hs' hb
          rcases hloc with hl | hl
          · rw [hl]; exact fun x => n2 x.symm
          · rw [hl]
            intro x
            cases x
            have := hd.size
            omega
    · by_cases e' : B' = A
      · subst e'
        simp only [e, if_false] at hs
        simp only [e, if_false, if_true]
        cases hb : (sl B).ownBlock with
        | none =>
          have hlen : 0 < (seq B).length := List.length_pos_iff.2 hs
          rcases (h.sls B hB hs).2 with ⟨h1, h2⟩ | ⟨gg, _, _, e1, _⟩
          · omega
          · rw [e1] at hb; cases hb
        | some b =>
          obtain ⟨n1, n2, n3⟩ := other B b hB e hs hb
          rcases hloc with hl | hl
          · rw [hl]; exact n2
          · rw [hl]
            intro x
            cases x
            have := hd.size
            omega
      · simp only [e, e', if_false] at hs hs' ⊢
        exact h.dist B B' hB hB' hs hs' hne
end Go.Proofs.Ytdgenbidgieojaa
/- A map gone through, at the operations; what add has done when some accounts are still to come. -/
namespace Go.Proofs.Ytdgenbidgieojaa
open Go.RowKit SmWord
set_option maxRecDepth 100000

section
variable {ops : Array Oper} {rest : List Oper} {o : Oper} {a : Act} {w : World} {Q : Exit → Act → World → Prop}
theorem wpList_range_map (hg : o.guard = none) (m : Operand) (t : TypeId) (hop : o.op = Op.range t m) (e : TypeId) (ht : Try.prog.underlying t = some (.map 32 e)) (b n : Nat) (f : Nat → Option Value) (hm : a.eval m = .map (some b)) (h : mapIs w b n f)
    (hK : ∀ w' cnt, rangesIs w' b w.heap.size n f (fun A => (f A).isSome) cnt → w.grownBy w' none → w'.heap.size = w.heap.size + 1 → cnt ≤ n → wpList Try.prog ops Q rest (a.put o.dst (.pointer (some ⟨w.heap.size, 0, none⟩))) w') : wpList Try.prog ops Q (o :: rest) a w := by
  refine wpList_plain hg fun K' hK' => ?_
  obtain ⟨w', cnt, hrun, r1, r2, r3, r4⟩ := h.range ht
  unfold Oper.wp
  simp [execOp, hop, hm, hrun, Result.andThen]
  exact hK' _ _ (hK w' cnt r1 r2 r3 r4)
theorem wpList_next_map (hg : o.guard = none) (it : Operand) (hop : o.op = Op.next it false) (b r n : Nat) (f : Nat → Option Value) (left : Nat → Bool) (cnt : Nat) (hit : a.eval it = .pointer (some ⟨r, 0, none⟩)) (h : rangesIs w b r n f left cnt)
    (hDone : cnt = 0 → (∀ A, A < 2 ^ 160 → left A = false) → wpList Try.prog ops Q rest (a.put o.dst (.tuple #[.bool false])) w)
    (hMore : ∀ (A : Nat) (v : Value) (w' : World) (cnt' : Nat), A < 2 ^ 160 → left A = true → f A = some v → rangesIs w' b r n f (fun B => left B && !decide (B = A)) cnt' → cnt' < cnt → w.grownBy w' (some r) → w'.heap.size = w.heap.size →
      (Instr.entry (.pointer (some ⟨r, 0, none⟩))).run Try.prog w' = .ok (.tuple #[.agg (aN A), v]) w' → wpList Try.prog ops Q rest (a.put o.dst (.tuple #[.bool true, .agg (aN A), v])) w') : wpList Try.prog ops Q (o :: rest) a w := by
  refine wpList_plain hg fun K' hK' => ?_
  unfold Oper.wp
  rcases h.next o.type with ⟨h0, hl, hrun⟩ | ⟨A, v, w', cnt', hA, hlk, hv, hrun, hrg, hlt, hgr, hsz, hen⟩
  · simp [execOp, hop, hit, hrun, Result.andThen]
    exact hK' _ _ (hDone h0 hl)
  · simp [execOp, hop, hit, hrun, Result.andThen]
    exact hK' _ _ (hMore A v w' cnt' hA hlk hv hrg hlt hgr hsz hen)
end
theorem zeroAd_run (w : World) : (zeroValue 32).run Try.prog w = .ok (.agg (aN 0)) w := by kernel_rfl
theorem aN_one (A : Nat) : (aN A).all (·.oneCell') = true := arr_one .u8 20 _
theorem store_newAd (w : World) (A : Nat) : (storeCells ⟨w.heap.size, 0, none⟩ (aN A).toList 0).run Try.prog (w.alloc (.cells (aN 0) 32)) = .ok () (w.alloc (.cells (aN A) 32)) :=
  run_storeCells_new (P := Try.prog) w 32 (aN 0) (aN A) (by rw [aN_size]; exact Try.infoAd20) (by rw [aN_size, aN_size]) (aN_one A)
/-- Where a new version is told of already. -/
def seq2 (g : Gh) (fb : Nat → Option Nat) (left : Nat → Bool) (A : Nat) : List Nat := seqA g A ++ (if (fb A).isSome && !left A then [g.n] else [])
structure P2 (base : Nat) (w1 wr : World) (g : Gh) (fb : Nat → Option Nat) (m0 M r : Nat) (left : Nat → Bool) (cnt c : Nat) (sl : Nat → Value) : Prop where
  it : rangesIs wr m0 r M (fun A => (fb A).map ptrB) left cnt
  set : SetAt base wr g.mb c (seq2 g fb left) sl
  cle : c + cnt ≤ g.cnt + M
  loc : ∀ A b, A < 2 ^ 160 → seq2 g fb left A ≠ [] → (sl A).ownBlock = some b → (seqA g A ≠ [] ∧ (g.sl A).ownBlock = some b) ∨ w1.heap.size ≤ b
  keep : ∀ b, b < w1.heap.size → b ≠ g.mb → (∀ A, A < 2 ^ 160 → seqA g A ≠ [] → (g.sl A).ownBlock ≠ some b) → wr.heap[b]? = w1.heap[b]?
  below : Below base w1 wr
  rge : w1.heap.size ≤ r
  bmb : base ≤ g.mb
  mbl : g.mb < w1.heap.size
  m0l : m0 < w1.heap.size
  m0ne : m0 ≠ g.mb
  bl : base ≤ w1.heap.size
theorem seq2_nil (g : Gh) (fb : Nat → Option Nat) (left : Nat → Bool) (h : ∀ A, A < 2 ^ 160 → (fb A).isSome = true → left A = true) {A : Nat} (hA : A < 2 ^ 160) : seq2 g fb left A = seqA g A := by
  unfold seq2
  have h1 := h A hA
  cases hf : (fb A).isSome with
  | false => simp
  | true => rw [h1 hf]; simp
theorem SetAt.congr {base : Nat} {w : World} {mb c : Nat} {seq seq' : Nat → List Nat} {sl : Nat → Value} (h : SetAt base w mb c seq sl) (he : ∀ A, A < 2 ^ 160 → seq' A = seq A) : SetAt base w mb c seq' sl := by
  obtain ⟨⟨D, hD, hs⟩, h2, h3⟩ := h
  refine ⟨⟨D, hD, fun A hA zd => ?_, fun A hA => ?_, hs.only⟩, fun A hA hn => ?_, fun A A' hA hA' hn hn' => ?_⟩
  · rw [hs.at' A hA]; unfold rowV; rw [he A hA]
  · rw [hs.has A hA]; unfold rowV; rw [he A hA]
  · rw [he A hA] at hn ⊢; exact h2 A hA hn
  · rw [he A hA] at hn; rw [he A' hA'] at hn'; exact h3 A A' hA hA' hn hn'
/-- One more address has its new version. -/
theorem P2.step {base : Nat} {w1 wr wa wc wd we wf : World} {g : Gh} {fb : Nat → Option Nat} {m0 M r : Nat} {left : Nat → Bool} {cnt c : Nat} {sl : Nat → Value} (h : P2 base w1 wr g fb m0 M r left cnt c sl) {A : Nat} (hA : A < 2 ^ 160) (hf : (fb A).isSome = true) (hla : left A = true) {cnt' : Nat}
    (hit : rangesIs wa m0 r M (fun A => (fb A).map ptrB) (fun B => left B && !decide (B = A)) cnt') (hcnt : cnt' < cnt) (hra : wr.grownBy wa (some r)) (hac : Below wa.heap.size wa wc) (hcd : wc.grownBy wd (some g.mb)) {v' : Value}
    (ho : we.ownsRow base 3 1 v' ((seq2 g fb left A).length + 1) ((seq2 g fb left A).map i64v ++ [i64v g.n])) (hde : wd.grownBy we (row0 (seq2 g fb left) sl A).ownBlock) (hloc : v'.ownBlock = (row0 (seq2 g fb left) sl A).ownBlock ∨ v'.ownBlock = some wd.heap.size)
    (hm : mapIs wf g.mb (c + 1) (upd (rowV (seq2 g fb left) sl) A v')) (hef : we.grownBy wf (some g.mb)) :
    P2 base w1 wf g fb m0 M r (fun B => left B && !decide (B = A)) cnt' (c + 1) (fun B => if B = A then v' else sl B) := by
  have hrne : r ≠ g.mb := by have := h.rge; have := h.mbl; omega
  obtain ⟨es, clock, hmb⟩ := map_block h.set.map
  have z0 := h.below.size
  have z1 := hra.size
  have z2 := hac.size
  have z3 := hcd.size
  have z4 := hde.size
  have z5 := hef.size
  have hlr := h.it.lt
  -- the row at A before
  have own0 := h.set.own0 hA
  have hrow : ∀ b, (row0 (seq2 g fb left) sl A).ownBlock = some b → b ≠ r ∧ b ≠ g.mb ∧ b < wr.heap.size ∧ base ≤ b := fun b hb => by
    obtain ⟨cs, hcs⟩ := own_block own0 hb
    refine ⟨?_, ?_, (own0.lt b hb).2, (own0.lt b hb).1⟩
    · rintro rfl
      obtain ⟨D, lf, ⟨_, _, _, _, _, _, _, _, _, hri, _⟩, _⟩ := h.it
      rw [hri] at hcs
      cases hcs
    · rintro rfl
      rw [hmb] at hcs
      cases hcs
  have hset : SetAt base wc g.mb c (seq2 g fb left) sl := by
    refine h.set.frame ?_ fun B b hB hs hb => ?_
    · rw [hac.block _ (by have := h.set.map.lt; omega), hra.block _ h.set.map.lt (by simp; exact fun e => hrne e.symm)]
    · obtain ⟨cs, hcs⟩ := own_block (h.set.sls B hB hs) hb
      have hlt := (Array.getElem?_eq_some_iff.1 hcs).1
      rw [hac.block _ (by omega), hra.block _ hlt ?_]
      simp only [ne_eq, Option.some.injEq]
      rintro rfl
      obtain ⟨D, lf, ⟨_, _, _, _, _, _, _, _, _, hri, _⟩, _⟩ := h.it
      rw [hri] at hcs
      cases hcs
  have hstep := hset.step hA hcd ho hde hloc hm hef
  have heq : ∀ B, B < 2 ^ 160 → seq2 g fb (fun B => left B && !decide (B = A)) B = (if B = A then seq2 g fb left A ++ [g.n] else seq2 g fb left B) := fun B _ => by
    unfold seq2
    by_cases e : B = A
    · subst e; simp [hf, hla]
    · simp [e]
  have keepB : ∀ b, b < w1.heap.size → b ≠ g.mb → (∀ A, A < 2 ^ 160 → seqA g A ≠ [] → (g.sl A).ownBlock ≠ some b) → wf.heap[b]? = w1.heap[b]? := fun b h1 h2 h3 => by
    have hbr : b ≠ r := by have := h.rge; omega
    have hb0 : some b ≠ (row0 (seq2 g fb left) sl A).ownBlock := fun e => by
      have hne : seq2 g fb left A ≠ [] := fun e0 => by
        unfold row0 rowV at e
        rw [e0] at e
        simp [Value.ownBlock] at e
      have e' : (sl A).ownBlock = some b := by
        unfold row0 rowV at e
        cases hq : seq2 g fb left A with
        | nil => exact absurd hq hne
        | cons x l => rw [hq] at e; exact e.symm
      rcases h.loc A b hA hne e' with ⟨q1, q2⟩ | q
      · exact h3 A hA q1 q2
      · omega
    rw [hef.block b (by omega) (by simpa using h2), hde.block b (by omega) hb0, hcd.block b (by omega) (by simpa using h2), hac.block b (by omega), hra.block b (by omega) (by simpa using hbr)]
    exact h.keep b h1 h2 h3
  have hm0 : some m0 ≠ (row0 (seq2 g fb left) sl A).ownBlock := fun e => by
    obtain ⟨cs, hcs⟩ := own_block own0 e.symm
    obtain ⟨es', clock', hmm⟩ := map_block h.it.map
    rw [hmm] at hcs
    cases hcs
  have hr0 : some r ≠ (row0 (seq2 g fb left) sl A).ownBlock := fun e => (hrow r e.symm).1 rfl
  refine ⟨hit.same ?_ ?_, hstep.congr heq, by have := h.cle; omega, fun B b hB hs hb => ?_, keepB, ?_, h.rge, h.bmb, h.mbl, h.m0l, h.m0ne, h.bl⟩
  · have := h.m0l
    have n1 := h.m0ne
    rw [hef.block m0 (by omega) (by simpa using n1), hde.block m0 (by omega) hm0, hcd.block m0 (by omega) (by simpa using n1), hac.block m0 (by omega)]
  · rw [hef.block r (by omega) (by simpa using hrne), hde.block r (by omega) hr0, hcd.block r (by omega) (by simpa using hrne), hac.block r (by omega)]
  · by_cases e : B = A
    · subst e
      simp only [if_true] at hb
      rcases hloc with hl | hl
      · have hne : seq2 g fb left B ≠ [] := fun e0 => by
          rw [hb] at hl
          unfold row0 rowV at hl
          rw [e0] at hl
          simp [Value.ownBlock] at hl
        refine h.loc B b hB hne ?_
        rw [hb] at hl
        unfold row0 rowV at hl
        cases hq : seq2 g fb left B with
        | nil => exact absurd hq hne
        | cons x l => rw [hq] at hl; exact hl.symm
      · rw [hb] at hl
        cases hl
        exact .inr (by omega)
    · rw [heq B hB, if_neg e] at hs
      simp only [e, if_false] at hb
      exact h.loc B b hB hs hb
  · have bl := h.bl
    have b1 : Below base w1 wa := h.below.grown hra (by omega) (fun k hk => by cases hk; have := h.rge; omega)
    have b2 : Below base w1 wc := b1.trans (hac.mono (by omega))
    have b3 : Below base w1 wd := b2.grown hcd (by omega) (fun k hk => by cases hk; exact h.bmb)
    have b4 : Below base w1 we := b3.grown hde (by omega) (fun k hk => (hrow k hk).2.2.2)
    exact b4.grown hef (by omega) (fun k hk => by cases hk; exact h.bmb)
/-- What add leans on when it goes through the new accounts. -/
theorem P2.start {base : Nat} {Z : Hp} {w w1 wr : World} {sb : Nat} {g : Gh} {L : Nat → List Acc} (h : StoreAt base Z w sb g L) {fb : Nat → Option Nat} {m0 M cnt : Nat} (hm0 : w.heap.size ≤ m0) (hl : m0 < w1.heap.size) (hb : Below w.heap.size w w1)
    (hit : rangesIs wr m0 w1.heap.size M (fun A => (fb A).map ptrB) (fun A => ((fb A).map ptrB).isSome) cnt) (hg : w1.grownBy wr none) (hc : cnt ≤ M) : P2 base w1 wr g fb m0 M w1.heap.size (fun A => ((fb A).map ptrB).isSome) cnt g.cnt g.sl := by
  have he : ∀ A, A < 2 ^ 160 → seq2 g fb (fun A => ((fb A).map ptrB).isSome) A = seqA g A := fun A hA => seq2_nil g fb _ (fun A _ hs => by simpa using hs) hA
  have hbl : base ≤ w.heap.size := Nat.le_trans h.bmb (Nat.le_of_lt h.setm.lt)
  have hz := hb.size
  have sm : ∀ b, soft g sb b → wr.heap[b]? = w.heap[b]? := fun b hs => by
    have := h.softlt hs
    rw [hg.block b (by omega) (by simp), hb.block b this]
  refine ⟨hit, SetAt.congr (seq := seqA g) ⟨h.setm.same (sm _ (.inr (.inr (.inl rfl)))), fun A hA hs => own_same (h.sls A hA hs) fun b hb => sm b (.inr (.inr (.inr ⟨A, hA, hs, hb⟩))), h.dist⟩ he, by omega, fun A b hA hs hb => ?_, fun b h1 _ _ => hg.block b h1 (by simp), ?_, Nat.le_refl _, h.bmb, ?_, hl, ?_, by omega⟩
  · rw [he A hA] at hs
    exact .inl ⟨hs, hb⟩
  · exact (Below.refl base w1).grown hg (by omega) (by simp)
  · have := h.setm.lt; omega
  · have := h.setm.lt; omega
/-- append as one step of a region that draws its order. -/
theorem step_append_row {P : Program} {ops : Array Oper} {o : Oper} {a : Act} {w : World} {K : Act → World → Prop} {Q : Exit → Act → World → Prop} {E : Prop} (hg : o.guard = none) (s x : Operand) (t : TypeId)
    (hop : o.op = Op.call { callee := Callee.builtin Builtin.append, args := #[s, x], argTypes := #[t, t] }) (e : TypeId) (z : Value) (size bytes : Nat) (ht : P.underlying t = some (.slice e)) (hi : (P.info? e).map (fun i => (i.zero, i.size, i.bytes)) = some (some z, size, bytes)) (hzs : z.cells.size = size) (hsz : 0 < size) (hby : bytes ≤ 1000)
    (base : Nat) (v : Value) (n : Nat) (xs : List Value) (hs : a.eval s = v) (hown : w.ownsRow base e size v n xs) (ad : Addr) (m c : Nat) (news : List Value) (hx : a.eval x = .slice (some ad) m c) (hl : news.length = m * size)
    (hnews : ∀ j u, news[j]? = some u → w.cell? (ad.add j) = some u) (h1 : ∀ u ∈ news, u.oneCell' = true) (hk : n + m ≤ 4294967296) (hbase : base ≤ w.heap.size)
    (hK : ∀ v' w', w'.ownsRow base e size v' (n + m) (xs ++ news) → w.grownBy w' v.ownBlock → (v'.ownBlock = v.ownBlock ∨ v'.ownBlock = some w.heap.size) → K (a.put o.dst v') w') :
    if Region.wanted o (yielded ops a.tmps) = true then Oper.wp P o a w K Q else E := by
  have hw : Region.wanted o (yielded ops a.tmps) = true := by simp [Region.wanted, hg]
  rw [if_pos hw]
  obtain ⟨i0, hi0, hz0, hz1, hz2⟩ := info_parts hi
  have hmul : (n + m) * bytes ≤ 4294967296 * 1000 := Nat.mul_le_mul hk hby
  obtain ⟨v', w', hr, h2, h3, _, h5⟩ := run_append_own_at (P := P) w base t o.type e i0 z size bytes ht hi0 hz0 hz1 hz2 hzs hsz v n xs hown ad m c news hl hnews h1 (by unfold maxLen; omega) (by omega) hbase
  unfold Oper.wp
  simp [execOp, hop, resolve, invoke, builtin, hs, hx, hr, Result.andThen]
  exact hK v' w' h2 h3 h5
theorem infoInt : (Try.prog.info? 3).map (fun i => (i.zero, i.size, i.bytes)) = some (some (.int .i64 0), 1, 8) := by kernel_rfl
/-- What the map says, and how it is written on, in the words of the walk. -/
theorem SetAt.entry {base : Nat} {wc : World} {mb c : Nat} {seq : Nat → List Nat} {sl : Nat → Value} (h : SetAt base wc mb c seq sl) (hc : c < maxLen) {A : Nat} (hA : A < 2 ^ 160) :
    ∃ (st : Nat) (wd : World) (ad : Option Addr) (cap : Nat), row0 seq sl A = .slice ad (seq A).length cap ∧ (Instr.mapEntry 88 (.map (some mb)) (.agg (aN A))).run Try.prog wc = .ok (.tuple #[.slice ad (seq A).length cap, .int .i64 (st : Int)]) wd ∧ wc.grownBy wd (some mb) ∧ wd.heap.size = wc.heap.size ∧ wd.ownsRow base 3 1 (row0 seq sl A) (seq A).length ((seq A).map i64v) ∧ (∃ es clock, wd.heap[mb]? = some (.map es clock)) ∧
      ∀ (w2 : World) (val : Value), w2.heap[mb]? = wd.heap[mb]? → ∃ w3, (Instr.entryStore 88 (.map (some mb)) (.int .i64 (st : Int)) val).run Try.prog w2 = .ok () w3 ∧ mapIs w3 mb (c + 1) (upd (rowV seq sl) A val) ∧ w2.grownBy w3 (some mb) := by
  obtain ⟨st, wd, hrun, hg, hsz, hmm, hst⟩ := h.map.entry Try.underlying88 hc (fun u => zeroSl_run u) hA
  have ho := h.own0 hA
  obtain ⟨ad, cap, e⟩ := own_sl ho
  have e' : (rowV seq sl A).getD (.slice none 0 0) = .slice ad (seq A).length cap := e
  rw [e'] at hrun
  refine ⟨st, wd, ad, cap, e, hrun, hg, hsz, own_same ho fun b hb => ?_, hmm, fun w2 val h2 => ?_⟩
  · obtain ⟨cs, hcs⟩ := own_block ho hb
    refine hg.block b (Array.getElem?_eq_some_iff.1 hcs).1 ?_
    intro x
    cases x
    obtain ⟨es, clock, hmm⟩ := map_block h.map
    rw [hmm] at hcs
    cases hcs
  · obtain ⟨w3, h3, h4, h5, _⟩ := hst w2 val h2
    exact ⟨w3, h3, h4, h5⟩
/-- The store's own two blocks stay while the map of rows is written on. -/
theorem P2.stay2 {base : Nat} {Z : Hp} {w w1 wr : World} {sb : Nat} {g : Gh} {L : Nat → List Acc} (h : StoreAt base Z w sb g L) (hb : Below w.heap.size w w1) {fb : Nat → Option Nat} {m0 M r : Nat} {left : Nat → Bool} {cnt c : Nat} {sl : Nat → Value} (q : P2 base w1 wr g fb m0 M r left cnt c sl)
    {b : Nat} {cs : Array Value} {t : TypeId} (hc : w.heap[b]? = some (.cells cs t)) (ht : t ≠ 3) : wr.heap[b]? = some (.cells cs t) := by
  have hlt := (Array.getElem?_eq_some_iff.1 hc).1
  have hz := hb.size
  rw [q.keep b (by omega) ?_ ?_, hb.block b hlt, hc]
  · rintro rfl
    obtain ⟨es, clock, hm⟩ := map_block h.setm
    rw [hm] at hc
    cases hc
  · intro A hA hs e
    obtain ⟨cs', hcs⟩ := own_block (h.sls A hA hs) e
    rw [hcs] at hc
    simp at hc
    exact ht hc.2.symm
/-- An address's cells, one by one. -/
theorem adcells {w : World} {b A : Nat} (h : w.heap[b]? = some (.cells (aN A) 32)) : w.cell? ⟨b, 0, none⟩ = some (.int .u8 ((ab A 0 : Nat) : Int)) ∧ w.cell? ⟨b, 1, none⟩ = some (.int .u8 ((ab A 1 : Nat) : Int)) ∧ w.cell? ⟨b, 2, none⟩ = some (.int .u8 ((ab A 2 : Nat) : Int)) ∧ w.cell? ⟨b, 3, none⟩ = some (.int .u8 ((ab A 3 : Nat) : Int)) ∧ w.cell? ⟨b, 4, none⟩ = some (.int .u8 ((ab A 4 : Nat) : Int)) ∧ w.cell? ⟨b, 5, none⟩ = some (.int .u8 ((ab A 5 : Nat) : Int)) ∧ w.cell? ⟨b, 6, none⟩ = some (.int .u8 ((ab A 6 : Nat) : Int)) ∧ w.cell? ⟨b, 7, none⟩ = some (.int .u8 ((ab A 7 : Nat) : Int)) ∧ w.cell? ⟨b, 8, none⟩ = some (.int .u8 ((ab A 8 : Nat) : Int)) ∧ w.cell? ⟨b, 9, none⟩ = some (.int .u8 ((ab A 9 : Nat) : Int)) ∧ w.cell? ⟨b, 10, none⟩ = some (.int .u8 ((ab A 10 : Nat) : Int)) ∧ w.cell? ⟨b, 11, none⟩ = some (.int .u8 ((ab A 11 : Nat) : Int)) ∧ w.cell? ⟨b, 12, none⟩ = some (.int .u8 ((ab A 12 : Nat) : Int)) ∧ w.cell? ⟨b, 13, none⟩ = some (.int .u8 ((ab A 13 : Nat) : Int)) ∧ w.cell? ⟨b, 14, none⟩ = some (.int .u8 ((ab A 14 : Nat) : Int)) ∧ w.cell? ⟨b, 15, none⟩ = some (.int .u8 ((ab A 15 : Nat) : Int)) ∧ w.cell? ⟨b, 16, none⟩ = some (.int .u8 ((ab A 16 : Nat) : Int)) ∧ w.cell? ⟨b, 17, none⟩ = some (.int .u8 ((ab A 17 : Nat) : Int)) ∧ w.cell? ⟨b, 18, none⟩ = some (.int .u8 ((ab A 18 : Nat) : Int)) ∧ w.cell? ⟨b, 19, none⟩ = some (.int .u8 ((ab A 19 : Nat) : Int)) :=
  ⟨blk_cell h (arr_get .u8 (fun i => ((ab A i : Nat) : Int)) (by decide)), blk_cell h (arr_get .u8 (fun i => ((ab A i : Nat) : Int)) (by decide)), blk_cell h (arr_get .u8 (fun i => ((ab A i : Nat) : Int)) (by decide)), blk_cell h (arr_get .u8 (fun i => ((ab A i : Nat) : Int)) (by decide)), blk_cell h (arr_get .u8 (fun i => ((ab A i : Nat) : Int)) (by decide)), blk_cell h (arr_get .u8 (fun i => ((ab A i : Nat) : Int)) (by decide)), blk_cell h (arr_get .u8 (fun i => ((ab A i : Nat) : Int)) (by decide)), blk_cell h (arr_get .u8 (fun i => ((ab A i : Nat) : Int)) (by decide)), blk_cell h (arr_get .u8 (fun i => ((ab A i : Nat) : Int)) (by decide)), blk_cell h (arr_get .u8 (fun i => ((ab A i : Nat) : Int)) (by decide)), blk_cell h (arr_get .u8 (fun i => ((ab A i : Nat) : Int)) (by decide)), blk_cell h (arr_get .u8 (fun i => ((ab A i : Nat) : Int)) (by decide)), blk_cell h (arr_get .u8 (fun i => ((ab A i : Nat) : Int)) (by decide)), blk_cell h (arr_get .u8 (fun i => ((ab A i : Nat) : Int)) (by decide)), blk_cell h (arr_get .u8 (fun i => ((ab A i : Nat) : Int)) (by decide)), blk_cell h (arr_get .u8 (fun i => ((ab A i : Nat) : Int)) (by decide)), blk_cell h (arr_get .u8 (fun i => ((ab A i : Nat) : Int)) (by decide)), blk_cell h (arr_get .u8 (fun i => ((ab A i : Nat) : Int)) (by decide)), blk_cell h (arr_get .u8 (fun i => ((ab A i : Nat) : Int)) (by decide)), blk_cell h (arr_get .u8 (fun i => ((ab A i : Nat) : Int)) (by decide))⟩
theorem fold_aN (A : Nat) : #[Value.int .u8 ((ab A 0 : Nat) : Int), .int .u8 ((ab A 1 : Nat) : Int), .int .u8 ((ab A 2 : Nat) : Int), .int .u8 ((ab A 3 : Nat) : Int), .int .u8 ((ab A 4 : Nat) : Int), .int .u8 ((ab A 5 : Nat) : Int), .int .u8 ((ab A 6 : Nat) : Int), .int .u8 ((ab A 7 : Nat) : Int), .int .u8 ((ab A 8 : Nat) : Int), .int .u8 ((ab A 9 : Nat) : Int), .int .u8 ((ab A 10 : Nat) : Int), .int .u8 ((ab A 11 : Nat) : Int), .int .u8 ((ab A 12 : Nat) : Int), .int .u8 ((ab A 13 : Nat) : Int), .int .u8 ((ab A 14 : Nat) : Int), .int .u8 ((ab A 15 : Nat) : Int), .int .u8 ((ab A 16 : Nat) : Int), .int .u8 ((ab A 17 : Nat) : Int), .int .u8 ((ab A 18 : Nat) : Int), .int .u8 ((ab A 19 : Nat) : Int)] = aN A := rfl
theorem one_at {w : World} {b : Nat} {v : Value} {t : TypeId} (h : w.heap[b]? = some (.cells #[v] t)) : ∀ j u, [v][j]? = some u → w.cell? ((⟨b, 0, none⟩ : Addr).add j) = some u := fun j u hj => by
  rw [Addr.add_mid, Nat.zero_add]
  exact blk_cell h (by simpa using hj)
theorem SetAt.mb0 {base : Nat} {wc : World} {mb c : Nat} {seq : Nat → List Nat} {sl : Nat → Value} (h : SetAt base wc mb c seq sl) {A : Nat} (hA : A < 2 ^ 160) : some mb ≠ (row0 seq sl A).ownBlock := fun e => by
  obtain ⟨cs, hcs⟩ := own_block (h.own0 hA) e.symm
  obtain ⟨es, clock, hm⟩ := map_block h.map
  rw [hm] at hcs
  cases hcs
/-- Ahead of the append: the world in which the map is asked. -/
theorem P2.ahead {base : Nat} {w1 wr wa wc : World} {g : Gh} {fb : Nat → Option Nat} {m0 M r : Nat} {left : Nat → Bool} {cnt c : Nat} {sl : Nat → Value} (h : P2 base w1 wr g fb m0 M r left cnt c sl) (hra : wr.grownBy wa (some r)) (hac : Below wa.heap.size wa wc) : SetAt base wc g.mb c (seq2 g fb left) sl := by
  have hrne : r ≠ g.mb := by have := h.rge; have := h.mbl; omega
  have z1 := hra.size
  refine h.set.frame ?_ fun B b hB hs hb => ?_
  · rw [hac.block _ (by have := h.set.map.lt; omega), hra.block _ h.set.map.lt (by simp; exact fun e => hrne e.symm)]
  · obtain ⟨cs, hcs⟩ := own_block (h.set.sls B hB hs) hb
    have hlt := (Array.getElem?_eq_some_iff.1 hcs).1
    rw [hac.block _ (by omega), hra.block _ hlt ?_]
    simp only [ne_eq, Option.some.injEq]
    rintro rfl
    obtain ⟨D, lf, ⟨_, _, _, _, _, _, _, _, _, hri, _⟩, _⟩ := h.it
    rw [hri] at hcs
    cases hcs
/-- append as one step, where what the row held stays where it lay. -/
theorem step_append_keep {P : Program} {ops : Array Oper} {o : Oper} {a : Act} {w : World} {K : Act → World → Prop} {Q : Exit → Act → World → Prop} {E : Prop} (hg : o.guard = none) (s x : Operand) (t : TypeId)
    (hop : o.op = Op.call { callee := Callee.builtin Builtin.append, args := #[s, x], argTypes := #[t, t] }) (e : TypeId) (z : Value) (size bytes : Nat) (ht : P.underlying t = some (.slice e)) (hi : (P.info? e).map (fun i => (i.zero, i.size, i.bytes)) = some (some z, size, bytes)) (hzs : z.cells.size = size) (hsz : 0 < size) (hby : bytes ≤ 1000)
    (base : Nat) (gb cap n : Nat) (xs : List Value) (hs : a.eval s = .slice (some ⟨gb, 0, none⟩) n cap) (hown : w.ownsRow base e size (.slice (some ⟨gb, 0, none⟩) n cap) n xs) (ad : Addr) (m c : Nat) (news : List Value) (hx : a.eval x = .slice (some ad) m c) (hl : news.length = m * size)
    (hnews : ∀ j u, news[j]? = some u → w.cell? (ad.add j) = some u) (h1 : ∀ u ∈ news, u.oneCell' = true) (hk : n + m ≤ 4294967296) (hbase : base ≤ w.heap.size)
    (hK : ∀ v' w', w'.ownsRow base e size v' (n + m) (xs ++ news) → w.grownBy w' (some gb) → (v'.ownBlock = some gb ∨ v'.ownBlock = some w.heap.size) → (∀ j u, xs[j]? = some u → w'.cell? ⟨gb, j, none⟩ = some u) → K (a.put o.dst v') w') :
    if Region.wanted o (yielded ops a.tmps) = true then Oper.wp P o a w K Q else E := by
  have hw : Region.wanted o (yielded ops a.tmps) = true := by simp [Region.wanted, hg]
  rw [if_pos hw]
  obtain ⟨i0, hi0, hz0, hz1, hz2⟩ := info_parts hi
  have hmul : (n + m) * bytes ≤ 4294967296 * 1000 := Nat.mul_le_mul hk hby
  obtain ⟨v', w', hr, h2, h3, _, h5⟩ := run_append_own_at (P := P) w base t o.type e i0 z size bytes ht hi0 hz0 hz1 hz2 hzs hsz _ n xs hown ad m c news hl hnews h1 (by unfold maxLen; omega) (by omega) hbase
  have hkeep : ∀ j u, xs[j]? = some u → w'.cell? ⟨gb, j, none⟩ = some u := fun j u hj => by
    rcases hown.2 with ⟨e0, _⟩ | ⟨g2, cap2, cur, e0, _, hcur, hnc, _, hcs, _⟩
    · cases e0
    · cases e0
      by_cases hroom : n + m ≤ cap
      · have hr2 := run_append_room (P := P) w t o.type e i0 ht hi0 gb n cap cur hcur ad m c news (by rw [hz1]; exact hl) hnews h1 hroom (by rw [hz1, hl, hcs, ← Nat.add_mul]; exact Nat.mul_le_mul_right _ hroom)
        rw [hr] at hr2
        have ev : v' = .slice (some ⟨gb, 0, none⟩) (n + m) cap := by
          injection hr2
        have := h2.cells (g := gb) (by rw [ev]; rfl) j u (by rw [List.getElem?_append_left (List.getElem?_eq_some_iff.1 hj).1]; exact hj)
        rwa [Addr.add_mid, Nat.zero_add] at this
      · have hr2 := run_append_grow (P := P) w t o.type e i0 z ht hi0 hz0 ⟨gb, 0, none⟩ n cap xs (by rw [hz1]; exact hown.1) (hown.cells (g := gb) rfl) ad m c news (by rw [hz1]; exact hl) hnews (by omega) (by omega) (growslice_fits (by omega) (by rw [hz2]; omega))
        rw [hr] at hr2
        injection hr2 with _ ew
        rw [ew]
        have h0 := hown.cells (g := gb) rfl j u hj
        rw [Addr.add_mid, Nat.zero_add] at h0
        exact (World.cell?_alloc_lt w.drew _ ⟨gb, j, none⟩ (by have := World.block_lt_of_cell? _ _ h0; simpa using this)).trans h0
  unfold Oper.wp
  simp [execOp, hop, resolve, invoke, builtin, hs, hx, hr, Result.andThen]
  exact hK v' w' h2 h3 h5 hkeep
theorem cell_al {w : World} {o : Obj} {a : Addr} {v : Value} (h : w.cell? a = some v) : (w.alloc o).cell? a = some v := (World.cell?_alloc_lt w o a (World.block_lt_of_cell? _ _ h)).trans h
end Go.Proofs.Ytdgenbidgieojaa
