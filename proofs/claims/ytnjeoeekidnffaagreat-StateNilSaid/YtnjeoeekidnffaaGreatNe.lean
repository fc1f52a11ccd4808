/- An account copied: what is handed on shares nothing with it. -/
import Derived.Test.YtnjeoeekidnffaaGreatNd
import Derived.Maps.AppendAt
import Derived.Laws.AppendOwnNone
import Derived.Test.YtnjeoeekidnffaaGreatN4
import Derived.Defers
import Derived.Recover
namespace Go.Proofs.YtnjeoeekidnffaaGreat
open Go.RowKit SmWord
set_option maxRecDepth 100000

/-- The blocks from n on. -/
def fr (n : Nat) (w : World) : Hp := fun b => if n ≤ b then w.heap[b]? else none
theorem fr_sub (n : Nat) (w : World) : Sub (fr n w) (hp w) := fun b o h => by
  unfold fr at h
  split at h
  · exact h
  · cases h
theorem fr_below {n : Nat} {w w' : World} (hb : Below w.heap.size w w') : Sub (fr n w) (fr n w') := fun b o h => by
  unfold fr at h ⊢
  split at h
  · rename_i hn
    rw [if_pos hn]
    exact (hb.block b (Array.getElem?_eq_some_iff.1 h).1).trans h
  · cases h
theorem fr_mono {m n : Nat} (h : m ≤ n) (w : World) : Sub (fr n w) (fr m w) := fun b o hb => by
  unfold fr at hb ⊢
  split at hb
  · rw [if_pos (by omega)]; exact hb
  · cases hb
theorem RowZ.ownF {w : World} {base : Nat} {e : TypeId} {k n : Nat} {v : Value} {xs : List Value} (h : w.ownsRow base e k v n xs) : RowZ (fr base w) v n k xs := by
  refine ⟨h.1, ?_⟩
  rcases h.2 with ⟨rfl, rfl⟩ | ⟨g, cap, cur, rfl, hbg, hg, hn, hc, hcs, ht⟩
  · exact ⟨none, 0, rfl, Nat.le_refl _, by simp [maxLen], fun _ => ⟨rfl, rfl⟩, fun h => absurd h (by decide)⟩
  · refine ⟨_, _, rfl, hn, hc, fun h => (by simp at h), fun _ => ⟨g, 0, rfl, cur, e, (0, 0), by unfold fr; rw [if_pos hbg]; exact hg, fun j u hj => ?_⟩⟩
    rw [Nat.zero_add]
    rw [← ht, List.getElem?_take] at hj
    split at hj
    · simpa using hj
    · cases hj
theorem own_slz {w : World} {base : Nat} {e : TypeId} {k n : Nat} {v : Value} {xs : List Value} (h : w.ownsRow base e k v n xs) : ∃ A c, v = .slice A n c := by
  rcases h.2 with ⟨rfl, rfl⟩ | ⟨g, cap, cur, rfl, _⟩
  · exact ⟨_, _, rfl⟩
  · exact ⟨_, _, rfl⟩
theorem own_not {w : World} {base : Nat} {e t : TypeId} {k n : Nat} {v : Value} {xs : List Value} (h : w.ownsRow base e k v n xs) {c : Nat} {cs : Array Value} (hc : w.heap[c]? = some (.cells cs t)) (hne : t ≠ e) : ∀ b, v.ownBlock = some b → b ≠ c := by
  rintro b hb rfl
  rcases h.2 with ⟨rfl, _⟩ | ⟨g, cap, cur, rfl, _, hg, _⟩
  · cases hb
  · simp [Value.ownBlock] at hb
    subst hb
    rw [hg] at hc
    simp at hc
    exact hne hc.2.symm
theorem own_same {w w' : World} {base : Nat} {e : TypeId} {k n : Nat} {v : Value} {xs : List Value} (h : w.ownsRow base e k v n xs) (hb : ∀ b, v.ownBlock = some b → w'.heap[b]? = w.heap[b]?) : w'.ownsRow base e k v n xs := by
  refine ⟨h.1, ?_⟩
  rcases h.2 with h' | ⟨g, cap, cur, rfl, h1, h2, h3⟩
  · exact .inl h'
  · exact .inr ⟨g, cap, cur, rfl, h1, (hb g rfl).trans h2, h3⟩
/-- A row is appended to a row of one's own. -/
theorem append_row {P : Program} {ops : Array Oper} {rest : List Oper} {o : Oper} {a : Act} {w : World} {Q : Exit → Act → World → Prop} (hg : o.guard = none) (s x : Operand) (t : TypeId)
    (ho : o.op = .call { callee := .builtin .append, args := #[s, x], argTypes := #[t, t] }) (e : TypeId) (z : Value) (size bytes : Nat) (ht : P.underlying t = some (.slice e)) (hi : (P.info? e).map (fun i => (i.zero, i.size, i.bytes)) = some (some z, size, bytes)) (hzs : z.cells.size = size) (hsz : 0 < size) (hby : bytes ≤ 1000)
    (base : Nat) (v : Value) (k : Nat) (xs : List Value) (hs : a.eval s = v) (hown : w.ownsRow base e size v k xs)
    (vx : Value) (n : Nat) (Lx : List Value) (hx : a.eval x = vx) (hr : RowZ (hp w) vx n size Lx) (h1 : ∀ u ∈ Lx, u.oneCell' = true) (hk : k + n ≤ 4294967296) (hbase : base ≤ w.heap.size)
    (h : ∀ v' w', w'.ownsRow base e size v' (k + n) (xs ++ Lx) → w.grownBy w' v.ownBlock → (v'.ownBlock = v.ownBlock ∨ v'.ownBlock = some w.heap.size) → wpList P ops Q rest (a.put o.dst v') w') : wpList P ops Q (o :: rest) a w := by
  obtain ⟨i0, hi0, hz0, hz1, hz2⟩ := info_parts hi
  obtain ⟨A, c, rfl, hnc, hcM, hA, hcells⟩ := hr.val
  cases A with
  | none =>
    obtain ⟨rfl, rfl⟩ := hA rfl
    have hL : Lx = [] := List.eq_nil_of_length_eq_zero (by have := hr.len; simpa using this)
    subst hL
    refine wpList_append_own_none hg s x t ho base e i0 size ht hi0 v k xs hs hown hx (h v w (by simpa using hown) ⟨rfl, rfl, rfl, Nat.le_refl _, fun _ _ _ => rfl⟩ (.inl rfl))
  | some ad =>
    have hmul : (k + n) * bytes ≤ 4294967296 * 1000 := Nat.mul_le_mul hk hby
    refine wpList_append_own_at w hg s x t ho base e i0 z size bytes ht hi0 hz0 hz1 hz2 hzs hsz v k xs hs hown ad n c Lx hx hr.len (fun j u hj => ?_) h1 (by unfold maxLen; omega) (by omega) hbase (fun v' w' h1 h2 _ h4 => h v' w' h1 h2 h4)
    have hjn : 0 < n := by
      have := (List.getElem?_eq_some_iff.1 hj).1
      rw [hr.len] at this
      exact Nat.pos_of_mul_pos_right (Nat.lt_of_le_of_lt (Nat.zero_le _) this)
    obtain ⟨b, off, e, hrg⟩ := hcells hjn
    cases e
    rw [Addr.add_mid]
    exact hrg.at j u hj
theorem u8_one (l : List Nat) : ∀ u ∈ l.map u8v, u.oneCell' = true := fun u hu => by
  obtain ⟨n, _, rfl⟩ := List.mem_map.1 hu
  rfl
theorem so_one (l : List (Nat × Nat)) : ∀ u ∈ l.flatMap scs, u.oneCell' = true := fun u hu => by
  obtain ⟨s, _, hs⟩ := List.mem_flatMap.1 hu
  exact (Array.all_eq_true_iff_forall_mem.1 (scs_one s)) u (by simpa using hs)
theorem infoU8 : (Tryz.prog.info? 5).map (fun i => (i.zero, i.size, i.bytes)) = some (some (.int .u8 0), 1, 1) := by kernel_rfl
theorem infoSlot : (Tryz.prog.info? 136).map (fun i => (i.zero, i.size, i.bytes)) = some (some (.agg (wa 0 ++ wa 0)), 8, 64) := by kernel_rfl
/-- The account that has nothing. -/
def noneAV : AV := ⟨⟨0, 0, 0, [], []⟩, .slice none 0 0, .slice none 0 0⟩
theorem infoAcc : (Tryz.prog.info? 69).map (fun i => (i.zero, i.size, i.bytes)) = some (some (.agg (acs noneAV).toArray), 27, 112) := by kernel_rfl
theorem zeroAcc (w : World) : (zeroValue 69).run Tryz.prog w = .ok (.agg (acs noneAV).toArray) w := by kernel_rfl
theorem acs_set (x : AV) (p q : Value) : ((acs x).toArray.setIfInBounds 25 p).setIfInBounds 26 q = (acs ⟨x.a, p, q⟩).toArray := by
  apply Array.ext'
  simp only [Array.toList_setIfInBounds]
  unfold acs
  have h1 : (aN x.a.ad).toList.length = 20 := by simp [aN_size]
  have h2 : (wa x.a.ba).toList.length = 4 := by simp [wa_size]
  have e1 : ((wa x.a.ba).toList ++ [x.p, x.q]).set 4 p = (wa x.a.ba).toList ++ [p, x.q] := by rw [List.set_append_right _ _ (by omega), h2]; rfl
  have e2 : ((wa x.a.ba).toList ++ [p, x.q]).set 5 q = (wa x.a.ba).toList ++ [p, q] := by rw [List.set_append_right _ _ (by omega), h2]; rfl
  rw [List.set_append_right _ _ (by omega), h1]
  simp only [List.set_cons_succ, show 25 - 20 = 4 + 1 from rfl, e1]
  rw [List.set_append_right _ _ (by omega), h1]
  simp only [List.set_cons_succ, show 26 - 20 = 5 + 1 from rfl, e2]
set_option maxHeartbeats 2000000 in
theorem copied_walk (x : AV) (w : World) (h : AccZ (hp w) x) : Calls Tryz.prog 39 #[aval x] w fun e w' => ∃ p q, e = .returned (aval ⟨x.a, p, q⟩) ∧ AccZ (fr w.heap.size w') ⟨x.a, p, q⟩ ∧ Below w.heap.size w w' := by
  unfold aval
  have hs : ∀ x, (acs x).toArray.size = 27 := fun x => by simp [acs_len]
  obtain ⟨W, hW⟩ : ∃ W, (w.alloc (.cells (acs x).toArray 69)).alloc (.cells (acs noneAV).toArray 69) = W := ⟨_, rfl⟩
  have f0 : W.heap[w.heap.size]? = some (.cells (acs x).toArray 69) := hW ▸ blk_alloc (heap_alloc_new _ _)
  have f1 : W.heap[w.heap.size + 1]? = some (.cells (acs noneAV).toArray 69) := hW ▸ heap_alloc2_new _ _ _
  have bW : Below w.heap.size w W := hW ▸ ((Below.refl _ _).alloc (Nat.le_refl _) _).alloc (by simp) _
  have sW : W.heap.size = w.heap.size + 2 := by rw [← hW]; simp
  obtain ⟨-, -, p2, -, -⟩ := boxcells f0
  have fz := blk_frozen (j := 25) f0
  go_enter Tryz.func39, Tryz.ntmps39
  go_upto_region 1 with (refine wpList_alloc_row rfl 69 rfl _ zeroAcc ?_)
  rw [hW]
  clear hW
  have F0 := Lib.hid f0
  have F1 := Lib.hid f1
  have HB := Lib.hid bW
  clear f0 f1 bW
  have HX := Lib.hid h
  clear h
  go_wp2_with (first
    | (refine append_row rfl _ _ 45 rfl 5 (.int .u8 0) 1 1 Tryz.underlying45 infoU8 rfl (by decide) (by decide) w.heap.size (.slice none 0 0) 0 [] rfl (World.ownsRow_nil _ _ _ _) x.p x.a.co.length (x.a.co.map u8v) rfl (HX.out.cod.sub (hp_below HB.out)) (u8_one _) (by have := HX.out.cl; omega) (by omega) ?_
       intro v1 w1 ho1 hg1 _
       simp only [Nat.zero_add, List.nil_append] at ho1
       obtain ⟨A1, c1, rfl⟩ := own_slz ho1
       have f2 := (hg1.block w.heap.size (by omega) (by simp [Value.ownBlock])).trans F0.out
       have fz1 := blk_frozen (j := 25) f2
       obtain ⟨-, -, g2, g3, -⟩ := boxcells f2
       have HO1 := Lib.hid ho1
       have F2 := Lib.hid f2
       have F3 := Lib.hid ((hg1.block (w.heap.size + 1) (by omega) (by simp [Value.ownBlock])).trans F1.out)
       have hz1 := hg1.size
       have HB1 : Hid (Below w.heap.size w w1) := Lib.hid (HB.out.grown hg1 (by omega) (by simp [Value.ownBlock]))
       clear ho1 hg1 f2)
    | (refine append_row rfl _ _ 67 rfl 136 (.agg (wa 0 ++ wa 0)) 8 64 Tryz.underlying67 infoSlot (by simp [Value.cells, wa_size]) (by decide) (by decide) w.heap.size (.slice none 0 0) 0 [] rfl (World.ownsRow_nil _ _ _ _) x.q x.a.so.length (x.a.so.flatMap scs) rfl (HX.out.sto.sub (hp_below (HB1.out.setCell (Nat.le_refl _) _))) (so_one _) (by have := HX.out.sl; omega) (by simp [World.setCell]; omega) ?_
       intro v2 w2 ho2 hg2 _
       simp only [Nat.zero_add, List.nil_append] at ho2
       obtain ⟨A2, c2, rfl⟩ := own_slz ho2
       have f3 := (hg2.block w.heap.size (by simp [World.setCell]; omega) (by simp [Value.ownBlock])).trans (blk_set F2.out (j := 25) (.slice A1 x.a.co.length c1))
       have f5 := (hg2.block (w.heap.size + 1) (by simp [World.setCell]; omega) (by simp [Value.ownBlock])).trans (blk_other F3.out (by omega) (j := 25) (.slice A1 x.a.co.length c1))
       have fz1 := blk_frozen (j := 26) f3
       have g5 : w2.cell? ⟨w.heap.size, 26, none⟩ = some x.q := blk_cell f3 (by rw [Array.getElem?_setIfInBounds_ne (by decide)]; simpa using acs_q x)
       have F4 := Lib.hid f3
       have F5 := Lib.hid f5
       have HO2 := Lib.hid ho2
       have HG2 := Lib.hid hg2
       have F6 : Hid ((w2.setCell ⟨w.heap.size, 26, none⟩ (.slice A2 x.a.so.length c2)).heap[w.heap.size]? = some (.cells (acs ⟨x.a, .slice A1 x.a.co.length c1, .slice A2 x.a.so.length c2⟩).toArray 69)) := Lib.hid (by rw [← acs_set x]; exact blk_set f3 _)
       have F7 := Lib.hid (blk_other f5 (show w.heap.size + 1 ≠ w.heap.size by omega) (j := 26) (.slice A2 x.a.so.length c2))
       have one := all_oneCell_toArray (oneA ⟨x.a, .slice A1 x.a.co.length c1, .slice A2 x.a.so.length c2⟩ rfl rfl)
       clear ho2 hg2 f3 f5)
    | (refine wpList_load_mid rfl 69 _ rfl w.heap.size 0 rfl (acs ⟨x.a, .slice A1 x.a.co.length c1, .slice A2 x.a.so.length c2⟩) _ (rng_block F6.out).at Tryz.underlying69 rfl (infoAcs _) ?_)
    | (refine wpList_store_row rfl 69 _ _ rfl (w.heap.size + 1) _ (acs ⟨x.a, .slice A1 x.a.co.length c1, .slice A2 x.a.so.length c2⟩).toArray rfl rfl F7.out (by simpa using infoAcs _) (by simp [acs_len]) one ?_))
  refine bodyPost_ret (v := .agg (acs ⟨x.a, .slice A1 x.a.co.length c1, .slice A2 x.a.so.length c2⟩).toArray) (results_cell_row rfl _ _ _ 69 _ (0, 0) _ rfl (blk_row F7.out) Tryz.underlying69 rfl (by simpa using infoAcs _)) rfl ⟨_, _, rfl, ?_, ?_⟩
  · have e1 : ∀ b, (Value.slice A1 x.a.co.length c1).ownBlock = some b → ((w2.setCell ⟨w.heap.size, 26, none⟩ (.slice A2 x.a.so.length c2)).setRow (w.heap.size + 1) (acs ⟨x.a, .slice A1 x.a.co.length c1, .slice A2 x.a.so.length c2⟩).toArray).heap[b]? = w1.heap[b]? := fun b hb => by
      have n1 := own_not HO1.out F2.out (by decide) b hb
      have n2 := own_not HO1.out F3.out (by decide) b hb
      rw [setRow_other _ _ _ _ n2, Below.heap_setCell _ _ _ _ n1, HG2.out.block b (by have := (HO1.out.lt b hb).2; simpa [World.setCell] using this) (by simp [Value.ownBlock]), Below.heap_setCell _ _ _ _ n1]
    have e2 : ∀ b, (Value.slice A2 x.a.so.length c2).ownBlock = some b → ((w2.setCell ⟨w.heap.size, 26, none⟩ (.slice A2 x.a.so.length c2)).setRow (w.heap.size + 1) (acs ⟨x.a, .slice A1 x.a.co.length c1, .slice A2 x.a.so.length c2⟩).toArray).heap[b]? = w2.heap[b]? := fun b hb => by
      have n1 := own_not HO2.out F4.out (by decide) b hb
      have n2 := own_not HO2.out F5.out (by decide) b hb
      rw [setRow_other _ _ _ _ n2, Below.heap_setCell _ _ _ _ n1]
    exact { HX.out with cod := RowZ.ownF (own_same HO1.out e1), sto := RowZ.ownF (own_same HO2.out e2) }
  · exact below_setRow ((((HB1.out.setCell (Nat.le_refl _) _).grown HG2.out (by simp [World.setCell]; omega) (by simp [Value.ownBlock]))).setCell (Nat.le_refl _) _) (by omega) _
end Go.Proofs.YtnjeoeekidnffaaGreat
/- Stage 14: a world that is a list: its accounts, and what it answers. -/
namespace Go.Proofs.YtnjeoeekidnffaaGreat
open Go.RowKit SmWord Go.Maps
set_option maxRecDepth 100000

section
variable {w : World} {b n : Nat} {f : Nat → Option Value}
theorem mapIs.look_ok {t e : TypeId} (h : mapIs w b n f) (ht : Tryz.prog.underlying t = some (.map 41 e)) {z : Value} (hz : (zeroValue e).run Tryz.prog w = .ok z w) {A : Nat} (hA : A < 2 ^ 160) :
    (Instr.lookup t (.map (some b)) (.agg (aN A)) true).run Tryz.prog w = .ok (.tuple #[(f A).getD z, .bool (f A).isSome]) w := by
  obtain ⟨D, h, s⟩ := h
  obtain ⟨v, ps, hrun, hv⟩ := h.look_ok (zd := .held z) (zp := []) lawA ht hz rfl (key_kl A)
  rw [s.at' A hA] at hv
  rw [hrun, s.has A hA]
  congr 3
  unfold hR at hv
  cases hf : f A with
  | none => rw [hf] at hv; simp at hv; rw [hv.1]; rfl
  | some y => rw [hf] at hv; simp at hv; rw [hv.1]; rfl
end
/-- The account of an address that has nothing. -/
def bareAV (A : Nat) : AV := ⟨⟨A, 0, 0, [], []⟩, .slice none 0 0, .slice none 0 0⟩
theorem bareZ (Z : Hp) {A : Nat} (hA : A < 2 ^ 160) : AccZ Z (bareAV A) :=
  ⟨hA, by simp [bareAV, B], by simp [bareAV, M], RowZ.nil Z 1, by simp [bareAV], by simp [bareAV], RowZ.nil Z 8, by simp [bareAV], by simp [bareAV]⟩
theorem bare_cells (A : Nat) : (acs (bareAV A)).toArray = aN A ++ #[.int .u64 0, .int .u64 0, .int .u64 0, .int .u64 0, .int .u64 0, .slice none 0 0, .slice none 0 0] := by
  unfold acs bareAV
  simp
  rfl
theorem run_build20 (x0 x1 x2 x3 x4 x5 x6 x7 x8 x9 x10 x11 x12 x13 x14 x15 x16 x17 x18 x19 : Value) (w : World) : (Instr.build 69 #[(0, .agg #[x0, x1, x2, x3, x4, x5, x6, x7, x8, x9, x10, x11, x12, x13, x14, x15, x16, x17, x18, x19])]).run Tryz.prog w = .ok (.agg #[x0, x1, x2, x3, x4, x5, x6, x7, x8, x9, x10, x11, x12, x13, x14, x15, x16, x17, x18, x19, .int .u64 0, .int .u64 0, .int .u64 0, .int .u64 0, .int .u64 0, .slice none 0 0, .slice none 0 0]) w := by kernel_rfl
theorem list20 {α : Type} {l : Array α} (h : l.size = 20) : ∃ x0 x1 x2 x3 x4 x5 x6 x7 x8 x9 x10 x11 x12 x13 x14 x15 x16 x17 x18 x19, l = #[x0, x1, x2, x3, x4, x5, x6, x7, x8, x9, x10, x11, x12, x13, x14, x15, x16, x17, x18, x19] := by
  obtain ⟨l⟩ := l
  simp at h
  obtain _ | ⟨x0, l⟩ := l; · simp at h
  obtain _ | ⟨x1, l⟩ := l; · simp at h
  obtain _ | ⟨x2, l⟩ := l; · simp at h
  obtain _ | ⟨x3, l⟩ := l; · simp at h
  obtain _ | ⟨x4, l⟩ := l; · simp at h
  obtain _ | ⟨x5, l⟩ := l; · simp at h
  obtain _ | ⟨x6, l⟩ := l; · simp at h
  obtain _ | ⟨x7, l⟩ := l; · simp at h
  obtain _ | ⟨x8, l⟩ := l; · simp at h
  obtain _ | ⟨x9, l⟩ := l; · simp at h
  obtain _ | ⟨x10, l⟩ := l; · simp at h
  obtain _ | ⟨x11, l⟩ := l; · simp at h
  obtain _ | ⟨x12, l⟩ := l; · simp at h
  obtain _ | ⟨x13, l⟩ := l; · simp at h
  obtain _ | ⟨x14, l⟩ := l; · simp at h
  obtain _ | ⟨x15, l⟩ := l; · simp at h
  obtain _ | ⟨x16, l⟩ := l; · simp at h
  obtain _ | ⟨x17, l⟩ := l; · simp at h
  obtain _ | ⟨x18, l⟩ := l; · simp at h
  obtain _ | ⟨x19, l⟩ := l; · simp at h
  obtain rfl : l = [] := by simpa using h
  exact ⟨_, _, _, _, _, _, _, _, _, _, _, _, _, _, _, _, _, _, _, _, rfl⟩
theorem run_build_ad (A : Nat) (w : World) : (Instr.build 69 #[(0, .agg (aN A))]).run Tryz.prog w = .ok (.agg (aN A ++ #[.int .u64 0, .int .u64 0, .int .u64 0, .int .u64 0, .int .u64 0, .slice none 0 0, .slice none 0 0])) w := by
  obtain ⟨x0, x1, x2, x3, x4, x5, x6, x7, x8, x9, x10, x11, x12, x13, x14, x15, x16, x17, x18, x19, e⟩ := list20 (aN_size A)
  rw [e, run_build20]
  rfl
theorem wpList_buildAd {ops : Array Oper} {rest : List Oper} {o : Oper} {a : Act} {w : World} {Q : Exit → Act → World → Prop} (hg : o.guard = none) (x : Operand) (ho : o.op = .build 69 #[(0, x)]) (A : Nat) (hx : a.eval x = .agg (aN A)) (h : wpList Tryz.prog ops Q rest (a.put o.dst (.agg (acs (bareAV A)).toArray)) w) : wpList Tryz.prog ops Q (o :: rest) a w := by
  refine wpList_plain hg fun K hK => ?_
  have hr := run_build_ad A w
  rw [← bare_cells A] at hr
  unfold Oper.wp
  simp [execOp, ho, hx, hr, Result.andThen]
  exact hK _ _ h
/-- An account with another address. -/
def reAd (x : AV) (A : Nat) : AV := { x with a := { x.a with ad := A } }
theorem reAd_self {x : AV} {A : Nat} (h : x.a.ad = A) : reAd x A = x := by
  subst h
  rfl
theorem reAdZ {Z : Hp} {x : AV} {A : Nat} (h : AccZ Z x) (hA : A < 2 ^ 160) : AccZ Z (reAd x A) := { h with ad := hA }
theorem put_ad (x : AV) (A : Nat) : putAt (acs x) 0 (aN A).toList = acs (reAd x A) := by
  unfold putAt acs reAd
  have h1 : (aN x.a.ad).toList.length = 20 := by simp [aN_size]
  have h2 : (aN A).toList.length = 20 := by simp [aN_size]
  rw [h2, List.take_zero, List.nil_append, List.drop_append_of_le_length (by omega), List.drop_of_length_le (by omega)]
  rfl
theorem store_ad {w : World} {b : Nat} {x : AV} {T : TypeId} (hb : w.heap[b]? = some (.cells (acs x).toArray T)) (A : Nat) : (storeCells ⟨b, 0, none⟩ (aN A).toList 0).run Tryz.prog w = .ok () (w.setRow b (acs (reAd x A)).toArray) := by
  have h2 : (aN A).toList.length = 20 := by simp [aN_size]
  have := run_storeCells_at Tryz.prog b 0 T (aN A).toList 0 (acs x).toArray w hb (by rw [h2]; simp [acs_len]) (fun v hv => (Array.all_eq_true_iff_forall_mem.1 (arr_one .u8 20 _)) v (by simpa [aN] using hv))
  rw [← put_ad]
  simpa [putAt, h2] using this
/-- A list of accounts as a world. -/
structure ListAt (Z : Hp) (w : World) (b n : Nat) (fw : Nat → Option AV) : Prop where
  map : mapIs w b n (fun A => (fw A).map aval)
  acc : ∀ A x, fw A = some x → AccZ Z x ∧ x.a.ad = A
  sub : Sub Z (hp w)
theorem ListAt.below {Z : Hp} {w w' : World} {b n : Nat} {fw : Nat → Option AV} (h : ListAt Z w b n fw) (hb : Below w.heap.size w w') : ListAt Z w' b n fw :=
  ⟨h.map.same (hb.block b h.map.lt), h.acc, h.sub.trans (hp_below hb)⟩
/-- Z, and Z' where it says nothing. -/
def orH (Z Z' : Hp) : Hp := fun b => (Z b).or (Z' b)
theorem orH_left (Z Z' : Hp) : Sub Z (orH Z Z') := fun b o h => by unfold orH; rw [h]; rfl
theorem orH_right {Z Z' : Hp} (h : ∀ b o o', Z b = some o → Z' b = some o' → o = o') : Sub Z' (orH Z Z') := fun b o hb => by
  unfold orH
  cases hz : Z b with
  | none => exact hb
  | some o1 => rw [h b o1 o hz hb]; rfl
theorem orH_some {Z Z' : Hp} {b : Nat} {o : Obj} (h : orH Z Z' b = some o) : Z b = some o ∨ Z' b = some o := by
  unfold orH at h
  cases hz : Z b with
  | none => rw [hz] at h; exact .inr h
  | some o1 => rw [hz] at h; exact .inl h
theorem orH_sub {Z Z' Y : Hp} (h : Sub Z Y) (h' : Sub Z' Y) : Sub (orH Z Z') Y := fun b o hb => by
  rcases orH_some hb with h1 | h1
  · exact h _ _ h1
  · exact h' _ _ h1
theorem orH_in {Z Z' Y : Hp} (h : Sub Z Y) (h' : Sub Z' Y) : Sub Z' (orH Z Z') := orH_right fun b o o' h1 h2 => by
  have a1 := h _ _ h1
  have a2 := h' _ _ h2
  rw [a1] at a2
  injection a2
/-- What a world answers: an account, in new memory or in that of the world (Z), and whether it is known. -/
def WorIs (Z : Hp) (w : World) (A : Nat) (a : Acc) (k : Bool) (e : Ending) (w' : World) : Prop := ∃ x : AV, e = .returned (.tuple #[aval x, .bool k]) ∧ x.a = a ∧ AccZ (orH Z (fr w.heap.size w')) x ∧ A < 2 ^ 160 ∧ Below w.heap.size w w'
theorem aboxes (w : World) (A : Nat) : ∃ W, (w.alloc (.cells (aN A) 41)).alloc (.cells (acs noneAV).toArray 69) = W ∧ W.heap[w.heap.size]? = some (.cells (aN A) 41) ∧ W.heap[w.heap.size + 1]? = some (.cells (acs noneAV).toArray 69) ∧ Below w.heap.size w W ∧ W.heap.size = w.heap.size + 2 :=
  ⟨_, rfl, blk_alloc (heap_alloc_new _ _), heap_alloc2_new _ _ _, ((Below.refl _ _).alloc (Nat.le_refl _) _).alloc (by simp) _, by simp⟩
theorem adblk {w : World} {b A : Nat} (h : w.heap[b]? = some (.cells (aN A) 41)) : w.rangeAt b 0 (aN A).toList := fun j v hv => by
  rw [Nat.zero_add]
  exact blk_cell h (by simpa using hv)
theorem results_cs {P : Program} {fn : Func} {p u : Tmp} {ty : TypeId} (h : fn.results = #[.cell p ty, .tmp u]) (tmps : Array Value) (w : World) (g : Nat) (t : TypeId) (cs : Array Value) (fr : Nat × Nat) (d : TypeDesc) (v : Value)
    (hp : tmps.getD p undef = .pointer (some ⟨g, 0, none⟩)) (hg : w.heap[g]? = some (.cells cs t fr))
    (hu : P.underlying ty = some d) (hd : (match d with | .struct _ | .array _ _ => true | _ => false) = true) (hi : (P.info? ty).map (·.size) = some cs.size) (hv : tmps.getD u undef = v) :
    (results fn tmps).run P w = .ok (.tuple #[.agg cs, v]) w := by
  have hp' : tmps[p]?.getD undef = .pointer (some ⟨g, 0, none⟩) := by simpa using hp
  have hv' : tmps[u]?.getD undef = v := by simpa using hv
  rw [results_cell_tmp h]
  simp [hp', asAddr, run_loadVar_row w g t ty cs fr d hg hu hd hi, hv']
theorem noneZ (Z : Hp) : AccZ Z noneAV :=
  ⟨by simp [noneAV], by simp [noneAV, B], by simp [noneAV, M], RowZ.nil Z 1, by simp [noneAV], by simp [noneAV], RowZ.nil Z 8, by simp [noneAV], by simp [noneAV]⟩
set_option maxHeartbeats 2000000 in
theorem list_walk {Z Z0 : Hp} {b n : Nat} {fw : Nat → Option AV} (A : Nat) (w : World) (h : ListAt Z w b n fw) (hA : A < 2 ^ 160) (hZ0 : Sub Z0 (hp w)) :
    Calls Tryz.prog 175 #[.map (some b), .agg (aN A)] w (WorIs Z0 w A ((fw A).getD (bareAV A)).a true) := by
  have hs : ∀ x, (acs x).toArray.size = 27 := fun x => by simp [acs_len]
  have hsN := aN_size A
  obtain ⟨W, hW, f0, f1, bW, sW⟩ := aboxes w A
  obtain ⟨y, hy⟩ : ∃ y, y = (fw A).getD noneAV := ⟨_, rfl⟩
  have hyz : AccZ Z y := by
    rw [hy]
    cases hf : fw A with
    | none => exact noneZ Z
    | some x => exact (h.acc A x hf).1
  have hya : (reAd y A).a = ((fw A).getD (bareAV A)).a := by
    rw [hy]
    cases hf : fw A with
    | none => rfl
    | some x => exact congrArg AV.a (reAd_self (h.acc A x hf).2)
  have hl := (h.below bW).map.look (e := 69) Tryz.underlying90 (zeroAcc W) hA
  rw [show ((fw A).map aval).getD (.agg (acs noneAV).toArray) = aval y by rw [hy]; cases fw A <;> rfl] at hl
  have KC := Lib.hid (copied_walk y W (hyz.sub (h.sub.trans (hp_below bW))))
  have F0 := Lib.hid f0
  have F1 := Lib.hid f1
  have HB := Lib.hid bW
  have HYA := Lib.hid hya
  have HZ0 := Lib.hid hZ0
  have r0 := adblk f0
  clear f0 f1 bW h hyz hya hy hZ0
  go_enter Tryz.func175, Tryz.ntmps175
  go_upto_region 1 with (refine wpList_alloc_row rfl 69 rfl _ zeroAcc ?_)
  clear hW
  unfold aval at hl KC
  go_upto_region 2 with (first
    | (refine wpList_load_mid rfl 41 _ rfl w.heap.size 0 rfl (aN A).toList _ r0 Tryz.underlying41 rfl (infoAd _) ?_; simp only [Array.toArray_toList])
    | (go_at_call 39; refine KC.out.mono ?_; rintro e w1 ⟨p, q, rfl, ha, b1⟩; have HA := Lib.hid ha; have one := ha.ones; have HB1 := Lib.hid (HB.out.trans (b1.mono HB.out.size)); have F01 := Lib.hid (stay b1 F0.out); have F11 := Lib.hid (stay b1 F1.out); have FN := Lib.hid (heap_alloc_new w1 (.cells (acs noneAV).toArray 69)); clear ha b1)
    | (refine wpList_alloc_row rfl 69 rfl _ zeroAcc ?_)
    | (refine wpList_store_row rfl 69 _ _ rfl w1.heap.size _ (acs ⟨y.a, p, q⟩).toArray rfl rfl FN.out (by simpa using infoAcs _) (by simp [acs_len]) one ?_))
  clear hl KC r0
  have bq : Below w1.heap.size w1 ((w1.alloc (.cells (acs noneAV).toArray 69)).setRow w1.heap.size (acs ⟨y.a, p, q⟩).toArray) := below_setRow ((Below.refl _ _).alloc (Nat.le_refl _) _) (Nat.le_refl _) _
  have F6 := Lib.hid (blk_row FN.out (c' := (acs ⟨y.a, p, q⟩).toArray))
  have F02 := Lib.hid (stay bq F01.out)
  have F12 := Lib.hid (stay bq F11.out)
  have HB2 := Lib.hid (HB1.out.trans (bq.mono HB1.out.size))
  have HW := Lib.hid bq.block
  have hsz : W.heap.size ≤ w1.heap.size := by
    have := (Array.getElem?_eq_some_iff.1 F11.out).1
    omega
  clear FN bq F01 F11 HB1 one
  obtain ⟨w2, h2⟩ : ∃ w2, (w1.alloc (.cells (acs noneAV).toArray 69)).setRow w1.heap.size (acs ⟨y.a, p, q⟩).toArray = w2 := ⟨_, rfl⟩
  rw [h2] at F6 F02 F12 HB2 HW ⊢
  clear h2
  generalize hxb : w1.heap.size = xb at *
  have r0 := adblk F02.out
  have hst := store_ad F6.out A
  go_upto_region 3 with (refine wpList_load_mid rfl 41 _ rfl w.heap.size 0 rfl (aN A).toList _ r0 Tryz.underlying41 rfl (infoAd _) ?_; simp only [Array.toArray_toList])
  have bq : Below w.heap.size w (w2.setRow xb (acs (reAd ⟨y.a, p, q⟩ A)).toArray) := below_setRow HB2.out (by omega) _
  have hne : xb ≠ w.heap.size + 1 := fun e => by omega
  have F7 := Lib.hid (blk_row F6.out (c' := (acs (reAd ⟨y.a, p, q⟩ A)).toArray))
  have F13 : Hid ((w2.setRow xb (acs (reAd ⟨y.a, p, q⟩ A)).toArray).heap[w.heap.size + 1]? = some (.cells (acs noneAV).toArray 69)) := Lib.hid ((setRow_other _ _ _ _ (Ne.symm hne)).trans F12.out)
  have HB3 := Lib.hid bq
  have HW3 : Hid (∀ b, b < xb → (w2.setRow xb (acs (reAd ⟨y.a, p, q⟩ A)).toArray).heap[b]? = w1.heap[b]?) := Lib.hid fun b hb => (setRow_other _ _ _ _ (by omega)).trans (HW.out b hb)
  clear F6 F02 F12 HB2 HW bq hst r0
  obtain ⟨w3, h3⟩ : ∃ w3, w2.setRow xb (acs (reAd ⟨y.a, p, q⟩ A)).toArray = w3 := ⟨_, rfl⟩
  rw [h3] at F7 F13 HB3 HW3 ⊢
  clear h3
  have hz0 : AccZ (fr w.heap.size (w3.setRow (w.heap.size + 1) (acs (reAd ⟨y.a, p, q⟩ A)).toArray)) ⟨y.a, p, q⟩ := HA.out.sub fun b o ho => by
    unfold fr at ho ⊢
    split at ho
    · rename_i hn
      have hlt := (Array.getElem?_eq_some_iff.1 ho).1
      rw [if_pos (by omega)]
      rw [setRow_other _ _ _ _ (by omega), HW3.out b (by omega)]
      exact ho
    · cases ho
  have hbl := below_setRow HB3.out (show w.heap.size ≤ w.heap.size + 1 by omega) (acs (reAd ⟨y.a, p, q⟩ A)).toArray
  have HZ := Lib.hid ((reAdZ hz0 hA).sub (orH_in (HZ0.out.trans (hp_below hbl)) (fr_sub _ _)))
  have one := HZ.out.ones
  have rx := (rng_block F7.out).at
  clear hz0 HA HW3 hxb hsz hbl
  go_wp2_with (first
    | (refine wpList_load_mid rfl 69 _ rfl xb 0 rfl (acs (reAd ⟨y.a, p, q⟩ A)) _ rx Tryz.underlying69 rfl (infoAcs _) ?_)
    | (refine wpList_store_row rfl 69 _ _ rfl (w.heap.size + 1) _ (acs (reAd ⟨y.a, p, q⟩ A)).toArray rfl rfl F13.out (by simpa using infoAcs _) (by simp [acs_len]) one ?_))
  refine bodyPost_ret (v := .tuple #[.agg (acs (reAd ⟨y.a, p, q⟩ A)).toArray, .bool true]) (results_cs rfl _ _ _ 69 _ (0, 0) _ (.bool true) rfl (blk_row F13.out) Tryz.underlying69 rfl (by simpa using infoAcs _) rfl) rfl ?_
  exact ⟨_, rfl, HYA.out, HZ.out, hA, below_setRow HB3.out (by omega) _⟩
end Go.Proofs.YtnjeoeekidnffaaGreat
/- Stage 14: what a world answers, whoever it is: the deferred closure finds nothing to recover. -/
namespace Go.Proofs.YtnjeoeekidnffaaGreat
open Go.RowKit SmWord Go.Maps
set_option maxRecDepth 100000

theorem catch_idle (p q : Option Addr) (w : World) :
    CallsD Tryz.prog 132 #[.pointer p, .pointer q] .returning w fun e u' w' => e = .returned (.tuple #[]) ∧ u' = .returning ∧ w' = w := by
  refine callsD_of_wpS Tryz.func132 rfl fun c₀ cs hu => ?_
  apply wpS_seq
  apply wpS_region
  simp [wpOpsS, go_sem, recoverD, hu, Tryz.ntmps132, Exit.thenS]
  refine wpS_cond (t := false) (by simp [Act.eval, Array.replicate]) ?_
  simp only [Bool.false_eq_true, if_false]
  refine wpS_of_wp (wp_skip ?_)
  cases c₀
  simp_all [bodyPostS, results, Tryz.results132]
theorem results_cc {P : Program} {fn : Func} {p u : Tmp} {ty uy : TypeId} (h : fn.results = #[.cell p ty, .cell u uy]) (tmps : Array Value) (w : World) (g g2 : Nat) (t : TypeId) (cs : Array Value) (fr : Nat × Nat) (d : TypeDesc) (v : Value)
    (hp : tmps.getD p undef = .pointer (some ⟨g, 0, none⟩)) (hg : w.heap[g]? = some (.cells cs t fr))
    (hu : P.underlying ty = some d) (hd : (match d with | .struct _ | .array _ _ => true | _ => false) = true) (hi : (P.info? ty).map (·.size) = some cs.size)
    (hq : tmps.getD u undef = .pointer (some ⟨g2, 0, none⟩)) (hl : (loadVar uy ⟨g2, 0, none⟩).run P w = .ok v w) :
    (results fn tmps).run P w = .ok (.tuple #[.agg cs, v]) w := by
  have hp' : tmps[p]?.getD undef = .pointer (some ⟨g, 0, none⟩) := by simpa using hp
  have hq' : tmps[u]?.getD undef = .pointer (some ⟨g2, 0, none⟩) := by simpa using hq
  simp only [results, h]
  simp [Sem.run_bind, Result.andThen, hp', hq', asAddr, run_loadVar_row w g t ty cs fr d hg hu hd hi, hl]
theorem load_bool {w : World} {b : Nat} {x : Bool} (h : w.cell? ⟨b, 0, none⟩ = some (.bool x)) : (loadVar 4 ⟨b, 0, none⟩).run Tryz.prog w = .ok (.bool x) w := by
  simp [loadVar, go_sem, h]
set_option maxHeartbeats 2000000 in
theorem answer_list (Z0 : Hp) (T : TypeId) (v : Value) (A : Nat) (a : Acc) (k : Bool) (w : World)
    (HM : Hid (∀ w', Below w.heap.size w w' → Calls Tryz.prog 175 #[v, .agg (aN A)] w' (WorIs Z0 w' A a k)))
    (oa : ∀ w, (nilAhead (Tryz.prog.types.size + Made.depth) T v "Account").run Tryz.prog w = .ok (some false) w)
    (om : ∀ w, (method (Tryz.prog.types.size + Made.depth) T v "Account").run Tryz.prog w = .ok (175, v) w) :
    Calls Tryz.prog 112 #[.iface T v, .agg (aN A)] w (WorIs Z0 w A a k) := by
  have hmf : ∀ (fn : Fn) (first cap : Array Value) (w : World), (Instr.makeFunc fn first cap).run Tryz.prog w = .ok (.func fn first cap) w := fun _ _ _ _ => rfl
  have hs : ∀ x, (acs x).toArray.size = 27 := fun x => by simp [acs_len]
  have hsN := aN_size A
  go_enter_defers Tryz.func112, Tryz.ntmps112
  have f0 : (((w.alloc (.cells (aN A) 41)).alloc (.cells (acs noneAV).toArray 69)).alloc (.cells #[.bool false] 4)).heap[w.heap.size]? = some (.cells (aN A) 41) := blk_alloc (blk_alloc (heap_alloc_new _ _))
  have f1 : (((w.alloc (.cells (aN A) 41)).alloc (.cells (acs noneAV).toArray 69)).alloc (.cells #[.bool false] 4)).heap[w.heap.size + 1]? = some (.cells (acs noneAV).toArray 69) := blk_alloc (heap_alloc2_new _ _ _)
  have f2 : (((w.alloc (.cells (aN A) 41)).alloc (.cells (acs noneAV).toArray 69)).alloc (.cells #[.bool false] 4)).heap[w.heap.size + 1 + 1]? = some (.cells #[.bool false] 4) := by
    have := heap_alloc_new ((w.alloc (.cells (aN A) 41)).alloc (.cells (acs noneAV).toArray 69)) (.cells #[.bool false] 4)
    simpa using this
  have bW : Below w.heap.size w (((w.alloc (.cells (aN A) 41)).alloc (.cells (acs noneAV).toArray 69)).alloc (.cells #[.bool false] 4)) := (((Below.refl _ _).alloc (Nat.le_refl _) _).alloc (by simp) _).alloc (by simp; omega) _
  obtain ⟨W, hW⟩ : ∃ W, ((w.alloc (.cells (aN A) 41)).alloc (.cells (acs noneAV).toArray 69)).alloc (.cells #[.bool false] 4) = W := ⟨_, rfl⟩
  rw [hW] at f0 f1 f2 bW
  have sW : W.heap.size = w.heap.size + 3 := by rw [← hW]; simp
  have HB := Lib.hid bW
  have F1 := Lib.hid f1
  have F2 := Lib.hid f2
  have r0 := adblk f0
  clear f0 f1 f2 bW
  have KM := Lib.hid (HM.out W HB.out)
  clear HM
  go_upto_region 1 with (refine wpList_alloc_row rfl 69 rfl _ zeroAcc ?_)
  clear hW
  go_upto_region 2 with fail
  have hfu : Tryz.prog.types.size + Made.depth = 332 := by kernel_rfl
  have oa' := oa W
  have om' := om W
  rw [hfu] at oa' om'
  clear oa om hfu
  go_wp2_with (first
    | (refine wpList_load_mid rfl 41 _ rfl w.heap.size 0 rfl (aN A).toList _ r0 Tryz.underlying41 rfl (infoAd _) ?_; simp only [Array.toArray_toList])
    | (go_at_call 175; refine KM.out.mono ?_; rintro e w1 ⟨x, rfl, hxa, hxz, hA, b1⟩; have one := hxz.ones; have F11 := Lib.hid (stay b1 F1.out); have f22 := (setRow_other w1 (w.heap.size + 1) (w.heap.size + 1 + 1) (acs x).toArray (by omega)).trans (stay b1 F2.out); have c2 := blk_cell f22 (show (#[Value.bool false] : Array Value)[0]? = some (.bool false) from rfl); have fz2 := blk_frozen (j := 0) f22; have F22 := Lib.hid f22; have HXZ := Lib.hid hxz; have HXA := Lib.hid hxa; have HB1 := Lib.hid (HB.out.trans (b1.mono HB.out.size)); unfold aval; clear hxz hxa b1 f22)
    | (refine wpList_store_row rfl 69 _ _ rfl (w.heap.size + 1) _ (acs x).toArray rfl rfl F11.out (by simpa using infoAcs _) (by simp [acs_len]) one ?_))
  refine leaves_cons (f := 132) (args := #[.pointer (some ⟨w.heap.size + 1, 0, none⟩), .pointer (some ⟨w.heap.size + 1 + 1, 0, none⟩)]) (by simp) (by simp [go_sem]) ?_
  refine (catch_idle _ _ _).mono ?_
  rintro e u' w'' ⟨rfl, rfl, rfl⟩
  have f1 : ((w1.setRow (w.heap.size + 1) (acs x).toArray).setCell ⟨w.heap.size + 1 + 1, 0, none⟩ (.bool k)).heap[w.heap.size + 1]? = some (.cells (acs x).toArray 69) := blk_other (blk_row F11.out) (by omega) _
  have c3 : ((w1.setRow (w.heap.size + 1) (acs x).toArray).setCell ⟨w.heap.size + 1 + 1, 0, none⟩ (.bool k)).cell? ⟨w.heap.size + 1 + 1, 0, none⟩ = some (.bool k) := blk_cell (blk_set F22.out (j := 0) _) rfl
  refine ⟨_, results_cc rfl _ _ (w.heap.size + 1) (w.heap.size + 1 + 1) 69 _ (0, 0) _ (.bool k) rfl f1 Tryz.underlying69 rfl (by simpa using infoAcs _) rfl (load_bool c3), x, rfl, HXA.out, ?_, hA, (below_setRow HB1.out (by omega) _).setCell (by simp; omega) _⟩
  refine HXZ.out.sub fun b o ho => ?_
  unfold orH at ho ⊢
  cases hz : Z0 b with
  | some o1 => rw [hz] at ho; exact ho
  | none =>
    rw [hz] at ho
    unfold fr at ho ⊢
    simp only [Option.none_or] at ho ⊢
    split at ho
    · rw [if_pos (by omega), Below.heap_setCell _ _ _ _ (by show b ≠ w.heap.size + 1 + 1; omega), setRow_other _ _ _ _ (by omega)]
      exact ho
    · cases ho
theorem list_ahead (m : Value) (w : World) : (nilAhead (Tryz.prog.types.size + Made.depth) 90 m "Account").run Tryz.prog w = .ok (some false) w := by kernel_rfl
theorem list_method (b : Nat) (w : World) : (method (Tryz.prog.types.size + Made.depth) 90 (.map (some b)) "Account").run Tryz.prog w = .ok (175, .map (some b)) w := by kernel_rfl
end Go.Proofs.YtnjeoeekidnffaaGreat
/- Stage 14: slots put in their order: of none. -/
namespace Go.Proofs.YtnjeoeekidnffaaGreat
open Go.RowKit SmWord Go.Maps
set_option maxRecDepth 100000

theorem ins_none (A : Option Addr) (c : Nat) (v : Value) (w : World) : Calls Tryz.prog 143 #[.slice A 0 c, .int .i64 0, .int .i64 0, v] w fun e w' => e = .returned (.tuple #[]) ∧ Below w.heap.size w w' := by
  go_enter Tryz.func143, Tryz.ntmps143
  go_wp2_with fail
  go_loopw [8] (fun i wr => i = .int .i64 1 ∧ wr = w) (fun _ _ => 0)
  case atStart => exact ⟨rfl, rfl⟩
  case round =>
    obtain ⟨rfl, rfl⟩ := hrel
    go_wp2_with fail
    exact bodyPost_end (results_none rfl _ _ _) rfl ⟨rfl, Below.refl _ _⟩
theorem stable_none (A : Option Addr) (c : Nat) (v : Value) (w : World) : Calls Tryz.prog 141 #[.slice A 0 c, .int .i64 0, v] w fun e w' => e = .returned (.tuple #[]) ∧ Below w.heap.size w w' := by
  have K := Lib.hid fun w => ins_none A c v w
  go_enter Tryz.func141, Tryz.ntmps141
  go_wp2_with fail
  go_loopw [7, 8] (fun a b wr => a = .int .i64 0 ∧ b = .int .i64 20 ∧ wr = w) (fun _ _ _ => 0)
  case atStart => exact ⟨rfl, rfl, rfl⟩
  case round =>
    obtain ⟨rfl, rfl, rfl⟩ := hrel
    go_wp2_with (go_at_call 143; refine (K.out _).mono ?_; rintro e w1 ⟨rfl, b1⟩)
    go_loopw [6] (fun a wr => a = .int .i64 20 ∧ w1 = wr) (fun _ _ => 0)
    case atStart => exact ⟨rfl, rfl⟩
    case round =>
      obtain ⟨rfl, rfl⟩ := hrel
      go_wp2_with fail
      exact bodyPost_end (results_none rfl _ _ _) rfl ⟨rfl, b1⟩
theorem sortSt_none (A : Option Addr) (c : Nat) (v : Value) (w : World) : Calls Tryz.prog 127 #[.slice A 0 c, v] w fun e w' => e = .returned (.tuple #[]) ∧ Below w.heap.size w w' := by
  have K := Lib.hid fun w => stable_none A c v w
  go_enter Tryz.func127, Tryz.ntmps127
  go_wp2_with (go_at_call 141; refine (K.out _).mono ?_; rintro e w1 ⟨rfl, b1⟩)
  exact bodyPost_end (results_none rfl _ _ _) rfl ⟨rfl, b1⟩
theorem compact_none (A : Option Addr) (c : Nat) (v : Value) (w : World) : Calls Tryz.prog 128 #[.slice A 0 c, v] w fun e w' => e = .returned (.slice A 0 c) ∧ Below w.heap.size w w' := by
  go_enter Tryz.func128, Tryz.ntmps128
  go_wp2_with fail
  go_ret
  exact ⟨rfl, Below.refl _ _⟩
theorem index_none (A : Option Addr) (c : Nat) (v : Value) (w : World) : Calls Tryz.prog 142 #[.slice A 0 c, v] w fun e w' => e = .returned (.int .i64 (-1)) ∧ Below w.heap.size w w' := by
  go_enter Tryz.func142, Tryz.ntmps142
  go_wp2_with fail
  go_loopw [8] (fun i wr => i = .int .i64 0 ∧ wr = w) (fun _ _ => 0)
  case atStart => exact ⟨rfl, rfl⟩
  case round =>
    obtain ⟨rfl, rfl⟩ := hrel
    go_wp2_with fail
    go_ret
    exact ⟨rfl, Below.refl _ _⟩
theorem delFn_none (A : Option Addr) (c : Nat) (v : Value) (w : World) : Calls Tryz.prog 130 #[.slice A 0 c, v] w fun e w' => e = .returned (.slice A 0 c) ∧ Below w.heap.size w w' := by
  have K := Lib.hid fun w => index_none A c v w
  go_enter Tryz.func130, Tryz.ntmps130
  go_wp2_with (go_at_call 142; refine (K.out _).mono ?_; rintro e w1 ⟨rfl, b1⟩)
  go_ret
  exact ⟨rfl, b1⟩
theorem rising_none (A : Option Addr) (c : Nat) (w : World) : Calls Tryz.prog 111 #[.slice A 0 c] w fun e w' => e = .returned (.slice A 0 c) ∧ Below w.heap.size w w' := by
  have K1 := Lib.hid fun v w => sortSt_none A c v w
  have K2 := Lib.hid fun v w => compact_none A c v w
  have K3 := Lib.hid fun v w => delFn_none A c v w
  go_enter Tryz.func111, Tryz.ntmps111
  go_wp2_with (first
    | (go_at_call 127; refine (K1.out _ _).mono ?_; rintro e w1 ⟨rfl, b1⟩)
    | (go_at_call 128; refine (K2.out _ _).mono ?_; rintro e w2 ⟨rfl, b2⟩)
    | (go_at_call 130; refine (K3.out _ _).mono ?_; rintro e w3 ⟨rfl, b3⟩))
  go_ret
  exact ⟨rfl, (b1.trans (b2.mono b1.size)).trans (b3.mono (Nat.le_trans b1.size b2.size))⟩
end Go.Proofs.YtnjeoeekidnffaaGreat
