/- What the functions part and behindLengths of package modexp do. -/
import Derived.Test.YtihefgpicnhdjaaDoorG7
import Derived.Test.YtihefgpicnhdjaaDoorG8
import Derived.Laws.ResultCell
namespace Go.Proofs.YtihefgpicnhdjaaDoor
open Go.RowKit SmWord
set_option maxRecDepth 100000

theorem Tryd.sizeB : (Tryd.prog.info? 5).map (·.size) = some 1 := by kernel_rfl
/-- Bytes are copied. -/
theorem copy_b {ops : Array Oper} {rest : List Oper} {o : Oper} {a : Act} {w : World} {Q : Exit → Act → World → Prop} (hg : o.guard = none) (d s : Operand)
    (ho : o.op = .call { callee := .builtin .copy, args := #[d, s], argTypes := #[22, 22] }) (g D m c dc k : Nat) (t : TypeId) (b off : Nat) (hd : a.eval d = .slice (some ⟨g, 0, none⟩) D dc) (hs : a.eval s = .slice (some ⟨b, off, none⟩) m c) (hk : k = Nat.min m D) (Z F : Nat → Nat)
    (hsl : ∀ i, i < m → w.cell? ⟨b, off + i, none⟩ = some (.int .u8 ((F i : Nat) : Int))) (hb : w.heap[g]? = some (.cells (arr .u8 D fun i => ((Z i : Nat) : Int)) t))
    (h : ∀ w', w'.heap[g]? = some (.cells (arr .u8 D fun i => (((if i < k then F i else Z i) : Nat) : Int)) t) → Below g w w' → wpList Tryd.prog ops Q rest (a.put o.dst (goInt k)) w') : wpList Tryd.prog ops Q (o :: rest) a w := by
  have hl : ((List.range k).map fun i => Value.int .u8 ((F i : Nat) : Int)).length = k := by simp
  have hkm : k ≤ m := by rw [hk]; exact Nat.min_le_left _ _
  have hkD : k ≤ D := by rw [hk]; exact Nat.min_le_right _ _
  refine wpList_copy_splice hg d s 22 22 ho 5 Tryd.underlying22 Tryd.sizeB _ _ _ _ _ _ hd hs g 0 (arr .u8 D fun i => ((Z i : Nat) : Int)).toList t (by simpa using hb) ((List.range k).map fun i => Value.int .u8 ((F i : Nat) : Int))
    (by rw [hl]; exact hk) (fun h0 => ⟨rfl, ⟨_, rfl, fun i v hv => ?_⟩⟩) (by rw [hl, Array.length_toList, arr_size]; omega) (fun v hv => ?_) g w (Below.refl _ _) (Nat.le_refl _) (fun w' hh hbel => ?_)
  · have hi : i < k := by have := (List.getElem?_eq_some_iff.1 hv).1; simpa using this
    rw [List.getElem?_map, List.getElem?_range hi] at hv
    cases hv
    rw [Addr.add_mid]
    exact hsl i (by omega)
  · simp at hv
    obtain ⟨i, _, rfl⟩ := hv
    rfl
  · rw [hl]
    refine h w' ?_ hbel
    rw [hh.out]
    congr 2
    apply Array.ext_getElem?
    intro i
    unfold splice
    rw [hl, List.take_zero, List.nil_append, Nat.zero_add, List.getElem?_toArray]
    by_cases hi : i < D
    · rw [arr_get _ _ hi]
      by_cases l : i < k
      · rw [List.getElem?_append_left (by rw [hl]; exact l), List.getElem?_map, List.getElem?_range l, if_pos l]
        rfl
      · rw [List.getElem?_append_right (by rw [hl]; omega), hl, List.getElem?_drop, show k + (i - k) = i by omega, Array.getElem?_toList, arr_get _ _ hi, if_neg l]
    · rw [List.getElem?_eq_none (by rw [List.length_append, hl, List.length_drop, Array.length_toList, arr_size]; omega), Array.getElem?_eq_none (by rw [arr_size]; omega)]

/-- What is read of bytes, with noughts behind. -/
def pf (f : Nat → Nat) (n at' i : Nat) : Nat := if at' + i < n then f (at' + i) else 0
theorem retB_row {w w' : World} {g m : Nat} {F : Nat → Nat} {t : TypeId} (h : w'.heap[g]? = some (.cells (arr .u8 m fun i => ((F i : Nat) : Int)) t)) (hF : ∀ i, i < m → F i < 256) (hb : Below w.heap.size w w') : RetB m F w (.returned (.slice (some ⟨g, 0, none⟩) m m)) w' :=
  ⟨_, _, rfl, Nat.le_refl _, (fun e => by cases e), ⟨hF, fun _ => ⟨g, 0, rfl, (Array.getElem?_eq_some_iff.1 h).1, fun i hi => by rw [Nat.zero_add]; exact blk_cell h (arr_get .u8 _ hi)⟩⟩, hb⟩
set_option maxHeartbeats 1000000 in
theorem part_walk (A : Option Addr) (n c at' m : Nat) (f : Nat → Nat) (w : World) (hn : n ≤ 100000) (hm : m ≤ 1000) (ha : at' < B) (hnc : n ≤ c) (hs : Sl w A n f) :
    Calls Tryd.prog 29 #[.slice A n c, .int .u64 (at' : Int), .int .i64 (m : Int)] w (RetB m (pf f n at') w) := by
  have hmk := Tryd.make_bytes m (by omega)
  simp only [B] at ha
  have hpf : ∀ i, i < m → pf f n at' i < 256 := fun i hi => by
    unfold pf
    split
    · exact hs.small _ (by assumption)
    · decide
  by_cases hat : at' < n
  · obtain ⟨b, off, rfl, hbl, hc⟩ := hs.cells (by omega)
    have hadd : (⟨b, off, none⟩ : Addr).add at' = ⟨b, off + at', none⟩ := by unfold Addr.add; split <;> simp_all
    have HC := Lib.hid hc
    have HP := Lib.hid hpf
    have hne : ¬ c = at' := by omega
    clear hc hs hpf
    go_enter Tryd.func29, Tryd.ntmps29
    have f0 : (w.alloc (.cells (arr .u8 m fun _ => 0) 5)).heap[w.heap.size]? = some (.cells (arr .u8 m fun i => (((fun _ => 0 : Nat → Nat) i : Nat) : Int)) 5) := heap_alloc_new _ _
    have hsrc : ∀ i, i < n - at' → (w.alloc (.cells (arr .u8 m fun _ => 0) 5)).cell? ⟨b, off + at' + i, none⟩ = some (.int .u8 (((fun i => f (at' + i)) i : Nat) : Int)) := fun i hi => by
      rw [World.cell?_alloc_past _ _ _ hbl, Nat.add_assoc]
      exact HC.out (at' + i) (by omega)
    have HSR := Lib.hid hsrc
    have F0 := Lib.hid f0
    clear hsrc f0
    go_wp2_with (refine copy_b rfl _ _ rfl w.heap.size m (n - at') (c - at') m (Nat.min (n - at') m) 5 b (off + at') rfl rfl rfl (fun _ => 0) (fun i => f (at' + i)) HSR.out F0.out ?_; intro w2 h2 b2)
    go_wp2_with fail
    go_ret
    refine retB_row (h2.trans (congrArg (fun c => some (Obj.cells c 5)) (arr_congr fun i hi => ?_))) HP.out ((Below.refl _ _).alloc (Nat.le_refl _) _ |>.trans b2)
    have e : Nat.min (n - at') m = min (n - at') m := rfl
    rw [e]
    unfold pf
    by_cases h : at' + i < n
    · rw [if_pos h, if_pos (by omega)]
    · rw [if_neg h, if_neg (by omega)]
  · have HP := Lib.hid hpf
    clear hpf hs
    go_enter Tryd.func29, Tryd.ntmps29
    go_wp2_with fail
    go_ret
    have f0 : (w.alloc (.cells (arr .u8 m fun _ => 0) 5)).heap[w.heap.size]? = some (.cells (arr .u8 m fun _ => 0) 5) := heap_alloc_new _ _
    refine retB_row (f0.trans (congrArg (fun c => some (Obj.cells c 5)) (arr_congr fun i hi => ?_))) HP.out ((Below.refl _ _).alloc (Nat.le_refl _) _)
    unfold pf
    rw [if_neg (by omega)]
    rfl
/-- What is behind the three lengths. -/
theorem behind_walk (A : Option Addr) (n c mn : Nat) (f : Nat → Nat) (w : World) (hn : n ≤ 100000) (hnc : n ≤ c) (hs : Sl w A n f) (hA : A = none → n = 0 ∧ c = 0) (hmn : min (n : Int) 96 = (mn : Int)) :
    Calls Tryd.prog 30 #[.slice A n c] w fun e w' => (∃ A' c', e = .returned (.slice A' (n - mn) c') ∧ n - mn ≤ c' ∧ Sl w A' (n - mn) (fun i => f (mn + i))) ∧ w = w' := by
  go_enter Tryd.func30, Tryd.ntmps30
  have hm1 : mn ≤ n := by omega
  have HS := Lib.hid hs
  have HA := Lib.hid hA
  clear hs hA
  go_wp2_with fail
  · go_ret
    exact ⟨⟨A, 0, rfl, by omega, fun i hi => by omega, fun h0 => by omega⟩, rfl⟩
  · go_ret
    refine ⟨⟨_, _, rfl, by omega, fun i hi => HS.out.small _ (by omega), fun h0 => ?_⟩, rfl⟩
    obtain ⟨b, off, rfl, hbl, hc⟩ := HS.out.cells (by omega)
    exact ⟨b, off + mn, by rw [Option.map_some, Addr.add_mid], hbl, fun i hi => by rw [Nat.add_assoc]; exact hc (mn + i) (by omega)⟩
end Go.Proofs.YtihefgpicnhdjaaDoor
/- What the functions lengths, noRoom and upTo of package modexp do. -/
namespace Go.Proofs.YtihefgpicnhdjaaDoor
open Go.RowKit SmWord
set_option maxRecDepth 100000

/-- Three words, one behind the other. -/
def ww (F : Nat → Nat) : Array Value := arr .u64 12 fun i => ((lb (F (i / 4)) (i % 4) : Nat) : Int)
theorem ww_size (F : Nat → Nat) : (ww F).size = 12 := arr_size _ _ _
theorem ww_get (F : Nat → Nat) {j i : Nat} (hj : j < 3) (hi : i < 4) : (ww F)[4 * j + i]? = some (.int .u64 ((lb (F j) i : Nat) : Int)) := by
  unfold ww
  rw [arr_get _ _ (by omega), show (4 * j + i) / 4 = j by omega, show (4 * j + i) % 4 = i by omega]
theorem ww_congr {F G : Nat → Nat} (h : ∀ i, i < 3 → F i = G i) : ww F = ww G := arr_congr fun i hi => by rw [h (i / 4) (by omega)]
theorem load_ww {ops : Array Oper} {rest : List Oper} {o : Oper} {a : Act} {w : World} {Q : Exit → Act → World → Prop} (hg : o.guard = none) (x : Operand) (ho : o.op = .load 55 x)
    (b off j : Nat) (hx : a.eval x = .pointer (some ⟨b, off, none⟩)) (F : Nat → Nat) (t : TypeId) (hj : j < 3) (hoff : off = 4 * j) (hb : w.heap[b]? = some (.cells (ww F) t))
    (h : wpList Tryd.prog ops Q rest (a.put o.dst (wd (F j))) w) : wpList Tryd.prog ops Q (o :: rest) a w :=
  wpList_load_mid hg 55 x ho b off hx (wa (F j)).toList _ (fun i v hv => by
    have hi : i < 4 := by have := (List.getElem?_eq_some_iff.1 hv).1; simpa [wa] using this
    rw [Array.getElem?_toList, wa_lb _ _ hi] at hv
    cases hv
    rw [hoff]
    exact blk_cell hb (ww_get F hj hi)) Tryd.underlying55 rfl (by rw [Array.length_toList, wa_size]; exact Tryd.infoWa (n := 0)) h
theorem heap_setCells (b : Nat) (t : TypeId) : ∀ (vs : List Value) (o : Nat) (w : World) (c : Array Value), w.heap[b]? = some (.cells c t) → ∃ c', (w.setCells b o vs).heap[b]? = some (.cells c' t) ∧ c'.size = c.size ∧ (∀ i, ¬ (o ≤ i ∧ i < o + vs.length) → c'[i]? = c[i]?) ∧ ∀ i, i < vs.length → o + i < c.size → c'[o + i]? = vs[i]?
  | [], o, w, c, h => ⟨c, h, rfl, fun _ _ => rfl, fun i hi _ => by simp at hi⟩
  | v :: r, o, w, c, h => by
    obtain ⟨c', h1, h2, h3, h4⟩ := heap_setCells b t r (o + 1) (w.setCell ⟨b, o, none⟩ v) (c.setIfInBounds o v) (blk_set h v)
    refine ⟨c', h1, by simpa using h2, fun i hi => ?_, fun i hi ho => ?_⟩
    · rw [h3 i (by simp at hi; omega), Array.getElem?_setIfInBounds_ne (by simp at hi; omega)]
    · cases i with
      | zero =>
        rw [h3 (o + 0) (by omega), Nat.add_zero, Array.getElem?_setIfInBounds_self_of_lt (by simpa using ho)]
        rfl
      | succ i =>
        have := h4 i (by simpa using hi) (by simp; omega)
        rw [show o + (i + 1) = o + 1 + i by omega, this]
        rfl
theorem wrote_setCells (b : Nat) : ∀ (vs : List Value) (o : Nat) (w : World), Wrote b w (w.setCells b o vs)
  | [], _, w => Wrote.refl b w
  | v :: r, o, w => (Wrote.put w v).trans (wrote_setCells b r (o + 1) _)
theorem store_ww {ops : Array Oper} {rest : List Oper} {o : Oper} {a : Act} {w : World} {Q : Exit → Act → World → Prop} (hg : o.guard = none) (x y : Operand) (ho : o.op = .store 55 x y)
    (b off j V : Nat) (hx : a.eval x = .pointer (some ⟨b, off, none⟩)) (hy : a.eval y = wd V) (F : Nat → Nat) (t : TypeId) (hj : j < 3) (hoff : off = 4 * j) (hb : w.heap[b]? = some (.cells (ww F) t))
    (h : ∀ w', w'.heap[b]? = some (.cells (ww fun i => if i = j then V else F i) t) → Wrote b w w' → wpList Tryd.prog ops Q rest (a.put o.dst undef) w') : wpList Tryd.prog ops Q (o :: rest) a w := by
  refine wpList_store_mid hg 55 x y ho b off (wa V) hx hy (fun i hi => ?_) Tryd.infoWa wa_one (h _ ?_ (wrote_setCells b _ _ _))
  · rw [wa_size] at hi
    rw [hoff]
    exact ⟨by rw [blk_cell hb (ww_get F hj hi)]; rfl, blk_frozen hb⟩
  · obtain ⟨c', h1, h2, h3, h4⟩ := heap_setCells b t (wa V).toList off w (ww F) hb
    rw [h1]
    congr 2
    rw [ww_size] at h2
    apply Array.ext_getElem?
    intro i
    have hl : (wa V).toList.length = 4 := by rw [Array.length_toList, wa_size]
    by_cases hi : i < 12
    · obtain ⟨q, r, rfl, hr⟩ : ∃ q r, i = 4 * q + r ∧ r < 4 := ⟨i / 4, i % 4, by omega, by omega⟩
      rw [ww_get _ (by omega) hr]
      by_cases e : q = j
      · subst e
        have := h4 r (by omega) (by rw [ww_size]; omega)
        rw [hoff] at this
        rw [this, if_pos rfl, Array.getElem?_toList, wa_lb _ _ hr]
      · rw [h3 _ (by omega), ww_get F (by omega) hr, if_neg e]
    · rw [Array.getElem?_eq_none (by omega), Array.getElem?_eq_none (by rw [ww_size]; omega)]
/-- Three noughts. -/
def zX : Array Value := ww (fun _ => 0)
theorem zX_eq : zX = #[Value.int .u64 0, Value.int .u64 0, Value.int .u64 0, Value.int .u64 0, Value.int .u64 0, Value.int .u64 0, Value.int .u64 0, Value.int .u64 0, Value.int .u64 0, Value.int .u64 0, Value.int .u64 0, Value.int .u64 0] := rfl
theorem infoX (F : Nat → Nat) : (Tryd.prog.info? 56).map (·.size) = some (ww F).size := by rw [ww_size]; kernel_rfl
set_option maxHeartbeats 4000000 in
theorem lengths_core (A : Option Addr) (n c : Nat) (f : Nat → Nat) (w : World) (V : Nat → Nat) (hn : n ≤ 100000) (hnc : n ≤ c) (hs : Sl w A n f)
    (HF : Hid (∀ i w A' c', Sl w A' 32 (pf f n (32 * i)) → Calls Tryd.prog 33 #[.slice A' 32 c'] w fun e w' => e = .returned (wd (V i)) ∧ Below w.heap.size w w')) :
    Calls Tryd.prog 26 #[.slice A n c] w fun e w' => e = .returned (.agg (ww V)) ∧ Below w.heap.size w w' := by
  have HS := Lib.hid hs
  have HN := Lib.hid hn
  have HC := Lib.hid hnc
  clear hs hn hnc
  go_enter Tryd.func26, Tryd.ntmps26
  go_upto_region 2 with fail
  rw [← zX_eq]
  have hb : Below w.heap.size w ((w.alloc (.cells zX 56)).alloc (.cells zX 56)) := ((Below.refl _ _).alloc (Nat.le_refl _) _).alloc (by simp) _
  have f0 : ((w.alloc (.cells zX 56)).alloc (.cells zX 56)).heap[w.heap.size]? = some (.cells zX 56) := blk_alloc (heap_alloc_new _ _)
  have f1 : ((w.alloc (.cells zX 56)).alloc (.cells zX 56)).heap[w.heap.size + 1]? = some (.cells zX 56) := blk_fresh _ (by simp)
  generalize ((w.alloc (.cells zX 56)).alloc (.cells zX 56)) = W at *
  go_wp2_with fail
  go_loopw [5] (fun i wr => ∃ j : Nat, j ≤ 3 ∧ i = .int .i64 (j : Int) ∧ Hid (Below w.heap.size w wr) ∧ Hid (wr.heap[w.heap.size]? = some (.cells zX 56)) ∧ Hid (wr.heap[w.heap.size + 1]? = some (.cells (ww fun x => if x < j then V x else 0) 56))) (fun i _ => 3 - (intOf i).toNat)
  case atStart => exact ⟨0, by omega, rfl, Lib.hid hb, Lib.hid f0, Lib.hid f1⟩
  case round =>
    clear hb f0 f1
    obtain ⟨j, hj, rfl, hb, f0, f1⟩ := hrel
    by_cases hlt : j < 3
    · have hp := part_walk A n c (32 * j) 32 f wr HN.out (by decide) (by simp only [B]; omega) HC.out (HS.out.below hb.out)
      obtain ⟨q, hq⟩ : ∃ q, q = 32 * j := ⟨_, rfl⟩
      rw [← hq] at hp
      have HP : Hid (Calls Tryd.prog 29 #[.slice A n c, .int .u64 (q : Int), .int .i64 32] wr (RetB 32 (pf f n q) wr)) := Lib.hid hp
      have e1 : 32 * (j : Int) = (q : Int) := by omega
      have w1 : IntKind.u64.wrap (q : Int) = (q : Int) := by rw [IntKind.wrap_u64]; omega
      have w2 : IntKind.i64.wrap (q : Int) = (q : Int) := by rw [IntKind.wrap_i64]; omega
      have HQ := Lib.hid hq
      clear hp hq
      go_wp2_with fail
      refine (HP.out).mono ?_
      rintro _ w1 ⟨A1, c1, rfl, _, _, hs1, b1⟩
      have f0' := Lib.hid (Below.stays b1 f0.out)
      have f1' := Lib.hid (Below.stays b1 f1.out)
      have hb' := Lib.hid (hb.out.trans (b1.mono hb.out.size))
      have HFq := Lib.hid (HF.out j w1 A1 c1 (by rw [← HQ.out]; exact hs1))
      clear b1 hs1 f0 f1 hb
      go_wp2_with fail
      refine (HFq.out).mono ?_
      rintro _ w3 ⟨rfl, b1⟩
      have f0 := Lib.hid (Below.stays b1 f0'.out)
      have f1 := Lib.hid (Below.stays b1 f1'.out)
      have hb := Lib.hid (hb'.out.trans (b1.mono hb'.out.size))
      clear b1 f0' f1' hb'
      go_upto_region 6 with (refine store_ww rfl _ _ rfl (w.heap.size + 1) _ j (V j) rfl rfl _ _ hlt (by omega) f1.out ?_; intro w4 h4 hw4)
      simp only [Act.put]
      have en : ww (fun i => if i = j then V j else if i < j then V i else 0) = ww (fun i => if i < j + 1 then V i else 0) := ww_congr fun i _ => by
        by_cases e : i = j
        · rw [if_pos e, if_pos (by omega), e]
        · rw [if_neg e]
          by_cases g : i < j
          · rw [if_pos g, if_pos (by omega)]
          · rw [if_neg g, if_neg (by omega)]
      rw [en] at h4
      have H4 := Lib.hid h4
      have F0 := Lib.hid (hw4.other f0.out (by omega))
      have HB := Lib.hid (hb.out.trans (hw4.below (Nat.le_succ _) hb.out.size))
      clear h4 hw4 f0 f1 hb en
      go_wp2_with fail
      exact ⟨⟨j + 1, by omega, by go_num, HB, F0, H4⟩, by simp only [intOf]; omega⟩
    · obtain rfl : j = 3 := by omega
      have f1' : wr.heap[w.heap.size + 1]? = some (.cells (ww V) 56) := f1.out.trans (congrArg (fun c => some (Obj.cells c 56)) (ww_congr fun i hi => by rw [if_pos hi]))
      have f0' := f0.out
      clear f0 f1
      go_wp2_with (first | (refine wpList_load_row rfl 56 _ rfl _ rfl 56 (ww V) (0, 0) _ f1' Tryd.underlying56 rfl (infoX _) ?_) | (refine wpList_store_row rfl 56 _ _ rfl _ zX (ww V) rfl rfl f0' (infoX _) rfl (arr_one _ _ _) ?_))
      refine bodyPost_ret (v := .agg (ww V)) (results_cell_row rfl _ _ _ 56 (ww V) (0, 0) _ rfl (blk_row f0') Tryd.underlying56 rfl (infoX _)) rfl ⟨rfl, below_setRow hb.out (Nat.le_refl _) _⟩
theorem lengths_walk (A : Option Addr) (n c : Nat) (f : Nat → Nat) (w : World) (hn : n ≤ 100000) (hnc : n ≤ c) (hs : Sl w A n f) :
    Calls Tryd.prog 26 #[.slice A n c] w fun e w' => e = .returned (.agg (ww fun i => bvl (pf f n (32 * i)) 32)) ∧ Below w.heap.size w w' :=
  lengths_core A n c f w _ hn hnc hs (Lib.hid fun i w A' c' h => by
    rw [bvl_val]
    exact from_wd A' 32 c' 32 _ w (by decide) (by decide) h)

set_option maxHeartbeats 4000000 in
theorem noRoom_walk (V : Nat → Nat) (R : Nat) (w : World) (HO : Hid (∀ w, Calls Tryd.prog 54 #[wd (V 0), wd (V 2)] w fun e w' => e = .returned (wd R) ∧ Below w.heap.size w w')) :
    Calls Tryd.prog 27 #[.agg (ww V)] w fun e w' => e = .returned (.bool (decide (R % M = 0))) ∧ Below w.heap.size w w' := by
  go_enter Tryd.func27, Tryd.ntmps27
  go_upto_region 1 with fail
  have hb : Below w.heap.size w (w.alloc (.cells (ww V) 56)) := ((Below.refl _ _).alloc (Nat.le_refl _) _)
  have f0 : (w.alloc (.cells (ww V) 56)).heap[w.heap.size]? = some (.cells (ww V) 56) := heap_alloc_new _ _
  generalize (w.alloc (.cells (ww V) 56)) = W at *
  go_wp2_with (first | (refine load_ww rfl _ rfl w.heap.size _ 0 rfl V _ (by decide) rfl f0 ?_) | (refine load_ww rfl _ rfl w.heap.size _ 2 rfl V _ (by decide) rfl f0 ?_))
  refine (HO.out _).mono ?_
  rintro _ w1 ⟨rfl, b1⟩
  have HB := Lib.hid (hb.trans (b1.mono hb.size))
  have he : ∀ w : World, (Op.equalIn 10000 55 (.agg (wa R)) (.agg #[.int .u64 0, .int .u64 0, .int .u64 0, .int .u64 0])).run Tryd.prog w = .ok (decide (R % M = 0)) w := fun w => by
    have := equal_wa R 0 w
    rwa [Nat.zero_mod] at this
  clear hb b1 f0 HO
  go_wp2_with fail
  go_ret
  exact ⟨rfl, HB.out⟩
end Go.Proofs.YtihefgpicnhdjaaDoor
/- What the function upTo of package modexp does. -/
namespace Go.Proofs.YtihefgpicnhdjaaDoor
open Go.RowKit SmWord
set_option maxRecDepth 100000

theorem results_cs {P : Program} {fn : Func} {p u : Tmp} {ty : TypeId} (h : fn.results = #[.cell p ty, .tmp u]) (tmps : Array Value) (w : World) (g : Nat) (t : TypeId) (cs : Array Value) (fr : Nat × Nat) (d : TypeDesc) (v : Value)
    (hp : tmps.getD p undef = .pointer (some ⟨g, 0, none⟩)) (hg : w.heap[g]? = some (.cells cs t fr))
    (hu : P.underlying ty = some d) (hd : (match d with | .struct _ | .array _ _ => true | _ => false) = true) (hi : (P.info? ty).map (·.size) = some cs.size) (hv : tmps.getD u undef = v) :
    (results fn tmps).run P w = .ok (.tuple #[.agg cs, v]) w := by
  have hp' : tmps[p]?.getD undef = .pointer (some ⟨g, 0, none⟩) := by simpa using hp
  have hv' : tmps[u]?.getD undef = v := by simpa using hv
  rw [results_cell_tmp h]
  simp [hp', asAddr, run_loadVar_row w g t ty cs fr d hg hu hd hi, hv']
theorem index_ww (V : Nat → Nat) {k : Nat} (hk : k < 3) (w : World) : (Instr.index 56 (.agg (ww V)) (.int .i64 (k : Int))).run Tryd.prog w = .ok (wd (V k)) w := by
  have hn : (0 : Int) ≤ (k : Int) ∧ (k : Int) < ((3 : Nat) : Int) := by omega
  simp [Instr.index, run_underlying Tryd.underlying56, asIntOf, hn, go_sem, hk]
  apply Array.ext_getElem?
  intro i
  rw [Array.getElem?_extract]
  by_cases hi : i < 4
  · have e := ww_get V hk hi
    rw [Nat.mul_comm] at e
    rw [wa_lb _ _ hi, if_pos (by rw [ww_size]; omega), e]
  · rw [if_neg (by rw [ww_size]; omega), Array.getElem?_eq_none (by rw [wa_size]; omega)]
/-- Three noughts of 64 bits. -/
def zY3 : Array Value := ua 3 (fun _ => 0)
theorem zY3_eq : zY3 = #[Value.int .u64 0, .int .u64 0, .int .u64 0] := rfl
theorem infoY3 (F : Nat → Nat) : (Tryd.prog.info? 59).map (·.size) = some (ua 3 F).size := by rw [ua_size]; kernel_rfl
set_option maxHeartbeats 4000000 in
theorem upTo_core (V L : Nat → Nat) (S : Nat → Bool) (m : Nat) (w : World)
    (HS : Hid (∀ i w, Calls Tryd.prog 55 #[wd (V i)] w fun e w' => e = .returned (.tuple #[.int .u64 (if S i then ((L i : Nat) : Int) else 0), .bool (S i)]) ∧ Below w.heap.size w w')) (ok : Bool) (hO : Hid (ok = true ↔ ∀ i, i < 3 → S i = true ∧ L i ≤ m)) :
    Calls Tryd.prog 28 #[.agg (ww V), .int .u64 (m : Int)] w fun e w' => e = .returned (.tuple #[.agg (if ok then ua 3 L else zY3), .bool ok]) ∧ Below w.heap.size w w' := by
  go_enter Tryd.func28, Tryd.ntmps28
  go_upto_region 2 with fail
  rw [← zY3_eq]
  have hb : Below w.heap.size w (((w.alloc (.cells (ww V) 56)).alloc (.cells zY3 59)).alloc (.cells zY3 59)) := (((Below.refl _ _).alloc (Nat.le_refl _) _).alloc (by simp) _).alloc (by simp; omega) _
  have f0 : (((w.alloc (.cells (ww V) 56)).alloc (.cells zY3 59)).alloc (.cells zY3 59)).heap[w.heap.size]? = some (.cells (ww V) 56) := blk_alloc (blk_alloc (heap_alloc_new _ _))
  have f1 : (((w.alloc (.cells (ww V) 56)).alloc (.cells zY3 59)).alloc (.cells zY3 59)).heap[w.heap.size + 1]? = some (.cells zY3 59) := blk_alloc (blk_fresh _ (by simp))
  have f2 : (((w.alloc (.cells (ww V) 56)).alloc (.cells zY3 59)).alloc (.cells zY3 59)).heap[w.heap.size + 1 + 1]? = some (.cells zY3 59) := blk_fresh _ (by simp)
  generalize (((w.alloc (.cells (ww V) 56)).alloc (.cells zY3 59)).alloc (.cells zY3 59)) = W at *
  go_wp2_with (refine wpList_load_row rfl 56 _ rfl _ rfl 56 (ww V) (0, 0) _ f0 Tryd.underlying56 rfl (infoX _) ?_)
  go_loopw [12] (fun i wr => ∃ j : Nat, j ≤ 3 ∧ i = .int .i64 (j : Int) ∧ Hid (∀ x, x < j → S x = true ∧ L x ≤ m) ∧ Hid (Below w.heap.size w wr) ∧ Hid (wr.heap[w.heap.size + 1]? = some (.cells zY3 59)) ∧ Hid (wr.heap[w.heap.size + 1 + 1]? = some (.cells (ua 3 fun x => if x < j then L x else 0) 59))) (fun i _ => 3 - (intOf i).toNat)
  case atStart => exact ⟨0, by omega, rfl, Lib.hid (fun x hx => by omega), Lib.hid hb, Lib.hid f1, Lib.hid f2⟩
  case round =>
    have hsz : w.heap.size + 1 + 1 < W.heap.size := (Array.getElem?_eq_some_iff.1 f2).1
    clear hb f0 f1 f2
    obtain ⟨j, hj, rfl, hok, hb, f1, f2⟩ := hrel
    by_cases hlt : j < 3
    · have hix := fun w => index_ww V hlt w
      have hjn : (j : Int) < 3 := by omega
      have hz := z4_wa
      have hs := store_new0
      have hsw := wa_size
      go_upto_region 5 with fail
      clear hz hs hsw hix
      have fa : (wr.alloc (.cells (wa (V j)) 55)).heap[wr.heap.size]? = some (.cells (wa (V j)) 55) := heap_alloc_new _ _
      have f1' := Lib.hid (blk_alloc (o' := .cells (wa (V j)) 55) f1.out)
      have f2' := Lib.hid (blk_alloc (o' := .cells (wa (V j)) 55) f2.out)
      have hb' := Lib.hid (hb.out.alloc (o := .cells (wa (V j)) 55) hb.out.size)
      clear f1 f2 hb
      generalize wr.alloc (.cells (wa (V j)) 55) = w1 at *
      go_wp2_with (refine wpList_load_row rfl 55 _ rfl _ rfl 55 _ (0, 0) _ (by assumption) Tryd.underlying55 rfl Tryd.infoWa ?_)
      refine (HS.out j _).mono ?_
      rintro _ w2 ⟨rfl, b1⟩
      have f1 := Lib.hid (Below.stays b1 f1'.out)
      have f2 := Lib.hid (Below.stays b1 f2'.out)
      have hb := Lib.hid (hb'.out.trans (b1.mono hb'.out.size))
      clear f1' f2' hb' b1 fa
      by_cases hS : S j = true
      · rw [hS, if_pos rfl]
        by_cases hm : L j ≤ m
        · have c2 := blk_cell f2.out (ua_get (fun x => if x < j then L x else 0) hlt)
          rw [if_neg (Nat.lt_irrefl _)] at c2
          have c3 := blk_frozen (j := j) f2.out
          have hc : decide ((m : Int) < (L j : Int)) = false := by simp; omega
          have HM := Lib.hid hm
          have HSj := Lib.hid hS
          clear hS hc
          go_wp2_with fail
          refine ⟨⟨j + 1, by omega, by go_num, Lib.hid fun x hx => ?_, Lib.hid (hb.out.setCell (by simp; omega) _), Lib.hid (blk_other f1.out (by omega) _), Lib.hid ((blk_set f2.out _).trans ?_)⟩, by simp only [intOf]; omega⟩
          · by_cases e : x = j
            · subst e; exact ⟨HSj.out, HM.out⟩
            · exact hok.out x (by omega)
          · rw [ua_set _ _ hlt]
            exact congrArg (fun c => some (Obj.cells c 59)) (ua_congr fun i _ => by
              by_cases e : i = j
              · rw [if_pos e, if_pos (by omega), e]
              · rw [if_neg e]
                by_cases g : i < j
                · rw [if_pos g, if_pos (by omega)]
                · rw [if_neg g, if_neg (by omega)])
        · have hc : decide ((m : Int) < (L j : Int)) = true := by simp; omega
          have hoknot : ok = false := by
            cases hk : ok with
            | false => rfl
            | true => exact absurd (hO.out.1 hk j hlt).2 hm
          subst hoknot
          have f1' := f1.out
          clear hc
          go_wp2_with (refine wpList_store_row rfl 59 _ _ rfl _ zY3 zY3 rfl rfl f1' (infoY3 _) rfl (arr_one _ _ _) ?_)
          refine bodyPost_ret (v := .tuple #[.agg zY3, .bool false]) (results_cs rfl _ _ _ 59 zY3 (0, 0) _ _ rfl (blk_row f1') Tryd.underlying59 rfl (infoY3 _) rfl) rfl ⟨rfl, below_setRow hb.out (by omega) _⟩
      · have hSf : S j = false := by simpa using hS
        rw [hSf, if_neg (by decide)]
        have hoknot : ok = false := by
          cases hk : ok with
          | false => rfl
          | true => exact absurd (hO.out.1 hk j hlt).1 hS
        subst hoknot
        have f1' := f1.out
        clear hS hSf
        go_wp2_with (refine wpList_store_row rfl 59 _ _ rfl _ zY3 zY3 rfl rfl f1' (infoY3 _) rfl (arr_one _ _ _) ?_)
        refine bodyPost_ret (v := .tuple #[.agg zY3, .bool false]) (results_cs rfl _ _ _ 59 zY3 (0, 0) _ _ rfl (blk_row f1') Tryd.underlying59 rfl (infoY3 _) rfl) rfl ⟨rfl, below_setRow hb.out (by omega) _⟩
    · obtain rfl : j = 3 := by omega
      have hoky : ok = true := hO.out.2 hok.out
      subst hoky
      have f1' := f1.out
      have f2' : wr.heap[w.heap.size + 1 + 1]? = some (.cells (ua 3 L) 59) := f2.out.trans (congrArg (fun c => some (Obj.cells c 59)) (ua_congr fun i hi => by rw [if_pos hi]))
      clear f1 f2
      go_wp2_with (first | (refine wpList_load_row rfl 59 _ rfl _ rfl 59 (ua 3 L) (0, 0) _ f2' Tryd.underlying59 rfl (infoY3 _) ?_) | (refine wpList_store_row rfl 59 _ _ rfl _ zY3 (ua 3 L) rfl rfl f1' (infoY3 _) rfl (arr_one _ _ _) ?_))
      refine bodyPost_ret (v := .tuple #[.agg (ua 3 L), .bool true]) (results_cs rfl _ _ _ 59 (ua 3 L) (0, 0) _ _ rfl (blk_row f1') Tryd.underlying59 rfl (infoY3 _) rfl) rfl ⟨rfl, below_setRow hb.out (by omega) _⟩
/-- Three numbers of 64 bits, each at most m; else noughts, and no. -/
def okL (V : Nat → Nat) (m : Nat) : Bool := decide (V 0 ≤ m ∧ V 1 ≤ m ∧ V 2 ≤ m)
theorem okL_iff (V : Nat → Nat) (m : Nat) : okL V m = true ↔ ∀ i, i < 3 → V i ≤ m := by
  unfold okL
  rw [decide_eq_true_iff]
  constructor
  · rintro ⟨h0, h1, h2⟩ i hi
    have : i = 0 ∨ i = 1 ∨ i = 2 := by omega
    rcases this with rfl | rfl | rfl
    · exact h0
    · exact h1
    · exact h2
  · exact fun h => ⟨h 0 (by omega), h 1 (by omega), h 2 (by omega)⟩
theorem upTo_walk (V : Nat → Nat) (m : Nat) (w : World) (hV : ∀ i, V i < M) (hm : m < B) :
    Calls Tryd.prog 28 #[.agg (ww V), .int .u64 (m : Int)] w fun e w' => e = .returned (.tuple #[.agg (if okL V m then ua 3 V else zY3), .bool (okL V m)]) ∧ Below w.heap.size w w' := by
  have h := upTo_core V (fun i => l0 (V i)) (fun i => smallB (V i)) m w (Lib.hid fun i w => small_wd (V i) w) (okL V m) (Lib.hid ?_)
  · refine h.mono fun e w' ⟨h1, h2⟩ => ⟨?_, h2⟩
    rw [h1]
    congr 4
    cases hk : okL V m with
    | false => rfl
    | true =>
      have := (okL_iff V m).1 hk
      rw [if_pos rfl, if_pos rfl]
      exact congrArg Value.agg (ua_congr fun i hi => Nat.mod_eq_of_lt (Nat.lt_of_le_of_lt (this i hi) hm))
  · rw [okL_iff]
    refine forall_congr' fun i => forall_congr' fun _ => ?_
    have hl : l0 (V i) < M := Nat.lt_of_lt_of_le (l_lt _).1 (by decide)
    unfold smallB
    rw [decide_eq_true_iff, Nat.mod_eq_of_lt (hV i), Nat.mod_eq_of_lt hl]
    constructor
    · intro h
      have : V i < B := Nat.lt_of_le_of_lt h hm
      exact ⟨(Nat.mod_eq_of_lt this).symm, by show V i % B ≤ m; rw [Nat.mod_eq_of_lt this]; exact h⟩
    · intro ⟨h1, h2⟩
      rw [h1]; exact h2
end Go.Proofs.YtihefgpicnhdjaaDoor
/- What the functions price and Gas of package modexp do. -/
namespace Go.Proofs.YtihefgpicnhdjaaDoor
open Go.RowKit SmWord
set_option maxRecDepth 100000

set_option maxHeartbeats 4000000 in
theorem price_core (X S C E7 E E2 T Q R g G : Nat) (ok zs : Bool) (w : World)
    (H1 : Hid (∀ w, Calls Tryd.prog 31 #[.int .u64 7] w fun e w' => e = .returned (wd 7) ∧ Below w.heap.size w w'))
    (H2 : Hid (∀ w, Calls Tryd.prog 34 #[wd X, wd 7] w fun e w' => e = .returned (wd E7) ∧ Below w.heap.size w w'))
    (H3 : Hid (∀ w, Calls Tryd.prog 58 #[wd E7, .int .u64 3] w fun e w' => e = .returned (wd E) ∧ Below w.heap.size w w'))
    (hz : Hid (∀ w : World, (Op.equalIn 10000 55 (.agg (wa S)) (.agg #[.int .u64 0, .int .u64 0, .int .u64 0, .int .u64 0])).run Tryd.prog w = .ok zs w))
    (hC1 : Hid (zs = true → C = 1)) (hC0 : Hid (zs = false → C = S))
    (H4 : Hid (∀ w, Calls Tryd.prog 31 #[.int .u64 1] w fun e w' => e = .returned (wd 1) ∧ Below w.heap.size w w'))
    (H5 : Hid (∀ w, Calls Tryd.prog 59 #[wd E, wd E] w fun e w' => e = .returned (wd E2) ∧ Below w.heap.size w w'))
    (H6 : Hid (∀ w, Calls Tryd.prog 59 #[wd E2, wd C] w fun e w' => e = .returned (wd T) ∧ Below w.heap.size w w'))
    (H7 : Hid (∀ w, Calls Tryd.prog 31 #[.int .u64 3] w fun e w' => e = .returned (wd 3) ∧ Below w.heap.size w w'))
    (H8 : Hid (∀ w, Calls Tryd.prog 60 #[wd T, wd 3] w fun e w' => e = .returned (.tuple #[wd Q, wd R]) ∧ Below w.heap.size w w'))
    (H9 : Hid (∀ w, Calls Tryd.prog 55 #[wd Q] w fun e w' => e = .returned (.tuple #[.int .u64 (g : Int), .bool ok]) ∧ Below w.heap.size w w'))
    (hGt : Hid (ok = true → max (g : Int) 200 = (G : Int))) (hGf : Hid (ok = false → 18446744073709551615 = (G : Int))) :
    Calls Tryd.prog 36 #[wd X, wd S] w fun e w' => e = .returned (.int .u64 (G : Int)) ∧ Below w.heap.size w w' := by
  go_enter Tryd.func36, Tryd.ntmps36
  go_upto_region 1 with fail
  have f2 : ((w.alloc (.cells (wa X) 55)).alloc (.cells (wa S) 55)).heap[w.heap.size]? = some (.cells (wa X) 55) := blk_alloc (heap_alloc_new _ _)
  have f3 : ((w.alloc (.cells (wa X) 55)).alloc (.cells (wa S) 55)).heap[w.heap.size + 1]? = some (.cells (wa S) 55) := blk_fresh _ (by simp)
  have bW : Below w.heap.size w ((w.alloc (.cells (wa X) 55)).alloc (.cells (wa S) 55)) := ((Below.refl _ _).alloc (Nat.le_refl _) _).alloc (by simp) _
  have sW1 : w.heap.size + 1 < ((w.alloc (.cells (wa X) 55)).alloc (.cells (wa S) 55)).heap.size := (Array.getElem?_eq_some_iff.1 f3).1
  generalize ((w.alloc (.cells (wa X) 55)).alloc (.cells (wa S) 55)) = W at *
  refine region_mk1 (aQ := ?aQ) 4 ⟨4, 5, 55, 5, 14, #[.int .u64 0, .int .u64 0, .int .u64 0, .int .u64 0], wa E⟩ (by kernel_rfl) (by kernel_rfl) (fun w1 => ?hq) ?hok ?hh
  case hq =>
    simp only [List.take_succ_cons, List.take_zero]
    repeat (first | (go_big_quiet_want; refine quiet_load_row 55 _ rfl _ (wa X) rfl (fun w2 hw2 => by obtain ⟨g, rfl⟩ := hw2; exact g.block (w1.block f2)) Tryd.underlying55 Tryd.infoWa ?_; simp only [Act.put, List.setIfInBounds_toArray, List.set_cons_succ, List.set_cons_zero]; go_big_quiet_on) | go_big_quiet_step (first | (go_at_call 31; exact calls_ext (H1.out _)) | (go_at_call 34; exact calls_ext (H2.out _)) | (go_at_call 58; exact calls_ext (H3.out _))))
    refine wpQuiet_nil ?_
    rfl
  case hok => exact ⟨Tryd.zeroValue55, Tryd.infoW, rfl, by simp [wa, Value.oneCell'], by simp, rfl⟩
  case hh =>
    intro b5 w4 b1 lb5 f5
    simp only [Act.put, List.setIfInBounds_toArray, List.set_cons_succ, List.set_cons_zero]
    replace f3 := Below.stays b1 f3
    have sW := (Array.getElem?_eq_some_iff.1 f2).1
    replace bW := bW.trans (b1.mono bW.size)
    clear b1 f2
    replace f5 : w4.heap[b5]? = some (.cells (wa E) 55) := f5
    have lb5' : w.heap.size + 1 < b5 := Nat.lt_of_lt_of_le sW1 lb5
    clear lb5 sW sW1
    have hzz := hz.out
    go_upto_if 17 with (refine wpList_load_row rfl 55 _ rfl _ rfl 55 _ (0, 0) _ (by assumption) Tryd.underlying55 rfl Tryd.infoWa ?_)
    clear hzz
    go_cut [] (fun wx => Hid (wx.heap[w.heap.size + 1]? = some (.cells (wa C) 55)) ∧ Hid (wx.heap[b5]? = some (.cells (wa E) 55)) ∧ Hid (Below w.heap.size w wx))
    case first =>
      cases zs with
      | true =>
        have hCt := hC1.out rfl
        clear hC1 hC0
        have f3' := Lib.hid f3
        go_wp2_with fail
        refine (H4.out _).mono ?_
        rintro _ w5 ⟨rfl, b1⟩
        replace f3 := Below.stays b1 f3
        replace f5 := Below.stays b1 f5
        replace bW := bW.trans (b1.mono bW.size)
        clear b1 f3'
        go_wp2_with (refine wpList_store_row rfl 55 _ _ rfl _ _ (wa 1) rfl rfl f3 Tryd.infoWa rfl wa_one ?_)
        go_meet
        rw [hCt]
        exact ⟨Lib.hid (blk_row f3), Lib.hid (blk_row_other f5 (by omega)), Lib.hid (below_setRow bW (by omega) _)⟩
      | false =>
        have hCf := hC0.out rfl
        clear hC1 hC0
        go_wp2_with fail
        go_meet
        rw [hCf]
        exact ⟨Lib.hid f3, Lib.hid f5, Lib.hid bW⟩
    case rest =>
      clear f3 f5 bW
      obtain ⟨f3, f5, bW⟩ := hcut
      go_upto_region 4 with fail
      have f5' := f5.out
      have f3' := f3.out
      refine region_mk1 (aQ := ?aQ2) 5 ⟨5, 6, 55, 6, 23, #[.int .u64 0, .int .u64 0, .int .u64 0, .int .u64 0], wa T⟩ (by kernel_rfl) (by kernel_rfl) (fun w1 => ?hq) ?hok ?hh
      case hq =>
        simp only [List.take_succ_cons, List.take_zero]
        repeat (first | (go_big_quiet_want; refine quiet_load_row 55 _ rfl _ (wa E) rfl (fun w2 hw2 => by obtain ⟨g, rfl⟩ := hw2; exact g.block (w1.block f5')) Tryd.underlying55 Tryd.infoWa ?_; simp only [Act.put, List.setIfInBounds_toArray, List.set_cons_succ, List.set_cons_zero]; go_big_quiet_on) | (go_big_quiet_want; refine quiet_load_row 55 _ rfl _ (wa C) rfl (fun w2 hw2 => by obtain ⟨g, rfl⟩ := hw2; exact g.block (w1.block f3')) Tryd.underlying55 Tryd.infoWa ?_; simp only [Act.put, List.setIfInBounds_toArray, List.set_cons_succ, List.set_cons_zero]; go_big_quiet_on) | go_big_quiet_step (first | (go_at_call 59; with_reducible exact calls_ext (H5.out _)) | (go_at_call 59; with_reducible exact calls_ext (H6.out _))))
        refine wpQuiet_nil ?_
        rfl
      case hok => exact ⟨Tryd.zeroValue55, Tryd.infoW, rfl, by simp [wa, Value.oneCell'], by simp, rfl⟩
      case hh =>
        intro b6 w5 b1 lb6 f6
        simp only [Act.put, List.setIfInBounds_toArray, List.set_cons_succ, List.set_cons_zero]
        replace f6 : w5.heap[b6]? = some (.cells (wa T) 55) := f6
        have bW2 := bW.out.trans (b1.mono bW.out.size)
        clear b1 f5' f3' f5 f3 bW
        go_upto_region 5 with fail
        refine region_mk2 (aQ := ?aQ3) 6 ⟨6, 8, 55, 7, 28, #[.int .u64 0, .int .u64 0, .int .u64 0, .int .u64 0], wa Q⟩ ⟨7, 9, 55, 8, 29, #[.int .u64 0, .int .u64 0, .int .u64 0, .int .u64 0], wa R⟩ (by kernel_rfl) (by kernel_rfl) (by show (6 : Nat) ≠ 7; decide) (fun w1 => ?hq) ?hok1 ?hok2 ?hh
        case hq =>
          simp only [List.take_succ_cons, List.take_zero]
          repeat (first | (go_big_quiet_want; refine quiet_load_row 55 _ rfl _ (wa T) rfl (fun w2 hw2 => by obtain ⟨g, rfl⟩ := hw2; exact g.block (w1.block f6)) Tryd.underlying55 Tryd.infoWa ?_; simp only [Act.put, List.setIfInBounds_toArray, List.set_cons_succ, List.set_cons_zero]; go_big_quiet_on) | go_big_quiet_step (first | (go_at_call 31; exact calls_ext (H7.out _)) | (go_at_call 60; exact calls_ext (H8.out _))))
          refine wpQuiet_nil ?_
          rfl
        case hok1 => exact ⟨Tryd.zeroValue55, Tryd.infoW, rfl, by simp [wa, Value.oneCell'], by simp, rfl⟩
        case hok2 => exact ⟨Tryd.zeroValue55, Tryd.infoW, rfl, by simp [wa, Value.oneCell'], by simp, rfl⟩
        case hh =>
          intro b7 b8 w6 b1 lb7 lb8 hne f7 f8
          simp only [Act.put, List.setIfInBounds_toArray, List.set_cons_succ, List.set_cons_zero]
          replace f7 : w6.heap[b7]? = some (.cells (wa Q) 55) := f7
          have bW3 := bW2.trans (b1.mono bW2.size)
          clear b1 f6 f8 bW2 hne lb8 lb7
          go_wp2_with (refine wpList_load_row rfl 55 _ rfl _ rfl 55 _ (0, 0) _ (by assumption) Tryd.underlying55 rfl Tryd.infoWa ?_)
          refine (H9.out _).mono ?_
          rintro _ w7 ⟨rfl, b1⟩
          have HW := Lib.hid (bW3.trans (b1.mono bW3.size))
          clear b1 bW3 f7
          cases ok with
          | true =>
            have hmx := hGt.out rfl
            clear hGt hGf
            go_wp2_with fail
            go_ret
            exact ⟨rfl, HW.out⟩
          | false =>
            have hmx := hGf.out rfl
            have HX := Lib.hid hmx
            clear hGt hGf hmx
            go_wp2_with fail
            go_ret
            exact ⟨by rw [← HX.out]; rfl, HW.out⟩

/-- The gas of so many steps with numbers of that length. -/
def mg (X S : Nat) : Nat := if (X + 7) / 8 * ((X + 7) / 8) * (if S = 0 then 1 else S) / 3 < B then max ((X + 7) / 8 * ((X + 7) / 8) * (if S = 0 then 1 else S) / 3) 200 else 18446744073709551615
theorem smallB_iff {Q : Nat} (h : Q < M) : smallB Q = true ↔ Q < B := by
  unfold smallB
  have hl : l0 Q < M := Nat.lt_of_lt_of_le (l_lt _).1 (by decide)
  rw [decide_eq_true_iff, Nat.mod_eq_of_lt h, Nat.mod_eq_of_lt hl]
  constructor
  · intro e
    rw [e]; exact (l_lt _).1
  · intro e
    exact (Nat.mod_eq_of_lt e).symm
theorem price_walk (X S : Nat) (w : World) (hX : X < B) (hS : S < B * 256) :
    Calls Tryd.prog 36 #[wd X, wd S] w fun e w' => e = .returned (.int .u64 ((mg X S : Nat) : Int)) ∧ Below w.heap.size w w' := by
  have hMB : M = B * B * B * B := M_eq
  have hE : (X + 7) / 8 < B := by simp only [B] at *; omega
  have hE2 : (X + 7) / 8 * ((X + 7) / 8) < B * B := Nat.mul_lt_mul'' hE hE
  have hC : (if S = 0 then 1 else S) < B * 256 := by split <;> simp only [B] at * <;> omega
  have hT : (X + 7) / 8 * ((X + 7) / 8) * (if S = 0 then 1 else S) < B * B * (B * 256) := Nat.mul_lt_mul'' hE2 hC
  have hTM : B * B * (B * 256) ≤ M := by decide
  have hEM : B ≤ M := by decide
  have hBB : B * B ≤ M := by decide
  have hSM : B * 256 ≤ M := by decide
  generalize hCe : (if S = 0 then 1 else S) = C at *
  have hQ : (X + 7) / 8 * ((X + 7) / 8) * C / 3 < M := Nat.lt_of_le_of_lt (Nat.div_le_self _ _) (by omega)
  have h3 : (3 : Nat) % M = 3 := by decide
  refine price_core X S C (X + 7) ((X + 7) / 8) ((X + 7) / 8 * ((X + 7) / 8)) ((X + 7) / 8 * ((X + 7) / 8) * C) ((X + 7) / 8 * ((X + 7) / 8) * C / 3) (rs ((X + 7) / 8 * ((X + 7) / 8) * C) 3) (if smallB ((X + 7) / 8 * ((X + 7) / 8) * C / 3) then (l0 ((X + 7) / 8 * ((X + 7) / 8) * C / 3)) else 0) (mg X S) (smallB ((X + 7) / 8 * ((X + 7) / 8) * C / 3)) (decide (S = 0)) w
    (Lib.hid fun w => of_wd 7 w (by decide)) (Lib.hid fun w => add_wd X 7 w) (Lib.hid fun w => ?_) (Lib.hid fun w => ?_) (Lib.hid fun h => ?_) (Lib.hid fun h => ?_) (Lib.hid fun w => of_wd 1 w (by decide)) (Lib.hid fun w => mul_wd _ _ w) (Lib.hid fun w => mul_wd _ _ w) (Lib.hid fun w => of_wd 3 w (by decide)) (Lib.hid fun w => ?_) (Lib.hid fun w => ?_) (Lib.hid fun h => ?_) (Lib.hid fun h => ?_)
  · have := shr_wd (X + 7) 3 (by decide) w
    have hX7 : X + 7 < M := Nat.lt_of_lt_of_le (show X + 7 < B * 256 by simp only [B] at *; omega) hSM
    rw [Nat.mod_eq_of_lt hX7] at this
    exact this
  · have := equal_wa S 0 w
    rw [Nat.zero_mod, Nat.mod_eq_of_lt (by omega)] at this
    exact this
  · rw [← hCe, if_pos (of_decide_eq_true h)]
  · rw [← hCe, if_neg (of_decide_eq_false h)]
  · have := div_wd ((X + 7) / 8 * ((X + 7) / 8) * C) 3 w
    rw [h3, Nat.mod_eq_of_lt (show (X + 7) / 8 * ((X + 7) / 8) * C < M by omega)] at this
    exact this
  · have := small_wd ((X + 7) / 8 * ((X + 7) / 8) * C / 3) w
    refine this.mono fun e w' ⟨h1, h2⟩ => ⟨?_, h2⟩
    rw [h1]
    congr 4
    split <;> rfl
  · rw [h, if_pos rfl]
    have hb := (smallB_iff hQ).1 h
    have : mg X S = max (l0 ((X + 7) / 8 * ((X + 7) / 8) * C / 3)) 200 := by
      unfold mg
      rw [hCe, if_pos hb]
      congr 1
      exact (Nat.mod_eq_of_lt hb).symm
    rw [this]
    omega
  · have hb : ¬ (X + 7) / 8 * ((X + 7) / 8) * C / 3 < B := fun hh => by rw [(smallB_iff hQ).2 hh] at h; cases h
    have : mg X S = 18446744073709551615 := by
      unfold mg
      rw [hCe, if_neg hb]
    rw [this]
    rfl
end Go.Proofs.YtihefgpicnhdjaaDoor
/- What the function Gas of package modexp does. -/
namespace Go.Proofs.YtihefgpicnhdjaaDoor
open Go.RowKit SmWord
set_option maxRecDepth 100000

theorem zX_run (w : World) : (zeroValue 56).run Tryd.prog w = .ok (.agg zX) w := by kernel_rfl
theorem zY3_run (w : World) : (zeroValue 59).run Tryd.prog w = .ok (.agg zY3) w := by kernel_rfl
set_option maxHeartbeats 4000000 in
theorem gas_core (A : Option Addr) (n c G x ex m q k h l l1' t mx S ex2 sh : Nat) (V g0 g1 : Nat → Nat) (nr ok : Bool) (w : World)
    (hx : ok = true → V 0 = x) (hex : ok = true → V 1 = ex) (hm : ok = true → V 2 = m) (hexB : ex < B)
    (HBeh : Hid (∀ w', Below w.heap.size w w' → Calls Tryd.prog 30 #[.slice A n c] w' fun e w'' => (∃ A' c', e = .returned (.slice A' q c') ∧ q ≤ c' ∧ Sl w' A' q g0) ∧ w' = w''))
    (HPart : Hid (∀ w' A' c', q ≤ c' → Sl w' A' q g0 → Calls Tryd.prog 29 #[.slice A' q c', .int .u64 (x : Int), .int .i64 (k : Int)] w' (RetB k g1 w')))
    (HFrom : Hid (∀ w' A' c', Sl w' A' k g1 → Calls Tryd.prog 33 #[.slice A' k c'] w' fun e w'' => e = .returned (wd h) ∧ Below w'.heap.size w' w''))
    (HLen : Hid (∀ w, Calls Tryd.prog 32 #[wd h] w fun e w' => e = .returned (.int .i64 (l : Int)) ∧ Below w.heap.size w w'))
    (hk : min (ex : Int) 32 = (k : Int)) (hl1 : max (l : Int) 1 = (l1' : Int)) (ht : (l1' : Int) - 1 = (t : Int)) (htl : t < 1000) (hmx : max (x : Int) (m : Int) = (mx : Int))
    (HOf : Hid (∀ w, Calls Tryd.prog 31 #[.int .u64 (t : Int)] w fun e w' => e = .returned (wd t) ∧ Below w.heap.size w w'))
    (hex2 : 32 < ex → (ex : Int) - 32 = (ex2 : Int)) (HOf2 : Hid (∀ w, Calls Tryd.prog 31 #[.int .u64 (ex2 : Int)] w fun e w' => e = .returned (wd ex2) ∧ Below w.heap.size w w'))
    (HShl : Hid (∀ w, Calls Tryd.prog 35 #[wd ex2, .int .u64 3] w fun e w' => e = .returned (wd sh) ∧ Below w.heap.size w w'))
    (HAdd : Hid (32 < ex → ∀ w, Calls Tryd.prog 34 #[wd t, wd sh] w fun e w' => e = .returned (wd S) ∧ Below w.heap.size w w'))
    (hS0 : Hid (¬ 32 < ex → S = t))
    (HOfm : Hid (∀ w, Calls Tryd.prog 31 #[.int .u64 (mx : Int)] w fun e w' => e = .returned (wd mx) ∧ Below w.heap.size w w'))
    (HPr : Hid (nr = false → ok = true → ∀ w, Calls Tryd.prog 36 #[wd mx, wd S] w fun e w' => e = .returned (.int .u64 (G : Int)) ∧ Below w.heap.size w w'))
    (HL : Hid (Calls Tryd.prog 26 #[.slice A n c] w fun e w' => e = .returned (.agg (ww V)) ∧ Below w.heap.size w w'))
    (HN : Hid (∀ w, Calls Tryd.prog 27 #[.agg (ww V)] w fun e w' => e = .returned (.bool nr) ∧ Below w.heap.size w w'))
    (HU : Hid (∀ w, Calls Tryd.prog 28 #[.agg (ww V), .int .u64 18446744073709551615] w fun e w' => e = .returned (.tuple #[.agg (if ok then ua 3 V else zY3), .bool ok]) ∧ Below w.heap.size w w'))
    (h200 : Hid (nr = true → G = 200)) (hmax : Hid (nr = false → ok = false → G = 18446744073709551615)) :
    Calls Tryd.prog 17 #[.slice A n c] w fun e w' => e = .returned (.int .u64 (G : Int)) ∧ Below w.heap.size w w' := by
  go_enter Tryd.func17, Tryd.ntmps17
  go_wp2_with fail
  refine (HL.out).mono ?_
  rintro _ w1 ⟨rfl, b1⟩
  go_upto_region 2 with (first | (refine wpList_alloc_row rfl 56 rfl zX zX_run ?_) | (refine wpList_store_row rfl 56 (.tmp 3) _ rfl _ zX (ww V) rfl rfl (heap_alloc_new _ _) (infoX _) rfl (arr_one _ _ _) ?_))
  rw [World.setRow_alloc_new]
  simp only [Act.put, List.setIfInBounds_toArray, List.set_cons_succ, List.set_cons_zero]
  have f3 : (w1.alloc (.cells (ww V) 56)).heap[w1.heap.size]? = some (.cells (ww V) 56) := heap_alloc_new _ _
  have bW : Below w.heap.size w (w1.alloc (.cells (ww V) 56)) := b1.alloc b1.size _
  clear b1 HL
  generalize w1.alloc (.cells (ww V) 56) = w2 at *
  generalize w1.heap.size = b3 at *
  go_wp2_with (refine wpList_load_row rfl 56 _ rfl _ rfl 56 (ww V) (0, 0) _ f3 Tryd.underlying56 rfl (infoX _) ?_)
  refine (HN.out _).mono ?_
  rintro _ w3 ⟨rfl, b1⟩
  replace f3 := Below.stays b1 f3
  replace bW := bW.trans (b1.mono bW.size)
  clear b1 HN
  cases nr with
  | true =>
    have hG := h200.out rfl
    clear h200 hmax f3
    have HG := Lib.hid hG
    clear hG
    go_wp2_with fail
    go_ret
    exact ⟨by rw [HG.out]; rfl, bW⟩
  | false =>
    go_wp2_with (refine wpList_load_row rfl 56 _ rfl _ rfl 56 (ww V) (0, 0) _ f3 Tryd.underlying56 rfl (infoX _) ?_)
    refine (HU.out _).mono ?_
    rintro _ w4 ⟨rfl, b1⟩
    replace bW := bW.trans (b1.mono bW.size)
    clear b1 HU f3
    cases ok with
    | false =>
      have hG := hmax.out (by first | rfl | trivial) rfl
      have HG := Lib.hid hG
      clear hG h200 hmax
      rw [if_neg (by decide)]
      go_wp2_with (first | (refine wpList_alloc_row rfl 59 rfl zY3 zY3_run ?_) | (refine wpList_store_row rfl 59 (.tmp 4) _ rfl _ zY3 zY3 rfl rfl (heap_alloc_new _ _) (infoY3 _) rfl (arr_one _ _ _) ?_))
      rw [World.setRow_alloc_new]
      go_ret
      exact ⟨by rw [HG.out]; rfl, bW.alloc bW.size _⟩
    | true =>
      rw [if_pos rfl]
      go_upto_region 5 with (first | (refine wpList_alloc_row rfl 59 rfl zY3 zY3_run ?_) | (refine wpList_store_row rfl 59 (.tmp 4) _ rfl _ zY3 (ua 3 V) rfl rfl (heap_alloc_new _ _) (infoY3 _) rfl (arr_one _ _ _) ?_))
      rw [World.setRow_alloc_new]
      have f4 : (w4.alloc (.cells (ua 3 V) 59)).heap[w4.heap.size]? = some (.cells (ua 3 V) 59) := heap_alloc_new _ _
      replace bW : Below w.heap.size w (w4.alloc (.cells (ua 3 V) 59)) := bW.alloc bW.size _
      generalize w4.alloc (.cells (ua 3 V) 59) = w5 at *
      generalize w4.heap.size = b4 at *
      have c0 := blk_cell f4 (ua_get V (show 0 < 3 by omega))
      have c1 := blk_cell f4 (ua_get V (show 1 < 3 by omega))
      have c2 := blk_cell f4 (ua_get V (show 2 < 3 by omega))
      clear f4 h200 hmax
      rw [hx (by first | rfl | trivial)] at c0
      rw [hex (by first | rfl | trivial)] at c1
      rw [hm (by first | rfl | trivial)] at c2
      clear hx hex hm
      go_wp2_with fail
      go_region
      go_wp2_with fail
      refine (HBeh.out _ bW.drew).mono ?_
      rintro _ w6 ⟨⟨A1, k1, rfl, hqc, hs1⟩, rfl⟩
      have HP := Lib.hid (HPart.out _ A1 k1 hqc hs1)
      have BW := Lib.hid bW.drew
      clear HBeh HPart hs1 hqc bW c0 c1 c2
      generalize w5.drew = w6 at *
      have hk2 : k ≤ 32 := by omega
      have wk : IntKind.i64.wrap (k : Int) = (k : Int) := by rw [IntKind.wrap_i64]; omega
      simp only [B] at hexB
      go_wp2_with fail
      refine (HP.out).mono ?_
      rintro _ w7 ⟨A2, k2, rfl, _, _, hs2, b1⟩
      have HF := Lib.hid (HFrom.out _ A2 k2 hs2)
      have BW2 := Lib.hid (BW.out.trans (b1.mono BW.out.size))
      clear HP HFrom hs2 b1 BW
      go_wp2_with fail
      refine (HF.out).mono ?_
      rintro _ w8 ⟨rfl, b1⟩
      have BW := Lib.hid (BW2.out.trans (b1.mono BW2.out.size))
      clear HF b1 BW2
      go_wp2_with fail
      refine (HLen.out _).mono ?_
      rintro _ w9 ⟨rfl, b1⟩
      have BW2 := Lib.hid (BW.out.trans (b1.mono BW.out.size))
      clear HLen b1 BW
      go_wp2_with fail
      refine (HOf.out _).mono ?_
      rintro _ w10 ⟨rfl, b1⟩
      have BW := Lib.hid (BW2.out.trans (b1.mono BW2.out.size))
      clear HOf b1 BW2
      have hz := z4_wa
      have hs := store_new0
      have hsw := wa_size
      go_upto_region 10 with fail
      clear hz hs hsw
      have f5 : (w10.alloc (.cells (wa t) 55)).heap[w10.heap.size]? = some (.cells (wa t) 55) := heap_alloc_new _ _
      have BW2 := Lib.hid (BW.out.alloc (o := .cells (wa t) 55) BW.out.size)
      have hsz : w.heap.size ≤ w10.heap.size := BW.out.size
      clear BW
      generalize w10.alloc (.cells (wa t) 55) = w11 at *
      generalize w10.heap.size = b5 at *
      go_upto_if 43 with fail
      go_cut [] (fun wx => Hid (wx.heap[b5]? = some (.cells (wa S) 55)) ∧ Hid (Below w.heap.size w wx))
      case first =>
        by_cases he : 32 < ex
        · have he2 := hex2 he
          have he2B : ex2 < 18446744073709551616 := by omega
          have HAd := Lib.hid (HAdd.out he)
          clear hex2 HAdd hS0
          go_wp2_with fail
          refine region_last (aQ := ?aQ) 6 (by kernel_rfl) (by kernel_rfl) (fun w1 => ?hq) (fun w' hb => ?hh)
          case hq =>
            simp only [List.take_succ_cons, List.take_zero]
            repeat (first | (go_big_quiet_want; refine quiet_load_row 55 _ rfl _ (wa t) rfl (fun w2 hw2 => by obtain ⟨g, rfl⟩ := hw2; exact g.block (w1.block f5)) Tryd.underlying55 Tryd.infoWa ?_; simp only [Act.put, List.setIfInBounds_toArray, List.set_cons_succ, List.set_cons_zero]; go_big_quiet_on) | go_big_quiet_step (first | (go_at_call 31; exact calls_ext (HOf2.out _)) | (go_at_call 35; exact calls_ext (HShl.out _)) | (go_at_call 34; exact calls_ext (HAd.out _))))
            refine wpQuiet_nil ?_
            rfl
          case hh =>
            have hb' : Below w11.heap.size w11 w' := hb
            replace f5 := Below.stays hb' f5
            have BW3 := BW2.out.trans (hb'.mono BW2.out.size)
            clear hb hb'
            simp only [List.drop_succ_cons, List.drop_zero]
            refine wpList_store_row rfl 55 _ _ rfl _ _ (wa S) rfl rfl f5 Tryd.infoWa rfl wa_one ?_
            refine wpList_nil ?_
            go_wp2_with fail
            go_meet
            exact ⟨Lib.hid (blk_row f5), Lib.hid (below_setRow BW3 hsz _)⟩
        · have hSt := hS0.out he
          clear hex2 HAdd hS0
          go_wp2_with fail
          go_meet
          rw [hSt]
          exact ⟨Lib.hid f5, BW2⟩
      case rest =>
        clear f5 BW2
        obtain ⟨f5, BW⟩ := hcut
        have HP2 := Lib.hid (HPr.out (by first | rfl | trivial) (by first | rfl | trivial))
        clear HPr
        go_upto_region 12 with fail
        have f5' := f5.out
        refine region_ext (by kernel_rfl) (by kernel_rfl) ?_
        repeat (first | (go_big_quiet_want; refine quiet_load_row 55 _ rfl _ (wa S) rfl (fun w2 hw2 => by obtain ⟨g, rfl⟩ := hw2; exact g.block f5') Tryd.underlying55 Tryd.infoWa ?_; simp only [Act.put, List.setIfInBounds_toArray, List.set_cons_succ, List.set_cons_zero]; go_big_quiet_on) | go_big_quiet_step (first | (go_at_call 31; exact calls_ext (HOfm.out _)) | (go_at_call 36; exact calls_ext (HP2.out _))))
        refine wpQuiet_nil ?_
        rintro _ ⟨g', rfl⟩
        go_wp2_with fail
        go_ret
        exact ⟨rfl, BW.out.trans (g'.below.mono BW.out.size)⟩

/-- The gas of an input of n bytes. -/
def gasN (f : Nat → Nat) (n : Nat) : Nat :=
  let V := fun i => bvl (pf f n (32 * i)) 32
  if V 0 = 0 ∧ V 2 = 0 then 200 else if okL V (B - 1) then
    mg (max (V 0) (V 2)) ((max (bl (bvl (pf f n (96 + V 0)) (min (V 1) 32))) 1 - 1) + (if 32 < V 1 then (V 1 - 32) * 8 else 0)) else 18446744073709551615
theorem or_zero_iff (a b : Nat) (ha : a < M) (hb : b < M) : (num (l0 a ||| l0 b) (l1 a ||| l1 b) (l2 a ||| l2 b) (l3 a ||| l3 b)) % M = 0 ↔ a = 0 ∧ b = 0 := by
  obtain ⟨A0, A1, A2, A3⟩ := l_lt a
  obtain ⟨C0, C1, C2, C3⟩ := l_lt b
  have h1 := Nat.or_lt_two_pow (n := 64) A0 C0
  have h2 := Nat.or_lt_two_pow (n := 64) A1 C1
  have h3 := Nat.or_lt_two_pow (n := 64) A2 C2
  have h4 := Nat.or_lt_two_pow (n := 64) A3 C3
  rw [Nat.mod_eq_of_lt (num_lt h1 h2 h3 h4)]
  have ea : num (l0 a) (l1 a) (l2 a) (l3 a) = a := by rw [num_parts, Nat.mod_eq_of_lt ha]
  have eb : num (l0 b) (l1 b) (l2 b) (l3 b) = b := by rw [num_parts, Nat.mod_eq_of_lt hb]
  have hor : ∀ x y : Nat, x ||| y = 0 ↔ x = 0 ∧ y = 0 := fun x y => Nat.or_eq_zero_iff
  constructor
  · intro h
    have hp := parts_num h1 h2 h3 h4
    rw [h] at hp
    have z0 := (hor (l0 a) (l0 b)).1 (hp.1.symm.trans rfl)
    have z1 := (hor (l1 a) (l1 b)).1 (hp.2.1.symm.trans rfl)
    have z2 := (hor (l2 a) (l2 b)).1 (hp.2.2.1.symm.trans rfl)
    have z3 := (hor (l3 a) (l3 b)).1 (hp.2.2.2.symm.trans rfl)
    rw [z0.1, z1.1, z2.1, z3.1] at ea
    rw [z0.2, z1.2, z2.2, z3.2] at eb
    exact ⟨ea.symm.trans rfl, eb.symm.trans rfl⟩
  · rintro ⟨rfl, rfl⟩
    rfl
theorem bvl_wordlt {f : Nat → Nat} {n : Nat} (h : ∀ i, i < n → f i < 256) (hn : n ≤ 32) : bvl f n < M := by
  refine Nat.lt_of_lt_of_le (bvl_lt h) ?_
  rw [M_256]
  exact Nat.pow_le_pow_right (by decide) hn
theorem pf_lt {f : Nat → Nat} {n : Nat} (h : ∀ i, i < n → f i < 256) (a : Nat) : ∀ i, pf f n a i < 256 := fun i => by
  unfold pf
  split
  · exact h _ (by assumption)
  · decide
set_option maxHeartbeats 1000000 in
theorem gas_walk (A : Option Addr) (n c : Nat) (f : Nat → Nat) (w : World) (hn : n ≤ 100000) (hnc : n ≤ c) (hA : A = none → n = 0 ∧ c = 0) (hs : Sl w A n f) :
    Calls Tryd.prog 17 #[.slice A n c] w fun e w' => e = .returned (.int .u64 ((gasN f n : Nat) : Int)) ∧ Below w.heap.size w w' := by
  have hp := pf_lt hs.small
  have hV : ∀ i, bvl (pf f n (32 * i)) 32 < M := fun i => bvl_wordlt (fun j _ => hp _ j) (Nat.le_refl _)
  obtain ⟨V, hVe⟩ : ∃ V, V = fun i => bvl (pf f n (32 * i)) 32 := ⟨_, rfl⟩
  have hG : gasN f n = if V 0 = 0 ∧ V 2 = 0 then 200 else if okL V (B - 1) then
    mg (max (V 0) (V 2)) ((max (bl (bvl (pf f n (96 + V 0)) (min (V 1) 32))) 1 - 1) + (if 32 < V 1 then (V 1 - 32) * 8 else 0)) else 18446744073709551615 := by rw [hVe]; rfl
  have hV' : ∀ i, V i < M := fun i => by rw [hVe]; exact hV i
  have HL := lengths_walk A n c f w hn hnc hs
  rw [← hVe] at HL
  have hbh : bvl (pf f n (96 + V 0)) (min (V 1) 32) < M := bvl_wordlt (fun j _ => hp _ j) (by omega)
  have hbl : bl (bvl (pf f n (96 + V 0)) (min (V 1) 32)) ≤ 256 := bl_le (by have := hbh; rwa [show M = 2 ^ 256 by decide] at this)
  rw [hG]
  have hgo : gasN f n = gasN f n := rfl
  by_cases hok : okL V (B - 1) = true
  · have hall := (okL_iff V (B - 1)).1 hok
    have h0 := hall 0 (by omega)
    have h1 := hall 1 (by omega)
    have h2 := hall 2 (by omega)
    have hB1 : B - 1 < B := by decide
    have hsB : ∀ t s : Nat, t ≤ 256 → s < B → t + (if 32 < V 1 then (V 1 - 32) * 8 else 0) < B * 256 := fun t s ht _ => by
      simp only [B] at *
      split <;> omega
    refine gas_core A n c _ (V 0) (V 1) (V 2) (n - min n 96) (min (V 1) 32) (bvl (pf f n (96 + V 0)) (min (V 1) 32)) (bl (bvl (pf f n (96 + V 0)) (min (V 1) 32))) (max (bl (bvl (pf f n (96 + V 0)) (min (V 1) 32))) 1) (max (bl (bvl (pf f n (96 + V 0)) (min (V 1) 32))) 1 - 1) (max (V 0) (V 2)) ((max (bl (bvl (pf f n (96 + V 0)) (min (V 1) 32))) 1 - 1) + (if 32 < V 1 then (V 1 - 32) * 8 else 0)) (V 1 - 32) ((V 1 - 32) * 8) V (fun i => f (min n 96 + i)) (pf f n (96 + V 0)) (decide (V 0 = 0 ∧ V 2 = 0)) true w (fun _ => rfl) (fun _ => rfl) (fun _ => rfl) (by omega)
      (Lib.hid fun w' hb => behind_walk A n c (min n 96) f w' hn hnc (hs.below hb) hA (by omega)) (Lib.hid fun w' A' c' hq hS => ?_) (Lib.hid fun w' A' c' hS => ?_) (Lib.hid fun w => ?_) (by omega) (by omega) (by omega) (by omega) (by omega) (Lib.hid fun w => of_wd _ w (by simp only [B] at *; omega))
      (fun h => by omega) (Lib.hid fun w => of_wd _ w (by omega)) (Lib.hid fun w => shl_wd _ 3 (by decide) w) (Lib.hid fun h w => ?_) (Lib.hid fun h => ?_) (Lib.hid fun w => of_wd _ w (by omega)) (Lib.hid fun hnr _ w => ?_) (Lib.hid HL) (Lib.hid fun w => ?_) (Lib.hid fun w => ?_) (Lib.hid fun h => ?_) (Lib.hid fun _ h => by cases h)
    · have h := part_walk A' (n - min n 96) c' (V 0) (min (V 1) 32) (fun i => f (min n 96 + i)) w' (by omega) (by omega) (by omega) hq hS
      have e : pf (fun i => f (min n 96 + i)) (n - min n 96) (V 0) = pf f n (96 + V 0) := funext fun i => by
        unfold pf
        by_cases h96 : 96 ≤ n
        · rw [show min n 96 = 96 by omega]
          by_cases hlt : 96 + V 0 + i < n
          · rw [if_pos hlt, if_pos (by omega)]
            exact congrArg f (by omega)
          · rw [if_neg hlt, if_neg (by omega)]
        · rw [if_neg (by omega), if_neg (by omega)]
      rw [e] at h
      exact h
    · rw [bvl_val]
      exact from_wd A' _ c' _ _ w' (Nat.le_trans (Nat.min_le_right _ _) (by decide)) (by omega) hS
    · have := len_wd (bvl (pf f n (96 + V 0)) (min (V 1) 32)) w
      rwa [Nat.mod_eq_of_lt hbh] at this
    · rw [if_pos h]
      exact add_wd _ _ w
    · rw [if_neg h, Nat.add_zero]
    · rw [if_neg (of_decide_eq_false hnr), if_pos hok]
      exact price_walk _ _ w (by omega) (hsB _ 0 (by omega) (by decide))
    · have := noRoom_walk V _ w (Lib.hid fun w => or_wd (V 0) (V 2) w)
      rw [show decide ((num (l0 (V 0) ||| l0 (V 2)) (l1 (V 0) ||| l1 (V 2)) (l2 (V 0) ||| l2 (V 2)) (l3 (V 0) ||| l3 (V 2))) % M = 0) = decide (V 0 = 0 ∧ V 2 = 0) from decide_eq_decide.2 (or_zero_iff _ _ (hV' 0) (hV' 2))] at this
      exact this
    · have := upTo_walk V (B - 1) w hV' hB1
      rw [hok] at this
      exact this
    · rw [if_pos (of_decide_eq_true h)]
  · have hokf : okL V (B - 1) = false := by simpa using hok
    have hB1 : B - 1 < B := by decide
    refine gas_core A n c _ 0 0 0 (n - min n 96) 0 0 0 1 0 0 0 0 0 V (fun i => f (min n 96 + i)) (pf f n 96) (decide (V 0 = 0 ∧ V 2 = 0)) false w (fun h => by cases h) (fun h => by cases h) (fun h => by cases h) (by decide)
      (Lib.hid fun w' hb => behind_walk A n c (min n 96) f w' hn hnc (hs.below hb) hA (by omega)) (Lib.hid fun w' A' c' hq hS => ?_) (Lib.hid fun w' A' c' hS => ?_) (Lib.hid fun w => ?_) (by rfl) (by rfl) (by rfl) (by decide) (by rfl) (Lib.hid fun w => of_wd _ w (by decide))
      (fun h => by omega) (Lib.hid fun w => of_wd _ w (by decide)) (Lib.hid fun w => shl_wd _ 3 (by decide) w) (Lib.hid fun h w => by omega) (Lib.hid fun h => rfl) (Lib.hid fun w => of_wd _ w (by decide)) (Lib.hid fun hnr h => by cases h) (Lib.hid HL) (Lib.hid fun w => ?_) (Lib.hid fun w => ?_) (Lib.hid fun h => ?_) (Lib.hid fun hnr _ => ?_)
    · have h := part_walk A' (n - min n 96) c' 0 0 (fun i => f (min n 96 + i)) w' (by omega) (by omega) (by omega) hq hS
      have e : pf (fun i => f (min n 96 + i)) (n - min n 96) 0 = pf f n 96 := funext fun i => by
        unfold pf
        by_cases h96 : 96 ≤ n
        · rw [show min n 96 = 96 by omega]
          by_cases hlt : 96 + i < n
          · rw [if_pos hlt, if_pos (by omega)]
            exact congrArg f (by omega)
          · rw [if_neg hlt, if_neg (by omega)]
        · rw [if_neg (by omega), if_neg (by omega)]
      rw [e] at h
      exact h
    · exact from_wd A' 0 c' 0 _ w' (by decide) (by rfl) hS
    · exact len_wd 0 w
    · have := noRoom_walk V _ w (Lib.hid fun w => or_wd (V 0) (V 2) w)
      rw [show decide ((num (l0 (V 0) ||| l0 (V 2)) (l1 (V 0) ||| l1 (V 2)) (l2 (V 0) ||| l2 (V 2)) (l3 (V 0) ||| l3 (V 2))) % M = 0) = decide (V 0 = 0 ∧ V 2 = 0) from decide_eq_decide.2 (or_zero_iff _ _ (hV' 0) (hV' 2))] at this
      exact this
    · have := upTo_walk V (B - 1) w hV' hB1
      rw [hokf] at this
      exact this
    · rw [if_pos (of_decide_eq_true h)]
    · rw [if_neg (of_decide_eq_false hnr), if_neg hok]
end Go.Proofs.YtihefgpicnhdjaaDoor
