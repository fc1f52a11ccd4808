/- What the functions Cost, from, Read and Word of package mem do. -/
import Derived.Test.YtnffelnmlloonaaG4
import Derived.Laws.CopyOwn
import Derived.Deep.RegionLaw
import Derived.Test.YtnffelnmlloonaaG3
namespace Go.Proofs.Ytnffelnmlloonaa
open Go.RowKit SmWord
set_option maxRecDepth 100000

theorem Try.make_bytes (n : Nat) (hn : n ≤ 140737488355328) (w : World) :
    (Instr.makeSlice 25 (.int .i64 (n : Int)) (.int .i64 (n : Int))).run Try.prog w = .ok (.slice (some ⟨w.heap.size, 0, none⟩) n n) (w.alloc (.cells (arr .u8 n (fun _ => 0)) 5)) := by
  have e : madeCells #[Value.int .u8 0] n = arr .u8 n (fun _ => 0) := by
    apply Array.ext
    · simp [arr_size, size_madeCells]
    · intro i h1 h2
      simp [arr, madeCells, Nat.mod_one]
  rw [← e]
  exact _root_.Go.run_make_row' 25 5 (.int .u8 0) 1 Try.underlying25 Try.info8 rfl .i64 .i64 n (by omega) (by omega) w
theorem Try.sizeB : (Try.prog.info? 5).map (·.size) = some 1 := by kernel_rfl
/-- What is read of bytes, with noughts behind. -/
def rdb (f : Nat → Nat) (n a i : Nat) : Nat := if a + i < n then f (a + i) else 0
theorem rdb_lt {f : Nat → Nat} {n : Nat} (h : ∀ i, i < n → f i < 256) (a i : Nat) : rdb f n a i < 256 := by
  unfold rdb
  split
  · exact h _ (by assumption)
  · decide
/-- A slice's bytes are copied into a new row. -/
theorem copy_new {ops : Array Oper} {rest : List Oper} {o : Oper} {a : Act} {w : World} {Q : Exit → Act → World → Prop} (hg : o.guard = none) (d s : Operand)
    (ho : o.op = .call { callee := .builtin .copy, args := #[d, s], argTypes := #[25, 25] }) (g D dc : Nat) (t : TypeId) (hd : a.eval d = .slice (some ⟨g, 0, none⟩) D dc)
    (A : Option Addr) (m c : Nat) (hs : a.eval s = .slice A m c) (F : Nat → Nat) (hsl : Sl w A m F) (hb : w.heap[g]? = some (.cells (arr .u8 D fun _ => 0) t)) (B : Nat) (hB : B ≤ g)
    (h : ∀ k w', w'.heap[g]? = some (.cells (arr .u8 D fun i => ((rdb F m 0 i : Nat) : Int)) t) → Below B w w' → wpList Try.prog ops Q rest (a.put o.dst (goInt k)) w') : wpList Try.prog ops Q (o :: rest) a w := by
  have hl : ((List.range (Nat.min m D)).map fun i => Value.int .u8 ((F i : Nat) : Int)).length = Nat.min m D := by simp
  have hkm : Nat.min m D ≤ m := Nat.min_le_left _ _
  have hkD : Nat.min m D ≤ D := Nat.min_le_right _ _
  refine wpList_copy_splice hg d s 25 25 ho 5 Try.underlying25 Try.sizeB _ _ _ _ _ _ hd hs g 0 (arr .u8 D fun _ => 0).toList t (by simpa using hb) ((List.range (Nat.min m D)).map fun i => Value.int .u8 ((F i : Nat) : Int))
    hl (fun h0 => ?_) (by rw [hl, Array.length_toList, arr_size]; omega) (fun v hv => ?_) B w (Below.refl _ _) hB (fun w' hh hbel => ?_)
  · rw [hl] at h0
    obtain ⟨b, off, rfl, _, hc⟩ := hsl.cells (by omega)
    refine ⟨rfl, _, rfl, fun i v hv => ?_⟩
    have hi : i < Nat.min m D := by have := (List.getElem?_eq_some_iff.1 hv).1; simpa using this
    rw [List.getElem?_map, List.getElem?_range hi] at hv
    cases hv
    rw [Addr.add_mid]
    exact hc i (by omega)
  · simp at hv
    obtain ⟨i, _, rfl⟩ := hv
    rfl
  · rw [hl]
    refine h _ w' ?_ hbel
    rw [hh.out]
    congr 2
    apply Array.ext_getElem?
    intro i
    have e : Nat.min m D = min m D := rfl
    unfold splice
    rw [hl, List.take_zero, List.nil_append, Nat.zero_add, List.getElem?_toArray]
    by_cases hi : i < D
    · rw [arr_get _ _ hi]
      unfold rdb
      rw [Nat.zero_add]
      by_cases l : i < m
      · rw [List.getElem?_append_left (by rw [hl]; omega), List.getElem?_map, List.getElem?_range (by omega), if_pos l]
        rfl
      · rw [List.getElem?_append_right (by rw [hl]; omega), hl, List.getElem?_drop, show Nat.min m D + (i - Nat.min m D) = i by omega, Array.getElem?_toList, arr_get _ _ hi, if_neg l]
        rfl
    · rw [List.getElem?_eq_none (by rw [List.length_append, hl, List.length_drop, Array.length_toList, arr_size]; omega), Array.getElem?_eq_none (by rw [arr_size]; omega)]
theorem arr_sl {w : World} {g k : Nat} {F : Nat → Nat} {t : TypeId} (h : w.heap[g]? = some (.cells (arr .u8 k fun i => ((F i : Nat) : Int)) t)) (hF : ∀ i, i < k → F i < 256) : Sl w (some ⟨g, 0, none⟩) k F :=
  ⟨hF, fun _ => ⟨g, 0, rfl, (Array.getElem?_eq_some_iff.1 h).1, fun i hi => by rw [Nat.zero_add]; exact blk_cell h (arr_get .u8 _ hi)⟩⟩
theorem arr_own {w : World} {base g k : Nat} {F : Nat → Nat} (hb : base ≤ g) (hk : k ≤ maxLen) (h : w.heap[g]? = some (.cells (arr .u8 k fun i => ((F i : Nat) : Int)) 5)) : w.ownsRow base 5 1 (.slice (some ⟨g, 0, none⟩) k k) k (bb F k) := by
  refine ⟨by rw [bb_length]; omega, .inr ⟨g, k, _, rfl, hb, h, Nat.le_refl _, hk, by rw [arr_size]; omega, ?_⟩⟩
  apply List.ext_getElem?
  intro i
  rw [Nat.mul_one, List.getElem?_take]
  by_cases hi : i < k
  · rw [if_pos hi, bb_get _ hi, Array.getElem?_toList, arr_get _ _ hi]
  · rw [if_neg hi, List.getElem?_eq_none (by rw [bb_length]; omega)]
theorem mfrom_out {base b n : Nat} {v : Value} {f : Nat → Nat} {w : World} (h : MemAt w base b v n f) (z : Int) (hz : z < 0 ∨ (n : Int) ≤ z) : Calls Try.prog 44 #[.pointer (some ⟨b, 0, none⟩), .int .i64 z] w fun e w' => e = .returned (.slice none 0 0) ∧ w = w' := by
  have K := Lib.hid (mlen_walk h)
  clear h
  by_cases h1 : z < 0
  · have c1 : decide (z < 0) = true := by simp [h1]
    clear hz
    go_enter Try.func44, Try.ntmps44
    go_wp2_with fail
    go_ret
    exact ⟨rfl, rfl⟩
  · have c1 : decide (z < 0) = false := by simp; omega
    have c2 : decide ((n : Int) ≤ z) = true := by simp; omega
    go_enter Try.func44, Try.ntmps44
    go_wp2_with (go_at_call 27; refine K.out.mono ?_; rintro e w' ⟨rfl, rfl⟩)
    go_ret
    exact ⟨rfl, rfl⟩
theorem mfrom_in {base b n g c : Nat} {f : Nat → Nat} {w : World} (h : MemAt w base b (.slice (some ⟨g, 0, none⟩) n c) n f) (z : Nat) (hz : z < n) : Calls Try.prog 44 #[.pointer (some ⟨b, 0, none⟩), .int .i64 (z : Int)] w fun e w' => e = .returned (.slice (some ⟨g, z, none⟩) (n - z) (c - z)) ∧ w = w' := by
  have K := Lib.hid (mlen_walk h)
  have hc := h.cell
  have hl := h.len
  have hnc : n ≤ c := by
    rcases h.own.2 with ⟨h1, _⟩ | ⟨_, _, _, h1, _, _, h2, _⟩
    · cases h1
    · cases h1; exact h2
  clear h
  have c1 : decide ((z : Int) < 0) = false := by simp
  have c2 : decide ((n : Int) ≤ (z : Int)) = false := by simp; omega
  have hadd : (⟨g, 0, none⟩ : Addr).add z = ⟨g, z, none⟩ := by rw [Addr.add_lit, Nat.zero_add]
  have hne : ¬ c = z := by omega
  go_enter Try.func44, Try.ntmps44
  go_wp2_with (go_at_call 27; refine K.out.mono ?_; rintro e w' ⟨rfl, rfl⟩)
  go_ret
  exact ⟨rfl, rfl⟩
/-- What Read and its like answer: a new row of k bytes. -/
def RowIs (k : Nat) (F : Nat → Nat) (w : World) (e : Ending) (w' : World) : Prop := ∃ g, e = .returned (.slice (some ⟨g, 0, none⟩) k k) ∧ w.heap.size ≤ g ∧ w'.heap[g]? = some (.cells (arr .u8 k fun i => ((F i : Nat) : Int)) 5) ∧ Below w.heap.size w w'
theorem mread_bad {base b n : Nat} {v : Value} {f : Nat → Nat} {w : World} (_h : MemAt w base b v n f) (z k : Int) (hz : z < 0 ∨ k < 0 ∨ 4194304 < k) : Calls Try.prog 24 #[.pointer (some ⟨b, 0, none⟩), .int .i64 z, .int .i64 k] w fun e w' => e = .returned (.slice none 0 0) ∧ w = w' := by
  by_cases h1 : z < 0
  · have c1 : decide (z < 0) = true := by simp [h1]
    clear hz
    go_enter Try.func24, Try.ntmps24
    go_wp2_with fail
    go_ret
    exact ⟨rfl, rfl⟩
  · have c1 : decide (z < 0) = false := by simp; omega
    by_cases h2 : k < 0
    · have c2 : decide (k < 0) = true := by simp [h2]
      clear hz
      go_enter Try.func24, Try.ntmps24
      go_wp2_with fail
      go_ret
      exact ⟨rfl, rfl⟩
    · have c2 : decide (k < 0) = false := by simp; omega
      have c3 : decide (4194304 < k) = true := by simp; omega
      clear hz
      go_enter Try.func24, Try.ntmps24
      go_wp2_with fail
      go_ret
      exact ⟨rfl, rfl⟩
theorem mread_nil (z k : Int) (w : World) : Calls Try.prog 24 #[.pointer none, .int .i64 z, .int .i64 k] w fun e w' => e = .returned (.slice none 0 0) ∧ w = w' := by
  go_enter Try.func24, Try.ntmps24
  go_wp2_with fail
  go_ret
  exact ⟨rfl, rfl⟩
theorem mread_walk {base b n : Nat} {v : Value} {f : Nat → Nat} {w : World} (h : MemAt w base b v n f) (z k : Nat) (hz : z < 9223372036854775808) (hk : k ≤ 4194304) : Calls Try.prog 24 #[.pointer (some ⟨b, 0, none⟩), .int .i64 (z : Int), .int .i64 (k : Int)] w (RowIs k (rdb f n z) w) := by
  have hmk := Try.make_bytes k (by omega) w
  have c1 : decide ((z : Int) < 0) = false := by simp
  have c2 : decide ((k : Int) < 0) = false := by simp
  have c3 : decide (4194304 < (k : Int)) = false := by simp; omega
  have f0 : (w.alloc (.cells (arr .u8 k fun _ => 0) 5)).heap[w.heap.size]? = some (.cells (arr .u8 k fun _ => 0) 5) := heap_alloc_new _ _
  have b0 : Below w.heap.size w (w.alloc (.cells (arr .u8 k fun _ => 0) 5)) := (Below.refl _ _).alloc (Nat.le_refl _) _
  have F0 := Lib.hid f0
  have B0 := Lib.hid b0
  have h' := h.below b0
  clear f0 b0
  by_cases hlt : z < n
  · obtain ⟨g, c, rfl⟩ : ∃ g c, v = .slice (some ⟨g, 0, none⟩) n c := by
      rcases h.own.2 with ⟨_, h1⟩ | ⟨g, c, _, h1, _⟩
      · omega
      · exact ⟨g, c, h1⟩
    have K := Lib.hid (mfrom_in h' z hlt)
    obtain ⟨A1, c1', e1, _, _, hs⟩ := own_sl h'.own h'.small
    cases e1
    obtain ⟨b1, off1, e2, hbl, hcs⟩ := hs.cells (by omega)
    cases e2
    have hsl : Sl (w.alloc (.cells (arr .u8 k fun _ => 0) 5)) (some ⟨g, z, none⟩) (n - z) (fun i => f (z + i)) := ⟨fun i hi => h.small _ (by omega), fun _ => ⟨g, z, rfl, hbl, fun i hi => by have := hcs (z + i) (by omega); rwa [Nat.zero_add] at this⟩⟩
    have HS := Lib.hid hsl
    have HE : ∀ i, rdb (fun i => f (z + i)) (n - z) 0 i = rdb f n z i := fun i => by
      unfold rdb
      rw [Nat.zero_add]
      by_cases hi : z + i < n
      · rw [if_pos hi, if_pos (by omega)]
      · rw [if_neg hi, if_neg (by omega)]
    clear hcs hs hsl h h' hz
    go_enter Try.func24, Try.ntmps24
    go_wp2_with (first | (go_at_call 44; refine K.out.mono ?_; rintro e w' ⟨rfl, rfl⟩) | (refine copy_new rfl _ _ rfl w.heap.size k k 5 rfl (some ⟨g, z, none⟩) (n - z) (c - z) rfl (fun i => f (z + i)) HS.out F0.out w.heap.size (Nat.le_refl _) ?_; intro kk w2 h2 b2))
    go_ret
    refine ⟨_, rfl, Nat.le_refl _, ?_, B0.out.trans b2⟩
    rw [h2]
    exact congrArg (fun c => some (Obj.cells c 5)) (arr_congr fun i _ => by rw [HE])
  · have K := Lib.hid (mfrom_out h' (z : Int) (.inr (by omega)))
    have HS := Lib.hid (⟨fun i hi => by omega, fun h0 => by omega⟩ : Sl (w.alloc (.cells (arr .u8 k fun _ => 0) 5)) none 0 (fun _ => 0))
    have HE : ∀ i, rdb (fun _ => 0) 0 0 i = rdb f n z i := fun i => by
      unfold rdb
      rw [if_neg (by omega), if_neg (by omega)]
    clear h h' hz
    go_enter Try.func24, Try.ntmps24
    go_wp2_with (first | (go_at_call 44; refine K.out.mono ?_; rintro e w' ⟨rfl, rfl⟩) | (refine copy_new rfl _ _ rfl w.heap.size k k 5 rfl none 0 0 rfl (fun _ => 0) HS.out F0.out w.heap.size (Nat.le_refl _) ?_; intro kk w2 h2 b2))
    go_ret
    refine ⟨_, rfl, Nat.le_refl _, ?_, B0.out.trans b2⟩
    rw [h2]
    exact congrArg (fun c => some (Obj.cells c 5)) (arr_congr fun i _ => by rw [HE])
end Go.Proofs.Ytnffelnmlloonaa
/- What the functions Cost and Reach of package mem do. -/
namespace Go.Proofs.Ytnffelnmlloonaa
open Go.RowKit SmWord
set_option maxRecDepth 100000

/-- An append whose run is known, as one step of a region that draws. -/
theorem step_append_run {P : Program} {ops : Array Oper} {o : Oper} {a : Act} {w : World} {K : Act → World → Prop} {Q : Exit → Act → World → Prop} {E : Prop}
    (hg : o.guard = none) (s x : Operand) (t tn : TypeId) (hop : o.op = Op.call { callee := Callee.builtin Builtin.append, args := #[s, x], argTypes := #[t, tn] })
    (vs vx : Value) (hs : a.eval s = vs) (hx : a.eval x = vx) (v' : Value) (w' : World) (hr : (Builtin.append_ #[t, tn] o.type #[vs, vx]).run P w = .ok v' w') (hK : K (a.put o.dst v') w') :
    if Region.wanted o (yielded ops a.tmps) = true then Oper.wp P o a w K Q else E := by
  have hw : Region.wanted o (yielded ops a.tmps) = true := by simp [Region.wanted, hg]
  rw [if_pos hw]
  exact Lib.wp_append_run w s x t tn hop vs vx hs hx v' w' hr hK
/-- All but a memory's own two blocks is as it was. -/
structure Off (base b : Nat) (v : Value) (w w' : World) : Prop where
  below : Below base w w'
  block : ∀ i, i < w.heap.size → i ≠ b → v.ownBlock ≠ some i → w'.heap[i]? = w.heap[i]?
theorem Off.of_below {base b : Nat} {v : Value} {w w' : World} (h : Below w.heap.size w w') (hb : base ≤ w.heap.size) : Off base b v w w' := ⟨h.mono hb, fun i hi _ _ => h.block i hi⟩
theorem Off.trans {base b : Nat} {v : Value} {w w1 w2 : World} (h : Off base b v w w1) (g : Off base b v w1 w2) : Off base b v w w2 :=
  ⟨h.below.trans g.below, fun i hi hb hv => (g.block i (Nat.lt_of_lt_of_le hi h.below.size) hb hv).trans (h.block i hi hb hv)⟩
theorem boxes (w : World) (a k : Nat) :
    ((w.alloc (.cells (wa a) 30)).alloc (.cells (wa k) 30)).heap[w.heap.size]? = some (.cells (wa a) 30) ∧
    ((w.alloc (.cells (wa a) 30)).alloc (.cells (wa k) 30)).heap[w.heap.size + 1]? = some (.cells (wa k) 30) ∧
    Below w.heap.size w ((w.alloc (.cells (wa a) 30)).alloc (.cells (wa k) 30)) :=
  ⟨blk_alloc (heap_alloc_new _ _), heap_alloc2_new _ _ _, ((Below.refl _ _).alloc (Nat.le_refl _) _).alloc (by simp) _⟩
/-- What reaching costs. -/
def mco (n a k : Nat) : Nat := pr (wn (rlen n a k)) - pr (wn n)
theorem mcost_core {base b n : Nat} {v : Value} {f : Nat → Nat} {w : World} (h : MemAt w base b v n f) (a k : Nat) (r : Int) (ok : Bool) (x : Int) (H : Hid (∀ w, MemAt w base b v n f → Calls Try.prog 42 #[.pointer (some ⟨b, 0, none⟩), wd a, wd k] w fun e w' => e = .returned (.tuple #[.int .i64 r, .bool ok]) ∧ Below w.heap.size w w'))
    (hr : (ok = false ∧ x = 0) ∨ (ok = true ∧ ∃ m : Nat, r = (m : Int) ∧ m ≤ 4194304 ∧ n ≤ m ∧ x = ((pr (wn m) - pr (wn n) : Nat) : Int))) :
    Calls Try.prog 14 #[.pointer (some ⟨b, 0, none⟩), wd a, wd k] w fun e w' => e = .returned (.tuple #[.int .u64 x, .bool ok]) ∧ Below w.heap.size w w' := by
  obtain ⟨f0, f1, bW⟩ := boxes w a k
  have HW := Lib.hid (h.below bW)
  have HB := Lib.hid bW
  have hsz := wa_size
  clear bW h
  generalize hW : ((w.alloc (.cells (wa a) 30)).alloc (.cells (wa k) 30)) = W at *
  obtain ⟨z, hz⟩ : ∃ z, w.heap.size = z := ⟨_, rfl⟩
  rw [hz] at f0 f1
  rcases hr with ⟨rfl, rfl⟩ | ⟨rfl, m, rfl, hm, hnm, rfl⟩
  · go_enter Try.func14, Try.ntmps14
    go_upto_region 1 with fail
    clear hW hsz
    go_wp2_with (refine wpList_load_row rfl 30 _ rfl _ rfl 30 _ (0, 0) _ (by assumption) Try.underlying30 rfl Try.infoWa ?_)
    refine (H.out _ HW.out).mono ?_
    rintro e w1 ⟨rfl, b1⟩
    replace HB := Lib.hid (HB.out.trans (b1.mono HB.out.size))
    clear b1 f0 f1
    go_wp2_with fail
    go_ret2
    exact ⟨rfl, HB.out⟩
  · have hp := pr_mono (wn_mono hnm)
    have hps := pr_small (w := wn m) (by unfold wn; omega)
    have e1 : ((pr (wn m) : Nat) : Int) - ((pr (wn n) : Nat) : Int) = ((pr (wn m) - pr (wn n) : Nat) : Int) := by omega
    have K1 := Lib.hid fun w => priceOf_wd m w hm
    have K2 := Lib.hid fun w => priceOf_wd n w (Nat.le_trans hnm hm)
    go_enter Try.func14, Try.ntmps14
    go_upto_region 1 with fail
    clear hW hsz
    go_wp2_with (refine wpList_load_row rfl 30 _ rfl _ rfl 30 _ (0, 0) _ (by assumption) Try.underlying30 rfl Try.infoWa ?_)
    refine (H.out _ HW.out).mono ?_
    rintro e w1 ⟨rfl, b1⟩
    replace HB := Lib.hid (HB.out.trans (b1.mono HB.out.size))
    replace HW := Lib.hid (HW.out.below b1)
    clear b1 f0 f1
    go_wp2_with fail
    refine (K1.out _).mono ?_
    rintro e w2 ⟨rfl, b2⟩
    replace HB := Lib.hid (HB.out.trans (b2.mono HB.out.size))
    replace HW := Lib.hid (HW.out.below b2)
    clear b2 K1
    go_wp2_with fail
    refine (mlen_walk HW.out).mono ?_
    rintro e w3 ⟨rfl, rfl⟩
    go_wp2_with fail
    refine (K2.out _).mono ?_
    rintro e w4 ⟨rfl, b4⟩
    replace HB := Lib.hid (HB.out.trans (b4.mono HB.out.size))
    clear b4 K2 HW
    go_wp2_with fail
    go_ret2
    exact ⟨rfl, HB.out⟩
theorem mcost_walk {base b n : Nat} {v : Value} {f : Nat → Nat} {w : World} (h : MemAt w base b v n f) (a k : Nat) (ha : a < M) (hk : k < M) :
    Calls Try.prog 14 #[.pointer (some ⟨b, 0, none⟩), wd a, wd k] w fun e w' => e = .returned (.tuple #[.int .u64 (if rok a k then ((mco n a k : Nat) : Int) else 0), .bool (rok a k)]) ∧ Below w.heap.size w w' := by
  refine mcost_core h a k _ _ _ (Lib.hid fun w h => reached_walk h a k ha hk) ?_
  cases hr : rok a k with
  | false => exact .inl ⟨rfl, by simp⟩
  | true => exact .inr ⟨rfl, rlen n a k, by simp, rlen_le h.len hr, rlen_ge _ _ _, by simp [mco]⟩
theorem mcost_nil (a k : Nat) (w : World) : Calls Try.prog 14 #[.pointer none, wd a, wd k] w fun e w' => e = .returned (.tuple #[.int .u64 0, .bool false]) ∧ Below w.heap.size w w' := by
  obtain ⟨f0, f1, bW⟩ := boxes w a k
  have HB := Lib.hid bW
  have hsz := wa_size
  clear bW
  generalize hW : ((w.alloc (.cells (wa a) 30)).alloc (.cells (wa k) 30)) = W at *
  obtain ⟨z, hz⟩ : ∃ z, w.heap.size = z := ⟨_, rfl⟩
  rw [hz] at f0 f1
  go_enter Try.func14, Try.ntmps14
  go_upto_region 1 with fail
  clear hW hsz
  go_wp2_with (refine wpList_load_row rfl 30 _ rfl _ rfl 30 _ (0, 0) _ (by assumption) Try.underlying30 rfl Try.infoWa ?_)
  refine (reached_nil a k _).mono ?_
  rintro e w1 ⟨rfl, b1⟩
  replace HB := Lib.hid (HB.out.trans (b1.mono HB.out.size))
  clear b1 f0 f1
  go_wp2_with fail
  go_ret2
  exact ⟨rfl, HB.out⟩
theorem mreach_nil (a k : Nat) (w : World) : Calls Try.prog 16 #[.pointer none, wd a, wd k] w fun e w' => e = .returned (.bool false) ∧ Below w.heap.size w w' := by
  obtain ⟨f0, f1, bW⟩ := boxes w a k
  have HB := Lib.hid bW
  have hsz := wa_size
  clear bW
  generalize hW : ((w.alloc (.cells (wa a) 30)).alloc (.cells (wa k) 30)) = W at *
  obtain ⟨z, hz⟩ : ∃ z, w.heap.size = z := ⟨_, rfl⟩
  rw [hz] at f0 f1
  go_enter Try.func16, Try.ntmps16
  go_upto_region 1 with fail
  clear hW hsz
  go_wp2_with (refine wpList_load_row rfl 30 _ rfl _ rfl 30 _ (0, 0) _ (by assumption) Try.underlying30 rfl Try.infoWa ?_)
  refine (reached_nil a k _).mono ?_
  rintro e w1 ⟨rfl, b1⟩
  replace HB := Lib.hid (HB.out.trans (b1.mono HB.out.size))
  clear b1 f0 f1
  go_wp2_with fail
  go_ret
  exact ⟨rfl, HB.out⟩
/-- Bytes, with noughts behind n of them. -/
def ext0 (f : Nat → Nat) (n i : Nat) : Nat := if i < n then f i else 0
theorem bb_noughts (f : Nat → Nat) (n k : Nat) : bb f n ++ List.replicate k (Value.int .u8 0) = bb (ext0 f n) (n + k) := by
  apply List.ext_getElem?
  intro i
  unfold bb
  simp only [List.getElem?_append, List.length_map, List.length_range, List.getElem?_map, List.getElem?_replicate]
  unfold ext0
  by_cases h : i < n
  · rw [if_pos h, List.getElem?_range h, List.getElem?_range (by omega)]
    simp [h]
  · rw [if_neg h]
    by_cases h2 : i < n + k
    · rw [if_pos (by omega), List.getElem?_range h2]
      simp [h]
    · rw [if_neg (by omega), List.getElem?_eq_none (by simp; omega)]
      rfl
theorem own_ne {w : World} {base b : Nat} {c : Array Value} {t e : TypeId} {s : Nat} {v : Value} {k : Nat} {xs : List Value} (ho : w.ownsRow base e s v k xs) (hb : w.heap[b]? = some (.cells c t)) (hne : t ≠ e) : v.ownBlock ≠ some b := fun h => by
  rcases ho.2 with ⟨rfl, _⟩ | ⟨g, _, _, rfl, _, h2, _⟩
  · cases h
  · cases h
    rw [hb] at h2
    cases h2
    exact hne rfl
theorem grown_setCell (w : World) (b : Nat) (v : Value) : w.grownBy (w.setCell ⟨b, 0, none⟩ v) (some b) := by
  have h := (Below.refl 0 w).setCell (p := ⟨b, 0, none⟩) (Nat.zero_le _) v
  exact ⟨h.os, h.tape, h.output, h.size, fun k _ hk => Below.heap_setCell _ _ _ _ fun e => hk (by rw [e])⟩
/-- What Reach leaves. -/
def ReachIs (base b : Nat) (v : Value) (n : Nat) (f : Nat → Nat) (a k : Nat) (w : World) (e : Ending) (w' : World) : Prop :=
  e = .returned (.bool (rok a k)) ∧ ∃ v', MemAt w' base b v' (if rok a k then rlen n a k else n) (ext0 f n) ∧ Off base b v w w' ∧ (v'.ownBlock = v.ownBlock ∨ ∃ g, v'.ownBlock = some g ∧ w.heap.size ≤ g)
set_option maxHeartbeats 400000 in
theorem mreach_core {base b n : Nat} {v : Value} {f : Nat → Nat} {w : World} (h : MemAt w base b v n f) (a k m : Nat) (H : Hid (∀ w, MemAt w base b v n f → Calls Try.prog 42 #[.pointer (some ⟨b, 0, none⟩), wd a, wd k] w fun e w' => e = .returned (.tuple #[.int .i64 (m : Int), .bool true]) ∧ Below w.heap.size w w')) (hm : m ≤ 4194304) (hnm : n ≤ m) :
    Calls Try.prog 16 #[.pointer (some ⟨b, 0, none⟩), wd a, wd k] w fun e w' => e = .returned (.bool true) ∧ ∃ v', w'.heap[b]? = some (.cells #[v'] 69) ∧ w'.ownsRow base 5 1 v' m (bb (ext0 f n) m) ∧ Off base b v w w' ∧ (v'.ownBlock = v.ownBlock ∨ ∃ g, v'.ownBlock = some g ∧ w.heap.size ≤ g) := by
  obtain ⟨A, c, rfl⟩ := own_val h.own
  obtain ⟨f0, f1, bW⟩ := boxes w a k
  have HW := Lib.hid (h.below bW)
  have HB := Lib.hid bW
  have HBase := h.base_le
  have hsz := wa_size
  clear bW h
  generalize hW : ((w.alloc (.cells (wa a) 30)).alloc (.cells (wa k) 30)) = W at *
  obtain ⟨z, hz⟩ : ∃ z, w.heap.size = z := ⟨_, rfl⟩
  rw [hz] at f0 f1
  go_enter Try.func16, Try.ntmps16
  go_upto_region 1 with fail
  clear hW hsz
  go_wp2_with (refine wpList_load_row rfl 30 _ rfl _ rfl 30 _ (0, 0) _ (by assumption) Try.underlying30 rfl Try.infoWa ?_)
  refine (H.out _ HW.out).mono ?_
  rintro e w1 ⟨rfl, b1⟩
  replace HB := Lib.hid (HB.out.trans (b1.mono HB.out.size))
  replace HW := Lib.hid (HW.out.below b1)
  clear b1 f0 f1 H
  go_upto_region 4 with fail
  have hc := HW.out.cell
  obtain ⟨q, rfl⟩ : ∃ q, m = n + q := ⟨m - n, by omega⟩
  have e1 : (n : Int) + (q : Int) - (n : Int) = (q : Int) := by omega
  have e2 : IntKind.i64.wrap (q : Int) = (q : Int) := by rw [IntKind.wrap_i64]; omega
  obtain ⟨v', w2, hr, o2, g2, wh⟩ := run_append_noughts w1.drew base 25 _ n (bb f n) (own_below HW.out.own (Below.refl _ _).drew) q (by omega) HW.out.base_le
  rw [bb_noughts] at o2
  have hne : some b ≠ Value.ownBlock (.slice A n c) := fun e => own_ne HW.out.own HW.out.blk (by decide) e.symm
  have hb2 : w2.heap[b]? = some (.cells #[.slice A n c] 69) := (g2.block b HW.out.lt hne).trans HW.out.blk
  have hc2 := blk_cell (j := 0) hb2 rfl
  have hfz := blk_frozen (j := 0) hb2
  obtain ⟨A', c', rfl⟩ := own_val o2
  have hne2 := own_ne o2 hb2 (by decide)
  have hh := Lib.hid hr
  have PO : w2.heap.size ≤ w2.heap.size := Nat.le_refl _
  have S1 : (w2.setCell ⟨b, 0, none⟩ (.slice A' (n + q) c')).heap[b]? = some (.cells #[.slice A' (n + q) c'] 69) := blk_set hb2 _
  have S2 := o2.kept (grown_setCell w2 b (.slice A' (n + q) c')) (.inr hne2)
  have S3 : Off base b (.slice A n c) w1 (w2.setCell ⟨b, 0, none⟩ (.slice A' (n + q) c')) := ⟨(((Below.refl base w1).drew.grown g2 (by exact HW.out.base_le) (fun k hk => (HW.out.own.lt k hk).1)).setCell HW.out.le _), fun i hi hib hiv => by
    rw [Below.heap_setCell _ _ _ _ hib, g2.block i hi (fun e => hiv e.symm)]
    rfl⟩
  have P1 := Lib.hid S1
  have P2 := Lib.hid S2
  have P3 := Lib.hid S3
  have P4 := Lib.hid wh
  clear hr o2 g2 wh hne hb2 hne2 S1 S2 S3
  have hcd : w1.drew.cell? ⟨b, 0, none⟩ = some (.slice A n c) := hc
  go_region_law (refine step_append_run rfl _ _ _ _ rfl _ _ rfl rfl _ _ hh.out ?_)
  all_goals
    go_wp2_with fail
    go_ret
    refine ⟨rfl, _, P1.out, P2.out, (Off.of_below HB.out HBase).trans P3.out, ?_⟩
    rcases P4.out with h | h
    · exact .inl h
    · exact .inr ⟨_, h, Nat.le_trans HB.out.size (Nat.le_refl _)⟩
theorem mreach_walk {base b n : Nat} {v : Value} {f : Nat → Nat} {w : World} (h : MemAt w base b v n f) (a k : Nat) (ha : a < M) (hk : k < M) :
    Calls Try.prog 16 #[.pointer (some ⟨b, 0, none⟩), wd a, wd k] w (ReachIs base b v n f a k w) := by
  have HR := reached_walk h a k ha hk
  cases hr : rok a k with
  | false =>
    have H := Lib.hid fun w (h : MemAt w base b v n f) => reached_walk h a k ha hk
    rw [hr] at H
    simp only [Bool.false_eq_true, if_false] at H
    unfold ReachIs
    rw [hr]
    simp only [Bool.false_eq_true, if_false]
    obtain ⟨f0, f1, bW⟩ := boxes w a k
    have HW := Lib.hid (h.below bW)
    have HB := Lib.hid bW
    have HBase := h.base_le
    have hsz := wa_size
    clear bW HR
    generalize hW : ((w.alloc (.cells (wa a) 30)).alloc (.cells (wa k) 30)) = W at *
    obtain ⟨z, hz⟩ : ∃ z, w.heap.size = z := ⟨_, rfl⟩
    rw [hz] at f0 f1
    go_enter Try.func16, Try.ntmps16
    go_upto_region 1 with fail
    clear hW hsz
    go_wp2_with (refine wpList_load_row rfl 30 _ rfl _ rfl 30 _ (0, 0) _ (by assumption) Try.underlying30 rfl Try.infoWa ?_)
    refine (H.out _ HW.out).mono ?_
    rintro e w1 ⟨rfl, b1⟩
    replace HB := Lib.hid (HB.out.trans (b1.mono HB.out.size))
    replace HW := Lib.hid (HW.out.below b1)
    clear b1 f0 f1 H
    go_wp2_with fail
    go_ret
    refine ⟨rfl, v, ?_, Off.of_below HB.out HBase, .inl rfl⟩
    exact ⟨HW.out.blk, by rw [bb_congr (f := ext0 f n) (g := f) (fun i hi => if_pos hi)]; exact HW.out.own, HW.out.le, fun i hi => by rw [ext0, if_pos hi]; exact HW.out.small i hi, HW.out.len, HW.out.div⟩
  | true =>
    have H := Lib.hid fun w (h : MemAt w base b v n f) => reached_walk h a k ha hk
    rw [hr] at H
    simp only [if_true] at H
    have hle := rlen_le h.len hr
    have hge := rlen_ge n a k
    refine (mreach_core h a k (rlen n a k) H hle hge).mono ?_
    rintro e w' ⟨rfl, v', h1, h2, h3, h4⟩
    unfold ReachIs
    rw [hr]
    simp only [if_true]
    exact ⟨trivial, v', ⟨h1, h2, h.le, fun i _ => by unfold ext0; split; exact h.small _ (by assumption); decide, hle, rlen_32 h.div⟩, h3, h4⟩
end Go.Proofs.Ytnffelnmlloonaa
/- What the functions Write, Copy, Word and SetWord of package mem do. -/
namespace Go.Proofs.Ytnffelnmlloonaa
open Go.RowKit SmWord
set_option maxRecDepth 100000

/-- Bytes, with m others written from place a on. -/
def wrb (f : Nat → Nat) (a m : Nat) (F : Nat → Nat) (i : Nat) : Nat := if a ≤ i ∧ i < a + m then F (i - a) else f i
theorem wrb_lt {f F : Nat → Nat} {n a m : Nat} (hf : ∀ i, i < n → f i < 256) (hF : ∀ i, i < m → F i < 256) : ∀ i, i < n → wrb f a m F i < 256 := fun i hi => by
  unfold wrb
  split
  · exact hF _ (by omega)
  · exact hf i hi
theorem bb_wrb (f F : Nat → Nat) {n a m k : Nat} (hk : k = min m (n - a)) (ha : a < n) : (bb f n).take a ++ ((bb F k) ++ (bb f n).drop (a + k)) = bb (wrb f a m F) n := by
  apply List.ext_getElem?
  intro i
  unfold wrb bb
  simp only [List.getElem?_append, List.length_take, List.length_map, List.length_range, List.getElem?_take, List.getElem?_drop, List.getElem?_map]
  by_cases h1 : i < a
  · rw [if_pos (by omega), if_pos h1, List.getElem?_range (by omega)]
    simp only [Option.map_some]
    rw [if_neg (by omega)]
  · rw [if_neg (by omega), show i - min a n = i - a by omega]
    by_cases h2 : i - a < k
    · rw [if_pos h2, List.getElem?_range h2, List.getElem?_range (by omega)]
      simp only [Option.map_some]
      rw [if_pos (by omega)]
    · rw [if_neg h2, show a + k + (i - a - k) = i by omega]
      by_cases h3 : i < n
      · rw [List.getElem?_range h3]
        simp only [Option.map_some]
        rw [if_neg (by omega)]
      · rw [List.getElem?_eq_none (by simp; omega)]
        rfl
theorem take_splice {L cs : List Value} {n o : Nat} (h : o + cs.length ≤ n) (hL : n ≤ L.length) : (L.take o ++ (cs ++ L.drop (o + cs.length))).take n = (L.take n).take o ++ (cs ++ (L.take n).drop (o + cs.length)) := by
  apply List.ext_getElem?
  intro i
  simp only [List.getElem?_take, List.getElem?_append, List.length_take, List.getElem?_drop]
  by_cases h0 : i < n
  · rw [if_pos h0, show min o (min n L.length) = min o L.length by omega]
    by_cases h1 : i < min o L.length
    · simp only [if_pos h1, if_pos (show i < o by omega), if_pos h0]
    · simp only [if_neg h1]
      by_cases h2 : i - min o L.length < cs.length
      · simp only [if_pos h2]
      · simp only [if_neg h2]
        rw [if_pos (by omega)]
  · rw [if_neg h0]
    rw [if_neg (by omega), if_neg (by omega), if_neg (by omega)]
/-- A slice's bytes are copied into a memory, from a place of it on. -/
theorem copy_mem {ops : Array Oper} {rest : List Oper} {o : Oper} {a : Act} {w : World} {Q : Exit → Act → World → Prop} (hg : o.guard = none) (d s : Operand)
    (ho : o.op = .call { callee := .builtin .copy, args := #[d, s], argTypes := #[25, 25] }) (base b n g c z : Nat) (f : Nat → Nat) (hM : MemAt w base b (.slice (some ⟨g, 0, none⟩) n c) n f) (hd : a.eval d = .slice (some ⟨g, z, none⟩) (n - z) (c - z)) (hz : z < n)
    (A : Option Addr) (m cc : Nat) (hs : a.eval s = .slice A m cc) (F : Nat → Nat) (hsl : Sl w A m F)
    (h : ∀ k w', MemAt w' base b (.slice (some ⟨g, 0, none⟩) n c) n (wrb f z m F) → Off base b (.slice (some ⟨g, 0, none⟩) n c) w w' → wpList Try.prog ops Q rest (a.put o.dst (goInt k)) w') : wpList Try.prog ops Q (o :: rest) a w := by
  have hbase := hM.base_le
  by_cases h0 : m = 0
  · subst h0
    refine wpList_copy_nothing hg d s 25 25 ho 5 Try.underlying25 Try.sizeB _ _ _ _ _ _ hd hs (Nat.zero_min _) (h _ w ?_ (Off.of_below (Below.refl _ _) hbase))
    exact ⟨hM.blk, by rw [bb_congr (f := wrb f z 0 F) (g := f) (fun i hi => if_neg (by omega))]; exact hM.own, hM.le, fun i hi => by rw [wrb, if_neg (by omega)]; exact hM.small i hi, hM.len, hM.div⟩
  · obtain ⟨ab, aoff, rfl, _, hc⟩ := hsl.cells (by omega)
    rcases hM.own.2 with ⟨h1, _⟩ | ⟨g', cap, cur, h1, hbg, hgg, hnc, hcm, hcs, htake⟩
    · cases h1
    cases h1
    have e : Nat.min m (n - z) = min m (n - z) := rfl
    have hl : (bb F (Nat.min m (n - z))).length = Nat.min m (n - z) := bb_length _ _
    have hls : cur.toList.length = c := by rw [Array.length_toList, hcs, Nat.mul_one]
    refine wpList_copy_own hg d s 25 25 ho 5 Try.underlying25 Try.sizeB g z (n - z) (c - z) ⟨ab, aoff, none⟩ m cc hd hs cur 5 hgg (bb F (Nat.min m (n - z))) hl (fun j v hv => ?_) (by rw [hl, hcs]; omega) (fun v hv => ?_) (h _ _ ?_ ?_)
    · have hj : j < Nat.min m (n - z) := by have := (List.getElem?_eq_some_iff.1 hv).1; rwa [hl] at this
      rw [bb_get F hj] at hv
      cases hv
      rw [Addr.add_mid]
      exact hc j (by omega)
    · simp [bb] at hv
      obtain ⟨i, _, rfl⟩ := hv
      rfl
    · have hne : b ≠ g := fun e => by
        subst e
        have := hM.blk.symm.trans hgg
        cases this
      refine ⟨(setRow_other _ _ _ _ hne).trans hM.blk, ⟨by rw [bb_length]; omega, .inr ⟨g, c, _, rfl, hbg, setRow_heap _ _ _ _ _ _ hgg, hnc, hcm, ?_, ?_⟩⟩, hM.le, wrb_lt hM.small hsl.small, hM.len, hM.div⟩
      · rw [List.size_toArray, List.length_append, List.length_append, List.length_take, List.length_drop, hl, hls]; omega
      · rw [Nat.mul_one] at htake ⊢
        show List.take n (cur.toList.take z ++ (bb F (Nat.min m (n - z)) ++ cur.toList.drop (z + (bb F (Nat.min m (n - z))).length))) = _
        rw [take_splice (by rw [hl]; omega) (by omega), htake, hl]
        exact bb_wrb f F rfl hz
    · exact ⟨below_setRow (Below.refl _ _) hbg _, fun i _ _ hi => setRow_other _ _ _ _ fun e => hi (by rw [e]; rfl)⟩
theorem copy_out {ops : Array Oper} {rest : List Oper} {o : Oper} {a : Act} {w : World} {Q : Exit → Act → World → Prop} (hg : o.guard = none) (d s : Operand)
    (ho : o.op = .call { callee := .builtin .copy, args := #[d, s], argTypes := #[25, 25] }) (hd : a.eval d = .slice none 0 0) (A : Option Addr) (m c : Nat) (hs : a.eval s = .slice A m c)
    (h : wpList Try.prog ops Q rest (a.put o.dst (goInt 0)) w) : wpList Try.prog ops Q (o :: rest) a w :=
  wpList_copy_nothing hg d s 25 25 ho 5 Try.underlying25 Try.sizeB _ _ _ _ _ _ hd hs (Nat.min_zero _) h
/-- What Write leaves. -/
def WriteIs (base b : Nat) (v : Value) (n : Nat) (g : Nat → Nat) (w : World) (e : Ending) (w' : World) : Prop := e = .returned (.tuple #[]) ∧ MemAt w' base b v n g ∧ Off base b v w w'
theorem mwrite_out {base b n : Nat} {v : Value} {f : Nat → Nat} {w : World} (h : MemAt w base b v n f) (z : Int) (hz : z < 0 ∨ (n : Int) ≤ z) (A : Option Addr) (m c : Nat) :
    Calls Try.prog 18 #[.pointer (some ⟨b, 0, none⟩), .int .i64 z, .slice A m c] w fun e w' => e = .returned (.tuple #[]) ∧ w = w' := by
  have K := Lib.hid (mfrom_out h z hz)
  clear h hz
  go_enter Try.func18, Try.ntmps18
  go_wp2_with (first | (go_at_call 44; refine K.out.mono ?_; rintro e w' ⟨rfl, rfl⟩) | (refine copy_out rfl _ _ rfl rfl _ _ _ rfl ?_))
  go_end0
  exact ⟨rfl, rfl⟩
theorem mwrite_walk {base b n : Nat} {v : Value} {f : Nat → Nat} {w : World} (h : MemAt w base b v n f) (z : Nat) (_hz : z < 9223372036854775808) (A : Option Addr) (m c : Nat) (F : Nat → Nat) (hs : Sl w A m F) :
    Calls Try.prog 18 #[.pointer (some ⟨b, 0, none⟩), .int .i64 (z : Int), .slice A m c] w (WriteIs base b v n (wrb f z m F) w) := by
  by_cases hlt : z < n
  · obtain ⟨g, cc, rfl⟩ : ∃ g c, v = .slice (some ⟨g, 0, none⟩) n c := by
      rcases h.own.2 with ⟨_, h1⟩ | ⟨g, c, _, h1, _⟩
      · omega
      · exact ⟨g, c, h1⟩
    have K := Lib.hid (mfrom_in h z hlt)
    have HM := Lib.hid h
    have HS := Lib.hid hs
    clear h hs
    go_enter Try.func18, Try.ntmps18
    go_wp2_with (first | (go_at_call 44; refine K.out.mono ?_; rintro e w' ⟨rfl, rfl⟩) | (refine copy_mem rfl _ _ rfl base b n g cc z f HM.out rfl hlt A m c rfl F HS.out ?_; intro k w2 h2 b2))
    go_end0
    exact ⟨rfl, h2, b2⟩
  · refine (mwrite_out h (z : Int) (.inr (by omega)) A m c).mono ?_
    rintro e w' ⟨rfl, rfl⟩
    exact ⟨rfl, ⟨h.blk, by rw [bb_congr (f := wrb f z m F) (g := f) (fun i hi => if_neg (by omega))]; exact h.own, h.le, fun i hi => by rw [wrb, if_neg (by omega)]; exact h.small i hi, h.len, h.div⟩, Off.of_below (Below.refl _ _) h.base_le⟩
theorem mfrom_nil (z : Int) (w : World) : Calls Try.prog 44 #[.pointer none, .int .i64 z] w fun e w' => e = .returned (.slice none 0 0) ∧ w = w' := by
  by_cases h1 : z < 0
  · have c1 : decide (z < 0) = true := by simp [h1]
    go_enter Try.func44, Try.ntmps44
    go_wp2_with fail
    go_ret
    exact ⟨rfl, rfl⟩
  · have c1 : decide (z < 0) = false := by simp; omega
    have c2 : decide (0 ≤ z) = true := by simp; omega
    go_enter Try.func44, Try.ntmps44
    go_wp2_with (go_at_call 27; refine (mlen_nil _).mono ?_; rintro e w' ⟨rfl, rfl⟩)
    go_ret
    exact ⟨rfl, rfl⟩
theorem mwrite_nil (z : Int) (A : Option Addr) (m c : Nat) (w : World) :
    Calls Try.prog 18 #[.pointer none, .int .i64 z, .slice A m c] w fun e w' => e = .returned (.tuple #[]) ∧ w = w' := by
  go_enter Try.func18, Try.ntmps18
  go_wp2_with (first | (go_at_call 44; refine (mfrom_nil z _).mono ?_; rintro e w' ⟨rfl, rfl⟩) | (refine copy_out rfl _ _ rfl rfl _ _ _ rfl ?_))
  go_end0
  exact ⟨rfl, rfl⟩
/-- How many bytes are read of any place and number. -/
def lenR (z k : Int) : Nat := if z < 0 ∨ k < 0 ∨ 4194304 < k then 0 else k.toNat
/-- Bytes, with m others written from any place on. -/
def wrI (f : Nat → Nat) (z : Int) (m : Nat) (F : Nat → Nat) : Nat → Nat := if z < 0 then f else wrb f z.toNat m F
theorem lenR_le (z k : Int) : lenR z k ≤ 4194304 := by
  unfold lenR
  split <;> omega
/-- What Read and its like answer of any place and number. -/
def ReadIs (m : Nat) (F : Nat → Nat) (w : World) (e : Ending) (w' : World) : Prop := ∃ A c, e = .returned (.slice A m c) ∧ m ≤ c ∧ (A = none → m = 0 ∧ c = 0) ∧ Sl w' A m F ∧ Below w.heap.size w w'
theorem mread_any {base b n : Nat} {v : Value} {f : Nat → Nat} {w : World} (h : MemAt w base b v n f) (z k : Int) (hz : z < 9223372036854775808) : Calls Try.prog 24 #[.pointer (some ⟨b, 0, none⟩), .int .i64 z, .int .i64 k] w (ReadIs (lenR z k) (rdb f n z.toNat) w) := by
  unfold ReadIs lenR
  by_cases hb : z < 0 ∨ k < 0 ∨ 4194304 < k
  · refine (mread_bad h z k hb).mono ?_
    rintro e w' ⟨rfl, rfl⟩
    rw [if_pos hb]
    exact ⟨none, 0, rfl, Nat.le_refl _, fun _ => ⟨rfl, rfl⟩, ⟨fun i hi => by omega, fun h0 => by omega⟩, Below.refl _ _⟩
  · obtain ⟨z', rfl⟩ : ∃ z' : Nat, z = (z' : Int) := ⟨z.toNat, by omega⟩
    obtain ⟨k', rfl⟩ : ∃ k' : Nat, k = (k' : Int) := ⟨k.toNat, by omega⟩
    rw [if_neg hb, Int.toNat_natCast, Int.toNat_natCast]
    refine (mread_walk h z' k' (by omega) (by omega)).mono ?_
    rintro e w' ⟨g, rfl, _, h1, h2⟩
    exact ⟨_, _, rfl, Nat.le_refl _, (fun e => by cases e), arr_sl h1 (fun i _ => rdb_lt h.small _ _), h2⟩
theorem mwrite_any {base b n : Nat} {v : Value} {f : Nat → Nat} {w : World} (h : MemAt w base b v n f) (z : Int) (hz : z < 9223372036854775808) (A : Option Addr) (m c : Nat) (F : Nat → Nat) (hs : Sl w A m F) :
    Calls Try.prog 18 #[.pointer (some ⟨b, 0, none⟩), .int .i64 z, .slice A m c] w (WriteIs base b v n (wrI f z m F) w) := by
  unfold wrI
  by_cases hb : z < 0
  · refine (mwrite_out h z (.inl hb) A m c).mono ?_
    rintro e w' ⟨rfl, rfl⟩
    rw [if_pos hb]
    exact ⟨rfl, h, Off.of_below (Below.refl _ _) h.base_le⟩
  · obtain ⟨z', rfl⟩ : ∃ z' : Nat, z = (z' : Int) := ⟨z.toNat, by omega⟩
    rw [if_neg hb, Int.toNat_natCast]
    exact mwrite_walk h z' (by omega) A m c F hs
theorem mcopy_any {base b n : Nat} {v : Value} {f : Nat → Nat} {w : World} (h : MemAt w base b v n f) (y z k : Int) (hy : y < 9223372036854775808) (hz : z < 9223372036854775808) :
    Calls Try.prog 20 #[.pointer (some ⟨b, 0, none⟩), .int .i64 y, .int .i64 z, .int .i64 k] w (WriteIs base b v n (wrI f y (lenR z k) (rdb f n z.toNat)) w) := by
  have HM := Lib.hid h
  have K := Lib.hid (mread_any h z k hz)
  clear h
  go_enter Try.func20, Try.ntmps20
  go_wp2_with fail
  refine K.out.mono ?_
  rintro e w1 ⟨A, c, rfl, _, _, hs, b1⟩
  have HS := Lib.hid hs
  have HB := Lib.hid b1
  clear hs b1
  go_wp2_with fail
  refine (mwrite_any (HM.out.below HB.out) y hy A _ c _ HS.out).mono ?_
  rintro e w2 ⟨rfl, h2, b2⟩
  go_wp2_with fail
  go_end0
  exact ⟨rfl, h2, (Off.of_below HB.out HM.out.base_le).trans b2⟩
theorem z4_w0 : #[Value.int .u64 0, .int .u64 0, .int .u64 0, .int .u64 0] = wa 0 := rfl
/-- The word that is read of a place. -/
def wrd (f : Nat → Nat) (n : Nat) (z : Int) : Nat := val (gd (rdb f n z.toNat) (lenR z 32)) (lenR z 32)
theorem lenR_32 (z : Int) : lenR z 32 ≤ 32 := by
  unfold lenR
  split <;> omega
theorem mword_any {base b n : Nat} {v : Value} {f : Nat → Nat} {w : World} (h : MemAt w base b v n f) (z : Int) (hz : z < 9223372036854775808) :
    Calls Try.prog 25 #[.pointer (some ⟨b, 0, none⟩), .int .i64 z] w fun e w' => e = .returned (wd (wrd f n z)) ∧ Below w.heap.size w w' := by
  have f0 : (w.alloc (.cells (wa 0) 30)).heap[w.heap.size]? = some (.cells (wa 0) 30) := heap_alloc_new _ _
  have b0 : Below w.heap.size w (w.alloc (.cells (wa 0) 30)) := (Below.refl _ _).alloc (Nat.le_refl _) _
  have K := Lib.hid (mread_any (h.below b0) z 32 hz)
  have F0 := Lib.hid f0
  have HB := Lib.hid b0
  have hz4 := z4_w0
  have hl := lenR_32 z
  have hlm : min ((lenR z 32 : Nat) : Int) 32 = ((lenR z 32 : Nat) : Int) := by omega
  clear h f0 b0
  unfold wrd
  generalize lenR z 32 = L at *
  generalize rdb f n z.toNat = F at *
  go_enter Try.func25, Try.ntmps25
  go_wp2_with fail
  refine K.out.mono ?_
  rintro e w1 ⟨A, c, rfl, _, _, hs, b1⟩
  replace F0 := Lib.hid (stay b1 F0.out)
  replace HB := Lib.hid (HB.out.trans (b1.mono HB.out.size))
  clear b1
  go_wp2_with fail
  refine (from_wd A L c L F w1 (by unfold maxLen; omega) hlm hs).mono ?_
  rintro e w2 ⟨rfl, b2⟩
  have f2 := stay b2 F0.out
  replace HB := Lib.hid (HB.out.trans (b2.mono HB.out.size))
  clear b2 hs F0
  go_wp2_with (refine wpList_store_row rfl 30 _ _ rfl _ (wa 0) (wa (val (gd F L) L)) rfl rfl f2 Try.infoWa rfl wa_one ?_)
  refine bodyPost_ret (v := wd (val (gd F L) L)) (results_cell_row rfl _ _ _ 30 (wa (val (gd F L) L)) (0, 0) _ rfl (blk_row f2) Try.underlying30 rfl Try.infoWa) rfl ⟨rfl, below_setRow HB.out (Nat.le_refl _) _⟩
theorem msetword_any {base b n : Nat} {v : Value} {f : Nat → Nat} {w : World} (h : MemAt w base b v n f) (z : Int) (hz : z < 9223372036854775808) (a : Nat) :
    Calls Try.prog 22 #[.pointer (some ⟨b, 0, none⟩), .int .i64 z, wd a] w (WriteIs base b v n (wrI f z 32 fun i => dig a (31 - i)) w) := by
  have f0 : (w.alloc (.cells (wa a) 30)).heap[w.heap.size]? = some (.cells (wa a) 30) := heap_alloc_new _ _
  have b0 : Below w.heap.size w (w.alloc (.cells (wa a) 30)) := (Below.refl _ _).alloc (Nat.le_refl _) _
  have HM := Lib.hid (h.below b0)
  have HB := Lib.hid b0
  have K := Lib.hid fun w => bytes_wd a w
  have hb0 := h.base_le
  clear h b0
  go_enter Try.func22, Try.ntmps22
  go_upto_region 1 with fail
  generalize w.alloc (.cells (wa a) 30) = W at *
  go_wp2_with (refine wpList_load_row rfl 30 _ rfl _ rfl 30 _ (0, 0) _ f0 Try.underlying30 rfl Try.infoWa ?_)
  refine (K.out _).mono ?_
  rintro e w1 ⟨rfl, b1⟩
  replace HM := Lib.hid (HM.out.below b1)
  replace HB := Lib.hid (HB.out.trans (b1.mono HB.out.size))
  clear b1 f0 K
  have s0 : (w1.alloc (.cells zY 74)).heap[w1.heap.size]? = some (.cells zY 74) := heap_alloc_new _ _
  have s1 : ((w1.alloc (.cells zY 74)).setRow w1.heap.size (ya a)).heap[w1.heap.size]? = some (.cells (ya a) 74) := blk_row s0
  have b2 : Below w1.heap.size w1 ((w1.alloc (.cells zY 74)).setRow w1.heap.size (ya a)) := below_setRow ((Below.refl _ _).alloc (Nat.le_refl _) _) (Nat.le_refl _) _
  have HM2 := Lib.hid (HM.out.below b2)
  have HB2 := Lib.hid (HB.out.trans (b2.mono HB.out.size))
  have hsl : Sl ((w1.alloc (.cells zY 74)).setRow w1.heap.size (ya a)) (some ⟨w1.heap.size, 0, none⟩) 32 (fun i => dig a (31 - i)) := ⟨fun _ _ => dig_lt _ _, fun _ => ⟨w1.heap.size, 0, rfl, (Array.getElem?_eq_some_iff.1 s1).1, fun i hi => by
    rw [Nat.zero_add]
    exact blk_cell s1 (arr_get .u8 (fun j => ((dig a (31 - j) : Nat) : Int)) hi)⟩⟩
  have HS := Lib.hid hsl
  clear hsl b2 HM HB
  go_wp2_with (first | (refine wpList_alloc_row rfl 74 rfl zY zY_run ?_) | (refine wpList_store_row rfl 74 _ _ rfl _ zY (ya a) rfl rfl s0 (infoArrY _) rfl (arr_one _ _ _) ?_))
  refine (mwrite_any HM2.out z hz _ 32 32 _ HS.out).mono ?_
  rintro e w3 ⟨rfl, h3, b3⟩
  go_wp2_with fail
  go_end0
  exact ⟨rfl, h3, (Off.of_below HB2.out hb0).trans b3⟩
end Go.Proofs.Ytnffelnmlloonaa
/- The chapter's examples; what a nil memory answers. -/
namespace Go.Proofs.Ytnffelnmlloonaa
open Go.RowKit SmWord
set_option maxRecDepth 100000

theorem w31 : #[Value.int .u64 31, .int .u64 0, .int .u64 0, .int .u64 0] = wa 31 := rfl
theorem w2 : #[Value.int .u64 2, .int .u64 0, .int .u64 0, .int .u64 0] = wa 2 := rfl
theorem mfixed_walk (w : World) : Calls Try.prog 11 #[] w fun e w' => e = .returned (.bool true) ∧ Below w.heap.size w w' := by
  have x1 := w31
  have x2 := w2
  have K1 := Lib.hid (mnew_walk w.heap.size w (Nat.le_refl _))
  have K5 := Lib.hid fun w => price_wd 1024 w (by decide)
  rw [show pr 1024 = 5120 by decide +kernel] at K5
  go_enter Try.func11, Try.ntmps11
  go_wp2_with fail
  refine K1.out.mono ?_
  rintro e w1 ⟨b, rfl, hb, hM, b1⟩
  have K2 := mcost_walk hM 31 2 (by decide +kernel) (by decide +kernel)
  rw [show rok 31 2 = true by decide +kernel, show mco 0 31 2 = 6 by decide +kernel, if_pos rfl] at K2
  have HM := Lib.hid hM
  have HB := Lib.hid b1
  clear hM b1 K1
  go_wp2_with fail
  refine K2.mono ?_
  rintro e w2 ⟨rfl, b2⟩
  have K3 := mreach_walk (HM.out.below b2) 31 2 (by decide +kernel) (by decide +kernel)
  unfold ReachIs at K3
  rw [show rok 31 2 = true by decide +kernel, show rlen 0 31 2 = 64 by decide +kernel, if_pos rfl] at K3
  have HK := Lib.hid K3
  replace HB := Lib.hid (HB.out.trans (b2.mono HB.out.size))
  clear K3 K2 HM b2
  go_wp2_with (first | (go_at_call 16; refine HK.out.mono ?_; rintro e w3 ⟨rfl, v', h3, h4, h5⟩; have HM3 := Lib.hid h3; have HB3 := Lib.hid (HB.out.trans h4.below); clear h3 h4 h5) | (go_at_call 27; refine (mlen_walk HM3.out).mono ?_; rintro e w4 ⟨rfl, rfl⟩) | (go_at_call 30; refine (K5.out _).mono ?_; rintro e w5 ⟨rfl, b5⟩))
  go_ret
  exact ⟨rfl, HB3.out.trans (b5.mono HB3.out.size)⟩
theorem mcopy_nil (y z k : Int) (w : World) : Calls Try.prog 20 #[.pointer none, .int .i64 y, .int .i64 z, .int .i64 k] w fun e w' => e = .returned (.tuple #[]) ∧ w = w' := by
  go_enter Try.func20, Try.ntmps20
  go_wp2_with fail
  refine (mread_nil z k _).mono ?_
  rintro e w1 ⟨rfl, rfl⟩
  go_wp2_with fail
  refine (mwrite_nil y none 0 0 _).mono ?_
  rintro e w1 ⟨rfl, rfl⟩
  go_wp2_with fail
  go_end0
  exact ⟨rfl, rfl⟩
theorem mword_nil (z : Int) (w : World) : Calls Try.prog 25 #[.pointer none, .int .i64 z] w fun e w' => e = .returned (wd 0) ∧ Below w.heap.size w w' := by
  have f0 : (w.alloc (.cells (wa 0) 30)).heap[w.heap.size]? = some (.cells (wa 0) 30) := heap_alloc_new _ _
  have b0 : Below w.heap.size w (w.alloc (.cells (wa 0) 30)) := (Below.refl _ _).alloc (Nat.le_refl _) _
  have F0 := Lib.hid f0
  have HB := Lib.hid b0
  have hz4 := z4_w0
  clear f0 b0
  go_enter Try.func25, Try.ntmps25
  go_wp2_with fail
  refine (mread_nil z 32 _).mono ?_
  rintro e w1 ⟨rfl, rfl⟩
  go_wp2_with fail
  refine (from_wd none 0 0 0 (fun _ => 0) _ (Nat.zero_le _) rfl ⟨fun i hi => by omega, fun h0 => by omega⟩).mono ?_
  rintro e w2 ⟨rfl, b2⟩
  have f2 := stay b2 F0.out
  replace HB := Lib.hid (HB.out.trans (b2.mono HB.out.size))
  clear b2 F0
  rw [show val (gd (fun _ => 0) 0) 0 = 0 from rfl]
  go_wp2_with (refine wpList_store_row rfl 30 _ _ rfl _ (wa 0) (wa 0) rfl rfl f2 Try.infoWa rfl wa_one ?_)
  refine bodyPost_ret (v := wd 0) (results_cell_row rfl _ _ _ 30 (wa 0) (0, 0) _ rfl (blk_row f2) Try.underlying30 rfl Try.infoWa) rfl ⟨rfl, below_setRow HB.out (Nat.le_refl _) _⟩
theorem msetword_nil (z : Int) (a : Nat) (w : World) :
    Calls Try.prog 22 #[.pointer none, .int .i64 z, wd a] w fun e w' => e = .returned (.tuple #[]) ∧ Below w.heap.size w w' := by
  have f0 : (w.alloc (.cells (wa a) 30)).heap[w.heap.size]? = some (.cells (wa a) 30) := heap_alloc_new _ _
  have b0 : Below w.heap.size w (w.alloc (.cells (wa a) 30)) := (Below.refl _ _).alloc (Nat.le_refl _) _
  have HB := Lib.hid b0
  have K := Lib.hid fun w => bytes_wd a w
  clear b0
  go_enter Try.func22, Try.ntmps22
  go_upto_region 1 with fail
  generalize w.alloc (.cells (wa a) 30) = W at *
  go_wp2_with (refine wpList_load_row rfl 30 _ rfl _ rfl 30 _ (0, 0) _ f0 Try.underlying30 rfl Try.infoWa ?_)
  refine (K.out _).mono ?_
  rintro e w1 ⟨rfl, b1⟩
  replace HB := Lib.hid (HB.out.trans (b1.mono HB.out.size))
  clear b1 f0 K
  have s0 : (w1.alloc (.cells zY 74)).heap[w1.heap.size]? = some (.cells zY 74) := heap_alloc_new _ _
  have b2 : Below w1.heap.size w1 ((w1.alloc (.cells zY 74)).setRow w1.heap.size (ya a)) := below_setRow ((Below.refl _ _).alloc (Nat.le_refl _) _) (Nat.le_refl _) _
  have HB2 := Lib.hid (HB.out.trans (b2.mono HB.out.size))
  clear b2 HB
  go_wp2_with (first | (refine wpList_alloc_row rfl 74 rfl zY zY_run ?_) | (refine wpList_store_row rfl 74 _ _ rfl _ zY (ya a) rfl rfl s0 (infoArrY _) rfl (arr_one _ _ _) ?_))
  refine (mwrite_nil z _ 32 32 _).mono ?_
  rintro e w3 ⟨rfl, rfl⟩
  go_wp2_with fail
  go_end0
  exact ⟨rfl, HB2.out⟩
end Go.Proofs.Ytnffelnmlloonaa
