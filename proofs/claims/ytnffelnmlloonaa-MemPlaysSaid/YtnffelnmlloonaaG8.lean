/- A stack of package mem: how it lies, its length, what is pushed and taken off. -/
import Derived.Test.YtnffelnmlloonaaG6
import Derived.Deep.RegionHeld3
namespace Go.Proofs.Ytnffelnmlloonaa
open Go.RowKit SmWord
set_option maxRecDepth 100000

theorem Try.infoWz : (Try.prog.info? 30).map (fun i => (i.zero, i.size, i.bytes)) = some (some (.agg (wa 0)), 4, 32) := by kernel_rfl
theorem Try.partsW : ∃ i, Try.prog.info? 30 = some i ∧ i.zero = some (.agg (wa 0)) ∧ i.size = 4 ∧ i.bytes = 32 := info_parts Try.infoWz
/-- The cells of n words. -/
def wl (X : Nat → Nat) (n : Nat) : List Value := (List.range n).flatMap fun i => (wa (X i)).toList
theorem wl_succ (X : Nat → Nat) (n : Nat) : wl X (n + 1) = wl X n ++ (wa (X n)).toList := by simp [wl, List.range_succ]
theorem wl_length (X : Nat → Nat) (n : Nat) : (wl X n).length = n * 4 := by
  induction n with
  | zero => rfl
  | succ n ih => rw [wl_succ, List.length_append, ih, Array.length_toList, wa_size]; omega
theorem wl_congr {X Y : Nat → Nat} {n : Nat} (h : ∀ i, i < n → X i = Y i) : wl X n = wl Y n := by
  induction n with
  | zero => rfl
  | succ n ih => rw [wl_succ, wl_succ, ih fun i hi => h i (by omega), h n (by omega)]
theorem wl_get (X : Nat → Nat) {n i j : Nat} (hi : i < n) (hj : j < 4) : (wl X n)[i * 4 + j]? = (wa (X i))[j]? := by
  induction n with
  | zero => omega
  | succ n ih =>
    rw [wl_succ]
    by_cases h : i < n
    · rw [List.getElem?_append_left (by rw [wl_length]; omega)]
      exact ih h
    · obtain rfl : i = n := by omega
      rw [List.getElem?_append_right (by rw [wl_length]; omega), wl_length, show i * 4 + j - i * 4 = j by omega, Array.getElem?_toList]
theorem wl_take (X : Nat → Nat) {n k : Nat} (h : k ≤ n) : (wl X n).take (k * 4) = wl X k := by
  apply List.ext_getElem?
  intro i
  rw [List.getElem?_take]
  by_cases hi : i < k * 4
  · rw [if_pos hi, show i = i / 4 * 4 + i % 4 by omega, wl_get X (by omega) (Nat.mod_lt _ (by decide)), wl_get X (by omega) (Nat.mod_lt _ (by decide))]
  · rw [if_neg hi, List.getElem?_eq_none (by rw [wl_length]; omega)]
theorem wl_set (X : Nat → Nat) (n k m : Nat) (hk : k < n) : (wl X n).take (k * 4) ++ ((wa m).toList ++ (wl X n).drop (k * 4 + 4)) = wl (fun i => if i = k then m else X i) n := by
  apply List.ext_getElem?
  intro i
  rw [List.getElem?_append, List.getElem?_append, List.length_take, wl_length, List.getElem?_take, Array.length_toList, wa_size]
  by_cases h : i < n * 4
  · have e := wl_get (fun i => if i = k then m else X i) (n := n) (i := i / 4) (j := i % 4) (by omega) (Nat.mod_lt _ (by decide))
    have e2 := wl_get X (n := n) (i := i / 4) (j := i % 4) (by omega) (Nat.mod_lt _ (by decide))
    rw [show i / 4 * 4 + i % 4 = i by omega] at e e2
    rw [e, show min (k * 4) (n * 4) = k * 4 by omega]
    by_cases h1 : i < k * 4
    · rw [if_pos h1, if_pos h1, e2, if_neg (by omega)]
    · rw [if_neg h1]
      by_cases h2 : i - k * 4 < 4
      · rw [if_pos h2, if_pos (by omega), Array.getElem?_toList, show i - k * 4 = i % 4 by omega]
      · rw [if_neg h2, List.getElem?_drop, show k * 4 + 4 + (i - k * 4 - 4) = i by omega, e2, if_neg (by omega)]
  · rw [if_neg (by omega), if_neg (by omega), List.getElem?_drop, List.getElem?_eq_none (by rw [wl_length]; omega), List.getElem?_eq_none (by rw [wl_length]; omega)]
theorem wa_list_one (m : Nat) : ∀ v ∈ (wa m).toList, v.oneCell' = true := fun v hv => by
  simp [wa] at hv
  rcases hv with rfl | rfl | rfl | rfl <;> rfl
/-- A row of n words of one's own. -/
def WOwn (w : World) (base : Nat) (v : Value) (n : Nat) (X : Nat → Nat) : Prop := w.ownsRow base 30 4 v n (wl X n)
/-- Appending a word to a row of one's own. -/
theorem run_append_word (w : World) (base : Nat) (ty : TypeId) (v : Value) (n : Nat) (X : Nat → Nat) (hown : WOwn w base v n X) (m g c : Nat) (hg : w.heap[g]? = some (.cells (wa m) 30)) (hn : n ≤ 100000) (hbase : base ≤ w.heap.size) :
    ∃ v' w', (Builtin.append_ #[55, 55] ty #[v, .slice (some ⟨g, 0, none⟩) 1 c]).run Try.prog w = .ok v' w' ∧ WOwn w' base v' (n + 1) (fun i => if i < n then X i else m) ∧ w.grownBy w' v.ownBlock ∧ (v'.ownBlock = v.ownBlock ∨ v'.ownBlock = some w.heap.size) := by
  obtain ⟨i, hi, hz, hs, hb⟩ := Try.partsW
  obtain ⟨v', w', hr, h2, h3, h4⟩ := run_append_where (P := Try.prog) w base 55 ty 30 i _ 4 32 Try.underlying55 hi hz hs hb rfl (by decide) v n (wl X n) hown ⟨g, 0, none⟩ 1 c (wa m).toList (by simp [wa]) (fun j u hj => by
    rw [Addr.add_lit, Nat.zero_add]
    exact blk_cell hg (by rw [← Array.getElem?_toList]; exact hj)) (wa_list_one m) (by unfold maxLen; omega) (by omega) hbase
  refine ⟨v', w', hr, ?_, h3, h4⟩
  unfold WOwn
  rw [wl_succ, wl_congr (X := fun i => if i < n then X i else m) (Y := X) (fun i hi => if_pos hi)]
  simpa using h2
/-- A stack at block b, of n words X, the top one last. -/
structure StackAt (w : World) (base b : Nat) (v : Value) (n : Nat) (X : Nat → Nat) : Prop where
  blk : w.heap[b]? = some (.cells #[v] 84)
  own : WOwn w base v n X
  le : base ≤ b
  small : ∀ i, i < n → X i < M
  len : n ≤ 1024
theorem StackAt.below {w w' : World} {base b : Nat} {v : Value} {n : Nat} {X : Nat → Nat} (h : StackAt w base b v n X) (hb : Below w.heap.size w w') : StackAt w' base b v n X :=
  ⟨stay hb h.blk, own_below h.own hb, h.le, h.small, h.len⟩
theorem StackAt.lt {w : World} {base b : Nat} {v : Value} {n : Nat} {X : Nat → Nat} (h : StackAt w base b v n X) : b < w.heap.size := (Array.getElem?_eq_some_iff.1 h.blk).1
theorem StackAt.base_le {w : World} {base b : Nat} {v : Value} {n : Nat} {X : Nat → Nat} (h : StackAt w base b v n X) : base ≤ w.heap.size := Nat.le_trans h.le (Nat.le_of_lt h.lt)
theorem StackAt.cell {w : World} {base b : Nat} {v : Value} {n : Nat} {X : Nat → Nat} (h : StackAt w base b v n X) : w.cell? ⟨b, 0, none⟩ = some v := blk_cell h.blk rfl
theorem slen_walk {base b n : Nat} {v : Value} {X : Nat → Nat} {w : World} (h : StackAt w base b v n X) : Calls Try.prog 36 #[.pointer (some ⟨b, 0, none⟩)] w fun e w' => e = .returned (.int .i64 (n : Int)) ∧ w = w' := by
  have hc := h.cell
  obtain ⟨A, c, rfl⟩ := own_val h.own
  clear h
  go_enter Try.func36, Try.ntmps36
  go_wp2_with fail
  go_ret
  exact ⟨rfl, rfl⟩
theorem slen_nil (w : World) : Calls Try.prog 36 #[.pointer none] w fun e w' => e = .returned (.int .i64 0) ∧ w = w' := by
  go_enter Try.func36, Try.ntmps36
  go_wp2_with fail
  go_ret
  exact ⟨rfl, rfl⟩
theorem snew_walk (base : Nat) (w : World) (hb : base ≤ w.heap.size) : Calls Try.prog 31 #[] w fun e w' => ∃ b, e = .returned (.pointer (some ⟨b, 0, none⟩)) ∧ w.heap.size ≤ b ∧ StackAt w' base b (.slice none 0 0) 0 (fun _ => 0) ∧ Below w.heap.size w w' := by
  go_enter Try.func31, Try.ntmps31
  go_wp2_with fail
  go_ret
  exact ⟨_, rfl, Nat.le_refl _, ⟨heap_alloc_new _ _, World.ownsRow_nil _ _ _ _, hb, fun i hi => by omega, by omega⟩, (Below.refl _ _).alloc (Nat.le_refl _) _⟩
theorem spush_nil (a : Nat) (w : World) : Calls Try.prog 32 #[.pointer none, wd a] w fun e w' => e = .returned (.bool false) ∧ Below w.heap.size w w' := by
  have HB := Lib.hid ((Below.refl w.heap.size w).alloc (Nat.le_refl _) (.cells (wa a) 30))
  go_enter Try.func32, Try.ntmps32
  go_wp2_with fail
  go_ret
  exact ⟨rfl, HB.out⟩
theorem results_cs {P : Program} {fn : Func} {p u : Tmp} {ty : TypeId} (h : fn.results = #[.cell p ty, .tmp u]) (tmps : Array Value) (w : World) (g : Nat) (t : TypeId) (cs : Array Value) (fr : Nat × Nat) (d : TypeDesc) (v : Value)
    (hp : tmps.getD p undef = .pointer (some ⟨g, 0, none⟩)) (hg : w.heap[g]? = some (.cells cs t fr))
    (hu : P.underlying ty = some d) (hd : (match d with | .struct _ | .array _ _ => true | _ => false) = true) (hi : (P.info? ty).map (·.size) = some cs.size) (hv : tmps.getD u undef = v) :
    (results fn tmps).run P w = .ok (.tuple #[.agg cs, v]) w := by
  have hp' : tmps[p]?.getD undef = .pointer (some ⟨g, 0, none⟩) := by simpa using hp
  have hv' : tmps[u]?.getD undef = v := by simpa using hv
  rw [results_cell_tmp h]
  simp [hp', asAddr, run_loadVar_row w g t ty cs fr d hg hu hd hi, hv']
theorem spop_nil (w : World) : Calls Try.prog 33 #[.pointer none] w fun e w' => e = .returned (.tuple #[wd 0, .bool false]) ∧ Below w.heap.size w w' := by
  have f0 : (w.alloc (.cells (wa 0) 30)).heap[w.heap.size]? = some (.cells (wa 0) 30) := heap_alloc_new _ _
  have b0 : Below w.heap.size w (w.alloc (.cells (wa 0) 30)) := (Below.refl _ _).alloc (Nat.le_refl _) _
  have hz4 := z4_w0
  go_enter Try.func33, Try.ntmps33
  go_wp2_with fail
  refine (slen_nil _).mono ?_
  rintro e w1 ⟨rfl, rfl⟩
  go_wp2_with (refine wpList_store_row rfl 30 _ _ rfl _ (wa 0) (wa 0) rfl rfl f0 Try.infoWa rfl wa_one ?_)
  refine bodyPost_ret (v := .tuple #[wd 0, .bool false]) (results_cs rfl _ _ _ 30 (wa 0) (0, 0) _ _ rfl (blk_row f0) Try.underlying30 rfl Try.infoWa rfl) rfl ⟨rfl, below_setRow b0 (Nat.le_refl _) _⟩
theorem sdup_nil (z : Int) (w : World) : Calls Try.prog 34 #[.pointer none, .int .i64 z] w fun e w' => e = .returned (.bool false) ∧ w = w' := by
  by_cases h1 : z < 1
  · have c1 : decide (z < 1) = true := by simp [h1]
    go_enter Try.func34, Try.ntmps34
    go_wp2_with fail
    go_ret
    exact ⟨rfl, rfl⟩
  · have c1 : decide (z < 1) = false := by simp; omega
    have c2 : decide (0 < z) = true := by simp; omega
    go_enter Try.func34, Try.ntmps34
    go_wp2_with (go_at_call 36; refine (slen_nil _).mono ?_; rintro e w' ⟨rfl, rfl⟩)
    go_ret
    exact ⟨rfl, rfl⟩
theorem sswap_nil (z : Int) (w : World) : Calls Try.prog 35 #[.pointer none, .int .i64 z] w fun e w' => e = .returned (.bool false) ∧ w = w' := by
  by_cases h1 : z < 1
  · have c1 : decide (z < 1) = true := by simp [h1]
    go_enter Try.func35, Try.ntmps35
    go_wp2_with fail
    go_ret
    exact ⟨rfl, rfl⟩
  · have c1 : decide (z < 1) = false := by simp; omega
    have c2 : decide (0 ≤ z) = true := by simp; omega
    go_enter Try.func35, Try.ntmps35
    go_wp2_with (go_at_call 36; refine (slen_nil _).mono ?_; rintro e w' ⟨rfl, rfl⟩)
    go_ret
    exact ⟨rfl, rfl⟩
theorem sall_nil (w : World) : Calls Try.prog 38 #[.pointer none] w fun e w' => e = .returned (.slice none 0 0) ∧ w = w' := by
  go_enter Try.func38, Try.ntmps38
  go_wp2_with fail
  go_ret
  exact ⟨rfl, rfl⟩
/-- All but a stack's own two blocks is as it was, and its words lie where they lay or in a new block. -/
structure SOff (base b : Nat) (v v' : Value) (w w' : World) : Prop where
  off : Off base b v w w'
  own : v'.ownBlock = v.ownBlock ∨ ∃ g, v'.ownBlock = some g ∧ w.heap.size ≤ g
/-- What Push leaves. -/
def PushIs (base b : Nat) (v : Value) (n : Nat) (X : Nat → Nat) (a : Nat) (w : World) (e : Ending) (w' : World) : Prop :=
  e = .returned (.bool (decide (n < 1024))) ∧ ∃ v', StackAt w' base b v' (if n < 1024 then n + 1 else n) (fun i => if i < n then X i else a) ∧ SOff base b v v' w w'
theorem StackAt.same {w : World} {base b : Nat} {v : Value} {n : Nat} {X Y : Nat → Nat} (h : StackAt w base b v n X) (he : ∀ i, i < n → Y i = X i) : StackAt w base b v n Y :=
  ⟨h.blk, by unfold WOwn; rw [wl_congr he]; exact h.own, h.le, fun i hi => by rw [he i hi]; exact h.small i hi, h.len⟩
theorem spush_walk {base b n : Nat} {v : Value} {X : Nat → Nat} {w : World} (h : StackAt w base b v n X) (a : Nat) (ha : a < M) : Calls Try.prog 32 #[.pointer (some ⟨b, 0, none⟩), wd a] w (PushIs base b v n X a w) := by
  have f0 : (w.alloc (.cells (wa a) 30)).heap[w.heap.size]? = some (.cells (wa a) 30) := heap_alloc_new _ _
  have b0 : Below w.heap.size w (w.alloc (.cells (wa a) 30)) := (Below.refl _ _).alloc (Nat.le_refl _) _
  have HS := Lib.hid (h.below b0)
  have HB := Lib.hid b0
  have hbase := h.base_le
  have hln := h.len
  obtain ⟨A, c, rfl⟩ := own_val h.own
  unfold PushIs
  clear b0
  by_cases hn : n < 1024
  · have c1 : decide (1024 ≤ (n : Int)) = false := by simp; omega
    rw [if_pos hn, decide_eq_true hn]
    have hsm := h.small
    clear h
    go_enter Try.func32, Try.ntmps32
    have hc := HS.out.cell
    go_upto_region 3 with fail
    generalize w.alloc (.cells (wa a) 30) = W at *
    obtain ⟨k0, k1, k2, k3⟩ := wcells f0
    have fo := fold_w
    have hcd : W.drew.cell? ⟨b, 0, none⟩ = some (.slice A n c) := hc
    have hsz : (wa a).size = 4 := rfl
    obtain ⟨v', w2, hr, o2, g2, wh⟩ := run_append_word (W.drew.alloc (.cells (wa a) 30)) base 55 _ n X (own_below HS.out.own (((Below.refl _ _).drew).alloc (Nat.le_refl _) _)) a W.drew.heap.size 1 (heap_alloc_new _ _) (by omega) (by have := HS.out.base_le; simp; omega)
    have hbW := HS.out.lt
    have b1 : Below W.heap.size W (W.drew.alloc (.cells (wa a) 30)) := ((Below.refl _ _).drew).alloc (Nat.le_refl _) _
    have hS1 := HS.out.below b1
    have hcd2 := hS1.cell
    have hne := own_ne hS1.own hS1.blk (by decide)
    have hb2 : w2.heap[b]? = some (.cells #[.slice A n c] 84) := (g2.block b hS1.lt (fun e => hne e.symm)).trans hS1.blk
    have hc2 := blk_cell (j := 0) hb2 rfl
    have hfz := blk_frozen (j := 0) hb2
    obtain ⟨A', c', rfl⟩ := own_val o2
    have hne2 := own_ne o2 hb2 (by decide)
    have hh := Lib.hid hr
    have S1 : (w2.setCell ⟨b, 0, none⟩ (.slice A' (n + 1) c')).heap[b]? = some (.cells #[.slice A' (n + 1) c'] 84) := blk_set hb2 _
    have S2 : WOwn (w2.setCell ⟨b, 0, none⟩ (.slice A' (n + 1) c')) base (.slice A' (n + 1) c') (n + 1) (fun i => if i < n then X i else a) := World.ownsRow.kept o2 (grown_setCell w2 b (.slice A' (n + 1) c')) (.inr hne2)
    have S3 : Off base b (.slice A n c) W (w2.setCell ⟨b, 0, none⟩ (.slice A' (n + 1) c')) := ⟨(((b1.mono HS.out.base_le).grown g2 hS1.base_le (fun k hk => (hS1.own.lt k hk).1)).setCell HS.out.le _), fun i hi hib hiv => by
      rw [Below.heap_setCell _ _ _ _ hib, g2.block i (Nat.lt_of_lt_of_le hi b1.size) (fun e => hiv e.symm)]
      exact b1.block i hi⟩
    have P1 := Lib.hid S1
    have P2 := Lib.hid S2
    have P3 := Lib.hid S3
    have P4 := Lib.hid wh
    have P5 := Lib.hid hsm
    clear hr o2 g2 wh hne hb2 hne2 S1 S2 S3 b1 hS1 hsm f0
    go_region_law (refine step_append_run rfl _ _ _ _ rfl _ _ rfl rfl _ _ hh.out ?_)
    all_goals
      go_wp2_with fail
      go_ret
      refine ⟨rfl, _, ⟨P1.out, P2.out, HS.out.le, fun i hi => ?_, by omega⟩, (Off.of_below HB.out hbase).trans P3.out, ?_⟩
      · show (if i < n then X i else a) < M
        split
        · exact P5.out i (by assumption)
        · exact ha
      · rcases P4.out with h | h
        · exact .inl h
        · exact .inr ⟨_, h, Nat.le_trans HB.out.size (by simp)⟩
  · have c1 : decide (1024 ≤ (n : Int)) = true := by simp; omega
    rw [if_neg hn, decide_eq_false hn]
    have HH := Lib.hid h
    clear h
    go_enter Try.func32, Try.ntmps32
    have hc := HS.out.cell
    go_wp2_with fail
    go_ret
    exact ⟨rfl, _, HS.out.same fun i hi => if_pos hi, Off.of_below HB.out hbase, .inl rfl⟩
end Go.Proofs.Ytnffelnmlloonaa
/- A stack of package mem: the top taken off, a word pushed again, two words' places changed, all words. -/
namespace Go.Proofs.Ytnffelnmlloonaa
open Go.RowKit SmWord
set_option maxRecDepth 100000

theorem wown_cells {w : World} {base g n c : Nat} {X : Nat → Nat} (h : WOwn w base (.slice (some ⟨g, 0, none⟩) n c) n X) {i : Nat} (hi : i < n) :
    w.cell? ⟨g, i * 4, none⟩ = some (.int .u64 ((l0 (X i) : Nat) : Int)) ∧ w.cell? ⟨g, i * 4 + 1, none⟩ = some (.int .u64 ((l1 (X i) : Nat) : Int)) ∧ w.cell? ⟨g, i * 4 + 2, none⟩ = some (.int .u64 ((l2 (X i) : Nat) : Int)) ∧ w.cell? ⟨g, i * 4 + 3, none⟩ = some (.int .u64 ((l3 (X i) : Nat) : Int)) := by
  have hc := World.ownsRow.cells h (g := g) rfl
  have k : ∀ j, j < 4 → ∀ v, (wa (X i))[j]? = some v → w.cell? ⟨g, i * 4 + j, none⟩ = some v := fun j hj v hv => by
    have := hc (i * 4 + j) v (by rw [wl_get X hi hj]; exact hv)
    rwa [Addr.add_lit, Nat.zero_add] at this
  exact ⟨k 0 (by decide) _ rfl, k 1 (by decide) _ rfl, k 2 (by decide) _ rfl, k 3 (by decide) _ rfl⟩
theorem wown_some {w : World} {base n : Nat} {v : Value} {X : Nat → Nat} (h : WOwn w base v n X) (hn : 0 < n) : ∃ g c, v = .slice (some ⟨g, 0, none⟩) n c ∧ n ≤ c := by
  rcases h.2 with ⟨_, h1⟩ | ⟨g, c, _, h1, _, _, h2, _⟩
  · omega
  · exact ⟨g, c, h1, h2⟩
theorem store_wa0 (w : World) (m : Nat) : (storeCells ⟨w.heap.size, 0, none⟩ (wa m).toList 0).run Try.prog (w.alloc (.cells (wa 0) 30)) = .ok () (w.alloc (.cells (wa m) 30)) := store_new w m
/-- What Pop leaves. -/
def PopIs (base b : Nat) (v : Value) (n : Nat) (X : Nat → Nat) (w : World) (e : Ending) (w' : World) : Prop :=
  e = .returned (.tuple #[wd (if 0 < n then X (n - 1) else 0), .bool (decide (0 < n))]) ∧ ∃ v', StackAt w' base b v' (n - 1) X ∧ SOff base b v v' w w'
theorem spop_walk {base b n : Nat} {v : Value} {X : Nat → Nat} {w : World} (h : StackAt w base b v n X) : Calls Try.prog 33 #[.pointer (some ⟨b, 0, none⟩)] w (PopIs base b v n X w) := by
  have f0 : (w.alloc (.cells (wa 0) 30)).heap[w.heap.size]? = some (.cells (wa 0) 30) := heap_alloc_new _ _
  have b0 : Below w.heap.size w (w.alloc (.cells (wa 0) 30)) := (Below.refl _ _).alloc (Nat.le_refl _) _
  have HS := Lib.hid (h.below b0)
  have HB := Lib.hid b0
  have hz4 := z4_w0
  have hbase := h.base_le
  unfold PopIs
  by_cases hn : 0 < n
  · obtain ⟨q, rfl⟩ : ∃ q, n = q + 1 := ⟨n - 1, by omega⟩
    obtain ⟨g, c, rfl, hnc⟩ := wown_some h.own hn
    have hln := h.len
    have hgl := (World.ownsRow.lt h.own g rfl).2
    have hbl := h.lt
    rw [if_pos hn, decide_eq_true hn, Nat.add_sub_cancel]
    clear h b0
    have c0 : ((q : Int) + 1 == 0) = false := by rw [beq_eq_false_iff_ne]; omega
    have e1 : (q : Int) + 1 - 1 = (q : Int) := by omega
    have hm : q ≤ 1024 := by omega
    go_enter Try.func33, Try.ntmps33
    go_wp2_with fail
    generalize w.alloc (.cells (wa 0) 30) = W at *
    refine (slen_walk HS.out).mono ?_
    rintro e w1 ⟨rfl, rfl⟩
    have hc := HS.out.cell
    obtain ⟨k0, k1, k2, k3⟩ := wown_cells HS.out.own (show q < q + 1 by omega)
    have fo := fold_w
    have hs0 := store_wa0
    have hsz := wa_size
    go_upto_region 5 with fail
    clear k0 k1 k2 k3 hs0 hsz
    have b1 : Below W.heap.size W (W.alloc (.cells (wa (X q)) 30)) := (Below.refl _ _).alloc (Nat.le_refl _) _
    have hS1 := HS.out.below b1
    have f1 := stay b1 f0
    have fq : (W.alloc (.cells (wa (X q)) 30)).heap[W.heap.size]? = some (.cells (wa (X q)) 30) := heap_alloc_new _ _
    have hc1 := hS1.cell
    have hfz := blk_frozen (j := 0) hS1.blk
    have hsm := Lib.hid HS.out.small
    have hw1 : w.heap.size < W.heap.size := (Array.getElem?_eq_some_iff.1 f0).1
    have p1 := blk_other (b := b) (j := 0) f1 (by omega) (.slice (some ⟨g, 0, none⟩) q c)
    have pq := blk_other (b := b) (j := 0) fq (by omega) (.slice (some ⟨g, 0, none⟩) q c)
    have pb := blk_set (j := 0) hS1.blk (.slice (some ⟨g, 0, none⟩) q c)
    have P1 := Lib.hid (blk_row (c' := wa (X q)) p1)
    have PB := Lib.hid (blk_row_other (b := w.heap.size) (c' := wa (X q)) pb (by omega))
    have PO : WOwn (((W.alloc (.cells (wa (X q)) 30)).setCell ⟨b, 0, none⟩ (.slice (some ⟨g, 0, none⟩) q c)).setRow w.heap.size (wa (X q))) base (.slice (some ⟨g, 0, none⟩) q c) q X := by
      rcases hS1.own.2 with ⟨h1, _⟩ | ⟨g', cap, cur, h1, hbg, hgg, hgc, hcm, hcs, htake⟩
      · cases h1
      · cases h1
        refine ⟨wl_length _ _, .inr ⟨g, c, cur, rfl, hbg, ?_, by omega, hcm, hcs, ?_⟩⟩
        · exact blk_row_other (blk_other hgg (fun e => own_ne hS1.own hS1.blk (by decide) (by rw [← e]; rfl)) _) (by omega)
        · rw [← wl_take X (show q ≤ q + 1 by omega), ← htake, List.take_take, Nat.min_eq_left (by omega)]
    have PO' := Lib.hid PO
    have POff : Off base b (.slice (some ⟨g, 0, none⟩) (q + 1) c) w (((W.alloc (.cells (wa (X q)) 30)).setCell ⟨b, 0, none⟩ (.slice (some ⟨g, 0, none⟩) q c)).setRow w.heap.size (wa (X q))) :=
      ⟨below_setRow (((HB.out.trans (b1.mono HB.out.size)).mono hbase).setCell HS.out.le _) hbase _, fun i hi hib _ => by
        rw [setRow_other _ _ _ _ (by omega), Below.heap_setCell _ _ _ _ hib, (HB.out.trans (b1.mono HB.out.size)).block i hi]⟩
    have PF := Lib.hid POff
    clear PO POff pb b1 hS1 HB fo f0
    have hle := HS.out.le
    clear HS hc
    go_wp2_with (first | (refine wpList_load_row rfl 30 _ rfl _ rfl 30 (wa (X q)) (0, 0) _ pq Try.underlying30 rfl Try.infoWa ?_) | (refine wpList_store_row rfl 30 _ _ rfl _ (wa 0) (wa (X q)) rfl rfl p1 Try.infoWa rfl wa_one ?_))
    refine bodyPost_ret (v := .tuple #[wd (X q), .bool true]) (results_cs rfl _ _ _ 30 (wa (X q)) (0, 0) _ _ rfl P1.out Try.underlying30 rfl Try.infoWa rfl) rfl ⟨rfl, _, ⟨PB.out, PO'.out, hle, fun i hi => hsm.out i (by omega), by omega⟩, PF.out, .inl rfl⟩
  · obtain rfl : n = 0 := by omega
    rw [if_neg hn, decide_eq_false hn]
    clear h
    go_enter Try.func33, Try.ntmps33
    go_wp2_with fail
    refine (slen_walk HS.out).mono ?_
    rintro e w1 ⟨rfl, rfl⟩
    go_wp2_with (refine wpList_store_row rfl 30 _ _ rfl _ (wa 0) (wa 0) rfl rfl f0 Try.infoWa rfl wa_one ?_)
    refine bodyPost_ret (v := .tuple #[wd 0, .bool false]) (results_cs rfl _ _ _ 30 (wa 0) (0, 0) _ _ rfl (blk_row f0) Try.underlying30 rfl Try.infoWa rfl) rfl ⟨rfl, v, ?_, Off.of_below (below_setRow b0 (Nat.le_refl _) _) hbase, .inl rfl⟩
    rw [setRow_self _ _ _ _ _ f0]
    exact HS.out
/-- What Dup leaves. -/
def DupIs (base b : Nat) (v : Value) (n : Nat) (X : Nat → Nat) (z : Int) (w : World) (e : Ending) (w' : World) : Prop :=
  e = .returned (.bool (decide (1 ≤ z ∧ z ≤ n ∧ n < 1024))) ∧ ∃ v', StackAt w' base b v' (if 1 ≤ z ∧ z ≤ n ∧ n < 1024 then n + 1 else n) (fun i => if i < n then X i else X (n - z.toNat)) ∧ SOff base b v v' w w'
theorem sdup_walk {base b n : Nat} {v : Value} {X : Nat → Nat} {w : World} (h : StackAt w base b v n X) (z : Int) : Calls Try.prog 34 #[.pointer (some ⟨b, 0, none⟩), .int .i64 z] w (DupIs base b v n X z w) := by
  have HS := Lib.hid h
  have hbase := h.base_le
  have hln := h.len
  have hc := h.cell
  have Kl := Lib.hid (slen_walk h)
  unfold DupIs
  by_cases h1 : z < 1
  · have c1 : decide (z < 1) = true := by simp [h1]
    have hz : ¬ (1 ≤ z ∧ z ≤ n ∧ n < 1024) := by omega
    rw [if_neg hz, decide_eq_false hz]
    clear h hc Kl hz
    go_enter Try.func34, Try.ntmps34
    go_wp2_with fail
    go_ret
    exact ⟨rfl, v, HS.out.same fun i hi => if_pos hi, Off.of_below (Below.refl _ _) hbase, .inl rfl⟩
  have c1 : decide (z < 1) = false := by simp; omega
  by_cases h2 : (n : Int) < z
  · have c2 : decide ((n : Int) < z) = true := by simp [h2]
    have hz : ¬ (1 ≤ z ∧ z ≤ n ∧ n < 1024) := by omega
    rw [if_neg hz, decide_eq_false hz]
    clear h hc hz
    go_enter Try.func34, Try.ntmps34
    go_wp2_with (go_at_call 36; refine Kl.out.mono ?_; rintro e w' ⟨rfl, rfl⟩)
    go_ret
    exact ⟨rfl, v, HS.out.same fun i hi => if_pos hi, Off.of_below (Below.refl _ _) hbase, .inl rfl⟩
  have c2 : decide ((n : Int) < z) = false := by simp; omega
  obtain ⟨k, rfl⟩ : ∃ k : Nat, z = (k : Int) := ⟨z.toNat, by omega⟩
  obtain ⟨q, rfl⟩ : ∃ q, n = q + k := ⟨n - k, by omega⟩
  obtain ⟨g, c, rfl, hnc⟩ := wown_some h.own (by omega)
  obtain ⟨k0, k1, k2, k3⟩ := wown_cells h.own (show q < q + k by omega)
  have hsm := h.small q (by omega)
  have fo := fold_w
  have e1 : (q : Int) + (k : Int) - (k : Int) = (q : Int) := by omega
  have e2 : IntKind.i64.wrap (q : Int) = (q : Int) := by rw [IntKind.wrap_i64]; omega
  have KP := Lib.hid (spush_walk (h.below (Below.refl _ w).drew) (X q) hsm)
  have hq : q < q + k := by omega
  have hX : ∀ i, i < q + k → (if i < q + k then X i else X (q + k - (k : Int).toNat)) = X i := fun i hi => if_pos hi
  have hk2 : (1 ≤ (k : Int) ∧ (k : Int) ≤ ((q + k : Nat) : Int) ∧ q + k < 1024) ↔ q + k < 1024 := by omega
  simp only [hk2, Int.toNat_natCast, Nat.add_sub_cancel]
  clear h hk2 hX
  unfold PushIs at KP
  generalize (if q + k < 1024 then q + k + 1 else q + k) = N at *
  generalize decide (q + k < 1024) = ok at *
  generalize (fun i => if i < q + k then X i else X q) = Y at *
  go_enter Try.func34, Try.ntmps34
  go_upto_region 3 with (go_at_call 36; refine Kl.out.mono ?_; rintro e w' ⟨rfl, rfl⟩)
  go_region_with (go_at_call 32; refine KP.out.mono ?_; rintro e w2 ⟨rfl, v', h3, h4⟩)
  all_goals
    go_wp2_with fail
    go_ret
    exact ⟨rfl, v', h3, ⟨(Off.of_below (Below.refl _ _).drew hbase).trans h4.off, h4.own⟩⟩
end Go.Proofs.Ytnffelnmlloonaa
/- A stack of package mem: two words' places changed, all words. -/
namespace Go.Proofs.Ytnffelnmlloonaa
open Go.RowKit SmWord
set_option maxRecDepth 100000

/-- Two places changed. -/
def swp (X : Nat → Nat) (i j k : Nat) : Nat := if k = i then X j else if k = j then X i else X k
/-- A word is stored into a row of one's own. -/
theorem store_own {w : World} {base g n c : Nat} {X : Nat → Nat} (h : WOwn w base (.slice (some ⟨g, 0, none⟩) n c) n X) {i : Nat} (hi : i < n) (m : Nat) :
    ∃ cur, (storeCells ⟨g, i * 4, none⟩ (wa m).toList 0).run Try.prog w = .ok () (w.setRow g cur) ∧ WOwn (w.setRow g cur) base (.slice (some ⟨g, 0, none⟩) n c) n (fun k => if k = i then m else X k) := by
  rcases h.2 with ⟨h1, _⟩ | ⟨g', cap, cur, h1, hbg, hgg, hnc, hcm, hcs, htake⟩
  · cases h1
  · cases h1
    have hlw : (wa m).toList.length = 4 := rfl
    have hst := run_storeCells_at Try.prog g (i * 4) 30 (wa m).toList 0 cur w hgg (by rw [hlw, hcs]; omega) (wa_list_one m)
    simp only [Nat.add_zero] at hst
    refine ⟨_, hst, ⟨wl_length _ _, .inr ⟨g, c, _, rfl, hbg, setRow_heap _ _ _ _ _ _ hgg, hnc, hcm, ?_, ?_⟩⟩⟩
    · rw [List.size_toArray, List.length_append, List.length_append, List.length_take, List.length_drop, hlw, Array.length_toList, hcs]; omega
    · show List.take (n * 4) (cur.toList.take (i * 4) ++ (wa m).toList ++ cur.toList.drop (i * 4 + (wa m).toList.length)) = _
      rw [List.append_assoc, take_splice (by rw [hlw]; omega) (by rw [Array.length_toList, hcs]; omega), htake, hlw]
      exact wl_set X n i m hi
/-- What All answers: a row of one's own. -/
theorem sclone_walk {A : Option Addr} {n c : Nat} {X : Nat → Nat} {w : World} (hA : A = none → n = 0 ∧ c = 0) (hs : ∀ b, A = some b → ∀ j u, (wl X n)[j]? = some u → w.cell? (b.add j) = some u) (hn : n ≤ 100000) :
    Calls Try.prog 52 #[.slice A n c] w fun e w' => (∃ v, e = .returned v ∧ WOwn w' w.heap.size v n X) ∧ Below w.heap.size w w' := by
  have en := fun w : World => Lib.run_eql_slice_nil (P := Try.prog) w 55 30 A n c 0 0 Try.underlying55
  cases A with
  | none =>
    obtain ⟨rfl, rfl⟩ := hA rfl
    go_enter Try.func52, Try.ntmps52
    go_wp2_with fail
    go_ret
    exact ⟨⟨_, rfl, World.ownsRow_nil _ _ _ _⟩, Below.refl _ _⟩
  | some a =>
    obtain ⟨i, hi, hz, hs1, hb⟩ := Try.partsW
    have hone : ∀ v ∈ wl X n, v.oneCell' = true := fun v hv => by
      unfold wl at hv
      obtain ⟨i, _, h⟩ := List.mem_flatMap.1 hv
      exact wa_list_one _ _ h
    have ho : (w.alloc (.cells #[] 30)).ownsRow w.heap.size 30 4 (.slice (some ⟨w.heap.size, 0, none⟩) 0 0) 0 [] := World.ownsRow_made w #[] 0 (Nat.le_refl _) (Nat.zero_le _) rfl
    have hnews : ∀ j u, (wl X n)[j]? = some u → (w.alloc (.cells #[] 30)).cell? (a.add j) = some u := fun j u hj => by
      have h := hs a rfl j u hj
      exact (((Below.refl w.heap.size w).alloc (Nat.le_refl _) (.cells #[] 30)).cell (World.block_lt_of_cell? w _ h)).trans h
    have HO := Lib.hid ho
    have HN := Lib.hid hnews
    have hwl := Lib.hid (wl_length X n)
    have HE := Lib.hid hone
    clear ho hnews hs hone
    go_enter Try.func52, Try.ntmps52
    go_wp2_with (at_builtin; refine wpList_append_own _ rfl _ _ 55 rfl w.heap.size 30 i (.agg (wa 0)) 4 32 Try.underlying55 hi hz hs1 hb rfl (by decide) _ 0 [] rfl HO.out a n c (wl X n) rfl hwl.out HN.out HE.out (by unfold maxLen; omega) (by omega) (by simp) ?_)
    intro v' w' o3 g3 _
    have b3 : Below w.heap.size w w' := ((Below.refl w.heap.size w).alloc (Nat.le_refl _) (.cells #[] 30)).grown g3 (by simp) (fun b hb' => (HO.out.lt b hb').1)
    have O3 := Lib.hid o3
    have B3 := Lib.hid b3
    clear o3 g3 b3
    go_wp2_with fail
    go_ret
    exact ⟨⟨_, rfl, O3.out⟩, B3.out⟩
theorem sall_walk {base b n : Nat} {v : Value} {X : Nat → Nat} {w : World} (h : StackAt w base b v n X) : Calls Try.prog 38 #[.pointer (some ⟨b, 0, none⟩)] w fun e w' => (∃ v, e = .returned v ∧ WOwn w' w.heap.size v n X) ∧ Below w.heap.size w w' := by
  have hc := h.cell
  have hln := h.len
  obtain ⟨A, c, rfl⟩ := own_val h.own
  have K := Lib.hid (sclone_walk (A := A) (n := n) (c := c) (X := X) (w := w) (fun e => by
    subst e
    rcases h.own.2 with ⟨h1, h2⟩ | ⟨g, _, _, h1, _⟩
    · cases h1; exact ⟨h2, rfl⟩
    · cases h1) (fun a e j u hj => by
    subst e
    rcases h.own.2 with ⟨h1, _⟩ | ⟨g, _, _, h1, _⟩
    · cases h1
    · cases h1
      exact World.ownsRow.cells h.own (g := g) rfl j u hj) (by omega))
  clear h
  go_enter Try.func38, Try.ntmps38
  go_wp2_with (go_at_call 52; refine K.out.mono ?_; rintro e w' ⟨⟨v, rfl, h1⟩, b1⟩)
  go_ret
  exact ⟨⟨v, rfl, h1⟩, b1⟩
/-- What Swap leaves. -/
def SwapIs (base b : Nat) (v : Value) (n : Nat) (X : Nat → Nat) (z : Int) (w : World) (e : Ending) (w' : World) : Prop :=
  e = .returned (.bool (decide (1 ≤ z ∧ z < n))) ∧ StackAt w' base b v n (if 1 ≤ z ∧ z < n then swp X (n - 1) (n - 1 - z.toNat) else X) ∧ Off base b v w w'
theorem sswap_walk {base b n : Nat} {v : Value} {X : Nat → Nat} {w : World} (h : StackAt w base b v n X) (z : Int) : Calls Try.prog 35 #[.pointer (some ⟨b, 0, none⟩), .int .i64 z] w (SwapIs base b v n X z w) := by
  have HS := Lib.hid h
  have hbase := h.base_le
  have hln := h.len
  have hc := h.cell
  have Kl := Lib.hid (slen_walk h)
  unfold SwapIs
  by_cases h1 : z < 1
  · have c1 : decide (z < 1) = true := by simp [h1]
    have hz : ¬ (1 ≤ z ∧ z < n) := by omega
    rw [if_neg hz, decide_eq_false hz]
    clear h hc Kl hz
    go_enter Try.func35, Try.ntmps35
    go_wp2_with fail
    go_ret
    exact ⟨rfl, HS.out, Off.of_below (Below.refl _ _) hbase⟩
  have c1 : decide (z < 1) = false := by simp; omega
  by_cases h2 : (n : Int) ≤ z
  · have c2 : decide ((n : Int) ≤ z) = true := by simp [h2]
    have hz : ¬ (1 ≤ z ∧ z < n) := by omega
    rw [if_neg hz, decide_eq_false hz]
    clear h hc hz
    go_enter Try.func35, Try.ntmps35
    go_wp2_with (go_at_call 36; refine Kl.out.mono ?_; rintro e w' ⟨rfl, rfl⟩)
    go_ret
    exact ⟨rfl, HS.out, Off.of_below (Below.refl _ _) hbase⟩
  have c2 : decide ((n : Int) ≤ z) = false := by simp; omega
  obtain ⟨k, rfl⟩ : ∃ k : Nat, z = (k : Int) := ⟨z.toNat, by omega⟩
  obtain ⟨q, rfl⟩ : ∃ q, n = q + k + 1 := ⟨n - k - 1, by omega⟩
  have hz : 1 ≤ (k : Int) ∧ (k : Int) < ((q + k + 1 : Nat) : Int) := by omega
  rw [if_pos hz, decide_eq_true hz, Nat.add_sub_cancel, Int.toNat_natCast, Nat.add_sub_cancel]
  clear hz
  obtain ⟨g, c, rfl, hnc⟩ := wown_some h.own (by omega)
  have hne := own_ne h.own h.blk (by decide)
  have ho : WOwn w.drew base (.slice (some ⟨g, 0, none⟩) (q + k + 1) c) (q + k + 1) X := own_below h.own (Below.refl _ _).drew
  obtain ⟨k0, k1, k2, k3⟩ := wown_cells h.own (show q < q + k + 1 by omega)
  obtain ⟨r0, r1, r2, r3⟩ := wown_cells h.own (show q + k < q + k + 1 by omega)
  obtain ⟨cur1, s1, o1⟩ := store_own ho (show q + k < q + k + 1 by omega) (X q)
  obtain ⟨cur2, s2, o2⟩ := store_own o1 (show q < q + k + 1 by omega) (X (q + k))
  have fo := fold_w
  have hsz := wa_size
  have e1 : (q : Int) + (k : Int) + 1 - 1 = ((q + k : Nat) : Int) := by omega
  have e3 : (q : Int) + (k : Int) - (k : Int) = (q : Int) := by omega
  have e2 : IntKind.i64.wrap (q : Int) = (q : Int) := by rw [IntKind.wrap_i64]; omega
  have hX : Hid (∀ i, i < q + k + 1 → swp X (q + k) q i = (fun k_1 => if k_1 = q then X (q + k) else if k_1 = q + k then X q else X k_1) i) := Lib.hid fun i _ => by
    show swp X (q + k) q i = if i = q then X (q + k) else if i = q + k then X q else X i
    unfold swp
    by_cases e : i = q + k
    · subst e
      rw [if_pos rfl]
      by_cases e' : q + k = q
      · rw [if_pos e', e']
      · rw [if_neg e', if_pos rfl]
    · rw [if_neg e]
      split
      · rfl
      · rfl
  have HO := Lib.hid o2
  have hgl : base ≤ g := (World.ownsRow.lt h.own g rfl).1
  have hbg : b ≠ g := fun e => hne (by rw [e]; rfl)
  have hsm : ∀ i, i < q + k + 1 → (fun k_1 => if k_1 = q then X (q + k) else if k_1 = q + k then X q else X k_1) i < M := fun i hi => by
    show (if i = q then X (q + k) else if i = q + k then X q else X i) < M
    split
    · exact h.small _ (by omega)
    · split
      · exact h.small _ (by omega)
      · exact h.small _ hi
  have HSM := Lib.hid hsm
  clear o1 o2 ho h hne hsm
  have hcd : w.drew.cell? ⟨b, 0, none⟩ = some (.slice (some ⟨g, 0, none⟩) (q + k + 1) c) := hc
  go_enter Try.func35, Try.ntmps35
  go_upto_region 4 with (go_at_call 36; refine Kl.out.mono ?_; rintro e w' ⟨rfl, rfl⟩)
  go_region
  all_goals
    go_wp2_with fail
    go_ret
    refine ⟨rfl, StackAt.same ⟨?_, HO.out, HS.out.le, ?_, hln⟩ hX.out, ⟨below_setRow (below_setRow ((Below.refl base w).drew) hgl _) hgl _, fun i _ _ hi => ?_⟩⟩
    · exact blk_row_other (blk_row_other (show w.drew.heap[b]? = _ from HS.out.blk) hbg) hbg
    · exact HSM.out
    · have hig : i ≠ g := fun e => hi (by rw [e]; rfl)
      rw [setRow_other _ _ _ _ hig, setRow_other _ _ _ _ hig]
      rfl
end Go.Proofs.Ytnffelnmlloonaa
