/- Stage 14: a call as data, as the statements' do takes it; what a call leaves alone. -/
import Derived.Test.YtnjeoeekidnffaaGreatNq
import Derived.OpenShut
import Derived.Deep.Slices
import Derived.Deep.Fields
import Derived.ChangeSame
import Derived.Deep.DeepHandedRow
import Derived.Carry
import Derived.Test.YtnjeoeekidnffaaGreatNd
import Derived.Handy
namespace Go.Proofs.YtnjeoeekidnffaaGreat
open Go.RowKit SmWord Go.Maps
set_option maxRecDepth 100000

structure OpD where
  kd : Int
  A : Nat
  K : Nat
  V : Nat
  N : Nat
  da : List Nat
  dv : Value
def oC (o : OpD) : List Value := .int .i64 o.kd :: ((aN o.A).toList ++ ((wa o.K).toList ++ ((wa o.V).toList ++ [.int .u64 (o.N : Int), o.dv])))
theorem oC_len (o : OpD) : (oC o).length = 31 := by simp [oC, aN_size, wa_size]
structure OpZ (Z : Hp) (o : OpD) : Prop where
  A : o.A < 2 ^ 160
  K : o.K < M
  V : o.V < M
  N : o.N < B
  dr : RowZ Z o.dv o.da.length 1 (o.da.map u8v)
  d8 : ∀ c ∈ o.da, c < 256
  dl : o.da.length ≤ 1000000
theorem OpZ.sub {Z Z' : Hp} {o : OpD} (h : OpZ Z o) (hs : Sub Z Z') : OpZ Z' o := { h with dr := h.dr.sub hs }
theorem oC_kd (o : OpD) : (oC o)[0]? = some (.int .i64 o.kd) := rfl
theorem oC_N (o : OpD) : (oC o)[29]? = some (.int .u64 (o.N : Int)) := by
  unfold oC
  rw [show (29 : Nat) = 28 + 1 from rfl, List.getElem?_cons_succ, List.getElem?_append_right (by simp [aN_size]), List.getElem?_append_right (by simp [aN_size, wa_size]), List.getElem?_append_right (by simp [aN_size, wa_size])]
  simp [aN_size, wa_size]
theorem oC_dv (o : OpD) : (oC o)[30]? = some o.dv := by
  unfold oC
  rw [show (30 : Nat) = 29 + 1 from rfl, List.getElem?_cons_succ, List.getElem?_append_right (by simp [aN_size]), List.getElem?_append_right (by simp [aN_size, wa_size]), List.getElem?_append_right (by simp [aN_size, wa_size])]
  simp [aN_size, wa_size]
theorem oC_A {Z : Hp} {b : Nat} {o : OpD} (h : rng Z b 0 (oC o)) : rng Z b 1 (aN o.A).toList := by
  have := h.part 1 (aN o.A).toList (fun j v hj => by
    unfold oC
    rw [Nat.add_comm, List.getElem?_cons_succ, List.getElem?_append_left (List.getElem?_eq_some_iff.1 hj).1]
    exact hj)
  rwa [Nat.zero_add] at this
theorem oC_K {Z : Hp} {b : Nat} {o : OpD} (h : rng Z b 0 (oC o)) : rng Z b 21 (wa o.K).toList := by
  have := h.part 21 (wa o.K).toList (fun j v hj => by
    unfold oC
    rw [show 21 + j = (20 + j) + 1 by omega, List.getElem?_cons_succ, List.getElem?_append_right (by simp [aN_size]), List.getElem?_append_left (by have := (List.getElem?_eq_some_iff.1 hj).1; simp [aN_size]; simpa using this)]
    simpa [aN_size] using hj)
  rwa [Nat.zero_add] at this
theorem oC_V {Z : Hp} {b : Nat} {o : OpD} (h : rng Z b 0 (oC o)) : rng Z b 25 (wa o.V).toList := by
  have := h.part 25 (wa o.V).toList (fun j v hj => by
    unfold oC
    have hj4 := (List.getElem?_eq_some_iff.1 hj).1
    rw [show 25 + j = (24 + j) + 1 by omega, List.getElem?_cons_succ, List.getElem?_append_right (by simp [aN_size]; omega), List.getElem?_append_right (by simp [aN_size, wa_size]; omega), List.getElem?_append_left (by simp [aN_size, wa_size] at hj4 ⊢; omega)]
    simp only [Array.length_toList, aN_size, wa_size]
    rw [show 24 + j - 20 - 4 = j by omega]
    exact hj)
  rwa [Nat.zero_add] at this
/-- What lies from n on stays. -/
def Hold (n : Nat) (w w' : World) : Prop := w.heap.size ≤ w'.heap.size ∧ ∀ b, n ≤ b → b < w.heap.size → w'.heap[b]? = w.heap[b]?
theorem Hold.ofBelow {n : Nat} {w w' : World} (h : Below w.heap.size w w') : Hold n w w' := ⟨h.size, fun b _ hb => h.block b hb⟩
theorem Hold.trans {n : Nat} {w w' w'' : World} (h : Hold n w w') (k : Hold n w' w'') : Hold n w w'' := ⟨Nat.le_trans h.1 k.1, fun b h1 h2 => (k.2 b h1 (Nat.lt_of_lt_of_le h2 h.1)).trans (h.2 b h1 h2)⟩
theorem Hold.blk {n : Nat} {w w' : World} (h : Hold n w w') {b : Nat} {o : Obj} (hn : n ≤ b) (hb : w.heap[b]? = some o) : w'.heap[b]? = some o := (h.2 b hn (Array.getElem?_eq_some_iff.1 hb).1).trans hb
/-- A world but for the boxes of do. -/
def Boxed (n : Nat) (w w' : World) : Prop := w'.heap.size = w.heap.size ∧ ∀ b, b ≠ n → b ≠ n + 2 → w'.heap[b]? = w.heap[b]?
theorem results_tct {P : Program} {fn : Func} {p u v : Tmp} {ty : TypeId} (h : fn.results = #[.tmp u, .cell p ty, .tmp v]) (tmps : Array Value) (w : World) (g : Nat) (t : TypeId) (cs : Array Value) (fr : Nat × Nat) (d : TypeDesc) (x y : Value)
    (hp : tmps.getD p undef = .pointer (some ⟨g, 0, none⟩)) (hg : w.heap[g]? = some (.cells cs t fr))
    (hu : P.underlying ty = some d) (hd : (match d with | .struct _ | .array _ _ => true | _ => false) = true) (hi : (P.info? ty).map (·.size) = some cs.size) (hx : tmps.getD u undef = x) (hy : tmps.getD v undef = y) :
    (results fn tmps).run P w = .ok (.tuple #[x, .agg cs, y]) w := by
  have hp' : tmps[p]?.getD undef = .pointer (some ⟨g, 0, none⟩) := by simpa using hp
  have hx' : tmps[u]?.getD undef = x := by simpa using hx
  have hy' : tmps[v]?.getD undef = y := by simpa using hy
  simp [results, h, hp', hx', hy', asAddr, run_loadVar_row w g t ty cs fr d hg hu hd hi]
theorem store_dst {w : World} {b : Nat} {z : Array Value} (d : Dst) (h : d.One) (hz : z.size = 8) (hb : w.heap[b]? = some (.cells z 37)) : (storeCells ⟨b, 0, none⟩ (dC d).toList 0).run Tryz.prog w = .ok () (w.setRow b (dC d)) := by
  have := run_storeCells_from (P := Tryz.prog) b _ (dC d).toList 0 z w hb (by simp [hz, dC]) (fun v hv => (Array.all_eq_true_iff_forall_mem.1 h.arr) v (by simpa using hv))
  simpa using this
theorem dst_cells {w : World} {b : Nat} {d : Dst} (h : w.heap[b]? = some (.cells (dC d) 37)) :
    w.cell? ⟨b, 0, none⟩ = some d.w ∧ w.cell? ⟨b, 1, none⟩ = some d.l ∧ w.cell? ⟨b, 2, none⟩ = some d.wm ∧ w.cell? ⟨b, 3, none⟩ = some d.sl ∧ w.cell? ⟨b, 4, none⟩ = some (.int .i64 d.rf) ∧ w.cell? ⟨b, 5, none⟩ = some d.lg ∧ w.cell? ⟨b, 6, none⟩ = some (.bool d.tr) ∧ w.cell? ⟨b, 7, none⟩ = some d.ps :=
  ⟨blk_cell h rfl, blk_cell h rfl, blk_cell h rfl, blk_cell h rfl, blk_cell h rfl, blk_cell h rfl, blk_cell h rfl, blk_cell h rfl⟩
theorem oboxes (w : World) (d : Dst) (o : OpD) : ∃ W, ((w.alloc (.cells (dC d) 37)).alloc (.cells (oC o).toArray 47)).alloc (.cells (dC dst0) 37) = W ∧ W.heap[w.heap.size]? = some (.cells (dC d) 37) ∧ W.heap[w.heap.size + 1]? = some (.cells (oC o).toArray 47) ∧ W.heap[w.heap.size + 2]? = some (.cells (dC dst0) 37) ∧ Below w.heap.size w W ∧ W.heap.size = w.heap.size + 3 :=
  ⟨_, rfl, blk_alloc (blk_alloc (heap_alloc_new _ _)), blk_alloc (heap_alloc2_new _ _ _), by have := heap_alloc_new ((w.alloc (.cells (dC d) 37)).alloc (.cells (oC o).toArray 47)) (.cells (dC dst0) 37); simpa using this, (((Below.refl _ _).alloc (Nat.le_refl _) _).alloc (by simp) _).alloc (by simp; omega) _, by simp⟩
end Go.Proofs.YtnjeoeekidnffaaGreat
/- The statements' arguments: accounts and rows of commits, as they read. -/
namespace Go.Proofs.YtnjeoeekidnffaaGreat
open Go.ChangeShapes Go.WideShapes Go.ChangeAt Go.RowKit SmWord
set_option maxRecDepth 100000

theorem num_of : ∀ (n : Nat) (f : Nat → Nat), (∀ i, i < n → f i < 256) → ∃ A, A < 256 ^ n ∧ ∀ i, i < n → A / 256 ^ (n - 1 - i) % 256 = f i
  | 0, _, _ => ⟨0, by decide, fun _ h => absurd h (by omega)⟩
  | n + 1, f, hf => by
    obtain ⟨A, hA, h⟩ := num_of n f fun i hi => hf i (by omega)
    have hn := hf n (by omega)
    refine ⟨A * 256 + f n, by rw [Nat.pow_succ]; omega, fun i hi => ?_⟩
    by_cases e : i = n
    · subst e
      simp
      omega
    · have hi' : i < n := by omega
      rw [show n + 1 - 1 - i = (n - 1 - i) + 1 by omega, Nat.pow_succ, Nat.mul_comm (256 ^ (n - 1 - i)) 256, ← Nat.div_div_eq_div_mul, show (A * 256 + f n) / 256 = A by omega]
      exact h i hi'

section
variable {H : Type} {enc : TypeId × Value → H} {W : World} {base : Nat} {v : Value} {d : DataW H} {p : List MemPlace}
/-- A slice whose elements read one by one. -/
theorem open_rows {t e : TypeId} {k : Nat} {α : Type} (x0 : α) (f : α → List Value) (good : α → Prop) (ht : Tryz.prog.underlying t = some (.slice e)) (hk : Tryz.prog.cellsOf e = k) (hk0 : 0 < k) (hf : ∀ x, (f x).length = k)
    (one : ∀ (fuel : Nat) (cs : List Value) (y : DataW H × List MemPlace), cs.length = k → DataW.trod enc Tryz.prog W 0 (fun _ => true) true fuel e cs = some y → ∃ x, cs = f x ∧ good x)
    {fuel : Nat} {y : DataW H × List MemPlace} (h : DataW.trod enc Tryz.prog W 0 (fun _ => true) true fuel t [v] = some y) : ∃ l : List α, RowZ (hp W) v l.length k (l.flatMap f) ∧ ∀ x ∈ l, good x := by
  rcases Go.Deep.open_slice ht h with ⟨hcs, _⟩ | ⟨a, len, cap, m, n, D, Pl, hcs, _, hl, hm, hmm, _, hel⟩
  · simp at hcs
    subst hcs
    exact ⟨[], RowZ.nil _ _, fun x hx => by simp at hx⟩
  · simp at hcs
    subst hcs
    simp only [if_true] at hmm
    subst hmm
    rw [hk] at hel
    obtain ⟨b0, s0, spot⟩ := a
    have hsp : 0 < m → spot = none ∧ b0 < W.heap.size := fun h => by
      obtain ⟨cs', hc, _⟩ := hel 0 (by omega)
      obtain ⟨_, hlen, hat⟩ := World.cells?_some hc
      have a0 := hat 0 (by omega)
      rw [List.getElem?_eq_getElem (by omega)] at a0
      exact ⟨by simpa [Addr.add] using World.cell?_spot a0, by simpa [Addr.add] using World.block_lt_of_cell? W _ a0⟩
    have each : ∀ i, ∃ x : α, i < len → good x ∧ ∀ j u, (f x)[j]? = some u → W.cell? ⟨b0, s0 + i * k + j, none⟩ = some u := fun i => by
      by_cases hi : i < len
      · obtain ⟨rfl, _⟩ := hsp (by omega)
        obtain ⟨cs', hc, ht'⟩ := hel i (by omega)
        obtain ⟨_, hlen, hat⟩ := World.cells?_some hc
        obtain ⟨x, e, hx⟩ := one _ cs' _ (by omega) ht'
        refine ⟨x, fun _ => ⟨hx, fun j u hu => ?_⟩⟩
        have hj : j < k := by have := (List.getElem?_eq_some_iff.1 hu).1; rwa [hf] at this
        have a1 := hat j (by omega)
        rw [Addr.add_lit, Addr.add_lit, e, hu] at a1
        exact a1
      · exact ⟨x0, fun h => absurd h hi⟩
    refine ⟨(List.range len).map fun i => Classical.choose (each i), ?_, fun x hx => ?_⟩
    · have hlen : ((List.range len).map fun i => Classical.choose (each i)).length = len := by simp
      refine ⟨?_, ?_⟩
      · rw [flat_len _ (fun x _ => hf x)]
      · rw [hlen]
        refine ⟨_, _, rfl, hl, hm, fun h => (by cases h), fun hn => ?_⟩
        obtain ⟨rfl, hb⟩ := hsp (by omega)
        obtain ⟨C, t', fr', hC⟩ : ∃ C t' fr', W.heap[b0]? = some (.cells C t' fr') := by
          obtain ⟨u, hu⟩ : ∃ u, (f (Classical.choose (each 0)))[0]? = some u := ⟨(f (Classical.choose (each 0)))[0]'(by rw [hf]; exact hk0), by simp⟩
          have h0 := (Classical.choose_spec (each 0) hn).2 0 u hu
          unfold World.cell? at h0
          simp only at h0
          split at h0
          · rename_i c t' fr' he
            exact ⟨c, t', fr', he⟩
          · cases h0
        refine ⟨b0, s0, rfl, C, t', fr', hC, fun j u hj => ?_⟩
        have hjl : j < len * k := by
          have := (List.getElem?_eq_some_iff.1 hj).1
          rwa [flat_len _ (fun x _ => hf x), hlen] at this
        have hi : j / k < len := Nat.div_lt_of_lt_mul (by rw [Nat.mul_comm]; exact hjl)
        have hr : j % k < k := Nat.mod_lt _ hk0
        obtain ⟨u', hu'⟩ : ∃ u', (f (Classical.choose (each (j / k))))[j % k]? = some u' := ⟨(f (Classical.choose (each (j / k))))[j % k]'(by rw [hf]; exact hr), by simp⟩
        have h1 := flat_get (f := f) ((List.range len).map fun i => Classical.choose (each i)) (fun x _ => hf x) (j / k) (Classical.choose (each (j / k))) (by simp [hi]) (j % k) u' hu'
        rw [Nat.div_add_mod' j k] at h1
        rw [h1] at hj
        cases hj
        have h2 := (Classical.choose_spec (each (j / k)) hi).2 _ _ hu'
        rw [Nat.add_assoc, Nat.div_add_mod' j k, cell_of_row W b0 _ C t' fr' hC] at h2
        exact h2
    · obtain ⟨i, hi, rfl⟩ := List.mem_map.1 hx
      exact (Classical.choose_spec (each i) (List.mem_range.1 hi)).1
theorem mod_M (n : Nat) : n % M < M := Nat.mod_lt _ (by decide)
theorem wa_mod (n : Nat) : wa (n % M) = wa n := wa_congr (Nat.mod_mod _ _)
theorem open_w4 {fuel : Nat} {cs : List Value} {y : DataW H × List MemPlace} (hl : cs.length = 4) (hf : DataW.trod enc Tryz.prog W 0 (fun _ => true) true fuel 44 cs = some y) : ∃ z : Nat, cs = (wa z).toList ∧ z < M := by
  match cs, hl with
  | [c0, c1, c2, c3], _ =>
    obtain ⟨y0, y1, y2, y3, m, hx, hy0, hy1, hy2, hy3⟩ := trod_array4 Tryz.underlying44 Tryz.cells42 hf
    obtain ⟨x0, e0, _, w0⟩ := DataW.trod_int Tryz.underlying42 hy0
    obtain ⟨x1, e1, _, w1⟩ := DataW.trod_int Tryz.underlying42 hy1
    obtain ⟨x2, e2, _, w2⟩ := DataW.trod_int Tryz.underlying42 hy2
    obtain ⟨x3, e3, _, w3⟩ := DataW.trod_int Tryz.underlying42 hy3
    simp at e0 e1 e2 e3
    subst e0 e1 e2 e3
    obtain ⟨n0, rfl, b0⟩ := wf_u64 w0
    obtain ⟨n1, rfl, b1⟩ := wf_u64 w1
    obtain ⟨n2, rfl, b2⟩ := wf_u64 w2
    obtain ⟨n3, rfl, b3⟩ := wf_u64 w3
    have e := wd_num b0 b1 b2 b3
    refine ⟨num n0 n1 n2 n3 % M, ?_, mod_M _⟩
    rw [wa_mod]
    have e' : wa (num n0 n1 n2 n3) = #[.int .u64 (n0 : Int), .int .u64 (n1 : Int), .int .u64 (n2 : Int), .int .u64 (n3 : Int)] := by simpa [wd] using e
    rw [e']
theorem open_wd (hv : Value.okWide Tryz.prog W .any base 44 v) (h : DataW.Trod enc Tryz.prog W 0 (fun _ => true) true 44 v d p) : ∃ z : Nat, v = wd z ∧ z < M := by
  obtain ⟨n, rfl, _, _⟩ := open_word hv h
  exact ⟨n % M, by rw [wd, wd, wa_mod], mod_M n⟩
/-- Twenty bytes. -/
theorem open_a20 {fuel : Nat} {cs : List Value} {y : DataW H × List MemPlace} (hl : cs.length = 20) (hf : DataW.trod enc Tryz.prog W 0 (fun _ => true) true fuel 41 cs = some y) : ∃ A : Nat, cs = (aN A).toList ∧ A < 2 ^ 160 := by
  obtain ⟨xs, m, _, _, _, hxl, hel⟩ := DataW.trod_array Tryz.underlying41 hf
  have hi : ∀ i, ∃ n : Nat, i < 20 → n < 256 ∧ cs[i]? = some (.int .u8 (n : Int)) := fun i => by
    by_cases hi : i < 20
    · have h1 := hel i hi
      rw [cells8, Nat.mul_one] at h1
      have hlt : i < cs.length := by omega
      have e : (cs.drop i).take 1 = [cs[i]] := by rw [List.drop_eq_getElem_cons hlt]; rfl
      rw [e, List.getElem?_eq_getElem (by omega)] at h1
      obtain ⟨n, e1, _, wf⟩ := DataW.trod_int Tryz.underlying5 h1
      have hb : 0 ≤ n ∧ n ≤ 255 := by simpa [Lit.wf, IntKind.min, IntKind.max, IntKind.signed, IntKind.bits] using wf
      refine ⟨n.toNat, fun _ => ⟨by omega, ?_⟩⟩
      rw [List.getElem?_eq_getElem hlt]
      simp only [List.cons.injEq, and_true] at e1
      rw [e1, Int.toNat_of_nonneg hb.1]
    · exact ⟨0, fun h => absurd h hi⟩
  obtain ⟨A, hA, hd⟩ := num_of 20 (fun i => Classical.choose (hi i)) fun i h => (Classical.choose_spec (hi i) h).1
  refine ⟨A, ?_, by simpa using hA⟩
  apply List.ext_getElem?
  intro i
  by_cases h : i < 20
  · rw [(Classical.choose_spec (hi i) h).2, ← hd i h]
    have := arr_get .u8 (n := 20) (fun i => ((ab A i : Nat) : Int)) h
    rw [Array.getElem?_toList]
    exact this.symm
  · rw [List.getElem?_eq_none (by omega), List.getElem?_eq_none (by simp [aN_size]; omega)]
theorem open_addr (hv : Value.okWide Tryz.prog W .any base 41 v) (h : DataW.Trod enc Tryz.prog W 0 (fun _ => true) true 41 v d p) : ∃ A : Nat, v = .agg (aN A) ∧ A < 2 ^ 160 := by
  obtain ⟨cs, rfl, hsz, _⟩ : ∃ cs, v = .agg cs ∧ cs.size = Tryz.prog.cellsOf 41 ∧ Row.okWide Tryz.prog W .any base 41 cs := by
    simpa [Value.okWide, Tryz.underlying41] using hv
  rw [cellsA] at hsz
  obtain ⟨fuel, hf⟩ := h
  obtain ⟨A, e, hA⟩ := open_a20 (by simpa [Value.cells] using hsz) hf
  exact ⟨A, by rw [show cs = aN A from Array.ext' e], hA⟩
/-- An account, however great. -/
structure AccB (Z : Hp) (x : AV) : Prop where
  ad : x.a.ad < 2 ^ 160
  no : x.a.no < B
  ba : x.a.ba < M
  cod : RowZ Z x.p x.a.co.length 1 (x.a.co.map u8v)
  c8 : ∀ c ∈ x.a.co, c < 256
  sto : RowZ Z x.q x.a.so.length 8 (x.a.so.flatMap scs)
  sM : ∀ s ∈ x.a.so, s.1 < M ∧ s.2 < M
theorem AccB.sub {Z Z' : Hp} {x : AV} (h : AccB Z x) (hs : Sub Z Z') : AccB Z' x := { h with cod := h.cod.sub hs, sto := h.sto.sub hs }
theorem AccB.small {Z : Hp} {x : AV} (h : AccB Z x) (h1 : x.a.co.length ≤ 1000000) (h2 : x.a.so.length ≤ 1000000) : AccZ Z x := ⟨h.ad, h.no, h.ba, h.cod, h.c8, h1, h.sto, h.sM, h2⟩
theorem cellsS : Tryz.prog.cellsOf 136 = 8 := by kernel_rfl
theorem cellsAcc : Tryz.prog.cellsOf 69 = 27 := by kernel_rfl
theorem cellsU64 : Tryz.prog.cellsOf 42 = 1 := by kernel_rfl
theorem cellsSl8 : Tryz.prog.cellsOf 45 = 1 := by kernel_rfl
theorem cellsSlS : Tryz.prog.cellsOf 67 = 1 := by kernel_rfl
theorem flat_one {α : Type} (f : α → Value) : ∀ l : List α, l.flatMap (fun x => [f x]) = l.map f
  | [] => rfl
  | x :: l => by rw [List.flatMap_cons, flat_one f l]; rfl
theorem open_code {fuel : Nat} {y : DataW H × List MemPlace} (h : DataW.trod enc Tryz.prog W 0 (fun _ => true) true fuel 45 [v] = some y) : ∃ l : List Nat, RowZ (hp W) v l.length 1 (l.map u8v) ∧ ∀ c ∈ l, c < 256 := by
  obtain ⟨l, h1, h2⟩ := open_rows (v := v) (0 : Nat) (fun n => [u8v n]) (fun n => n < 256) Tryz.underlying45 cells8 (by decide) (fun _ => rfl) (fun fuel cs y hl hf => by
    match cs, hl with
    | [c], _ =>
      obtain ⟨n, e1, _, wf⟩ := DataW.trod_int Tryz.underlying5 hf
      have hb : 0 ≤ n ∧ n ≤ 255 := by simpa [Lit.wf, IntKind.min, IntKind.max, IntKind.signed, IntKind.bits] using wf
      refine ⟨n.toNat, ?_, by omega⟩
      rw [e1]
      unfold u8v
      rw [Int.toNat_of_nonneg hb.1]) h
  rw [flat_one] at h1
  exact ⟨l, h1, h2⟩
theorem open_slot {fuel : Nat} {cs : List Value} {y : DataW H × List MemPlace} (hl : cs.length = 8) (hf : DataW.trod enc Tryz.prog W 0 (fun _ => true) true fuel 136 cs = some y) : ∃ s : Nat × Nat, cs = scs s ∧ s.1 < M ∧ s.2 < M := by
  obtain ⟨ys, n', _, _, hlen, hys, hg⟩ := DataW.trod_struct Tryz.underlying136 hf
  have hys2 : ys.length = 2 := hys
  have g0 : DataW.trod enc Tryz.prog W 0 (fun _ => true) true n' 44 ((cs.drop 0).take (Tryz.prog.cellsOf 44)) = ys[0]? := hg 0 _ rfl
  have g1 : DataW.trod enc Tryz.prog W 0 (fun _ => true) true n' 44 ((cs.drop 4).take (Tryz.prog.cellsOf 44)) = ys[1]? := hg 1 _ rfl
  rw [cellsW4] at g0 g1
  rw [List.getElem?_eq_getElem (by omega)] at g0 g1
  obtain ⟨a, ea, ha⟩ := open_w4 (by simp; omega) g0
  obtain ⟨b, eb, hb⟩ := open_w4 (by simp; omega) g1
  refine ⟨(a, b), ?_, ha, hb⟩
  unfold scs
  rw [← ea, ← eb, List.drop_zero, List.take_of_length_le (l := cs.drop 4) (by simp; omega), List.take_append_drop]
theorem open_slots {fuel : Nat} {y : DataW H × List MemPlace} (h : DataW.trod enc Tryz.prog W 0 (fun _ => true) true fuel 67 [v] = some y) : ∃ l : List (Nat × Nat), RowZ (hp W) v l.length 8 (l.flatMap scs) ∧ ∀ s ∈ l, s.1 < M ∧ s.2 < M :=
  open_rows (v := v) (0, 0) scs (fun s => s.1 < M ∧ s.2 < M) Tryz.underlying67 cellsS (by decide) scs_len (fun fuel cs y hl hf => open_slot hl hf) h
theorem open_acc27 {fuel : Nat} {cs : List Value} {y : DataW H × List MemPlace} (hl : cs.length = 27) (hf : DataW.trod enc Tryz.prog W 0 (fun _ => true) true fuel 69 cs = some y) : ∃ x : AV, cs = acs x ∧ AccB (hp W) x := by
  obtain ⟨ys, n', _, _, hlen, hys, hg⟩ := DataW.trod_struct Tryz.underlying69 hf
  have hys5 : ys.length = 5 := hys
  have g0 : DataW.trod enc Tryz.prog W 0 (fun _ => true) true n' 41 ((cs.drop 0).take (Tryz.prog.cellsOf 41)) = ys[0]? := hg 0 _ rfl
  have g1 : DataW.trod enc Tryz.prog W 0 (fun _ => true) true n' 42 ((cs.drop 20).take (Tryz.prog.cellsOf 42)) = ys[1]? := hg 1 _ rfl
  have g2 : DataW.trod enc Tryz.prog W 0 (fun _ => true) true n' 44 ((cs.drop 21).take (Tryz.prog.cellsOf 44)) = ys[2]? := hg 2 _ rfl
  have g3 : DataW.trod enc Tryz.prog W 0 (fun _ => true) true n' 45 ((cs.drop 25).take (Tryz.prog.cellsOf 45)) = ys[3]? := hg 3 _ rfl
  have g4 : DataW.trod enc Tryz.prog W 0 (fun _ => true) true n' 67 ((cs.drop 26).take (Tryz.prog.cellsOf 67)) = ys[4]? := hg 4 _ rfl
  rw [cellsA] at g0
  rw [cellsU64] at g1
  rw [cellsW4] at g2
  rw [cellsSl8] at g3
  rw [cellsSlS] at g4
  rw [List.getElem?_eq_getElem (by omega)] at g0 g1 g2 g3 g4
  have d1 : ∀ i, (hi : i < 27) → (cs.drop i).take 1 = [cs[i]] := fun i hi => by rw [List.drop_eq_getElem_cons (by omega)]; rfl
  rw [d1 20 (by omega)] at g1
  rw [d1 25 (by omega)] at g3
  rw [d1 26 (by omega)] at g4
  obtain ⟨A, eA, hA⟩ := open_a20 (by simp; omega) g0
  obtain ⟨n, en, _, wn⟩ := DataW.trod_int Tryz.underlying42 g1
  obtain ⟨n0, rfl, bn⟩ := wf_u64 wn
  obtain ⟨b, eb, hb⟩ := open_w4 (by simp; omega) g2
  obtain ⟨co, h3, h3'⟩ := open_code g3
  obtain ⟨so, h4, h4'⟩ := open_slots g4
  refine ⟨⟨⟨A, n0, b, co, so⟩, cs[25], cs[26]⟩, ?_, ⟨hA, bn, hb, h3, h3', h4, h4'⟩⟩
  unfold acs
  simp only
  rw [← eA, ← eb]
  have en' : cs[20] = .int .u64 (n0 : Int) := by simpa using en
  rw [← en', List.drop_zero]
  have p1 : cs = cs.take 20 ++ cs.drop 20 := (List.take_append_drop 20 cs).symm
  have p2 : cs.drop 20 = cs[20] :: cs.drop 21 := List.drop_eq_getElem_cons (by omega)
  have p3 : cs.drop 21 = (cs.drop 21).take 4 ++ cs.drop 25 := by
    have := (List.take_append_drop 4 (cs.drop 21)).symm
    rwa [List.drop_drop] at this
  have p4 : cs.drop 25 = [cs[25], cs[26]] := by
    rw [List.drop_eq_getElem_cons (by omega), List.drop_eq_getElem_cons (by omega), List.drop_eq_nil_of_le (by omega)]
  rw [← p4, ← p3, ← p2, ← p1]
theorem open_acc (hv : Value.okWide Tryz.prog W .any base 69 v) (h : DataW.Trod enc Tryz.prog W 0 (fun _ => true) true 69 v d p) : ∃ x : AV, v = aval x ∧ AccB (hp W) x := by
  obtain ⟨cs, rfl, hsz, _⟩ : ∃ cs, v = .agg cs ∧ cs.size = Tryz.prog.cellsOf 69 ∧ Row.okWide Tryz.prog W .any base 69 cs := by
    simpa [Value.okWide, Tryz.underlying69] using hv
  rw [cellsAcc] at hsz
  obtain ⟨fuel, hf⟩ := h
  obtain ⟨x, e, hx⟩ := open_acc27 (by simpa [Value.cells] using hsz) hf
  exact ⟨x, by unfold aval; rw [← e]; simp [Value.cells], hx⟩
end
end Go.Proofs.YtnjeoeekidnffaaGreat
/- Stage 14: the arms of the statements' do that only set something, told by the two calls. -/
namespace Go.Proofs.YtnjeoeekidnffaaGreat
open Go.RowKit SmWord Go.Maps
set_option maxRecDepth 100000

/-- What a call of the code's state is to leave. -/
def CodeIs (base n : Nat) (P : Value → World → Prop) (w : World) (e : Ending) (w' : World) : Prop := ∃ v, e = .returned v ∧ Hold n w w' ∧ Below base w w' ∧ P v w'
/-- What a call of the document's state answers. -/
def DocIs (Q : Dst → World → Prop) (w : World) (e : Ending) (w' : World) : Prop := ∃ d', e = .returned (.agg (dC d')) ∧ d'.One ∧ Below w.heap.size w w' ∧ Q d' w'
/-- What do leaves: the document's state, the marks, whether both answered alike. -/
def DoIs (base : Nat) (ok : Bool) (mk : Value) (Q : Dst → World → Prop) (w : World) (e : Ending) (w' : World) : Prop := ∃ d' w3, e = .returned (.tuple #[.bool ok, .agg (dC d'), mk]) ∧ d'.One ∧ Q d' w3 ∧ Boxed w.heap.size w3 w' ∧ Below base w w'
/-- A number as a signed one. -/
def sgn (n : Nat) : Int := wrap64 (n : Int)
end Go.Proofs.YtnjeoeekidnffaaGreat
/- Stage 14: what each call of a nil state answers. Printed by gsyp.py. -/
namespace Go.Proofs.YtnjeoeekidnffaaGreat
open Go.RowKit SmWord Go.Maps
set_option maxRecDepth 100000

theorem nil_Empty (A : Nat) (w : World) : Calls Tryz.prog 31 #[.pointer none, .agg (aN A)] w fun e w' => e = .returned (.bool false) ∧ Below w.heap.size w w' := by
  go_enter Tryz.func31, Tryz.ntmps31
  go_wp2_with fail
  go_returns
  exact ⟨rfl, by repeat (first | exact Below.refl _ _ | (refine Below.alloc ?_ (by simp <;> omega) _))⟩
theorem nil_Nonce (A : Nat) (w : World) : Calls Tryz.prog 32 #[.pointer none, .agg (aN A)] w fun e w' => e = .returned (.int .u64 0) ∧ Below w.heap.size w w' := by
  go_enter Tryz.func32, Tryz.ntmps32
  go_wp2_with fail
  go_returns
  exact ⟨rfl, by repeat (first | exact Below.refl _ _ | (refine Below.alloc ?_ (by simp <;> omega) _))⟩
theorem nil_Refund  (w : World) : Calls Tryz.prog 35 #[.pointer none] w fun e w' => e = .returned (.int .i64 0) ∧ Below w.heap.size w w' := by
  go_enter Tryz.func35, Tryz.ntmps35
  go_wp2_with fail
  go_returns
  exact ⟨rfl, by repeat (first | exact Below.refl _ _ | (refine Below.alloc ?_ (by simp <;> omega) _))⟩
theorem nil_Destroyed (A : Nat) (w : World) : Calls Tryz.prog 36 #[.pointer none, .agg (aN A)] w fun e w' => e = .returned (.bool false) ∧ Below w.heap.size w w' := by
  go_enter Tryz.func36, Tryz.ntmps36
  go_wp2_with fail
  go_returns
  exact ⟨rfl, by repeat (first | exact Below.refl _ _ | (refine Below.alloc ?_ (by simp <;> omega) _))⟩
theorem nil_Touch (A : Nat) (w : World) : Calls Tryz.prog 18 #[.pointer none, .agg (aN A)] w fun e w' => e = .returned (.bool false) ∧ Below w.heap.size w w' := by
  go_enter Tryz.func18, Tryz.ntmps18
  go_wp2_with fail
  go_returns
  exact ⟨rfl, by repeat (first | exact Below.refl _ _ | (refine Below.alloc ?_ (by simp <;> omega) _))⟩
theorem nil_TouchSlot (A k : Nat) (w : World) : Calls Tryz.prog 19 #[.pointer none, .agg (aN A), wd k] w fun e w' => e = .returned (.bool false) ∧ Below w.heap.size w w' := by
  go_enter Tryz.func19, Tryz.ntmps19
  go_wp2_with fail
  go_returns
  exact ⟨rfl, by repeat (first | exact Below.refl _ _ | (refine Below.alloc ?_ (by simp <;> omega) _))⟩
theorem nil_Logs  (w : World) : Calls Tryz.prog 24 #[.pointer none] w fun e w' => e = .returned (.slice none 0 0) ∧ Below w.heap.size w w' := by
  go_enter Tryz.func24, Tryz.ntmps24
  go_wp2_with fail
  go_returns
  exact ⟨rfl, by repeat (first | exact Below.refl _ _ | (refine Below.alloc ?_ (by simp <;> omega) _))⟩
theorem nil_Changes  (w : World) : Calls Tryz.prog 25 #[.pointer none] w fun e w' => e = .returned (.slice none 0 0) ∧ Below w.heap.size w w' := by
  go_enter Tryz.func25, Tryz.ntmps25
  go_wp2_with fail
  go_returns
  exact ⟨rfl, by repeat (first | exact Below.refl _ _ | (refine Below.alloc ?_ (by simp <;> omega) _))⟩
theorem nil_Code (A : Nat) (w : World) : Calls Tryz.prog 23 #[.pointer none, .agg (aN A)] w fun e w' => e = .returned (.slice none 0 0) ∧ Below w.heap.size w w' := by
  go_enter Tryz.func23, Tryz.ntmps23
  go_wp2_with fail
  go_returns
  exact ⟨rfl, by repeat (first | exact Below.refl _ _ | (refine Below.alloc ?_ (by simp <;> omega) _))⟩
theorem nil_SetNonce (A : Nat) (n : Nat) (w : World) : Calls Tryz.prog 40 #[.pointer none, .agg (aN A), .int .u64 (n : Int)] w fun e w' => e = .returned (.tuple #[]) ∧ Below w.heap.size w w' := by
  go_enter Tryz.func40, Tryz.ntmps40
  go_wp2_with fail
  go_returns
  exact ⟨rfl, by repeat (first | exact Below.refl _ _ | (refine Below.alloc ?_ (by simp <;> omega) _))⟩
theorem nil_SetBalance (A n : Nat) (w : World) : Calls Tryz.prog 42 #[.pointer none, .agg (aN A), wd n] w fun e w' => e = .returned (.tuple #[]) ∧ Below w.heap.size w w' := by
  go_enter Tryz.func42, Tryz.ntmps42
  go_wp2_with fail
  go_returns
  exact ⟨rfl, by repeat (first | exact Below.refl _ _ | (refine Below.alloc ?_ (by simp <;> omega) _))⟩
theorem nil_SetCode (A : Nat) (q : Option Addr) (n c : Nat) (w : World) : Calls Tryz.prog 20 #[.pointer none, .agg (aN A), .slice q n c] w fun e w' => e = .returned (.tuple #[]) ∧ Below w.heap.size w w' := by
  go_enter Tryz.func20, Tryz.ntmps20
  go_wp2_with fail
  go_returns
  exact ⟨rfl, by repeat (first | exact Below.refl _ _ | (refine Below.alloc ?_ (by simp <;> omega) _))⟩
theorem nil_Make (A : Nat) (w : World) : Calls Tryz.prog 45 #[.pointer none, .agg (aN A)] w fun e w' => e = .returned (.tuple #[]) ∧ Below w.heap.size w w' := by
  go_enter Tryz.func45, Tryz.ntmps45
  go_wp2_with fail
  go_returns
  exact ⟨rfl, by repeat (first | exact Below.refl _ _ | (refine Below.alloc ?_ (by simp <;> omega) _))⟩
theorem nil_Destroy (A : Nat) (w : World) : Calls Tryz.prog 53 #[.pointer none, .agg (aN A)] w fun e w' => e = .returned (.tuple #[]) ∧ Below w.heap.size w w' := by
  go_enter Tryz.func53, Tryz.ntmps53
  go_wp2_with fail
  go_returns
  exact ⟨rfl, by repeat (first | exact Below.refl _ _ | (refine Below.alloc ?_ (by simp <;> omega) _))⟩
theorem nil_Add (z : Int) (w : World) : Calls Tryz.prog 50 #[.pointer none, .int .i64 z] w fun e w' => e = .returned (.tuple #[]) ∧ Below w.heap.size w w' := by
  go_enter Tryz.func50, Tryz.ntmps50
  go_wp2_with fail
  go_returns
  exact ⟨rfl, by repeat (first | exact Below.refl _ _ | (refine Below.alloc ?_ (by simp <;> omega) _))⟩
theorem nil_Set (A k v : Nat) (w : World) : Calls Tryz.prog 22 #[.pointer none, .agg (aN A), wd k, wd v] w fun e w' => e = .returned (.tuple #[]) ∧ Below w.heap.size w w' := by
  go_enter Tryz.func22, Tryz.ntmps22
  go_wp2_with fail
  go_returns
  exact ⟨rfl, by repeat (first | exact Below.refl _ _ | (refine Below.alloc ?_ (by simp <;> omega) _))⟩
theorem nil_Log (cs : Array Value) (w : World) : Calls Tryz.prog 21 #[.pointer none, .agg cs] w fun e w' => e = .returned (.tuple #[]) ∧ Below w.heap.size w w' := by
  go_enter Tryz.func21, Tryz.ntmps21
  go_wp2_with fail
  go_returns
  exact ⟨rfl, by repeat (first | exact Below.refl _ _ | (refine Below.alloc ?_ (by simp <;> omega) _))⟩
end Go.Proofs.YtnjeoeekidnffaaGreat
/- Stage 14: what each call of a nil state answers: words. -/
namespace Go.Proofs.YtnjeoeekidnffaaGreat
open Go.RowKit SmWord Go.Maps
set_option maxRecDepth 100000

theorem nil_Balance (A : Nat) (w : World) : Calls Tryz.prog 33 #[.pointer none, .agg (aN A)] w fun e w' => e = .returned (wd 0) ∧ Below w.heap.size w w' := by
  have e0 := z4w
  have hw := wa_size
  have st := store_newW (w.alloc (.cells (aN A) 41)) 0
  rw [World.size_alloc] at st
  have hf : ((w.alloc (.cells (aN A) 41)).alloc (.cells (wa 0) 44)).heap[w.heap.size + 1]? = some (.cells (wa 0) 44) := heap_alloc2_new _ _ _
  have HF := Lib.hid hf
  clear hf
  go_enter Tryz.func33, Tryz.ntmps33
  go_wp2_with fail
  exact bodyPost_ret (v := wd 0) (results_cell_row rfl _ _ _ 44 (wa 0) (0, 0) _ rfl HF.out Tryz.underlying44 rfl Tryz.infoWa) rfl ⟨rfl, ((Below.refl _ _).alloc (Nat.le_refl _) _).alloc (by simp) _⟩
theorem nil_Load (A k : Nat) (w : World) : Calls Tryz.prog 28 #[.pointer none, .agg (aN A), wd k] w fun e w' => e = .returned (wd 0) ∧ Below w.heap.size w w' := by
  have e0 := z4w
  have hw := wa_size
  have st := store_newW ((w.alloc (.cells (aN A) 41)).alloc (.cells (wa k) 44)) 0
  rw [World.size_alloc, World.size_alloc] at st
  have hf : (((w.alloc (.cells (aN A) 41)).alloc (.cells (wa k) 44)).alloc (.cells (wa 0) 44)).heap[w.heap.size + 1 + 1]? = some (.cells (wa 0) 44) := by
    have := heap_alloc_new ((w.alloc (.cells (aN A) 41)).alloc (.cells (wa k) 44)) (.cells (wa 0) 44)
    rwa [World.size_alloc, World.size_alloc] at this
  have HF := Lib.hid hf
  clear hf
  unfold wd
  go_enter Tryz.func28, Tryz.ntmps28
  go_wp2_with fail
  exact bodyPost_ret (v := wd 0) (results_cell_row rfl _ _ _ 44 (wa 0) (0, 0) _ rfl HF.out Tryz.underlying44 rfl Tryz.infoWa) rfl ⟨rfl, (((Below.refl _ _).alloc (Nat.le_refl _) _).alloc (by simp) _).alloc (by simp; omega) _⟩
theorem nil_First (A k : Nat) (w : World) : Calls Tryz.prog 34 #[.pointer none, .agg (aN A), wd k] w fun e w' => e = .returned (wd 0) ∧ Below w.heap.size w w' := by
  have e0 := z4w
  have hw := wa_size
  have st := store_newW ((w.alloc (.cells (aN A) 41)).alloc (.cells (wa k) 44)) 0
  rw [World.size_alloc, World.size_alloc] at st
  have hf : (((w.alloc (.cells (aN A) 41)).alloc (.cells (wa k) 44)).alloc (.cells (wa 0) 44)).heap[w.heap.size + 1 + 1]? = some (.cells (wa 0) 44) := by
    have := heap_alloc_new ((w.alloc (.cells (aN A) 41)).alloc (.cells (wa k) 44)) (.cells (wa 0) 44)
    rwa [World.size_alloc, World.size_alloc] at this
  have HF := Lib.hid hf
  clear hf
  unfold wd
  go_enter Tryz.func34, Tryz.ntmps34
  go_wp2_with fail
  exact bodyPost_ret (v := wd 0) (results_cell_row rfl _ _ _ 44 (wa 0) (0, 0) _ rfl HF.out Tryz.underlying44 rfl Tryz.infoWa) rfl ⟨rfl, (((Below.refl _ _).alloc (Nat.le_refl _) _).alloc (by simp) _).alloc (by simp; omega) _⟩
end Go.Proofs.YtnjeoeekidnffaaGreat
/- Stage 14: what each call of a nil state answers: Missing. -/
namespace Go.Proofs.YtnjeoeekidnffaaGreat
open Go.RowKit SmWord Go.Maps
set_option maxRecDepth 100000

theorem z20 : (#[.int .u8 0, .int .u8 0, .int .u8 0, .int .u8 0, .int .u8 0, .int .u8 0, .int .u8 0, .int .u8 0, .int .u8 0, .int .u8 0, .int .u8 0, .int .u8 0, .int .u8 0, .int .u8 0, .int .u8 0, .int .u8 0, .int .u8 0, .int .u8 0, .int .u8 0, .int .u8 0] : Array Value) = aN 0 := by kernel_rfl
theorem results_pair {P : Program} {fn : Func} {p u : Tmp} {ty : TypeId} (h : fn.results = #[.cell p ty, .tmp u]) (tmps : Array Value) (w : World) (g : Nat) (t : TypeId) (cs : Array Value) (fr : Nat × Nat) (d : TypeDesc) (v : Value)
    (hp : tmps.getD p undef = .pointer (some ⟨g, 0, none⟩)) (hg : w.heap[g]? = some (.cells cs t fr))
    (hu : P.underlying ty = some d) (hd : (match d with | .struct _ | .array _ _ => true | _ => false) = true) (hi : (P.info? ty).map (·.size) = some cs.size) (hv : tmps.getD u undef = v) :
    (results fn tmps).run P w = .ok (.tuple #[.agg cs, v]) w := by
  have hp' : tmps[p]?.getD undef = .pointer (some ⟨g, 0, none⟩) := by simpa using hp
  have hv' : tmps[u]?.getD undef = v := by simpa using hv
  rw [results_cell_tmp h]
  simp [hp', asAddr, run_loadVar_row w g t ty cs fr d hg hu hd hi, hv']
set_option maxHeartbeats 1000000 in
theorem nil_Missing (w : World) : Calls Tryz.prog 30 #[.pointer none] w fun e w' => e = .returned (.tuple #[.agg (aN 0), .bool false]) ∧ Below w.heap.size w w' := by
  have ez := z20
  have hs := aN_size 0
  have st : (storeCells ⟨w.heap.size, 0, none⟩ (aN 0).toList 0).run Tryz.prog (w.alloc (.cells (aN 0) 41)) = .ok () (w.alloc (.cells (aN 0) 41)) :=
    run_storeCells_new (P := Tryz.prog) w 41 (aN 0) (aN 0) (by simpa using infoAd 0) rfl (arr_one .u8 20 _)
  have hf : (w.alloc (.cells (aN 0) 41)).heap[w.heap.size]? = some (.cells (aN 0) 41) := heap_alloc_new _ _
  have HF := Lib.hid hf
  clear hf
  go_enter Tryz.func30, Tryz.ntmps30
  go_wp2_with fail
  exact bodyPost_ret (v := .tuple #[.agg (aN 0), .bool false]) (results_pair rfl _ _ w.heap.size 41 (aN 0) (0, 0) _ _ rfl HF.out Tryz.underlying41 rfl (by simpa using infoAd 0) rfl) rfl ⟨rfl, (Below.refl _ _).alloc (Nat.le_refl _) _⟩
end Go.Proofs.YtnjeoeekidnffaaGreat
