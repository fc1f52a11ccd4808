/- The statements' arguments: accounts and rows of commits, as they read. -/
import Derived.Test.YtdgenbidgieojaaG4
import Derived.Test.YtdgenbidgieojaaG3
import Derived.Carry
import Derived.Lib.BytesEntry
import Derived.Sort.Grow
import Derived.Test.YtdgenbidgieojaaG5
import Derived.Laws.BytesArg
namespace Go.Proofs.Ytdgenbidgieojaa
open Go.ChangeShapes Go.WideShapes Go.ChangeAt Go.RowKit SmWord
set_option maxRecDepth 100000

theorem num_of : ∀ (n : Nat) (f : Nat → Nat), (∀ i, i < n → f i < 256) → ∃ A, A < 256 ^ n ∧ ∀ i, i < n → A / 256 ^ (n - 1 - i) % 256 = f i
  | 0, _, _ => ⟨0, by decide, fun _ h => absurd h (by omega)⟩
  | n + 1, f, hf => by
    obtain ⟨A, hA, h⟩ := num_of n f fun i hi => hf i (by omega)
    have hn := hf n (by omega)
    refine ⟨A * 256 + f n, by rw [Nat.pow_succ]; omega, fun i hi => ?_⟩
    by_cases e : i = n
    · subst e
      simp
      omega
    · have hi' : i < n := by omega
      rw [show n + 1 - 1 - i = (n - 1 - i) + 1 by omega, Nat.pow_succ, Nat.mul_comm (256 ^ (n - 1 - i)) 256, ← Nat.div_div_eq_div_mul, show (A * 256 + f n) / 256 = A by omega]
      exact h i hi'

section
variable {H : Type} {enc : TypeId × Value → H} {W : World} {base : Nat} {v : Value} {d : DataW H} {p : List MemPlace}
/-- A slice whose elements read one by one. -/
theorem open_rows {t e : TypeId} {k : Nat} {α : Type} (x0 : α) (f : α → List Value) (good : α → Prop) (ht : Try.prog.underlying t = some (.slice e)) (hk : Try.prog.cellsOf e = k) (hk0 : 0 < k) (hf : ∀ x, (f x).length = k)
    (one : ∀ (fuel : Nat) (cs : List Value) (y : DataW H × List MemPlace), cs.length = k → DataW.trod enc Try.prog W 0 (fun _ => true) true fuel e cs = some y → ∃ x, cs = f x ∧ good x)
    {fuel : Nat} {y : DataW H × List MemPlace} (h : DataW.trod enc Try.prog W 0 (fun _ => true) true fuel t [v] = some y) : ∃ l : List α, RowZ (hp W) v l.length k (l.flatMap f) ∧ ∀ x ∈ l, good x := by
  rcases Go.Deep.open_slice ht h with ⟨hcs, _⟩ | ⟨a, len, cap, m, n, D, Pl, hcs, _, hl, hm, hmm, _, hel⟩
  · simp at hcs
    subst hcs
    exact ⟨[], RowZ.nil _ _, fun x hx => by simp at hx⟩
  · simp at hcs
    subst hcs
    simp only [if_true] at hmm
    subst hmm
    rw [hk] at hel
    obtain ⟨b0, s0, spot⟩ := a
    have hsp : 0 < m → spot = none ∧ b0 < W.heap.size := fun h => by
      obtain ⟨cs', hc, _⟩ := hel 0 (by omega)
      obtain ⟨_, hlen, hat⟩ := World.cells?_some hc
      have a0 := hat 0 (by omega)
      rw [List.getElem?_eq_getElem (by omega)] at a0
      exact ⟨by simpa [Addr.add] using World.cell?_spot a0, by simpa [Addr.add] using World.block_lt_of_cell? W _ a0⟩
    have each : ∀ i, ∃ x : α, i < len → good x ∧ ∀ j u, (f x)[j]? = some u → W.cell? ⟨b0, s0 + i * k + j, none⟩ = some u := fun i => by
      by_cases hi : i < len
      · obtain ⟨rfl, _⟩ := hsp (by omega)
        obtain ⟨cs', hc, ht'⟩ := hel i (by omega)
        obtain ⟨_, hlen, hat⟩ := World.cells?_some hc
        obtain ⟨x, e, hx⟩ := one _ cs' _ (by omega) ht'
        refine ⟨x, fun _ => ⟨hx, fun j u hu => ?_⟩⟩
        have hj : j < k := by have := (List.getElem?_eq_some_iff.1 hu).1; rwa [hf] at this
        have a1 := hat j (by omega)
        rw [Addr.add_lit, Addr.add_lit, e, hu] at a1
        exact a1
      · exact ⟨x0, fun h => absurd h hi⟩
    refine ⟨(List.range len).map fun i => Classical.choose (each i), ?_, fun x hx => ?_⟩
    · have hlen : ((List.range len).map fun i => Classical.choose (each i)).length = len := by simp
      refine ⟨?_, ?_⟩
      · rw [flat_len _ (fun x _ => hf x)]
      · rw [hlen]
        refine ⟨_, _, rfl, hl, hm, fun h => (by cases h), fun hn => ?_⟩
        obtain ⟨rfl, hb⟩ := hsp (by omega)
        obtain ⟨C, t', fr', hC⟩ : ∃ C t' fr', W.heap[b0]? = some (.cells C t' fr') := by
          obtain ⟨u, hu⟩ : ∃ u, (f (Classical.choose (each 0)))[0]? = some u := ⟨(f (Classical.choose (each 0)))[0]'(by rw [hf]; exact hk0), by simp⟩
          have h0 := (Classical.choose_spec (each 0) hn).2 0 u hu
          unfold World.cell? at h0
          simp only at h0
          split at h0
          · rename_i c t' fr' he
            exact ⟨c, t', fr', he⟩
          · cases h0
        refine ⟨b0, s0, rfl, C, t', fr', hC, fun j u hj => ?_⟩
        have hjl : j < len * k := by
          have := (List.getElem?_eq_some_iff.1 hj).1
          rwa [flat_len _ (fun x _ => hf x), hlen] at this
        have hi : j / k < len := Nat.div_lt_of_lt_mul (by rw [Nat.mul_comm]; exact hjl)
        have hr : j % k < k := Nat.mod_lt _ hk0
        obtain ⟨u', hu'⟩ : ∃ u', (f (Classical.choose (each (j / k))))[j % k]? = some u' := ⟨(f (Classical.choose (each (j / k))))[j % k]'(by rw [hf]; exact hr), by simp⟩
        have h1 := flat_get (f := f) ((List.range len).map fun i => Classical.choose (each i)) (fun x _ => hf x) (j / k) (Classical.choose (each (j / k))) (by simp [hi]) (j % k) u' hu'
        rw [Nat.div_add_mod' j k] at h1
        rw [h1] at hj
        cases hj
        have h2 := (Classical.choose_spec (each (j / k)) hi).2 _ _ hu'
        rw [Nat.add_assoc, Nat.div_add_mod' j k, cell_of_row W b0 _ C t' fr' hC] at h2
        exact h2
    · obtain ⟨i, hi, rfl⟩ := List.mem_map.1 hx
      exact (Classical.choose_spec (each i) (List.mem_range.1 hi)).1
theorem mod_M (n : Nat) : n % M < M := Nat.mod_lt _ (by decide)
theorem wa_mod (n : Nat) : wa (n % M) = wa n := wa_congr (Nat.mod_mod _ _)
theorem open_w4 {fuel : Nat} {cs : List Value} {y : DataW H × List MemPlace} (hl : cs.length = 4) (hf : DataW.trod enc Try.prog W 0 (fun _ => true) true fuel 35 cs = some y) : ∃ z : Nat, cs = (wa z).toList ∧ z < M := by
  match cs, hl with
  | [c0, c1, c2, c3], _ =>
    obtain ⟨y0, y1, y2, y3, m, hx, hy0, hy1, hy2, hy3⟩ := trod_array4 Try.underlying35 Try.cells33 hf
    obtain ⟨x0, e0, _, w0⟩ := DataW.trod_int Try.underlying33 hy0
    obtain ⟨x1, e1, _, w1⟩ := DataW.trod_int Try.underlying33 hy1
    obtain ⟨x2, e2, _, w2⟩ := DataW.trod_int Try.underlying33 hy2
    obtain ⟨x3, e3, _, w3⟩ := DataW.trod_int Try.underlying33 hy3
    simp at e0 e1 e2 e3
    subst e0 e1 e2 e3
    obtain ⟨n0, rfl, b0⟩ := wf_u64 w0
    obtain ⟨n1, rfl, b1⟩ := wf_u64 w1
    obtain ⟨n2, rfl, b2⟩ := wf_u64 w2
    obtain ⟨n3, rfl, b3⟩ := wf_u64 w3
    have e := wd_num b0 b1 b2 b3
    refine ⟨num n0 n1 n2 n3 % M, ?_, mod_M _⟩
    rw [wa_mod]
    have e' : wa (num n0 n1 n2 n3) = #[.int .u64 (n0 : Int), .int .u64 (n1 : Int), .int .u64 (n2 : Int), .int .u64 (n3 : Int)] := by simpa [wd] using e
    rw [e']
theorem open_wd (hv : Value.okWide Try.prog W .any base 35 v) (h : DataW.Trod enc Try.prog W 0 (fun _ => true) true 35 v d p) : ∃ z : Nat, v = wd z ∧ z < M := by
  obtain ⟨n, rfl, _, _⟩ := open_word hv h
  exact ⟨n % M, by rw [wd, wd, wa_mod], mod_M n⟩
/-- Twenty bytes. -/
theorem open_a20 {fuel : Nat} {cs : List Value} {y : DataW H × List MemPlace} (hl : cs.length = 20) (hf : DataW.trod enc Try.prog W 0 (fun _ => true) true fuel 32 cs = some y) : ∃ A : Nat, cs = (aN A).toList ∧ A < 2 ^ 160 := by
  obtain ⟨xs, m, _, _, _, hxl, hel⟩ := DataW.trod_array Try.underlying32 hf
  have hi : ∀ i, ∃ n : Nat, i < 20 → n < 256 ∧ cs[i]? = some (.int .u8 (n : Int)) := fun i => by
    by_cases hi : i < 20
    · have h1 := hel i hi
      rw [cells8, Nat.mul_one] at h1
      have hlt : i < cs.length := by omega
      have e : (cs.drop i).take 1 = [cs[i]] := by rw [List.drop_eq_getElem_cons hlt]; rfl
      rw [e, List.getElem?_eq_getElem (by omega)] at h1
      obtain ⟨n, e1, _, wf⟩ := DataW.trod_int Try.underlying5 h1
      have hb : 0 ≤ n ∧ n ≤ 255 := by simpa [Lit.wf, IntKind.min, IntKind.max, IntKind.signed, IntKind.bits] using wf
      refine ⟨n.toNat, fun _ => ⟨by omega, ?_⟩⟩
      rw [List.getElem?_eq_getElem hlt]
      simp only [List.cons.injEq, and_true] at e1
      rw [e1, Int.toNat_of_nonneg hb.1]
    · exact ⟨0, fun h => absurd h hi⟩
  obtain ⟨A, hA, hd⟩ := num_of 20 (fun i => Classical.choose (hi i)) fun i h => (Classical.choose_spec (hi i) h).1
  refine ⟨A, ?_, by simpa using hA⟩
  apply List.ext_getElem?
  intro i
  by_cases h : i < 20
  · rw [(Classical.choose_spec (hi i) h).2, ← hd i h]
    have := arr_get .u8 (n := 20) (fun i => ((ab A i : Nat) : Int)) h
    rw [Array.getElem?_toList]
    exact this.symm
  · rw [List.getElem?_eq_none (by omega), List.getElem?_eq_none (by simp [aN_size]; omega)]
theorem open_addr (hv : Value.okWide Try.prog W .any base 32 v) (h : DataW.Trod enc Try.prog W 0 (fun _ => true) true 32 v d p) : ∃ A : Nat, v = .agg (aN A) ∧ A < 2 ^ 160 := by
  obtain ⟨cs, rfl, hsz, _⟩ : ∃ cs, v = .agg cs ∧ cs.size = Try.prog.cellsOf 32 ∧ Row.okWide Try.prog W .any base 32 cs := by
    simpa [Value.okWide, Try.underlying32] using hv
  rw [cellsA] at hsz
  obtain ⟨fuel, hf⟩ := h
  obtain ⟨A, e, hA⟩ := open_a20 (by simpa [Value.cells] using hsz) hf
  exact ⟨A, by rw [show cs = aN A from Array.ext' e], hA⟩
/-- An account, however great. -/
structure AccB (Z : Hp) (x : AV) : Prop where
  ad : x.a.ad < 2 ^ 160
  no : x.a.no < B
  ba : x.a.ba < M
  cod : RowZ Z x.p x.a.co.length 1 (x.a.co.map u8v)
  c8 : ∀ c ∈ x.a.co, c < 256
  sto : RowZ Z x.q x.a.so.length 8 (x.a.so.flatMap scs)
  sM : ∀ s ∈ x.a.so, s.1 < M ∧ s.2 < M
theorem AccB.sub {Z Z' : Hp} {x : AV} (h : AccB Z x) (hs : Sub Z Z') : AccB Z' x := { h with cod := h.cod.sub hs, sto := h.sto.sub hs }
theorem AccB.small {Z : Hp} {x : AV} (h : AccB Z x) (h1 : x.a.co.length ≤ 1000000) (h2 : x.a.so.length ≤ 1000000) : AccZ Z x := ⟨h.ad, h.no, h.ba, h.cod, h.c8, h1, h.sto, h.sM, h2⟩
theorem cellsS : Try.prog.cellsOf 79 = 8 := by kernel_rfl
theorem cellsW4 : Try.prog.cellsOf 35 = 4 := by kernel_rfl
theorem cellsAcc : Try.prog.cellsOf 39 = 27 := by kernel_rfl
theorem cellsU64 : Try.prog.cellsOf 33 = 1 := by kernel_rfl
theorem cellsSl8 : Try.prog.cellsOf 36 = 1 := by kernel_rfl
theorem cellsSlS : Try.prog.cellsOf 37 = 1 := by kernel_rfl
theorem flat_one {α : Type} (f : α → Value) : ∀ l : List α, l.flatMap (fun x => [f x]) = l.map f
  | [] => rfl
  | x :: l => by rw [List.flatMap_cons, flat_one f l]; rfl
theorem open_code {fuel : Nat} {y : DataW H × List MemPlace} (h : DataW.trod enc Try.prog W 0 (fun _ => true) true fuel 36 [v] = some y) : ∃ l : List Nat, RowZ (hp W) v l.length 1 (l.map u8v) ∧ ∀ c ∈ l, c < 256 := by
  obtain ⟨l, h1, h2⟩ := open_rows (v := v) (0 : Nat) (fun n => [u8v n]) (fun n => n < 256) Try.underlying36 cells8 (by decide) (fun _ => rfl) (fun fuel cs y hl hf => by
    match cs, hl with
    | [c], _ =>
      obtain ⟨n, e1, _, wf⟩ := DataW.trod_int Try.underlying5 hf
      have hb : 0 ≤ n ∧ n ≤ 255 := by simpa [Lit.wf, IntKind.min, IntKind.max, IntKind.signed, IntKind.bits] using wf
      refine ⟨n.toNat, ?_, by omega⟩
      rw [e1]
      unfold u8v
      rw [Int.toNat_of_nonneg hb.1]) h
  rw [flat_one] at h1
  exact ⟨l, h1, h2⟩
theorem open_slot {fuel : Nat} {cs : List Value} {y : DataW H × List MemPlace} (hl : cs.length = 8) (hf : DataW.trod enc Try.prog W 0 (fun _ => true) true fuel 79 cs = some y) : ∃ s : Nat × Nat, cs = scs s ∧ s.1 < M ∧ s.2 < M := by
  obtain ⟨ys, n', _, _, hlen, hys, hg⟩ := DataW.trod_struct Try.underlying79 hf
  have hys2 : ys.length = 2 := hys
  have g0 : DataW.trod enc Try.prog W 0 (fun _ => true) true n' 35 ((cs.drop 0).take (Try.prog.cellsOf 35)) = ys[0]? := hg 0 _ rfl
  have g1 : DataW.trod enc Try.prog W 0 (fun _ => true) true n' 35 ((cs.drop 4).take (Try.prog.cellsOf 35)) = ys[1]? := hg 1 _ rfl
  rw [cellsW4] at g0 g1
  rw [List.getElem?_eq_getElem (by omega)] at g0 g1
  obtain ⟨a, ea, ha⟩ := open_w4 (by simp; omega) g0
  obtain ⟨b, eb, hb⟩ := open_w4 (by simp; omega) g1
  refine ⟨(a, b), ?_, ha, hb⟩
  unfold scs
  rw [← ea, ← eb, List.drop_zero, List.take_of_length_le (l := cs.drop 4) (by simp; omega), List.take_append_drop]
theorem open_slots {fuel : Nat} {y : DataW H × List MemPlace} (h : DataW.trod enc Try.prog W 0 (fun _ => true) true fuel 37 [v] = some y) : ∃ l : List (Nat × Nat), RowZ (hp W) v l.length 8 (l.flatMap scs) ∧ ∀ s ∈ l, s.1 < M ∧ s.2 < M :=
  open_rows (v := v) (0, 0) scs (fun s => s.1 < M ∧ s.2 < M) Try.underlying37 cellsS (by decide) scs_len (fun fuel cs y hl hf => open_slot hl hf) h
theorem open_acc27 {fuel : Nat} {cs : List Value} {y : DataW H × List MemPlace} (hl : cs.length = 27) (hf : DataW.trod enc Try.prog W 0 (fun _ => true) true fuel 39 cs = some y) : ∃ x : AV, cs = acs x ∧ AccB (hp W) x := by
  obtain ⟨ys, n', _, _, hlen, hys, hg⟩ := DataW.trod_struct Try.underlying39 hf
  have hys5 : ys.length = 5 := hys
  have g0 : DataW.trod enc Try.prog W 0 (fun _ => true) true n' 32 ((cs.drop 0).take (Try.prog.cellsOf 32)) = ys[0]? := hg 0 _ rfl
  have g1 : DataW.trod enc Try.prog W 0 (fun _ => true) true n' 33 ((cs.drop 20).take (Try.prog.cellsOf 33)) = ys[1]? := hg 1 _ rfl
  have g2 : DataW.trod enc Try.prog W 0 (fun _ => true) true n' 35 ((cs.drop 21).take (Try.prog.cellsOf 35)) = ys[2]? := hg 2 _ rfl
  have g3 : DataW.trod enc Try.prog W 0 (fun _ => true) true n' 36 ((cs.drop 25).take (Try.prog.cellsOf 36)) = ys[3]? := hg 3 _ rfl
  have g4 : DataW.trod enc Try.prog W 0 (fun _ => true) true n' 37 ((cs.drop 26).take (Try.prog.cellsOf 37)) = ys[4]? := hg 4 _ rfl
  rw [cellsA] at g0
  rw [cellsU64] at g1
  rw [cellsW4] at g2
  rw [cellsSl8] at g3
  rw [cellsSlS] at g4
  rw [List.getElem?_eq_getElem (by omega)] at g0 g1 g2 g3 g4
  have d1 : ∀ i, (hi : i < 27) → (cs.drop i).take 1 = [cs[i]] := fun i hi => by rw [List.drop_eq_getElem_cons (by omega)]; rfl
  rw [d1 20 (by omega)] at g1
  rw [d1 25 (by omega)] at g3
  rw [d1 26 (by omega)] at g4
  obtain ⟨A, eA, hA⟩ := open_a20 (by simp; omega) g0
  obtain ⟨n, en, _, wn⟩ := DataW.trod_int Try.underlying33 g1
  obtain ⟨n0, rfl, bn⟩ := wf_u64 wn
  obtain ⟨b, eb, hb⟩ := open_w4 (by simp; omega) g2
  obtain ⟨co, h3, h3'⟩ := open_code g3
  obtain ⟨so, h4, h4'⟩ := open_slots g4
  refine ⟨⟨⟨A, n0, b, co, so⟩, cs[25], cs[26]⟩, ?_, ⟨hA, bn, hb, h3, h3', h4, h4'⟩⟩
  unfold acs
  simp only
  rw [← eA, ← eb]
  have en' : cs[20] = .int .u64 (n0 : Int) := by simpa using en
  rw [← en', List.drop_zero]
  have p1 : cs = cs.take 20 ++ cs.drop 20 := (List.take_append_drop 20 cs).symm
  have p2 : cs.drop 20 = cs[20] :: cs.drop 21 := List.drop_eq_getElem_cons (by omega)
  have p3 : cs.drop 21 = (cs.drop 21).take 4 ++ cs.drop 25 := by
    have := (List.take_append_drop 4 (cs.drop 21)).symm
    rwa [List.drop_drop] at this
  have p4 : cs.drop 25 = [cs[25], cs[26]] := by
    rw [List.drop_eq_getElem_cons (by omega), List.drop_eq_getElem_cons (by omega), List.drop_eq_nil_of_le (by omega)]
  rw [← p4, ← p3, ← p2, ← p1]
theorem open_acc (hv : Value.okWide Try.prog W .any base 39 v) (h : DataW.Trod enc Try.prog W 0 (fun _ => true) true 39 v d p) : ∃ x : AV, v = aval x ∧ AccB (hp W) x := by
  obtain ⟨cs, rfl, hsz, _⟩ : ∃ cs, v = .agg cs ∧ cs.size = Try.prog.cellsOf 39 ∧ Row.okWide Try.prog W .any base 39 cs := by
    simpa [Value.okWide, Try.underlying39] using hv
  rw [cellsAcc] at hsz
  obtain ⟨fuel, hf⟩ := h
  obtain ⟨x, e, hx⟩ := open_acc27 (by simpa [Value.cells] using hsz) hf
  exact ⟨x, by unfold aval; rw [← e]; simp [Value.cells], hx⟩
end
end Go.Proofs.Ytdgenbidgieojaa
/- Rows of accounts and of commits, as they read; what is too great to be gone through. -/
namespace Go.Proofs.Ytdgenbidgieojaa
open Go.ChangeShapes Go.WideShapes Go.ChangeAt Go.RowKit SmWord
set_option maxRecDepth 100000

/-- A row of accounts, however great. -/
structure AccsB (Z : Hp) (v : Value) (l : List AV) : Prop where
  row : RowZ Z v l.length 27 (l.flatMap acs)
  each : ∀ x ∈ l, AccB Z x
theorem AccsB.sub {Z Z' : Hp} {v : Value} {l : List AV} (h : AccsB Z v l) (hs : Sub Z Z') : AccsB Z' v l := ⟨h.row.sub hs, fun x hx => (h.each x hx).sub hs⟩
/-- A commit. -/
structure CO where
  par : Int
  v : Value
  l : List AV
instance : Inhabited CO := ⟨⟨0, .slice none 0 0, []⟩⟩
def ocs (o : CO) : List Value := [.int .i64 o.par, o.v]
def OpB (Z : Hp) (o : CO) : Prop := AccsB Z o.v o.l
theorem cellsI1 : Try.prog.cellsOf 3 = 1 := by kernel_rfl
theorem cellsSlA : Try.prog.cellsOf 25 = 1 := by kernel_rfl
section
variable {H : Type} {enc : TypeId × Value → H} {W : World} {base : Nat} {v : Value} {d : DataW H} {p : List MemPlace}
theorem open_accs {fuel : Nat} {y : DataW H × List MemPlace} (h : DataW.trod enc Try.prog W 0 (fun _ => true) true fuel 25 [v] = some y) : ∃ l : List AV, AccsB (hp W) v l := by
  obtain ⟨l, h1, h2⟩ := open_rows (v := v) default acs (AccB (hp W)) Try.underlying25 cellsAcc (by decide) acs_len (fun fuel cs y hl hf => open_acc27 hl hf) h
  exact ⟨l, h1, h2⟩
end
/-- More than is gone through. -/
def greatA (a : Acc) : Bool := decide (3000 < a.co.length) || decide (100 < a.so.length)
def greatL (l : List AV) : Bool := decide (50 < l.length) || l.any fun x => greatA x.a
set_option maxHeartbeats 1000000 in
theorem great_walk (v : Value) (l : List AV) (w : World) (h : AccsB (hp w) v l) : Calls Try.prog 24 #[v] w fun e w' => e = .returned (.bool (greatL l)) ∧ w = w' := by
  obtain ⟨A, c, rfl, hn, hc, hA, hcells⟩ := h.row.one (fun x _ => acs_len x)
  have HX := Lib.hid h.each
  generalize hN : l.length = n at *
  have HN := Lib.hid hN
  have HC : Hid (0 < n → ∃ b off, A = some ⟨b, off, none⟩ ∧ ∀ i x, l[i]? = some x → rng (hp w) b (off + i * 27) (acs x)) := Lib.hid fun hn => by
    obtain ⟨b, off, e, _, hi⟩ := hcells hn
    exact ⟨b, off, e, hi⟩
  clear hcells h
  by_cases h50 : 50 < n
  · have : greatL l = true := by unfold greatL; rw [hN]; simp [h50]
    rw [this]
    clear hN this
    go_enter Try.func24, Try.ntmps24
    go_wp2_with fail
    go_ret
    exact ⟨rfl, rfl⟩
  · have HG : Hid (greatL l = l.any fun x => greatA x.a) := Lib.hid (by unfold greatL; rw [hN]; simp [h50])
    clear hN
    go_enter Try.func24, Try.ntmps24
    go_wp2_with fail
    go_loopw [9] (fun i wr => ∃ k : Nat, k ≤ n ∧ i = .int .i64 k ∧ Hid ((l.take k).any (fun x => greatA x.a) = false) ∧ w = wr) (fun i _ => n - (intOf i).toNat)
    case atStart => exact ⟨0, Nat.zero_le _, rfl, Lib.hid rfl, rfl⟩
    case round =>
      obtain ⟨k, hk, rfl, HO, rfl⟩ := hrel
      by_cases hlt : k < n
      · obtain ⟨b, off, rfl, hi⟩ := HC.out (by omega)
        obtain ⟨x, hx⟩ : ∃ x, l[k]? = some x := ⟨l[k]'(by rw [HN.out]; exact hlt), by simp⟩
        have r1 := hi k _ hx
        have HXx := HX.out x (List.mem_of_getElem? hx)
        have p3 := r1.cell (acs_p x)
        have p4 := r1.cell (acs_q x)
        obtain ⟨A1, c1, hp1, -⟩ := HXx.cod.val
        obtain ⟨A2, c2, hq1, -⟩ := HXx.sto.val
        rw [hp1] at p3
        rw [hq1] at p4
        have HXg := Lib.hid hx
        have HQ : Hid (((l.take (k + 1)).any fun x => greatA x.a) = greatA x.a) := Lib.hid (by
          rw [List.take_add_one, hx, List.any_append, HO.out]
          simp)
        have HT : Hid (greatA x.a = true → (l.any fun x => greatA x.a) = true) := Lib.hid fun ht => List.any_eq_true.2 ⟨x, List.mem_of_getElem? hx, ht⟩
        have HGa : Hid (greatA x.a = (decide (3000 < x.a.co.length) || decide (100 < x.a.so.length))) := Lib.hid rfl
        generalize x.a.co.length = cn at *
        generalize x.a.so.length = sn at *
        clear hx hi HXx hp1 hq1 r1
        by_cases h1 : 3000 < cn
        · go_wp2_with fail
          go_ret
          refine ⟨?_, rfl⟩
          rw [HG.out, HT.out (by rw [HGa.out]; simp [h1])]
          rfl
        · by_cases h2 : 100 < sn
          · go_wp2_with fail
            go_ret
            refine ⟨?_, rfl⟩
            rw [HG.out, HT.out (by rw [HGa.out]; simp [h2])]
            rfl
          · go_wp2_with fail
            exact ⟨⟨k + 1, by omega, by go_num, Lib.hid (by rw [HQ.out, HGa.out]; simp [h1, h2]), trivial⟩, by simp [intOf]; omega⟩
      · obtain rfl : k = n := by omega
        go_wp2_with fail
        go_ret
        refine ⟨?_, rfl⟩
        have := HO.out
        rw [List.take_of_length_le (by rw [HN.out]; exact Nat.le_refl _)] at this
        rw [HG.out, this]
        rfl
theorem fold_set_get : ∀ (L : List Value) (k : Nat) (Z : Array Value) (j : Nat), ((L.zipIdx k).foldl (fun (cs : Array Value) (x : Value × Nat) => cs.setIfInBounds x.2 x.1) Z)[j]? = if k ≤ j ∧ j < k + L.length ∧ j < Z.size then L[j - k]? else Z[j]?
  | [], k, Z, j => by
    rw [if_neg (by simp; omega)]
    rfl
  | a :: L, k, Z, j => by
    rw [List.zipIdx_cons, List.foldl_cons, fold_set_get L (k + 1) _ j]
    simp only [Array.size_setIfInBounds, List.length_cons]
    by_cases h1 : k + 1 ≤ j ∧ j < k + 1 + L.length ∧ j < Z.size
    · rw [if_pos h1, if_pos (by omega), show j - k = (j - (k + 1)) + 1 by omega, List.getElem?_cons_succ]
    · rw [if_neg h1]
      by_cases h2 : k ≤ j ∧ j < k + (L.length + 1) ∧ j < Z.size
      · rw [if_pos h2]
        obtain rfl : j = k := by omega
        rw [Array.getElem?_setIfInBounds_self_of_lt h2.2.2]
        simp
      · rw [if_neg h2]
        by_cases e : k = j
        · subst e
          have : Z.size ≤ k := by omega
          rw [Array.getElem?_eq_none (by simpa using this), Array.getElem?_eq_none this]
        · rw [Array.getElem?_setIfInBounds_ne e]
theorem fold_set {Z : Array Value} {L : List Value} (h : Z.size = L.length) : L.zipIdx.foldl (fun (cs : Array Value) (x : Value × Nat) => cs.setIfInBounds x.2 x.1) Z = L.toArray := by
  apply Array.ext_getElem?
  intro j
  rw [fold_set_get L 0 Z j]
  by_cases hj : j < L.length
  · rw [if_pos (by omega)]; simp
  · rw [if_neg (by omega), Array.getElem?_eq_none (by omega), Array.getElem?_eq_none (by simpa using hj)]
theorem fold27 (x : AV) : (acs x).zipIdx.foldl (fun (cs : Array Value) (x : Value × Nat) => cs.setIfInBounds x.2 x.1) #[Value.int .u8 0, Value.int .u8 0, Value.int .u8 0, Value.int .u8 0, Value.int .u8 0, Value.int .u8 0, Value.int .u8 0, Value.int .u8 0, Value.int .u8 0, Value.int .u8 0, Value.int .u8 0, Value.int .u8 0, Value.int .u8 0, Value.int .u8 0, Value.int .u8 0, Value.int .u8 0, Value.int .u8 0, Value.int .u8 0, Value.int .u8 0, Value.int .u8 0, Value.int .u64 0, Value.int .u64 0, Value.int .u64 0, Value.int .u64 0, Value.int .u64 0, Value.slice none 0 0, Value.slice none 0 0] = (acs x).toArray := fold_set (by rw [acs_len]; rfl)
end Go.Proofs.Ytdgenbidgieojaa
/- How two accounts' addresses stand to each other; sorting a row of accounts by them. -/
namespace Go.Proofs.Ytdgenbidgieojaa
open Go.RowKit SmWord Go.Sort
set_option maxRecDepth 100000

/-- Which of two rows of bytes is below the other one, from place k on: -1, 0, 1. -/
def lx (f g : Nat → Nat) : Nat → Nat → Int
  | 0, _ => 0
  | n + 1, k => if f k < g k then -1 else if g k < f k then 1 else lx f g n (k + 1)
theorem lx_ab (A C : Nat) : ∀ n, n ≤ 20 → lx (ab A) (ab C) n (20 - n) = cmpN (A % 256 ^ n) (C % 256 ^ n)
  | 0, _ => by simp [lx, cmpN, Nat.mod_one]
  | n + 1, h => by
    have ih := lx_ab A C n (by omega)
    rw [lx, show 20 - (n + 1) + 1 = 20 - n by omega, ih]
    unfold ab
    rw [show 19 - (20 - (n + 1)) = n by omega, Nat.pow_succ, Nat.mod_mul, Nat.mod_mul]
    have h1 : A % 256 ^ n < 256 ^ n := Nat.mod_lt _ (Nat.pow_pos (by decide))
    have h2 : C % 256 ^ n < 256 ^ n := Nat.mod_lt _ (Nat.pow_pos (by decide))
    generalize A / 256 ^ n % 256 = a
    generalize C / 256 ^ n % 256 = c
    generalize A % 256 ^ n = x at *
    generalize C % 256 ^ n = y at *
    generalize 256 ^ n = p at *
    unfold cmpN
    by_cases e1 : a < c
    · have : p * (a + 1) ≤ p * c := Nat.mul_le_mul_left _ e1
      rw [Nat.mul_succ] at this
      rw [if_pos e1, if_pos (by omega)]
    · by_cases e2 : c < a
      · have : p * (c + 1) ≤ p * a := Nat.mul_le_mul_left _ e2
        rw [Nat.mul_succ] at this
        rw [if_neg e1, if_pos e2, if_neg (by omega), if_pos (by omega)]
      · obtain rfl : a = c := by omega
        rw [if_neg e1, if_neg e2]
        by_cases e3 : x < y
        · rw [if_pos e3, if_pos (by omega)]
        · by_cases e4 : y < x
          · rw [if_neg e3, if_pos e4, if_neg (by omega), if_pos (by omega)]
          · rw [if_neg e3, if_neg e4, if_neg (by omega), if_neg (by omega)]
/-- The bytes from place k on. -/
def bk (f : Nat → Nat) (k n : Nat) : List UInt8 := (List.range n).map fun i => UInt8.ofNat (f (k + i))
theorem bk_cons (f : Nat → Nat) (k n : Nat) : bk f k (n + 1) = UInt8.ofNat (f k) :: bk f (k + 1) n := by
  unfold bk
  rw [List.range_succ_eq_map]
  simp only [List.map_cons, List.map_map, Nat.add_zero]
  congr 1
  refine List.map_congr_left fun i _ => ?_
  simp only [Function.comp]
  rw [show k + i.succ = k + 1 + i by omega]
theorem u8_lt {x y : Nat} (hx : x < 256) (hy : y < 256) : UInt8.ofNat x < UInt8.ofNat y ↔ x < y := by
  rw [UInt8.lt_iff_toNat_lt]
  simp
  omega
theorem cmp_bk {f g : Nat → Nat} : ∀ n k, (∀ i, i < k + n → f i < 256) → (∀ i, i < k + n → g i < 256) → Lib.compareBytes (bk f k n) (bk g k n) = lx f g n k
  | 0, _, _, _ => rfl
  | n + 1, k, hf, hg => by
    rw [bk_cons, bk_cons, Lib.compareBytes, lx, cmp_bk n (k + 1) (fun i hi => hf i (by omega)) (fun i hi => hg i (by omega))]
    have h1 := u8_lt (hf k (by omega)) (hg k (by omega))
    have h2 := u8_lt (hg k (by omega)) (hf k (by omega))
    simp only [h1, h2]
theorem bytes_bk (f : Nat → Nat) (n : Nat) : Lib.bytesOf ((List.range n).map fun i => ((f i : Nat) : Int)) = bk f 0 n := by
  simp [Lib.bytesOf, bk]
theorem load_sl {w : World} {b off n c : Nat} {f : Nat → Nat} (h : ∀ i, i < n → w.cell? ⟨b, off + i, none⟩ = some (.int .u8 ((f i : Nat) : Int))) :
    (Extern.Bytes.bytesOf (.slice (some ⟨b, off, none⟩) n c)).run Try.prog w = .ok ⟨(bk f 0 n).toArray⟩ w := by
  have hl := Lib.run_loadBytesX (P := Try.prog) w ((List.range n).map fun i => ((f i : Nat) : Int)) ⟨b, off, none⟩ .empty (fun j x hj => by
    have hjl : j < n := by have := (List.getElem?_eq_some_iff.1 hj).1; simpa using this
    have e : (⟨b, off, none⟩ : Addr).add j = ⟨b, off + j, none⟩ := by unfold Addr.add; split <;> simp_all
    rw [List.getElem?_map, List.getElem?_range hjl] at hj
    cases hj
    rw [e, h j hjl])
  rw [List.length_map, List.length_range, bytes_bk] at hl
  have he : (⟨ByteArray.empty.data ++ (bk f 0 n).toArray⟩ : ByteArray) = ⟨(bk f 0 n).toArray⟩ := by
    apply ByteArray.ext
    show (#[] : Array UInt8) ++ (bk f 0 n).toArray = (bk f 0 n).toArray
    simp
  rw [he] at hl
  exact hl
theorem run_compare {w : World} {b1 o1 b2 o2 c1 c2 n : Nat} {f g : Nat → Nat} (hf : ∀ i, i < n → f i < 256) (hg : ∀ i, i < n → g i < 256)
    (h1 : ∀ i, i < n → w.cell? ⟨b1, o1 + i, none⟩ = some (.int .u8 ((f i : Nat) : Int))) (h2 : ∀ i, i < n → w.cell? ⟨b2, o2 + i, none⟩ = some (.int .u8 ((g i : Nat) : Int))) :
    (Extern.BytealgCompare.compare #[.slice (some ⟨b1, o1, none⟩) n c1, .slice (some ⟨b2, o2, none⟩) n c2]).run Try.prog w = .ok (.int .i64 (lx f g n 0)) w := by
  change Sem.run Try.prog (do pure (goInt (Extern.BytealgCompare.cmp (← Extern.Bytes.bytesOf (.slice (some ⟨b1, o1, none⟩) n c1)) (← Extern.Bytes.bytesOf (.slice (some ⟨b2, o2, none⟩) n c2))))) w = _
  simp only [Sem.run_bind, Sem.run_pure, load_sl h1, load_sl h2, Result.andThen]
  rw [Lib.cmp_eq]
  show Result.ok (goInt (Lib.compareBytes (bk f 0 n) (bk g 0 n))) w = _
  rw [cmp_bk n 0 (by simpa using hf) (by simpa using hg)]
  rfl
theorem bcompare_walk {b1 o1 b2 o2 c1 c2 n : Nat} {f g : Nat → Nat} (w : World) (hf : ∀ i, i < n → f i < 256) (hg : ∀ i, i < n → g i < 256)
    (h1 : ∀ i, i < n → w.cell? ⟨b1, o1 + i, none⟩ = some (.int .u8 ((f i : Nat) : Int))) (h2 : ∀ i, i < n → w.cell? ⟨b2, o2 + i, none⟩ = some (.int .u8 ((g i : Nat) : Int))) :
    Calls Try.prog 48 #[.slice (some ⟨b1, o1, none⟩) n c1, .slice (some ⟨b2, o2, none⟩) n c2] w fun e w' => e = .returned (.int .i64 (lx f g n 0)) ∧ w' = w := by
  have hr := run_compare (c1 := c1) (c2 := c2) hf hg h1 h2
  clear h1 h2 hf hg
  go_enter Try.func48, Try.ntmps48
  go_wp2_with fail
  rw [run_callFunc_extern Try.func56 (by kernel_rfl) (by kernel_rfl) (by kernel_rfl) (e := Extern.BytealgCompare.compare) (by kernel_rfl), hr]
  simp only [Result.andThen]
  rw [Oper.upon_value]
  go_wp2
  go_ret
  exact ⟨rfl, rfl⟩
set_option maxHeartbeats 1000000 in
theorem acompare_walk (A C : Nat) (w : World) :
    Calls Try.prog 37 #[.agg (aN A), .agg (aN C)] w fun e w' => e = .returned (.int .i64 (cmpN (A % 256 ^ 20) (C % 256 ^ 20))) ∧ ∃ os, w' = grow w.drew os := by
  have f0 : ((w.alloc (.cells (aN A) 32)).alloc (.cells (aN C) 32)).heap[w.heap.size]? = some (.cells (aN A) 32) := blk_alloc (heap_alloc_new _ _)
  have f1 : ((w.alloc (.cells (aN A) 32)).alloc (.cells (aN C) 32)).heap[w.heap.size + 1]? = some (.cells (aN C) 32) := heap_alloc2_new _ _ _
  have hG : ∃ os, ((w.alloc (.cells (aN A) 32)).alloc (.cells (aN C) 32)).drew = grow w.drew os := ⟨_, by rw [alloc_eq_grow, alloc_eq_grow, grow_grow, drew_grow]⟩
  have KC := Lib.hid (bcompare_walk (b1 := w.heap.size) (o1 := 0) (b2 := w.heap.size + 1) (o2 := 0) (c1 := 20) (c2 := 20) (n := 20) ((w.alloc (.cells (aN A) 32)).alloc (.cells (aN C) 32)).drew (fun i _ => ab_lt A i) (fun i _ => ab_lt C i)
    (fun i hi => by rw [Nat.zero_add]; exact blk_cell (w := World.drew _) f0 (arr_get .u8 (fun i => ((ab A i : Nat) : Int)) hi)) (fun i hi => by rw [Nat.zero_add]; exact blk_cell (w := World.drew _) f1 (arr_get .u8 (fun i => ((ab C i : Nat) : Int)) hi)))
  have hL := lx_ab A C 20 (Nat.le_refl _)
  rw [Nat.sub_self] at hL
  rw [hL] at KC
  clear f0 f1 hL
  generalize cmpN (A % 256 ^ 20) (C % 256 ^ 20) = r at *
  have hs : ∀ A, (aN A).size = 20 := aN_size
  go_enter Try.func37, Try.ntmps37
  go_wp2_with fail
  generalize ((w.alloc (.cells (aN A) 32)).alloc (.cells (aN C) 32)) = W at *
  go_region_with (go_at_call 48; refine KC.out.mono ?_; rintro e w1 ⟨rfl, rfl⟩)
  go_wp2_with fail
  go_ret
  exact ⟨rfl, hG⟩
end Go.Proofs.Ytdgenbidgieojaa
/- The same account, the same accounts: the document's Same and SameAll. -/
namespace Go.Proofs.Ytdgenbidgieojaa
open Go.RowKit SmWord
set_option maxRecDepth 100000

theorem equal_at {P : Program} {t e : TypeId} {n : Nat} {k k' : IntKind} (d : Nat) (hu : P.underlying t = some (.array n e)) (he : P.underlying e = some (.int k')) (hc : P.cellsOf e = 1)
    (xs ys : Array Value) (hx : xs.size = n) (hy : ys.size = n) (h : ∀ i, i < n → ∃ a b : Int, xs[i]? = some (.int k a) ∧ ys[i]? = some (.int k b)) (w : World) :
    ∃ r : Bool, (Op.equalIn (d + 2) t (.agg xs) (.agg ys)).run P w = .ok r w ∧ (r = true ↔ xs = ys) := by
  obtain ⟨i, hi⟩ := info_of_underlying he
  obtain ⟨r, hr, hiff⟩ := eqItems_ints he d xs ys w (List.range n) (fun j hj => h j (List.mem_range.1 hj))
  refine ⟨r, by rw [show d + 2 = d + 1 + 1 from rfl, run_equalIn_array w (d + 1) xs ys hu hi, hc]; exact hr, hiff.trans ⟨fun H => ?_, fun H => by simp [H]⟩⟩
  apply Array.ext_getElem?
  intro j
  by_cases hj : j < n
  · exact H j (List.mem_range.2 hj)
  · rw [Array.getElem?_eq_none (by omega), Array.getElem?_eq_none (by omega)]
theorem eq_refl_wa (k : Nat) (w : World) : (Op.equalIn 9999 35 (.agg (wa k)) (.agg (wa k))).run Try.prog w = .ok true w := by
  obtain ⟨r, hr, hiff⟩ := equal_at 9997 (k := .u64) Try.underlying35 Try.underlying33 Try.cells33 (wa k) (wa k) (wa_size k) (wa_size k) (fun i hi => by
    obtain ⟨a, ha⟩ := wa_get k i hi
    exact ⟨a, a, ha, ha⟩) w
  rw [hr, hiff.2 rfl]
theorem eq_refl_ad (A : Nat) (w : World) : (Op.equalIn 10000 32 (.agg (aN A)) (.agg (aN A))).run Try.prog w = .ok true w := by
  obtain ⟨r, hr, hiff⟩ := equal_at 9998 (k := .u8) Try.underlying32 Try.underlying5 cells8 (aN A) (aN A) (aN_size A) (aN_size A) (fun i hi => by
    have := arr_get .u8 (n := 20) (fun i => ((ab A i : Nat) : Int)) hi
    exact ⟨_, _, this, this⟩) w
  rw [hr, hiff.2 rfl]
theorem stoodSlot : Try.prog.stoodInHeld 79 = false := by kernel_rfl
theorem part_s0 (s : Nat × Nat) (w : World) : (part 35 (scs s).toArray 0).run Try.prog w = .ok (.agg (wa s.1)) w := by kernel_rfl
theorem part_s4 (s : Nat × Nat) (w : World) : (part 35 (scs s).toArray 4).run Try.prog w = .ok (.agg (wa s.2)) w := by kernel_rfl
theorem eq_refl_slot (s : Nat × Nat) (w : World) : (Op.equalIn 10000 79 (.agg (scs s).toArray) (.agg (scs s).toArray)).run Try.prog w = .ok true w := by
  rw [show (10000 : Nat) = 9999 + 1 from rfl, run_equalIn_struct w 9999 79 _ _ Try.underlying79 stoodSlot]
  simp [Program.fieldsOf, Try.underlying79, Op.eqFields, part_s0, part_s4, eq_refl_wa, Result.andThen]
/-- The text that bytes make. -/
def strC (co : List Nat) : ByteArray := strOfNums (co.map fun (c : Nat) => (c : Int))
theorem conv_z {w : World} {v : Value} {co : List Nat} (h : RowZ (hp w) v co.length 1 (co.map u8v)) : (convert 36 9 v).run Try.prog w = .ok (.string (strC co)) w := by
  obtain ⟨A, c, rfl, hn, hc, hA, hcells⟩ := h.val
  cases A with
  | none =>
    have h0 := (hA rfl).1
    have : co = [] := List.eq_nil_of_length_eq_zero h0
    subst this
    rw [run_convert_bytes_nil w _ _ Try.underlying36 Try.underlying5 _ _ _ Try.underlying9]
    simp [strC, strOfNums, ByteArray.empty, ByteArray.emptyWithCapacity]
    rfl
  | some a =>
    by_cases h0 : 0 < co.length
    · obtain ⟨b, off, e, hr⟩ := hcells h0
      cases e
      refine run_convert_bytes_arg w _ _ Try.underlying36 Try.underlying5 b off _ c _ (by simp) (fun i hi => ?_) _ Try.underlying9
      refine hr.cell ?_
      simp [u8v, hi, List.getD]
    · have : co = [] := List.eq_nil_of_length_eq_zero (by omega)
      subst this
      show (convert 36 9 (.slice (some a) 0 c)).run Try.prog w = _
      rw [run_convert_bytes_string w _ _ _ _ _ _ Try.underlying36 Try.underlying5 Try.underlying9, run_bytesToString w a 0 c [] (by simp [loadCells, loadCellsFrom])]
      simp [strC, strOfNums, ByteArray.empty, ByteArray.emptyWithCapacity]
      rfl
theorem infoW4 (n : Nat) : (Try.prog.info? 35).map (·.size) = some (wa n).toList.length := by rw [show (wa n).toList.length = 4 from rfl]; kernel_rfl
set_option maxHeartbeats 2000000 in
theorem same_walk (x y : AV) (w : World) (hxy : y.a = x.a) (hx : AccZ (hp w) x) (hy : AccZ (hp w) y) : Calls Try.prog 19 #[aval x, aval y] w fun e w' => e = .returned (.bool true) ∧ Below w.heap.size w w' := by
  unfold aval
  have hs : (acs x).toArray.size = 27 := by simp [acs_len]
  have hs' : (acs y).toArray.size = 27 := by simp [acs_len]
  obtain ⟨f0, bW⟩ := boxA w x
  obtain ⟨W, hW⟩ : ∃ W, w.alloc (.cells (acs x).toArray 39) = W := ⟨_, rfl⟩
  rw [hW] at f0 bW
  obtain ⟨f1, bV⟩ := boxA W y
  obtain ⟨V, hV⟩ : ∃ V, W.alloc (.cells (acs y).toArray 39) = V := ⟨_, rfl⟩
  rw [hV] at f1 bV
  have bwV : Below w.heap.size w V := bW.trans (bV.mono bW.size)
  have sW : W.heap.size = w.heap.size + 1 := by rw [← hW]; simp
  rw [sW] at f1
  obtain ⟨PA, pc, hp1, -⟩ := hx.cod.val
  obtain ⟨QA, qc, hq1, hqn, hqc, hqA, hqcells⟩ := hx.sto.one (fun s _ => scs_len s)
  obtain ⟨PB, pd, hp2, -⟩ := hy.cod.val
  obtain ⟨QB, qd, hq2, hqn2, hqc2, hqA2, hqcells2⟩ := hy.sto.one (fun s _ => scs_len s)
  have cx := fun g : Ext V => conv_z (hx.cod.sub (hp_below (bwV.trans (g.below.mono bwV.size))))
  have cy := fun g : Ext V => conv_z (hy.cod.sub (hp_below (bwV.trans (g.below.mono bwV.size))))
  have e0 := fun g : Ext V => boxcells (g.block (stay bV f0))
  have e1 := fun g : Ext V => boxcells (g.block f1)
  have hsl := hx.sl
  rw [hxy] at e1 cy hp2 hq2 hqn2 hqcells2
  rw [hp1] at cx
  rw [hp2] at cy
  rw [hp1, hq1] at e0
  rw [hp2, hq2] at e1
  have n0 := fun g => (e0 g).1
  have n1 := fun g => (e1 g).1
  have b0 := fun g => (e0 g).2.1
  have b1 := fun g => (e1 g).2.1
  have q0 := fun g => (e0 g).2.2.1
  have q1 := fun g => (e1 g).2.2.1
  have s0 := fun g => (e0 g).2.2.2.1
  have s1 := fun g => (e1 g).2.2.2.1
  have a0 := fun g => (e0 g).2.2.2.2
  have a1 := fun g => (e1 g).2.2.2.2
  have eqa := eq_refl_ad x.a.ad
  have eqw : ∀ w : World, (Op.equalIn 10000 35 (.agg (wa x.a.ba)) (.agg (wa x.a.ba))).run Try.prog w = .ok true w := fun w => by rw [equal_wa]; simp
  have HB := Lib.hid bwV
  have F0 := Lib.hid (stay bV f0)
  have F1 := Lib.hid f1
  have HX : Hid (0 < x.a.so.length → ∃ b off, QA = some ⟨b, off, none⟩ ∧ ∀ i s, x.a.so[i]? = some s → rng (hp V) b (off + i * 8) (scs s)) := Lib.hid fun hn => by
    obtain ⟨b, off, e, _, hi⟩ := hqcells hn
    exact ⟨b, off, e, fun i s hs => (hi i s hs).sub (hp_below bwV)⟩
  have HY : Hid (0 < x.a.so.length → ∃ b off, QB = some ⟨b, off, none⟩ ∧ ∀ i s, x.a.so[i]? = some s → rng (hp V) b (off + i * 8) (scs s)) := Lib.hid fun hn => by
    obtain ⟨b, off, e, _, hi⟩ := hqcells2 hn
    exact ⟨b, off, e, fun i s hs => (hi i s hs).sub (hp_below bwV)⟩
  clear e0 e1 hqcells hqcells2 hx hy f0 f1 bW bV bwV hp1 hq1 hp2 hq2
  go_enter Try.func19, Try.ntmps19
  go_upto_region 1 with fail
  clear hW hV
  refine region_seq ?_
  repeat (first
    | (go_big_quiet_want; refine quiet_load_mid 32 _ rfl w.heap.size 0 (aN x.a.ad).toList rfl (fun w2 hw2 => by obtain ⟨g1, rfl⟩ := hw2; exact a0 g1) Try.underlying32 rfl (infoAd _) ?_; simp only [Act.put, List.setIfInBounds_toArray, List.set_cons_succ, List.set_cons_zero, Array.toArray_toList]; go_big_quiet_on)
    | (go_big_quiet_want; refine quiet_load_mid 32 _ rfl (w.heap.size + 1) 0 (aN x.a.ad).toList rfl (fun w2 hw2 => by obtain ⟨g1, rfl⟩ := hw2; exact a1 g1) Try.underlying32 rfl (infoAd _) ?_; simp only [Act.put, List.setIfInBounds_toArray, List.set_cons_succ, List.set_cons_zero, Array.toArray_toList]; go_big_quiet_on)
    | (go_big_quiet_want; refine quiet_load_mid 35 _ rfl w.heap.size 21 (wa x.a.ba).toList rfl (fun w2 hw2 => by obtain ⟨g1, rfl⟩ := hw2; exact b0 g1) Try.underlying35 rfl (infoW4 _) ?_; simp only [Act.put, List.setIfInBounds_toArray, List.set_cons_succ, List.set_cons_zero, Array.toArray_toList]; go_big_quiet_on)
    | (go_big_quiet_want; refine quiet_load_mid 35 _ rfl (w.heap.size + 1) 21 (wa x.a.ba).toList rfl (fun w2 hw2 => by obtain ⟨g1, rfl⟩ := hw2; exact b1 g1) Try.underlying35 rfl (infoW4 _) ?_; simp only [Act.put, List.setIfInBounds_toArray, List.set_cons_succ, List.set_cons_zero, Array.toArray_toList]; go_big_quiet_on)
    | go_big_quiet_step (fail))
  refine wpQuiet_nil ?_
  rintro w' ⟨gg, rfl⟩
  have HG := Lib.hid gg.below
  have HC0 : Hid (∀ g : Ext V, g.on.cell? ⟨w.heap.size, 26, none⟩ = some (.slice QA x.a.so.length qc)) := Lib.hid s0
  have HC1 : Hid (∀ g : Ext V, g.on.cell? ⟨w.heap.size + 1, 26, none⟩ = some (.slice QB x.a.so.length qd)) := Lib.hid s1
  have g0 := s0 gg
  generalize gg.on = wg at *
  clear n0 n1 b0 b1 q0 q1 s0 s1 a0 a1 eqa eqw cx cy F0 F1
  generalize x.a.so = so at *
  generalize hN : so.length = n at *
  have HN := Lib.hid hN
  clear hN
  go_wp2_with fail
  go_loopw [46] (fun i wr => ∃ k : Nat, k ≤ n ∧ i = .int .i64 k ∧ Hid (Below V.heap.size V wr)) (fun i _ => n - (intOf i).toNat)
  case atStart => exact ⟨0, Nat.zero_le _, rfl, HG⟩
  case round =>
    obtain ⟨k, hk, rfl, HW⟩ := hrel
    clear g0
    by_cases hlt : k < n
    · obtain ⟨b, off, rfl, hi⟩ := HX.out (by omega)
      obtain ⟨b', off', rfl, hi'⟩ := HY.out (by omega)
      obtain ⟨s, hs⟩ : ∃ s, so[k]? = some s := ⟨so[k]'(by rw [HN.out]; exact hlt), by simp⟩
      have r0 := fun g : Ext wr => ((hi k _ hs).sub (hp_below (HW.out.trans (g.below.mono HW.out.size)))).at
      have r1 := fun g : Ext wr => ((hi' k _ hs).sub (hp_below (HW.out.trans (g.below.mono HW.out.size)))).at
      have s0 := fun g : Ext wr => HC0.out ⟨g.on, HW.out.trans (g.below.mono HW.out.size)⟩
      have s1 := fun g : Ext wr => HC1.out ⟨g.on, HW.out.trans (g.below.mono HW.out.size)⟩
      have eqs := eq_refl_slot s
      clear hi hi' hs
      go_upto_region 6 with fail
      refine region_ext (by kernel_rfl) (by kernel_rfl) ?_
      repeat (first
        | (go_big_quiet_want; refine quiet_load_mid 79 _ rfl b (off + k * 8) (scs s) rfl (fun w2 hw2 => by obtain ⟨g1, rfl⟩ := hw2; exact r0 g1) Try.underlying79 rfl (infoScs _) ?_; simp only [Act.put, List.setIfInBounds_toArray, List.set_cons_succ, List.set_cons_zero]; go_big_quiet_on)
        | (go_big_quiet_want; refine quiet_load_mid 79 _ rfl b' (off' + k * 8) (scs s) rfl (fun w2 hw2 => by obtain ⟨g1, rfl⟩ := hw2; exact r1 g1) Try.underlying79 rfl (infoScs _) ?_; simp only [Act.put, List.setIfInBounds_toArray, List.set_cons_succ, List.set_cons_zero]; go_big_quiet_on)
        | go_big_quiet_step (fail))
      refine wpQuiet_nil ?_
      rintro w' ⟨gg2, rfl⟩
      have HG2 := Lib.hid (HW.out.trans (gg2.below.mono HW.out.size))
      generalize gg2.on = wg2 at *
      clear r0 r1 s0 s1 eqs
      go_wp2_with fail
      exact ⟨⟨k + 1, by omega, by go_num, HG2⟩, by simp [intOf]; omega⟩
    · obtain rfl : k = n := by omega
      go_wp2_with fail
      go_ret
      exact ⟨rfl, HB.out.trans (HW.out.mono HB.out.size)⟩
end Go.Proofs.Ytdgenbidgieojaa
