/- The arguments of layer 10's statements: numbers, words, rows of words, calls and rows of calls, as they read. -/
import Derived.Test.YtnffelnmlloonaaG5
import Derived.Test.YtnffelnmlloonaaG2
import Derived.Test.YtnffelnmlloonaaG3
import Derived.Carry
namespace Go.Proofs.Ytnffelnmlloonaa
open Go.ChangeShapes Go.WideShapes Go.ChangeAt Go.RowKit SmWord
set_option maxRecDepth 100000

theorem Try.laidOutX : laidOutB Try.prog = true := by kernel_rfl
/-- One call of a memory or a stack, as the statements draw them. -/
structure OpV where
  kd : Int
  n : Int
  m : Int
  k : Int
  a : Nat
  b : Nat
  dA : Option Addr
  dn : Nat
  dc : Nat
  df : Nat → Nat
/-- Its thirteen cells. -/
def oa (x : OpV) : Array Value := #[.int .i64 x.kd, .int .i64 x.n, .int .i64 x.m, .int .i64 x.k,
  .int .u64 ((l0 x.a : Nat) : Int), .int .u64 ((l1 x.a : Nat) : Int), .int .u64 ((l2 x.a : Nat) : Int), .int .u64 ((l3 x.a : Nat) : Int),
  .int .u64 ((l0 x.b : Nat) : Int), .int .u64 ((l1 x.b : Nat) : Int), .int .u64 ((l2 x.b : Nat) : Int), .int .u64 ((l3 x.b : Nat) : Int), .slice x.dA x.dn x.dc]
def i64B (z : Int) : Prop := -9223372036854775808 ≤ z ∧ z ≤ 9223372036854775807
structure OpOk (w : World) (x : OpV) : Prop where
  kd : i64B x.kd
  n : i64B x.n
  m : i64B x.m
  k : i64B x.k
  a : x.a < M
  b : x.b < M
  dn : x.dn ≤ maxLen
  dc : x.dn ≤ x.dc
  dA : x.dA = none → x.dn = 0 ∧ x.dc = 0
  sl : Sl w x.dA x.dn x.df
theorem OpOk.below {w w' : World} {x : OpV} (h : OpOk w x) (hb : Below w.heap.size w w') : OpOk w' x := ⟨h.kd, h.n, h.m, h.k, h.a, h.b, h.dn, h.dc, h.dA, h.sl.below hb⟩
/-- A row of calls in memory. -/
structure OpsS (w : World) (A : Option Addr) (n : Nat) (X : Nat → OpV) : Prop where
  ok : ∀ i, i < n → OpOk w (X i)
  cells : 0 < n → ∃ b off, A = some ⟨b, off, none⟩ ∧ b < w.heap.size ∧ ∀ i, i < n → ∀ j v, (oa (X i))[j]? = some v → w.cell? ⟨b, off + 13 * i + j, none⟩ = some v
theorem OpsS.below {w w' : World} {A : Option Addr} {n : Nat} {X : Nat → OpV} (h : OpsS w A n X) (hb : Below w.heap.size w w') : OpsS w' A n X :=
  ⟨fun i hi => (h.ok i hi).below hb, fun hn => by
    obtain ⟨b, off, e, hlt, hc⟩ := h.cells hn
    exact ⟨b, off, e, Nat.lt_of_lt_of_le hlt hb.size, fun i hi j v hv => (hb.cell (p := ⟨b, off + 13 * i + j, none⟩) hlt).trans (hc i hi j v hv)⟩⟩
/-- A row of words in memory. -/
structure WsS (w : World) (A : Option Addr) (n : Nat) (X : Nat → Nat) : Prop where
  small : ∀ i, i < n → X i < M
  cells : 0 < n → ∃ b off, A = some ⟨b, off, none⟩ ∧ b < w.heap.size ∧ ∀ i, i < n → ∀ j v, (wa (X i))[j]? = some v → w.cell? ⟨b, off + 4 * i + j, none⟩ = some v
theorem WsS.below {w w' : World} {A : Option Addr} {n : Nat} {X : Nat → Nat} (h : WsS w A n X) (hb : Below w.heap.size w w') : WsS w' A n X :=
  ⟨h.small, fun hn => by
    obtain ⟨b, off, e, hlt, hc⟩ := h.cells hn
    exact ⟨b, off, e, Nat.lt_of_lt_of_le hlt hb.size, fun i hi j v hv => (hb.cell (p := ⟨b, off + 4 * i + j, none⟩) hlt).trans (hc i hi j v hv)⟩⟩

section
variable {H : Type} {enc : TypeId × Value → H} {W : World} {base : Nat} {v : Value} {d : DataW H} {p : List MemPlace}
theorem open_u64 (hv : Value.okWide Try.prog W .any base 28 v) (h : DataW.Trod enc Try.prog W 0 (fun _ => true) true 28 v d p) : ∃ z : Nat, v = .int .u64 (z : Int) ∧ z < B := by
  obtain ⟨n, rfl⟩ := okWide_int Try.underlying28 hv
  obtain ⟨fuel, hf⟩ := h
  obtain ⟨z, e, _, wz⟩ := DataW.trod_int Try.underlying28 hf
  simp [Value.cells] at e
  subst e
  obtain ⟨m, rfl, hm⟩ := wf_u64 wz
  exact ⟨m, rfl, hm⟩
theorem open_u16 (hv : Value.okWide Try.prog W .any base 52 v) (h : DataW.Trod enc Try.prog W 0 (fun _ => true) true 52 v d p) : ∃ z : Nat, v = .int .u16 (z : Int) ∧ z < 65536 := by
  obtain ⟨n, rfl⟩ := okWide_int Try.underlying52 hv
  obtain ⟨fuel, hf⟩ := h
  obtain ⟨z, e, _, wz⟩ := DataW.trod_int Try.underlying52 hf
  simp [Value.cells] at e
  subst e
  have hz : 0 ≤ n ∧ n ≤ 65535 := by simpa [Lit.wf, IntKind.min, IntKind.max, IntKind.signed, IntKind.bits] using wz
  exact ⟨n.toNat, by rw [Int.toNat_of_nonneg hz.1], by omega⟩
theorem i64_wf {z : Int} (h : (Lit.int .i64 z).wf = true) : i64B z := by
  have hz : -9223372036854775808 ≤ z ∧ z ≤ 9223372036854775807 := by simpa [Lit.wf, IntKind.min, IntKind.max, IntKind.signed, IntKind.bits] using h
  exact hz
theorem open_i64 (hv : Value.okWide Try.prog W .any base 3 v) (h : DataW.Trod enc Try.prog W 0 (fun _ => true) true 3 v d p) : ∃ z : Int, v = .int .i64 z ∧ i64B z := by
  obtain ⟨n, rfl⟩ := okWide_int Try.underlying3 hv
  obtain ⟨fuel, hf⟩ := h
  obtain ⟨z, e, _, wz⟩ := DataW.trod_int Try.underlying3 hf
  simp [Value.cells] at e
  subst e
  exact ⟨n, rfl, i64_wf wz⟩
theorem mod_M (n : Nat) : n % M < M := Nat.mod_lt _ (by decide)
theorem wa_mod (n : Nat) : wa (n % M) = wa n := wa_congr (Nat.mod_mod _ _)
theorem open_wd (hv : Value.okWide Try.prog W .any base 30 v) (h : DataW.Trod enc Try.prog W 0 (fun _ => true) true 30 v d p) : ∃ z : Nat, v = wd z ∧ z < M := by
  obtain ⟨n, rfl, _, _⟩ := open_word hv h
  exact ⟨n % M, by rw [wd, wd, wa_mod], mod_M n⟩
theorem open_w4 {fuel : Nat} {cs : List Value} {y : DataW H × List MemPlace} (hl : cs.length = 4) (hf : DataW.trod enc Try.prog W 0 (fun _ => true) true fuel 30 cs = some y) : ∃ z : Nat, cs = (wa z).toList ∧ z < M := by
  match cs, hl with
  | [c0, c1, c2, c3], _ =>
    obtain ⟨y0, y1, y2, y3, m, hx, hy0, hy1, hy2, hy3⟩ := trod_array4 Try.underlying30 Try.cells28 hf
    obtain ⟨x0, e0, _, w0⟩ := DataW.trod_int Try.underlying28 hy0
    obtain ⟨x1, e1, _, w1⟩ := DataW.trod_int Try.underlying28 hy1
    obtain ⟨x2, e2, _, w2⟩ := DataW.trod_int Try.underlying28 hy2
    obtain ⟨x3, e3, _, w3⟩ := DataW.trod_int Try.underlying28 hy3
    simp at e0 e1 e2 e3
    subst e0 e1 e2 e3
    obtain ⟨n0, rfl, b0⟩ := wf_u64 w0
    obtain ⟨n1, rfl, b1⟩ := wf_u64 w1
    obtain ⟨n2, rfl, b2⟩ := wf_u64 w2
    obtain ⟨n3, rfl, b3⟩ := wf_u64 w3
    have e := wd_num b0 b1 b2 b3
    refine ⟨num n0 n1 n2 n3 % M, ?_, mod_M _⟩
    rw [wa_mod]
    have e' : wa (num n0 n1 n2 n3) = #[.int .u64 (n0 : Int), .int .u64 (n1 : Int), .int .u64 (n2 : Int), .int .u64 (n3 : Int)] := by simpa [wd] using e
    rw [e']
theorem Try.cellsOp : Try.prog.cellsOf 32 = 13 := by kernel_rfl
theorem Try.cellsWd : Try.prog.cellsOf 30 = 4 := by kernel_rfl
theorem Try.cellsI : Try.prog.cellsOf 3 = 1 := by kernel_rfl
theorem Try.cellsSl : Try.prog.cellsOf 25 = 1 := by kernel_rfl
theorem open_o13 {fuel : Nat} {cs : List Value} {y : DataW H × List MemPlace} (hf : DataW.trod enc Try.prog W 0 (fun _ => true) true fuel 32 cs = some y) : ∃ x : OpV, cs = (oa x).toList ∧ OpOk W x := by
  obtain ⟨ys, n', _, _, hlen, hys, hg⟩ := DataW.trod_struct Try.underlying32 hf
  rw [Try.cellsOp] at hlen
  have hys7 : ys.length = 7 := hys
  clear hf
  match cs, hlen, hg with
  | [c0, c1, c2, c3, a0, a1, a2, a3, b0, b1, b2, b3, s], _, hg =>
    have g0 : DataW.trod enc Try.prog W 0 (fun _ => true) true n' 3 (([c0, c1, c2, c3, a0, a1, a2, a3, b0, b1, b2, b3, s].drop 0).take (Try.prog.cellsOf 3)) = ys[0]? := hg 0 _ rfl
    have g1 : DataW.trod enc Try.prog W 0 (fun _ => true) true n' 3 (([c0, c1, c2, c3, a0, a1, a2, a3, b0, b1, b2, b3, s].drop 1).take (Try.prog.cellsOf 3)) = ys[1]? := hg 1 _ rfl
    have g2 : DataW.trod enc Try.prog W 0 (fun _ => true) true n' 3 (([c0, c1, c2, c3, a0, a1, a2, a3, b0, b1, b2, b3, s].drop 2).take (Try.prog.cellsOf 3)) = ys[2]? := hg 2 _ rfl
    have g3 : DataW.trod enc Try.prog W 0 (fun _ => true) true n' 3 (([c0, c1, c2, c3, a0, a1, a2, a3, b0, b1, b2, b3, s].drop 3).take (Try.prog.cellsOf 3)) = ys[3]? := hg 3 _ rfl
    have g4 : DataW.trod enc Try.prog W 0 (fun _ => true) true n' 30 (([c0, c1, c2, c3, a0, a1, a2, a3, b0, b1, b2, b3, s].drop 4).take (Try.prog.cellsOf 30)) = ys[4]? := hg 4 _ rfl
    have g5 : DataW.trod enc Try.prog W 0 (fun _ => true) true n' 30 (([c0, c1, c2, c3, a0, a1, a2, a3, b0, b1, b2, b3, s].drop 8).take (Try.prog.cellsOf 30)) = ys[5]? := hg 5 _ rfl
    have g6 : DataW.trod enc Try.prog W 0 (fun _ => true) true n' 25 (([c0, c1, c2, c3, a0, a1, a2, a3, b0, b1, b2, b3, s].drop 12).take (Try.prog.cellsOf 25)) = ys[6]? := hg 6 _ rfl
    rw [Try.cellsI] at g0 g1 g2 g3
    rw [Try.cellsWd] at g4 g5
    rw [Try.cellsSl] at g6
    rw [List.getElem?_eq_getElem (by omega)] at g0 g1 g2 g3 g4 g5 g6
    obtain ⟨z0, e0, _, w0⟩ := DataW.trod_int Try.underlying3 g0
    obtain ⟨z1, e1, _, w1⟩ := DataW.trod_int Try.underlying3 g1
    obtain ⟨z2, e2, _, w2⟩ := DataW.trod_int Try.underlying3 g2
    obtain ⟨z3, e3, _, w3⟩ := DataW.trod_int Try.underlying3 g3
    obtain ⟨a, ea, ha⟩ := open_w4 rfl g4
    obtain ⟨b, eb, hb⟩ := open_w4 rfl g5
    obtain ⟨A, k, c, f, e6, q1, q2, q3, q4⟩ := open_bytes Try.underlying25 Try.underlying5 (by kernel_rfl) g6
    simp [wa] at e0 e1 e2 e3 ea eb e6
    obtain ⟨rfl, rfl, rfl, rfl⟩ := ea
    obtain ⟨rfl, rfl, rfl, rfl⟩ := eb
    subst e0 e1 e2 e3 e6
    exact ⟨⟨z0, z1, z2, z3, a, b, A, k, c, f⟩, rfl, ⟨i64_wf w0, i64_wf w1, i64_wf w2, i64_wf w3, ha, hb, q1, q2, q3, q4⟩⟩
theorem open_op (hv : Value.okWide Try.prog W .any base 32 v) (h : DataW.Trod enc Try.prog W 0 (fun _ => true) true 32 v d p) : ∃ x : OpV, v = .agg (oa x) ∧ OpOk W x := by
  obtain ⟨cs, rfl, _, _⟩ : ∃ cs, v = .agg cs ∧ cs.size = Try.prog.cellsOf 32 ∧ Row.okWide Try.prog W .any base 32 cs := by
    simpa [Value.okWide, Try.underlying32] using hv
  obtain ⟨fuel, hf⟩ := h
  obtain ⟨x, e, hx⟩ := open_o13 hf
  refine ⟨x, ?_, hx⟩
  have : cs = oa x := Array.ext' e
  rw [this]
theorem okWide_sl {t u : TypeId} (ht : Try.prog.underlying t = some (.slice u)) (hv : Value.okWide Try.prog W .any base t v) : ∃ a len cap, v = .slice a len cap := by
  obtain ⟨a, len, cap, rfl⟩ := okWide_slice ht hv
  exact ⟨a, len, cap, rfl⟩
theorem open_ops (hv : Value.okWide Try.prog W .any base 22 v) (h : DataW.Trod enc Try.prog W 0 (fun _ => true) true 22 v d p) : ∃ (A : Option Addr) (n c : Nat) (X : Nat → OpV), v = .slice A n c ∧ n ≤ maxLen ∧ n ≤ c ∧ (A = none → n = 0 ∧ c = 0) ∧ OpsS W A n X := by
  obtain ⟨a0, len0, cap0, rfl⟩ := okWide_sl Try.underlying22 hv
  obtain ⟨fuel, hf⟩ := h
  rcases Go.Deep.open_slice Try.underlying22 hf with ⟨hcs, _⟩ | ⟨a, len, cap, m, n, D, Pl, hcs, _, hl, hm, hmm, _, hel⟩
  · simp [Value.cells] at hcs
    obtain ⟨rfl, rfl, rfl⟩ := hcs
    exact ⟨none, 0, 0, fun _ => ⟨0, 0, 0, 0, 0, 0, none, 0, 0, fun _ => 0⟩, rfl, Nat.zero_le _, Nat.le_refl _, fun _ => ⟨rfl, rfl⟩, ⟨fun i hi => by omega, fun h => by omega⟩⟩
  · simp [Value.cells] at hcs
    obtain ⟨rfl, rfl, rfl⟩ := hcs
    simp only [if_true] at hmm
    subst hmm
    rw [Try.cellsOp] at hel
    obtain ⟨b0, s0, spot⟩ := a
    have hsp : 0 < len0 → spot = none ∧ b0 < W.heap.size := fun h => by
      obtain ⟨cs', hc, _⟩ := hel 0 (by omega)
      obtain ⟨_, hlen, hat⟩ := World.cells?_some hc
      have a0 := hat 0 (by omega)
      rw [List.getElem?_eq_getElem (by omega)] at a0
      exact ⟨by simpa [Addr.add] using World.cell?_spot a0, by simpa [Addr.add] using World.block_lt_of_cell? W _ a0⟩
    have one : ∀ i, i < len0 → ∃ x : OpV, OpOk W x ∧ ∀ j v, (oa x)[j]? = some v → W.cell? ⟨b0, s0 + 13 * i + j, none⟩ = some v := fun i hi => by
      obtain ⟨rfl, _⟩ := hsp (by omega)
      obtain ⟨cs', hc, ht'⟩ := hel i (by omega)
      obtain ⟨x, e, hx⟩ := open_o13 ht'
      obtain ⟨_, hlen, hat⟩ := World.cells?_some hc
      refine ⟨x, hx, fun j v hv => ?_⟩
      have hj : j < 13 := (Array.getElem?_eq_some_iff.1 hv).1
      have a1 := hat j hj
      rw [Addr.add_lit, Addr.add_lit, e, Array.getElem?_toList, hv] at a1
      rw [show s0 + 13 * i + j = s0 + i * 13 + j by omega]
      exact a1
    refine ⟨some ⟨b0, s0, spot⟩, len0, _, fun i => if h : i < len0 then Classical.choose (one i h) else ⟨0, 0, 0, 0, 0, 0, none, 0, 0, fun _ => 0⟩, rfl, Nat.le_trans hl hm, hl, (fun h => by cases h), ⟨fun i hi => ?_, fun hn => ?_⟩⟩
    · rw [dif_pos hi]
      exact (Classical.choose_spec (one i hi)).1
    · obtain ⟨rfl, hbl⟩ := hsp hn
      refine ⟨b0, s0, rfl, hbl, fun i hi => ?_⟩
      rw [dif_pos hi]
      exact (Classical.choose_spec (one i hi)).2
theorem open_ws (hv : Value.okWide Try.prog W .any base 55 v) (h : DataW.Trod enc Try.prog W 0 (fun _ => true) true 55 v d p) : ∃ (A : Option Addr) (n c : Nat) (X : Nat → Nat), v = .slice A n c ∧ n ≤ maxLen ∧ n ≤ c ∧ (A = none → n = 0 ∧ c = 0) ∧ WsS W A n X := by
  obtain ⟨a0, len0, cap0, rfl⟩ := okWide_sl Try.underlying55 hv
  obtain ⟨fuel, hf⟩ := h
  rcases Go.Deep.open_slice Try.underlying55 hf with ⟨hcs, _⟩ | ⟨a, len, cap, m, n, D, Pl, hcs, _, hl, hm, hmm, _, hel⟩
  · simp [Value.cells] at hcs
    obtain ⟨rfl, rfl, rfl⟩ := hcs
    exact ⟨none, 0, 0, fun _ => 0, rfl, Nat.zero_le _, Nat.le_refl _, fun _ => ⟨rfl, rfl⟩, ⟨fun i hi => by omega, fun h => by omega⟩⟩
  · simp [Value.cells] at hcs
    obtain ⟨rfl, rfl, rfl⟩ := hcs
    simp only [if_true] at hmm
    subst hmm
    rw [Try.cellsWd] at hel
    obtain ⟨b0, s0, spot⟩ := a
    have hsp : 0 < len0 → spot = none ∧ b0 < W.heap.size := fun h => by
      obtain ⟨cs', hc, _⟩ := hel 0 (by omega)
      obtain ⟨_, hlen, hat⟩ := World.cells?_some hc
      have a0 := hat 0 (by omega)
      rw [List.getElem?_eq_getElem (by omega)] at a0
      exact ⟨by simpa [Addr.add] using World.cell?_spot a0, by simpa [Addr.add] using World.block_lt_of_cell? W _ a0⟩
    have one : ∀ i, i < len0 → ∃ x : Nat, x < M ∧ ∀ j v, (wa x)[j]? = some v → W.cell? ⟨b0, s0 + 4 * i + j, none⟩ = some v := fun i hi => by
      obtain ⟨rfl, _⟩ := hsp (by omega)
      obtain ⟨cs', hc, ht'⟩ := hel i (by omega)
      obtain ⟨_, hlen, hat⟩ := World.cells?_some hc
      obtain ⟨x, e, hx⟩ := open_w4 (by omega) ht'
      refine ⟨x, hx, fun j v hv => ?_⟩
      have hj : j < 4 := (Array.getElem?_eq_some_iff.1 hv).1
      have a1 := hat j hj
      rw [Addr.add_lit, Addr.add_lit, e, Array.getElem?_toList, hv] at a1
      rw [show s0 + 4 * i + j = s0 + i * 4 + j by omega]
      exact a1
    refine ⟨some ⟨b0, s0, spot⟩, len0, _, fun i => if h : i < len0 then Classical.choose (one i h) else 0, rfl, Nat.le_trans hl hm, hl, (fun h => by cases h), ⟨fun i hi => ?_, fun hn => ?_⟩⟩
    · show (if h : i < len0 then Classical.choose (one i h) else 0) < M
      rw [dif_pos hi]
      exact (Classical.choose_spec (one i hi)).1
    · obtain ⟨rfl, hbl⟩ := hsp hn
      refine ⟨b0, s0, rfl, hbl, fun i hi => ?_⟩
      show ∀ j v, (wa (if h : i < len0 then Classical.choose (one i h) else 0))[j]? = some v → _
      rw [dif_pos hi]
      exact (Classical.choose_spec (one i hi)).2
end
end Go.Proofs.Ytnffelnmlloonaa
