/- Rows of nodes in memory (a node: a bool, a slice of bytes, an integer), whatever the program: how they read, and an argument that is one. -/
import Derived.Test.YtfpeliolngfkpaaRpP
import Derived.Test.YtfpeliolngfkpaaFromW
import Derived.OpenShut
import Derived.Deep.Slices
import Derived.Deep.Fields
import Derived.ChangeSame
import Derived.Deep.DeepHandedRow
namespace Go.Proofs.Ytfpeliolngfkpaa
open Go.ChangeShapes Go.WideShapes Go.RowKit Go.Deep SmWord
set_option maxRecDepth 100000

/-- What a node's three cells say. -/
structure NodeAt (w : World) (b off : Nat) (x : Nd) : Prop where
  ls : w.cell? ⟨b, off, none⟩ = some (.bool x.ls)
  by' : ∃ A c, w.cell? ⟨b, off + 1, none⟩ = some (.slice A x.by'.length c) ∧ x.by'.length ≤ c ∧ x.by'.length ≤ maxLen ∧ (A = none → x.by'.length = 0 ∧ c = 0) ∧ Sl w A x.by'.length (fun i => x.by'.getD i 0)
  sz : w.cell? ⟨b, off + 2, none⟩ = some (.int .i64 x.sz)
/-- What a slice of nodes says, a nil one too. -/
structure NodesS (w : World) (A : Option Addr) (l : List Nd) : Prop where
  cells : 0 < l.length → ∃ b off, A = some ⟨b, off, none⟩ ∧ b < w.heap.size ∧ ∀ i x, l[i]? = some x → NodeAt w b (off + 3 * i) x
theorem NodeAt.below {w w' : World} {b off : Nat} {x : Nd} (h : NodeAt w b off x) (hb : Below w.heap.size w w') (hl : b < w.heap.size) : NodeAt w' b off x := by
  obtain ⟨h1, ⟨A, c, h2, h3, h4, h5, h6⟩, h7⟩ := h
  exact ⟨(hb.cell (p := ⟨b, off, none⟩) hl).trans h1, ⟨A, c, (hb.cell (p := ⟨b, off + 1, none⟩) hl).trans h2, h3, h4, h5, h6.below hb⟩, (hb.cell (p := ⟨b, off + 2, none⟩) hl).trans h7⟩
theorem NodesS.below {w w' : World} {A : Option Addr} {l : List Nd} (h : NodesS w A l) (hb : Below w.heap.size w w') : NodesS w' A l :=
  ⟨fun hn => by
    obtain ⟨b, off, e, hlt, hc⟩ := h.cells hn
    exact ⟨b, off, e, Nat.lt_of_lt_of_le hlt hb.size, fun i x hx => (hc i x hx).below hb hlt⟩⟩
section
variable {H : Type} {enc : TypeId × Value → H} {P : Program} {W : World}
theorem open_bytes {t u : TypeId} {fuel : Nat} {v : Value} {y : DataW H × List MemPlace} (ht : P.underlying t = some (.slice u)) (hu : P.underlying u = some (.int .u8)) (hcu : P.cellsOf u = 1)
    (h : DataW.trod enc P W 0 (fun _ => true) true fuel t [v] = some y) : ∃ (A : Option Addr) (n c : Nat) (f : Nat → Nat), v = .slice A n c ∧ n ≤ maxLen ∧ n ≤ c ∧ (A = none → n = 0 ∧ c = 0) ∧ Sl W A n f := by
  rcases open_ints ht hu hcu h with ⟨hcs, _⟩ | ⟨a, len, cap, zs, hcs, _, hl, hm, hz, _, hcell, hwz⟩
  · simp at hcs
    subst hcs
    exact ⟨none, 0, 0, fun _ => 0, rfl, Nat.zero_le _, Nat.le_refl _, fun _ => ⟨rfl, rfl⟩, fun _ _ => by decide, fun h => absurd h (by omega)⟩
  · simp at hcs
    subst hcs
    simp only [if_true] at hz
    refine ⟨some a, len, cap, fun i => (zs.getD i 0).toNat, rfl, Nat.le_trans hl hm, hl, (fun h => by cases h), fun i _ => ?_, fun hn => ?_⟩
    · have := range_u8 hwz i
      rw [List.getD_eq_getElem?_getD]
      omega
    · obtain ⟨b, off, spot⟩ := a
      have hspot : spot = none := by simpa [Addr.add] using World.cell?_spot (hcell 0 (by omega))
      subst hspot
      have h0 := hcell 0 (by omega)
      refine ⟨b, off, rfl, by simpa [Addr.add] using World.block_lt_of_cell? W _ h0, fun i hi => ?_⟩
      have hi' := hcell i (by omega)
      rw [Addr.add_lit] at hi'
      have := range_u8 hwz i
      rw [← List.getD_eq_getElem?_getD] at this
      rw [hi', Int.toNat_of_nonneg this.1]
theorem open_nodes {t e u : TypeId} {f0 f1 f2 : Field} {v : Value} {d : DataW H} {p : List MemPlace} (ht : P.underlying t = some (.slice e)) (he : P.underlying e = some (.struct #[f0, f1, f2])) (hone : oneCellFields P #[f0, f1, f2] = true) (hC : P.cellsOf e = 3)
    (h0 : P.underlying f0.type = some .bool) (h1 : P.underlying f1.type = some (.slice u)) (hu : P.underlying u = some (.int .u8)) (hcu : P.cellsOf u = 1) (h2 : P.underlying f2.type = some (.int .i64))
    (h : DataW.Trod enc P W 0 (fun _ => true) true t v d p) (hv : v.cells = #[v]) : ∃ (A : Option Addr) (n c : Nat) (l : List Nd), v = .slice A n c ∧ l.length = n ∧ n ≤ maxLen ∧ n ≤ c ∧ (A = none → n = 0 ∧ c = 0) ∧ NodesS W A l ∧ (∀ (i : Nat) (x : Nd), l[i]? = some x → (∀ b ∈ x.by', b < 256) ∧ -9223372036854775808 ≤ x.sz ∧ x.sz ≤ 9223372036854775807) := by
  obtain ⟨fuel, hf⟩ := h
  have hvl : v.cells.toList = [v] := by rw [hv]
  rw [hvl] at hf
  rcases Go.Deep.open_slice ht hf with ⟨hcs, _⟩ | ⟨a, len, cap, m, n, D, Pl, hcs, _, hl, hm, hmm, _, hel⟩
  · simp at hcs
    subst hcs
    exact ⟨none, 0, 0, [], rfl, rfl, Nat.zero_le _, Nat.le_refl _, fun _ => ⟨rfl, rfl⟩, ⟨fun h => by simp at h⟩, fun i x h => by simp at h⟩
  · simp at hcs
    subst hcs
    simp only [if_true] at hmm
    subst hmm
    obtain ⟨b0, s0, spot⟩ := a
    have hsp : 0 < m → spot = none ∧ b0 < W.heap.size := fun h => by
      obtain ⟨cs', hc, _⟩ := hel 0 h
      rw [hC] at hc
      obtain ⟨_, hlen, hat⟩ := World.cells?_some hc
      have a0 := hat 0 (by omega)
      rw [List.getElem?_eq_getElem (by omega)] at a0
      exact ⟨by simpa [Addr.add] using World.cell?_spot a0, by simpa [Addr.add] using World.block_lt_of_cell? W _ a0⟩
    have one : ∀ i, i < m → ∃ x : Nd, NodeAt W b0 (s0 + 3 * i) x ∧ (∀ b ∈ x.by', b < 256) ∧ -9223372036854775808 ≤ x.sz ∧ x.sz ≤ 9223372036854775807 := fun i hi => by
      obtain ⟨rfl, hbl⟩ := hsp (by omega)
      obtain ⟨cs', hc, ht'⟩ := hel i hi
      rw [hC] at hc
      obtain ⟨ys, n', _, _, hlen, hys, hg⟩ := DataW.trod_struct he ht'
      rw [hC] at hlen
      obtain ⟨_, _, hat⟩ := World.cells?_some hc
      obtain ⟨o0, k0⟩ := hone_of hone 0 f0 rfl
      obtain ⟨o1, k1⟩ := hone_of hone 1 f1 rfl
      obtain ⟨o2, k2⟩ := hone_of hone 2 f2 rfl
      have hys3 : ys.length = 3 := hys
      clear hc ht'
      match cs', hlen, hg, hat with
      | [c0, c1, c2], _, hg, hat =>
        have g0 := hg 0 f0 rfl
        have g1 := hg 1 f1 rfl
        have g2 := hg 2 f2 rfl
        rw [o0, k0, List.getElem?_eq_getElem (by omega)] at g0
        rw [o1, k1, List.getElem?_eq_getElem (by omega)] at g1
        rw [o2, k2, List.getElem?_eq_getElem (by omega)] at g2
        have a0 := hat 0 (by omega)
        have a1 := hat 1 (by omega)
        have a2 := hat 2 (by omega)
        rw [Addr.add_lit, Addr.add_lit] at a0 a1 a2
        obtain ⟨bb, e0, _⟩ := DataW.trod_bool h0 g0
        obtain ⟨A, k, c, f, e1, q1, q2, q3, q4⟩ := open_bytes h1 hu hcu g1
        obtain ⟨z, e2, _, wz⟩ := DataW.trod_int h2 g2
        simp at e0 e2
        subst e0 e1 e2
        have hz : -9223372036854775808 ≤ z ∧ z ≤ 9223372036854775807 := by simpa [Lit.wf, IntKind.min, IntKind.max, IntKind.signed, IntKind.bits] using wz
        refine ⟨⟨bb, bf f 0 k, z⟩, ⟨?_, ⟨A, c, ?_, ?_, ?_, ?_, ?_⟩, ?_⟩, fun x hx => ?_, hz.1, hz.2⟩
        · rw [show s0 + 3 * i = s0 + i * 3 + 0 by omega]
          exact a0
        · rw [bf_length, show s0 + 3 * i + 1 = s0 + i * 3 + 1 by omega]
          exact a1
        · rw [bf_length]; exact q2
        · rw [bf_length]; exact q1
        · rw [bf_length]; exact q3
        · rw [bf_length]
          refine ⟨fun j hj => ?_, fun hk => ?_⟩
          · simp only
            rw [bf_get f 0 hj, Nat.zero_add]
            exact q4.small j hj
          · obtain ⟨b, off, e, hb, hcell⟩ := q4.cells hk
            refine ⟨b, off, e, hb, fun j hj => ?_⟩
            simp only
            rw [bf_get f 0 hj, Nat.zero_add]
            exact hcell j hj
        · rw [show s0 + 3 * i + 2 = s0 + i * 3 + 2 by omega]
          exact a2
        · simp [bf] at hx
          obtain ⟨j, hj, rfl⟩ := hx
          exact q4.small j hj
    have hch : ∃ N : Nat → Nd, ∀ i, i < m → NodeAt W b0 (s0 + 3 * i) (N i) ∧ (∀ b ∈ (N i).by', b < 256) ∧ -9223372036854775808 ≤ (N i).sz ∧ (N i).sz ≤ 9223372036854775807 :=
      ⟨fun i => if h : i < m then Classical.choose (one i h) else ⟨false, [], 0⟩, fun i hi => by
        simp only [hi, dif_pos]
        exact Classical.choose_spec (one i hi)⟩
    obtain ⟨N, hN⟩ := hch
    have hget : ∀ (i : Nat) (x : Nd), ((List.range len).map N)[i]? = some x → i < len ∧ x = N i := fun i x hx => by
      have hi : i < len := by have := (List.getElem?_eq_some_iff.1 hx).1; simpa using this
      rw [List.getElem?_map, List.getElem?_range hi] at hx
      exact ⟨hi, (Option.some.inj hx).symm⟩
    refine ⟨some ⟨b0, s0, spot⟩, len, m, (List.range len).map N, rfl, by simp, by omega, hl, (fun h => by cases h), ⟨fun hn => ?_⟩, fun i x hx => ?_⟩
    · have hn' : 0 < len := by simpa using hn
      obtain ⟨rfl, hbl⟩ := hsp (by omega)
      refine ⟨b0, s0, rfl, hbl, fun i x hx => ?_⟩
      obtain ⟨hi, rfl⟩ := hget i x hx
      exact (hN i (by omega)).1
    · obtain ⟨hi, rfl⟩ := hget i x hx
      exact (hN i (by omega)).2
end
end Go.Proofs.Ytfpeliolngfkpaa
