/- Rows that are wiped: clear. -/
import Derived.Test.YtpkoiifidlnbeaaGa
import Derived.Lib.SliceRun
import Derived.Test.YtpkoiifidlnbeaaGf
import Derived.Test.YtpkoiifidlnbeaaGc
namespace Go.Proofs.Ytpkoiifidlnbeaa
open Go.RowKit SmWord
set_option maxRecDepth 100000

theorem setCells_block {b : Nat} {e : TypeId} : ∀ (vs : List Value) (o : Nat) (w : World) (cs : Array Value), w.heap[b]? = some (.cells cs e) → ∃ cs', (w.setCells b o vs).heap[b]? = some (.cells cs' e) ∧ cs'.size = cs.size
  | [], _, _, cs, h => ⟨cs, h, rfl⟩
  | v :: vs, o, w, cs, h => by
    obtain ⟨cs', h1, h2⟩ := setCells_block vs (o + 1) (w.setCell ⟨b, o, none⟩ v) _ (blk_set h v)
    exact ⟨cs', h1, by rw [h2]; simp⟩
theorem setCells_other {b i : Nat} (hne : i ≠ b) : ∀ (vs : List Value) (o : Nat) (w : World), (w.setCells b o vs).heap[i]? = w.heap[i]?
  | [], _, _ => rfl
  | v :: vs, o, w => by
    show ((w.setCell ⟨b, o, none⟩ v).setCells b (o + 1) vs).heap[i]? = _
    rw [setCells_other hne vs (o + 1), Below.heap_setCell _ _ _ _ hne]
theorem setCells_below {B b : Nat} (hb : B ≤ b) : ∀ (vs : List Value) (o : Nat) (w : World), Below B w (w.setCells b o vs)
  | [], _, w => ⟨rfl, rfl, rfl, Nat.le_refl _, fun _ _ => rfl⟩
  | v :: vs, o, w => by
    have h1 : Below B w (w.setCell ⟨b, o, none⟩ v) := ⟨rfl, rfl, rfl, by simp [World.setCell], fun k hk => Below.heap_setCell _ _ _ _ (by simp only; omega)⟩
    exact h1.trans (setCells_below hb vs (o + 1) _)
theorem cells_there {w : World} {b : Nat} {cs : Array Value} {e : TypeId} (h : w.heap[b]? = some (.cells cs e)) (j : Nat) (hj : j < cs.size) : (w.cell? ⟨b, 0 + j, none⟩).isSome = true ∧ w.frozen? ⟨b, 0 + j, none⟩ = false := by
  refine ⟨?_, ?_⟩
  · rw [Nat.zero_add, blk_cell h (by rw [Array.getElem?_eq_getElem hj])]
    rfl
  · simp [World.frozen?, h]
section
variable {P : Program}
theorem run_clear_none (w : World) (t ty : TypeId) {d : TypeDesc} (ht : P.underlying t = some d) (n c : Nat) : (Builtin.clear_ #[t] ty #[.slice none n c]).run P w = .ok (.tuple #[]) w := by
  simp [Builtin.clear_, run_underlying ht]
theorem run_clear_row (w : World) (t e ty : TypeId) (z : Value) (k : Nat) (ht : P.underlying t = some (.slice e)) (hv : ∀ w, (zeroValue e).run P w = .ok z w) (hz : z.cells.size = k) (h1 : ∀ j, j < k → (z.cells[j]!).oneCell' = true) (hk0 : 0 < k) (b n c : Nat) (cs : Array Value)
    (hb : w.heap[b]? = some (.cells cs e)) (hn : n * k ≤ cs.size) : ∃ vs, (Builtin.clear_ #[t] ty #[.slice (some ⟨b, 0, none⟩) n c]).run P w = .ok (.tuple #[]) (w.setCells b 0 vs) := by
  cases n with
  | zero => exact ⟨[], by simp [Builtin.clear_, run_underlying ht, World.setCells]⟩
  | succ m =>
    have hlen : (Builtin.zeroCells z.cells (m + 1)).toList.length = (m + 1) * k := by simp [Builtin.zeroCells, hz]
    have hst := run_storeCells_cells (P := P) b 0 (Builtin.zeroCells z.cells (m + 1)).toList 0 w (fun j hj => by rw [Nat.add_zero]; exact (cells_there hb j (by omega)).1) (fun j hj => by rw [Nat.add_zero]; exact (cells_there hb j (by omega)).2) (fun v hv' => by
      simp only [Builtin.zeroCells, hz, Array.toList_map, List.mem_map] at hv'
      obtain ⟨i, _, rfl⟩ := hv'
      exact h1 _ (Nat.mod_lt _ hk0))
    simp only [Nat.add_zero] at hst
    exact ⟨(Builtin.zeroCells z.cells (m + 1)).toList, by simp [Builtin.clear_, run_underlying ht, hv, hst]⟩
theorem wpList_clear {w : World} {ops : Array Oper} {rest : List Oper} {o : Oper} {a : Act} {Q : Exit → Act → World → Prop} (hg : o.guard = none) (s : Operand) (t e : TypeId) (z : Value) (k : Nat)
    (ho : o.op = .call { callee := .builtin .clear, args := #[s], argTypes := #[t] }) (ht : P.underlying t = some (.slice e)) (hz : ∀ w, (zeroValue e).run P w = .ok z w) (hzs : z.cells.size = k) (h1 : ∀ j, j < k → (z.cells[j]!).oneCell' = true) (hk0 : 0 < k)
    (v : Value) (n : Nat) (hs : a.eval s = v) (hc : ClrZ (hp w) v n k e)
    (h : ∀ w', (w' = w ∨ ∃ b cs vs, v.ownBlock = some b ∧ w.heap[b]? = some (.cells cs e) ∧ w' = w.setCells b 0 vs) → wpList P ops Q rest (a.put o.dst (.tuple #[])) w') : wpList P ops Q (o :: rest) a w := by
  refine wpList_plain hg fun K hK => ?_
  unfold Oper.wp
  rcases hc with ⟨rfl, rfl⟩ | ⟨b, c, cur, rfl, hb, hn⟩
  · have hrun := run_clear_none (P := P) w t o.type ht 0 0
    simp [execOp, ho, resolve, invoke, builtin, hs, hrun, Result.andThen]
    exact hK _ _ (h w (.inl rfl))
  · obtain ⟨vs, hrun⟩ := run_clear_row (P := P) w t e o.type z k ht hz hzs h1 hk0 b n c cur hb hn
    simp [execOp, ho, resolve, invoke, builtin, hs, hrun, Result.andThen]
    exact hK _ _ (h _ (.inr ⟨b, cur, vs, rfl, hb, rfl⟩))
end
/-- From w0 to w: of the old blocks only those of T were wiped. -/
structure Wiped (T : Nat → Prop) (w0 w : World) : Prop where
  os : w.os = w0.os
  tape : w.tape = w0.tape
  output : w.output = w0.output
  size : w0.heap.size ≤ w.heap.size
  keep : ∀ b, b < w0.heap.size → ¬ T b → w.heap[b]? = w0.heap[b]?
  shape : ∀ b cs e, T b → w0.heap[b]? = some (.cells cs e) → ∃ cs', w.heap[b]? = some (.cells cs' e) ∧ cs'.size = cs.size
section
variable {T : Nat → Prop} {w0 w w' : World}
theorem Wiped.refl (T : Nat → Prop) (w : World) : Wiped T w w := ⟨rfl, rfl, rfl, Nat.le_refl _, fun _ _ _ => rfl, fun _ cs _ _ h => ⟨cs, h, rfl⟩⟩
theorem Wiped.below (h : Wiped T w0 w) (hb : Below w.heap.size w w') : Wiped T w0 w' := by
  have hs := h.size
  refine ⟨hb.os.trans h.os, hb.tape.trans h.tape, hb.output.trans h.output, Nat.le_trans hs hb.size, fun b hlt hT => (hb.block b (by omega)).trans (h.keep b hlt hT), fun b cs e hT hc => ?_⟩
  obtain ⟨cs', h1, h2⟩ := h.shape b cs e hT hc
  exact ⟨cs', (hb.block b (Array.getElem?_eq_some_iff.1 h1).1).trans h1, h2⟩
theorem Wiped.clear (h : Wiped T w0 w) {v : Value} {e : TypeId} (hT : ∀ b, v.ownBlock = some b → T b) (hw : w' = w ∨ ∃ b cs vs, v.ownBlock = some b ∧ w.heap[b]? = some (.cells cs e) ∧ w' = w.setCells b 0 vs) : Wiped T w0 w' := by
  rcases hw with rfl | ⟨b, cs, vs, hb, hc, rfl⟩
  · exact h
  · have hTb := hT b hb
    have h0 := setCells_below (Nat.zero_le b) vs 0 w
    refine ⟨h0.os.trans h.os, h0.tape.trans h.tape, h0.output.trans h.output, Nat.le_trans h.size h0.size, fun b' hlt hT' => ?_, fun b' cs' e' hT' hc' => ?_⟩
    · rw [setCells_other (fun (e : b' = b) => hT' (by rw [e]; exact hTb))]
      exact h.keep b' hlt hT'
    · obtain ⟨c1, h1, h2⟩ := h.shape b' cs' e' hT' hc'
      by_cases hbb : b' = b
      · subst hbb
        obtain ⟨c2, h3, h4⟩ := setCells_block vs 0 w c1 h1
        exact ⟨c2, h3, by rw [h4, h2]⟩
      · exact ⟨c1, by rw [setCells_other hbb]; exact h1, h2⟩
theorem Wiped.clr (h : Wiped T w0 w) {v : Value} {n k : Nat} {e : TypeId} (hT : ∀ b, v.ownBlock = some b → T b) (hc : ClrZ (hp w0) v n k e) : ClrZ (hp w) v n k e := by
  rcases hc with hc | ⟨b, c, cur, rfl, hb, hn⟩
  · exact .inl hc
  · obtain ⟨cs', h1, h2⟩ := h.shape b cur e (hT b rfl) hb
    exact .inr ⟨b, c, cs', rfl, h1, by rw [h2]; exact hn⟩
end
theorem zero8_run (w : World) : (zeroValue 5).run Try.prog w = .ok (.int .u8 0) w := by kernel_rfl
end Go.Proofs.Ytpkoiifidlnbeaa
/- StoreNever: what a commit keeps; the rows that it holds beside the store. -/
namespace Go.Proofs.Ytpkoiifidlnbeaa
open Go.RowKit SmWord
set_option maxRecDepth 100000

section
variable {base : Nat} {Z : Hp} {w : World} {sb : Nat} {g : Gh} {L : Nat → List Acc}
/-- New memory, too, is none of the store's own. -/
theorem StoreAt.growN {w' : World} (h : StoreAt base Z w sb g L) (hb : Below w.heap.size w w') : StoreAt base (orH Z (fr w.heap.size w')) w' sb g L := by
  have h' := h.below hb
  refine h'.more (orH_left _ _) (orH_sub h'.sub (fr_sub _ _)) fun b hs => ?_
  unfold orH fr
  rw [h.zm b hs, if_neg (by have := h.softlt hs; omega)]
  rfl
/-- What a commit leaves. -/
structure KeepIs (base : Nat) (Z : Hp) (w : World) (sb : Nat) (g : Gh) (L : Nat → List Acc) (N : Nat) (w' : World) (Z' : Hp) (g' : Gh) (L' : Nat → List Acc) : Prop where
  st : StoreAt base Z' w' sb g' L'
  lo : g.n ≤ g'.n
  hi : g'.n ≤ g.n + 1
  len : ∀ v, v < g'.n → (L' v).length ≤ N
  eq : ∀ v, v < g.n → L' v = L v
  sub : Sub Z Z'
  new : ∀ b, Z b = none → Z' b ≠ none → w.heap.size ≤ b
  keep : ∀ b, b < w.heap.size → ¬ soft g sb b → w'.heap[b]? = w.heap[b]?
  soft' : ∀ b, soft g' sb b → soft g sb b ∨ w.heap.size ≤ b
  below : Below base w w'
theorem KeepIs.same {w' : World} (h : StoreAt base Z w sb g L) (hb : Below w.heap.size w w') {N : Nat} (hN : ∀ v, v < g.n → (L v).length ≤ N) : KeepIs base Z w sb g L N w' Z g L :=
  ⟨h.below hb, Nat.le_refl _, Nat.le_succ _, hN, fun _ _ => rfl, Sub.refl _, fun _ h1 h2 => absurd h1 h2, fun b hlt _ => hb.block b hlt, fun _ hs => .inl hs, hb.mono h.baseLe⟩
theorem commit_keep (h : StoreAt base Z w sb g L) (par : Int) (lv : Value) (l : List AV) (hl : AccsZ (hp w) lv l) (hll : l.length ≤ 1000000) (hn : g.n < 1048576) (N : Nat) (hN : ∀ v, v < g.n → (L v).length ≤ N) :
    Calls Try.prog 11 #[.pointer (some ⟨sb, 0, none⟩), .int .i64 par, lv] w fun e w' => ∃ (r1 r2 : Int) (Z' : Hp) (g' : Gh) (L' : Nat → List Acc), e = .returned (.tuple #[.int .i64 r1, .int .i64 r2]) ∧ KeepIs base Z w sb g L (N + l.length) w' Z' g' L' := by
  have hN' : ∀ v, v < g.n → (L v).length ≤ N + l.length := fun v hv => by have := hN v hv; omega
  by_cases hp : 0 ≤ par ∧ par < g.n
  · obtain ⟨p, rfl⟩ : ∃ p : Nat, par = p := ⟨par.toNat, by omega⟩
    have hp' : p < g.n := by omega
    cases hr : (l.all fun x => rightA x.a)
    · exact (commit_arg h p lv l hp' hl hll hr).mono fun e w' ⟨he, hb⟩ => ⟨_, _, Z, g, L, he, KeepIs.same h hb hN'⟩
    · exact (commit_ok h p lv l hp' hl hll (fun x hx => List.all_eq_true.1 hr x hx) hn).mono fun e w' ⟨he, ha⟩ => by
        obtain ⟨Z', g', h1, h2, _, h4, h5, h6, h7, h8⟩ := ha
        refine ⟨_, _, Z', g', _, he, ⟨h1, by omega, by omega, fun v hv => ?_, fun v hv => if_neg (by omega), h4, h5, h6, h7, h8⟩⟩
        by_cases e : v = g.n
        · simp only [e, if_true]
          have := putAll_len (l.map AV.a) (L p)
          have := hN p hp'
          simp at *
          omega
        · simp only [e, if_false]
          exact hN' v (by omega)
  · exact (commit_none h par lv hp).mono fun e w' ⟨he, hb⟩ => ⟨_, _, Z, g, L, he, hb ▸ KeepIs.same h (Below.refl _ _) hN'⟩
end
/-- What All answered of the first versions, kept in a row. -/
structure WasAt (w3 wr : World) (u : Value) (i : Nat) (L : Nat → List Acc) (Zw : Hp) (vals : List Value) : Prop where
  len : vals.length = i
  own : wr.ownsRow w3.heap.size 30 1 u i vals
  one : ∀ v ∈ vals, v.oneCell' = true
  each : ∀ (j : Nat) (v : Value), vals[j]? = some v → ∃ ys : List AV, AccsZ Zw v ys ∧ ys.map AV.a = (L j).filter fun x => !emptyA x
  sub : Sub Zw (hp wr)
  zge : ∀ b o, Zw b = some o → w3.heap.size ≤ b
  zu : ∀ b, u.ownBlock = some b → Zw b = none
  below : Below w3.heap.size w3 wr
theorem WasAt.start (w : World) (L : Nat → List Acc) : WasAt w w (.slice none 0 0) 0 L (fun _ => none) [] :=
  ⟨rfl, ⟨rfl, .inl ⟨rfl, rfl⟩⟩, fun v h => (by simp at h), fun j v h => (by simp at h), fun b o h => (by cases h), fun b o h => (by cases h), fun b h => (by cases h), Below.refl _ _⟩
theorem WasAt.step {w3 wr wa wc : World} {u v' val : Value} {i : Nat} {L : Nat → List Acc} {Zw Zp : Hp} {vals : List Value} {ys : List AV} (h : WasAt w3 wr u i L Zw vals) (ha : AllIs wr (L i) wa val ys Zp)
    (ho : wc.ownsRow w3.heap.size 30 1 v' (i + 1) (vals ++ [val])) (hg : (wa.alloc (.cells #[val] 30)).grownBy wc u.ownBlock) (hl : v'.ownBlock = u.ownBlock ∨ v'.ownBlock = some (wa.alloc (.cells #[val] 30)).heap.size) :
    WasAt w3 wc v' (i + 1) L (orH Zw (fr wr.heap.size wa)) (vals ++ [val]) := by
  have hbs := h.below.size
  have has := ha.below.size
  have hsz : (wa.alloc (.cells #[val] 30)).heap.size = wa.heap.size + 1 := by simp
  have hgs := hg.size
  have hul : ∀ b, u.ownBlock = some b → b < wr.heap.size ∧ w3.heap.size ≤ b := fun b hb => ⟨(h.own.lt b hb).2, (h.own.lt b hb).1⟩
  have old : ∀ b, b < wa.heap.size → some b ≠ u.ownBlock → wc.heap[b]? = wa.heap[b]? := fun b hb hne => (hg.block b (by omega) hne).trans (Below.heap_alloc _ _ _ hb)
  have s1 : Sub Zw (hp wc) := fun b o hb => by
    have h1 : wr.heap[b]? = some o := h.sub b o hb
    have hlt := (Array.getElem?_eq_some_iff.1 h1).1
    show wc.heap[b]? = some o
    rw [old b (by omega) (fun e => by rw [h.zu b e.symm] at hb; cases hb), ha.below.block b hlt, h1]
  have s2 : Sub (fr wr.heap.size wa) (hp wc) := fun b o hb => by
    unfold fr at hb
    split at hb
    · rename_i hge
      have hlt := (Array.getElem?_eq_some_iff.1 hb).1
      show wc.heap[b]? = some o
      rw [old b hlt (fun e => by have := (hul b e.symm).1; omega), hb]
    · cases hb
  have s3 : Sub Zp (fr wr.heap.size wa) := fun b o hb => by
    unfold fr
    rw [if_pos (ha.zge b o hb)]
    exact ha.sub b o hb
  have hin := orH_in s1 s2
  refine ⟨by rw [List.length_append, h.len]; rfl, ho, fun v hv => ?_, fun j v hj => ?_, orH_sub s1 s2, fun b o hb => ?_, fun b hb => ?_, ?_⟩
  · rcases List.mem_append.1 hv with hv | hv
    · exact h.one v hv
    · simp at hv
      subst hv
      exact (RowZ.ownF ha.own).oneCell
  · by_cases e : j < i
    · rw [List.getElem?_append_left (by rw [h.len]; exact e)] at hj
      obtain ⟨ys, h1, h2⟩ := h.each j v hj
      exact ⟨ys, h1.sub (orH_left _ _), h2⟩
    · have hjl := (List.getElem?_eq_some_iff.1 hj).1
      rw [List.length_append, h.len] at hjl
      obtain rfl : j = i := by simp at hjl; omega
      rw [List.getElem?_append_right (by rw [h.len]; exact Nat.le_refl _), h.len, Nat.sub_self] at hj
      simp at hj
      subst hj
      exact ⟨ys, ⟨(RowZ.ownF ha.own).sub hin, fun x hx => (((ha.each x hx).sub s3).sub hin).toAccZ⟩, ha.eq⟩
  · rcases orH_some hb with hb | hb
    · exact h.zge b o hb
    · unfold fr at hb
      split at hb
      · omega
      · cases hb
  · unfold orH
    rcases hl with e | e
    · rw [e] at hb
      rw [h.zu b hb]
      unfold fr
      rw [if_neg (by have := (hul b hb).1; omega)]
      rfl
    · rw [e] at hb
      injection hb with hb
      have hz : Zw b = none := by
        cases hz : Zw b with
        | none => rfl
        | some o =>
          have := (Array.getElem?_eq_some_iff.1 (h.sub b o hz)).1
          omega
      rw [hz]
      unfold fr
      rw [Array.getElem?_eq_none (by omega)]
      split <;> rfl
  · exact ((h.below.trans (ha.below.mono hbs)).trans ((Below.refl _ _).alloc (Nat.le_trans hbs has) _)).grown hg (by omega) (fun k hk => (hul k hk).2)
/-- The own copies of accounts, gathered. -/
structure OwnAt (wA wr : World) (u : Value) (l : List AV) (j : Nat) (xs : List AV) (Zx : Hp) : Prop where
  own : wr.ownsRow wA.heap.size 46 27 u xs.length (xs.flatMap acs)
  map : xs.map AV.a = (l.take j).map AV.a
  each : ∀ x ∈ xs, AccC Zx x
  sub : Sub Zx (hp wr)
  zge : ∀ b o, Zx b = some o → wA.heap.size ≤ b
  zu : ∀ b, u.ownBlock = some b → Zx b = none
  below : Below wA.heap.size wA wr
theorem OwnAt.start (w : World) (l : List AV) : OwnAt w w (.slice none 0 0) l 0 [] (fun _ => none) :=
  ⟨⟨rfl, .inl ⟨rfl, rfl⟩⟩, rfl, fun x h => (by simp at h), fun b o h => (by cases h), fun b o h => (by cases h), fun b h => (by cases h), Below.refl _ _⟩
theorem OwnAt.step {wA wr wa wb wc : World} {u v' : Value} {l xs : List AV} {j : Nat} {Zx : Hp} {x y : AV} (h : OwnAt wA wr u l j xs Zx) (hx : l[j]? = some x) (hy : y.a = x.a) (hya : AccC (fr wr.heap.size wa) y) (ha : Below wr.heap.size wr wa) (hb : Below wa.heap.size wa wb)
    (ho : wc.ownsRow wA.heap.size 46 27 v' (xs.length + 1) (xs.flatMap acs ++ acs y)) (hg : wb.grownBy wc u.ownBlock) (hl : v'.ownBlock = u.ownBlock ∨ v'.ownBlock = some wb.heap.size) :
    OwnAt wA wc v' l (j + 1) (xs ++ [y]) (orH Zx (fr wr.heap.size wa)) := by
  have hbs := h.below.size
  have has := ha.size
  have hbb := hb.size
  have hgs := hg.size
  have hul : ∀ b, u.ownBlock = some b → b < wr.heap.size ∧ wA.heap.size ≤ b := fun b hb => ⟨(h.own.lt b hb).2, (h.own.lt b hb).1⟩
  have old : ∀ b, b < wa.heap.size → some b ≠ u.ownBlock → wc.heap[b]? = wa.heap[b]? := fun b hlt hne => (hg.block b (by omega) hne).trans (hb.block b hlt)
  have s1 : Sub Zx (hp wc) := fun b o hz => by
    have h1 : wr.heap[b]? = some o := h.sub b o hz
    have hlt := (Array.getElem?_eq_some_iff.1 h1).1
    show wc.heap[b]? = some o
    rw [old b (by omega) (fun e => by rw [h.zu b e.symm] at hz; cases hz), ha.block b hlt, h1]
  have s2 : Sub (fr wr.heap.size wa) (hp wc) := fun b o hz => by
    unfold fr at hz
    split at hz
    · rename_i hge
      have hlt := (Array.getElem?_eq_some_iff.1 hz).1
      show wc.heap[b]? = some o
      rw [old b hlt (fun e => by have := (hul b e.symm).1; omega), hz]
    · cases hz
  have hin := orH_in s1 s2
  refine ⟨by simpa using ho, ?_, fun q hq => ?_, orH_sub s1 s2, fun b o hz => ?_, fun b hz => ?_, ?_⟩
  · rw [List.map_append, h.map, List.take_add_one, hx, List.map_append]
    simp [hy]
  · rcases List.mem_append.1 hq with hq | hq
    · exact (h.each q hq).sub (orH_left _ _)
    · simp at hq
      subst hq
      exact hya.sub hin
  · rcases orH_some hz with hz | hz
    · exact h.zge b o hz
    · unfold fr at hz
      split at hz
      · omega
      · cases hz
  · unfold orH
    rcases hl with e | e
    · rw [e] at hz
      rw [h.zu b hz]
      unfold fr
      rw [if_neg (by have := (hul b hz).1; omega)]
      rfl
    · rw [e] at hz
      injection hz with hz
      have h0 : Zx b = none := by
        cases h0 : Zx b with
        | none => rfl
        | some o =>
          have := (Array.getElem?_eq_some_iff.1 (h.sub b o h0)).1
          omega
      rw [h0]
      unfold fr
      rw [Array.getElem?_eq_none (by omega)]
      split <;> rfl
  · exact ((h.below.trans (ha.mono hbs)).trans (hb.mono (Nat.le_trans hbs has))).grown hg (by omega) (fun k hk => (hul k hk).2)
end Go.Proofs.Ytpkoiifidlnbeaa
/- StoreNever, walked. -/
namespace Go.Proofs.Ytpkoiifidlnbeaa
open Go.RowKit SmWord
set_option maxRecDepth 100000

/-- A store whose first versions have what they had, and what was kept of them beside it. -/
structure NevAt (W : World) (sb : Nat) (wr : World) (Zf : Hp) (L0 : Nat → List Acc) (n0 N : Nat) (Z : Hp) (g : Gh) (L : Nat → List Acc) : Prop where
  st : StoreAt W.heap.size Z wr sb g L
  lo : n0 ≤ g.n
  hi : g.n ≤ N + 1
  ln : ∀ v, v < g.n → (L v).length ≤ 50 * N
  eq : ∀ v, v < n0 → L v = L0 v
  fix : Sub Zf Z
  below : Below W.heap.size W wr
theorem NevAt.stay {W wr w' : World} {sb : Nat} {Zf Z : Hp} {L0 L : Nat → List Acc} {n0 N : Nat} {g : Gh} (h : NevAt W sb wr Zf L0 n0 N Z g L) (hb : Below wr.heap.size wr w') : NevAt W sb w' Zf L0 n0 N Z g L :=
  { h with
    st := h.st.below hb
    below := h.below.trans (hb.mono h.below.size) }
theorem NevAt.kept {W wr w' : World} {sb : Nat} {Zf Z Z' : Hp} {L0 L L' : Nat → List Acc} {n0 N : Nat} {g g' : Gh} {m : Nat} (h : NevAt W sb wr Zf L0 n0 N Z g L) (hm : m ≤ 50) (hk : KeepIs W.heap.size Z wr sb g L (50 * N + m) w' Z' g' L') : NevAt W sb w' Zf L0 n0 (N + 1) Z' g' L' :=
  { st := hk.st, lo := Nat.le_trans h.lo hk.lo, hi := by have := h.hi; have := hk.hi; omega, ln := fun v hv => by have := hk.len v hv; omega, eq := fun v hv => (hk.eq v (Nat.lt_of_lt_of_le hv h.lo)).trans (h.eq v hv), fix := h.fix.trans hk.sub, below := h.below.trans hk.below }
theorem NevAt.wiped {W w1 w' : World} {sb : Nat} {Zf Z : Hp} {L0 L : Nat → List Acc} {n0 N : Nat} {g : Gh} {T : Nat → Prop} (h : NevAt W sb w1 Zf L0 n0 N Z g L) (hw : Wiped T w1 w') (hz : ∀ b, T b → Z b = none) (hs : ∀ b, T b → ¬ soft g sb b) (hB : ∀ b, T b → W.heap.size ≤ b) : NevAt W sb w' Zf L0 n0 N Z g L :=
  { h with
    st := h.st.frame (fun b o hb => (hw.keep b (Array.getElem?_eq_some_iff.1 (h.st.sub b o hb)).1 (fun hT => by rw [hz b hT] at hb; cases hb)).trans (h.st.sub b o hb)) (fun b hb => hw.keep b (h.st.softlt hb) (fun hT => hs b hT hb))
    below := ⟨hw.os.trans h.below.os, hw.tape.trans h.below.tape, hw.output.trans h.below.output, Nat.le_trans h.below.size hw.size, fun b hb => (hw.keep b (Nat.lt_of_lt_of_le hb h.below.size) (fun hT => by have := hB b hT; omega)).trans (h.below.block b hb)⟩ }
/-- The blocks of some accounts' codes and slots. -/
def Tb (l : List AV) (b : Nat) : Prop := ∃ x ∈ l, x.p.ownBlock = some b ∨ x.q.ownBlock = some b
theorem clr_block {Z : Hp} {v : Value} {n k : Nat} {e : TypeId} (h : ClrZ Z v n k e) {b : Nat} (hb : v.ownBlock = some b) : ∃ cs, Z b = some (.cells cs e) := by
  rcases h with ⟨rfl, _⟩ | ⟨b', c, cur, rfl, hz, _⟩
  · cases hb
  · simp [Value.ownBlock] at hb
    subst hb
    exact ⟨_, hz⟩
theorem Tb.at {Z : Hp} {l : List AV} (h : ∀ x ∈ l, AccC Z x) {b : Nat} (hb : Tb l b) : ∃ cs e, Z b = some (.cells cs e) ∧ e ≠ 46 := by
  obtain ⟨x, hx, hb | hb⟩ := hb
  · obtain ⟨cs, hc⟩ := clr_block (h x hx).cp hb
    exact ⟨cs, _, hc, by decide⟩
  · obtain ⟨cs, hc⟩ := clr_block (h x hx).cq hb
    exact ⟨cs, _, hc, by decide⟩
/-- A row of accounts whose codes and slots are wiped stays as it is. -/
theorem Wiped.row {w0 w : World} {l : List AV} {base : Nat} {v : Value} {Z : Hp} (h : Wiped (Tb l) w0 w) (hz : ∀ x ∈ l, AccC Z x) (hs : Sub Z (hp w0)) (ho : w0.ownsRow base 46 27 v l.length (l.flatMap acs)) : w.ownsRow base 46 27 v l.length (l.flatMap acs) :=
  own_same ho fun b hb => h.keep b (ho.lt b hb).2 fun hT => by
    obtain ⟨cs, e, hc, hne⟩ := hT.at hz
    have h1 : w0.heap[b]? = some (.cells cs e) := hs _ _ hc
    exact own_not ho h1 hne b hb rfl
theorem wiped_box {w w' : World} {v : Value} {e t : TypeId} {c : Nat} {cs0 : Array Value} (hw : w' = w ∨ ∃ b cs vs, v.ownBlock = some b ∧ w.heap[b]? = some (.cells cs e) ∧ w' = w.setCells b 0 vs) (hc : w.heap[c]? = some (.cells cs0 t)) (hne : ∀ b, v.ownBlock = some b → b < c) : w'.heap[c]? = some (.cells cs0 t) := by
  rcases hw with rfl | ⟨b, cs, vs, hb, _, rfl⟩
  · exact hc
  · rw [setCells_other (by have := hne b hb; omega)]
    exact hc
theorem ones1 (j : Nat) (hj : j < 1) : ((Value.int .u8 0).cells[j]!).oneCell' = true := by
  match j, hj with
  | 0, _ => rfl
theorem ones82 (j : Nat) (hj : j < 8) : ((Value.agg (wa 0 ++ wa 0)).cells[j]!).oneCell' = true := by
  match j, hj with
  | 0, _ => rfl
  | 1, _ => rfl
  | 2, _ => rfl
  | 3, _ => rfl
  | 4, _ => rfl
  | 5, _ => rfl
  | 6, _ => rfl
  | 7, _ => rfl
theorem infoSlA : (Try.prog.info? 30).map (fun i => (i.zero, i.size, i.bytes)) = some (some (.slice none 0 0), 1, 24) := by kernel_rfl
theorem rowOneV {w : World} {v : Value} {b : Nat} {t : TypeId} (h : w.heap[b]? = some (.cells #[v] t)) : RowZ (hp w) (.slice (some ⟨b, 0, none⟩) 1 1) 1 1 [v] :=
  ⟨rfl, some ⟨b, 0, none⟩, 1, rfl, Nat.le_refl _, by simp [maxLen], fun h => by simp at h, fun _ => ⟨b, 0, rfl, rng_block h⟩⟩
set_option maxHeartbeats 8000000 in
theorem never_law (v u : Value) (l l2 : List CO) (w : World) (h : RowZ (hp w) v l.length 2 (l.flatMap ocs)) (ho : ∀ o ∈ l, OpB (hp w) o) (h2 : RowZ (hp w) u l2.length 2 (l2.flatMap ocs)) (ho2 : ∀ o ∈ l2, OpB (hp w) o) :
    Calls Try.prog 4 #[v, u] w fun e w' => e = .returned (.bool true) ∧ Below w.heap.size w w' := by
  have HR := Lib.hid h
  obtain ⟨A0, c, rfl, hn, hc, hA0, hcells⟩ := h.one (fun x _ => rfl)
  have HX := Lib.hid ho
  have HC : Hid (0 < l.length → ∃ b off, A0 = some ⟨b, off, none⟩ ∧ ∀ i x, l[i]? = some x → rng (hp w) b (off + i * 2) (ocs x)) := Lib.hid fun hn => by
    obtain ⟨b, off, e, _, hi⟩ := hcells hn
    exact ⟨b, off, e, hi⟩
  have HR2 := Lib.hid h2
  obtain ⟨A0', c', rfl, hn', hc', hA0', hcells'⟩ := h2.one (fun x _ => rfl)
  have HX2 := Lib.hid ho2
  have HC2 : Hid (0 < l2.length → ∃ b off, A0' = some ⟨b, off, none⟩ ∧ ∀ i x, l2[i]? = some x → rng (hp w) b (off + i * 2) (ocs x)) := Lib.hid fun hn => by
    obtain ⟨b, off, e, _, hi⟩ := hcells' hn
    exact ⟨b, off, e, hi⟩
  clear hcells h ho hcells' h2 ho2
  generalize hN : l.length = n at *
  have HN := Lib.hid hN
  clear hN
  generalize hN2 : l2.length = n2 at *
  have HN2 := Lib.hid hN2
  clear hN2
  go_enter Try.func4, Try.ntmps4
  go_upto_region 2 with (go_at_call 8; refine (new_walk w.heap.size w (Nat.le_refl _)).mono ?_; rintro e w1 ⟨sb, g0, rfl, h1, hn1, -, b1⟩; have HS1 := Lib.hid h1; have HN1 := Lib.hid hn1; have B1 := Lib.hid b1; clear h1 hn1 b1)
  have KF := Lib.hid fun g : Ext w1 => fixed_walk g.on
  refine region_seq ?_
  repeat (go_big_quiet_step (first | (go_at_call 9; with_reducible exact calls_ext (KF.out _))))
  refine wpQuiet_nil ?_
  rintro w' ⟨gg2, rfl⟩
  have B2 := Lib.hid gg2.below
  generalize gg2.on = w2 at *
  clear KF
  have bw2 : Below w.heap.size w w2 := B1.out.trans (B2.out.mono B1.out.size)
  have KC := Lib.hid (cut_walk (.slice A0 n c) l w2 (by rw [HN.out]; exact HR.out.sub (hp_below bw2)) (fun o ho => (HX.out o ho).sub (hp_below bw2)))
  rw [HN.out] at KC
  have BW2 := Lib.hid bw2
  clear bw2
  go_wp2_with (go_at_call 10; refine KC.out.mono ?_; rintro e w3 ⟨⟨m, A9, c9, hm, hml, hgr, hv, rfl⟩, b3⟩; cases hv; have HGr := Lib.hid hgr; have B3 := Lib.hid b3; clear hgr b3)
  have bw3 : Below w.heap.size w w3 := BW2.out.trans (B3.out.mono BW2.out.size)
  have HS3 : Hid (∃ Z g L, StoreAt w.heap.size Z w3 sb g L ∧ g.n ≤ 1 ∧ ∀ v, v < g.n → (L v).length ≤ 50 * 0) := Lib.hid ⟨_, g0, _, HS1.out.below (B2.out.trans (B3.out.mono B2.out.size)), by rw [HN1.out]; omega, fun _ _ => by simp⟩
  have BW3 := Lib.hid bw3
  clear bw3 KC HS1 HN1
  go_loopw [31] (fun i wr => ∃ k : Nat, k ≤ m ∧ i = .int .i64 k ∧ Hid (∃ Z g L, StoreAt w.heap.size Z wr sb g L ∧ g.n ≤ k + 1 ∧ ∀ v, v < g.n → (L v).length ≤ 50 * k) ∧ Hid (Below w.heap.size w wr)) (fun i _ => m - (intOf i).toNat)
  case atStart => exact ⟨0, Nat.zero_le _, rfl, HS3, BW3⟩
  case round =>
    obtain ⟨k, hk, rfl, HS, HW⟩ := hrel
    clear HS3
    obtain ⟨Z, g, L, hS, hgn, hLn⟩ := HS.out
    have HLn := Lib.hid hLn
    have HSk := Lib.hid hS
    clear HS hS hLn
    by_cases hlt : k < m
    · obtain ⟨b, off, rfl, hi⟩ := HC.out (by omega)
      obtain ⟨o, hx⟩ : ∃ o, l[k]? = some o := ⟨l[k]'(by rw [HN.out]; omega), by simp⟩
      have r1 := ((hi k _ hx).sub (hp_below HW.out)).at
      have HOo := Lib.hid (small_accs (HX.out o (List.mem_of_getElem? hx)) (HGr.out o (List.mem_of_getElem? (by rw [List.getElem?_take_of_lt hlt]; exact hx))))
      obtain ⟨A2, c2, hv2, -⟩ := HOo.out.1.row.val
      clear hx hi
      have d0 : wr.cell? ⟨b, off + k * 2, none⟩ = some (.int .i64 o.par) := r1 0 _ rfl
      have d1 : wr.cell? ⟨b, off + k * 2 + 1, none⟩ = some o.v := r1 1 _ rfl
      rw [hv2] at d1
      obtain ⟨W2, hW2⟩ : ∃ W2, wr.alloc (.cells #[.int .i64 o.par, .slice A2 o.l.length c2] 36) = W2 := ⟨_, rfl⟩
      have g0' : W2.heap[wr.heap.size]? = some (.cells #[.int .i64 o.par, .slice A2 o.l.length c2] 36) := hW2 ▸ heap_alloc_new _ _
      have bW2 : Below wr.heap.size wr W2 := hW2 ▸ (Below.refl _ _).alloc (Nat.le_refl _) _
      have d2 := blk_cell (j := 0) g0' rfl
      have d3 := blk_cell (j := 1) g0' rfl
      have KM := Lib.hid (commit_any (HSk.out.below bW2) o.par o.v o.l (HOo.out.1.sub (hp_below (HW.out.trans (bW2.mono HW.out.size)))) (by have := HOo.out.2; omega) (by omega) (50 * k) HLn.out)
      rw [hv2] at KM
      have HW2 : Hid (Below w.heap.size w W2) := Lib.hid (HW.out.trans (bW2.mono HW.out.size))
      clear g0' bW2 r1
      go_wp2_with (go_at_call 11; refine KM.out.mono ?_; rintro e w6 ⟨r1, r2, Z', g', L', rfl, h6, hn6, b6⟩; have HS6 := Lib.hid h6; have B6 := Lib.hid b6; have HN6 := Lib.hid hn6; clear h6 b6 hn6)
      exact ⟨⟨k + 1, by omega, by go_num, Lib.hid ⟨_, _, _, HS6.out, by have := HN6.out.1; omega, fun v hv => by have := HN6.out.2 v hv; have := HOo.out.2; omega⟩, Lib.hid (HW2.out.trans B6.out)⟩, by simp [intOf]; omega⟩
    · obtain rfl : k = m := by omega
      obtain ⟨wS, rfl⟩ : ∃ wS, wS = wr := ⟨_, rfl⟩
      obtain ⟨n0, hn0⟩ : ∃ n0, g.n = n0 := ⟨_, rfl⟩
      have HN0 := Lib.hid hn0
      have hn0M : n0 ≤ 32 := by omega
      have KL := Lib.hid (slen_walk HSk.out)
      rw [hn0] at KL
      have hgn2 := hgn
      clear hn0
      go_wp2_with (go_at_call 13; refine KL.out.mono ?_; rintro e w4 ⟨rfl, rfl⟩)
      clear KL
      go_loopw [8, 45] (fun u i wr => ∃ j : Nat, j ≤ n0 ∧ i = .int .i64 j ∧ Hid (∃ Zw vals, WasAt wS wr u j L Zw vals)) (fun _ i _ => n0 - (intOf i).toNat)
      case atStart => exact ⟨0, Nat.zero_le _, rfl, Lib.hid ⟨_, _, WasAt.start _ _⟩⟩
      case round =>
        obtain ⟨j, hj, rfl, HP⟩ := hrel
        obtain ⟨Zw, vals, hP⟩ := HP.out
        have HWa := Lib.hid hP
        obtain ⟨UA, uc, hu⟩ := own_sl hP.own
        clear HP hP
        subst hu
        by_cases hlt2 : j < n0
        · skip
          --BEG
          have KA := Lib.hid (all_walk (HSk.out.below HWa.out.below) (by have := HN0.out; omega) j (by have := HN0.out; omega))
          go_wp2_with (first
            | (go_at_call 16
               refine KA.out.mono ?_
               rintro e wa ⟨val, ys, Zp, rfl, hal⟩
               have HAl := Lib.hid hal
               have hzz := hal.below.size
               have hzs := HWa.out.below.size
               have HOwn : Hid ((wa.alloc (.cells #[val] 30)).ownsRow wS.heap.size 30 1 (.slice UA j uc) j vals) := Lib.hid (own_same HWa.out.own (fun b hb => (Below.heap_alloc _ _ _ (Nat.lt_of_lt_of_le (HWa.out.own.lt b hb).2 hzz)).trans (hal.below.block b (HWa.out.own.lt b hb).2)))
               have HRow := Lib.hid (rowOneV (heap_alloc_new wa (.cells #[val] 30)))
               have one := (RowZ.ownF hal.own).oneCell
               obtain ⟨AA, ac, eA⟩ := own_sl hal.own
               subst eA
               clear hal)
            | (refine append_row rfl _ _ 59 rfl 30 (.slice none 0 0) 1 24 Try.underlying59 infoSlA rfl (by decide) (by decide) wS.heap.size (.slice UA j uc) j vals rfl HOwn.out (.slice (some ⟨wa.heap.size, 0, none⟩) 1 1) 1 [.slice AA ys.length ac] rfl HRow.out (by simpa using one) (by omega) (by simp; omega) ?_
               intro v1 wc ho1 hg1 hl1
               have HW1 := Lib.hid (HWa.out.step HAl.out ho1 hg1 hl1)
               clear ho1 hg1 hl1))
          exact ⟨⟨j + 1, by omega, by go_num, Lib.hid ⟨_, _, HW1.out⟩⟩, by simp [intOf]; omega⟩
          --END
        · obtain rfl : j = n0 := by omega
          obtain ⟨wT, rfl⟩ : ∃ wT, wT = wr := ⟨_, rfl⟩
          obtain ⟨Zf, hZf⟩ : ∃ Zf, orH Z (fr wS.heap.size wT) = Zf := ⟨_, rfl⟩
          have hgrow := HSk.out.growN HWa.out.below
          rw [hZf] at hgrow
          have HNv : Hid (NevAt w sb wT Zf L j k Zf g L) := Lib.hid ⟨hgrow, by have := HN0.out; omega, hgn2, HLn.out, fun _ _ => rfl, Sub.refl _, HW.out.trans (HWa.out.below.mono HW.out.size)⟩
          have hfrz : Sub (fr wS.heap.size wT) Zf := hZf ▸ orH_in (HSk.out.sub.below HWa.out.below) (fr_sub _ _)
          have hzw : Sub Zw Zf := fun b o hb => hfrz b o (by unfold fr; rw [if_pos (HWa.out.zge b o hb)]; exact HWa.out.sub b o hb)
          have HFr : Hid (RowZ Zf (.slice UA j uc) j 1 vals) := Lib.hid ((RowZ.ownF HWa.out.own).sub hfrz)
          have HFe : Hid (∀ (q : Nat) (v : Value), vals[q]? = some v → ∃ ys : List AV, AccsZ Zf v ys ∧ ys.map AV.a = (L q).filter fun x => !emptyA x) := Lib.hid fun q v hq => by
            obtain ⟨ys, h1, h2⟩ := HWa.out.each q v hq
            exact ⟨ys, h1.sub hzw, h2⟩
          have HVl : Hid (vals.length = j) := Lib.hid HWa.out.len
          have HWT : Hid (Below w.heap.size w wT) := Lib.hid (HW.out.trans (HWa.out.below.mono HW.out.size))
          have KC := Lib.hid (cut_walk (.slice A0' n2 c') l2 wT (by rw [HN2.out]; exact HR2.out.sub (hp_below HWT.out)) (fun o ho => (HX2.out o ho).sub (hp_below HWT.out)))
          rw [HN2.out] at KC
          have hk31 : k ≤ 31 := hm
          clear hgrow hfrz hzw hZf HWa HSk HLn
          go_wp2_with (go_at_call 10; refine KC.out.mono ?_; rintro e w5 ⟨⟨m2, A9', c9', hm2, hml2, hgr2, hv2, rfl⟩, b5⟩; cases hv2; have HGr2 := Lib.hid hgr2; have B5 := Lib.hid b5; clear hgr2 b5)
          have HN5 := Lib.hid (HNv.out.stay B5.out)
          clear HNv KC
          go_loopw [58] (fun i wr => ∃ q : Nat, q ≤ m2 ∧ i = .int .i64 q ∧ Hid (∃ Z g L', NevAt w sb wr Zf L j (k + q) Z g L')) (fun i _ => m2 - (intOf i).toNat)
          case atStart => exact ⟨0, Nat.zero_le _, rfl, Lib.hid ⟨_, _, _, HN5.out⟩⟩
          case round =>
            obtain ⟨q, hq, rfl, HS⟩ := hrel
            clear HN5
            obtain ⟨Z1, g1, L1, hS⟩ := HS.out
            have HNq := Lib.hid hS
            clear HS hS
            by_cases hlt3 : q < m2
            · --ROUND
              obtain ⟨wQ, rfl⟩ : ∃ wQ, wQ = wr := ⟨_, rfl⟩
              obtain ⟨b, off, rfl, hi⟩ := HC2.out (by omega)
              obtain ⟨o, hx⟩ : ∃ o, l2[q]? = some o := ⟨l2[q]'(by rw [HN2.out]; omega), by simp⟩
              have bwr : Below w.heap.size w wQ := HNq.out.below
              have r1 := ((hi q _ hx).sub (hp_below bwr)).at
              have HOo := Lib.hid (small_accs (HX2.out o (List.mem_of_getElem? hx)) (HGr2.out o (List.mem_of_getElem? (by rw [List.getElem?_take_of_lt hlt3]; exact hx))))
              obtain ⟨A2, c2, hv2, -, -, -, hrows⟩ := HOo.out.1.row.one (fun x _ => acs_len x)
              clear hx hi
              have d0 : wQ.cell? ⟨b, off + q * 2, none⟩ = some (.int .i64 o.par) := r1 0 _ rfl
              have d1 : wQ.cell? ⟨b, off + q * 2 + 1, none⟩ = some o.v := r1 1 _ rfl
              rw [hv2] at d1
              have HRo : Hid (0 < o.l.length → ∃ b off, A2 = some ⟨b, off, none⟩ ∧ ∀ i x, o.l[i]? = some x → rng (hp w) b (off + i * 27) (acs x)) := Lib.hid fun hn => by
                obtain ⟨b, off, e, _, hi⟩ := hrows hn
                exact ⟨b, off, e, hi⟩
              have HOe := Lib.hid HOo.out.1.each
              have hcn50 := HOo.out.2
              generalize hcn : o.l.length = cn at *
              have HCn := Lib.hid hcn
              obtain ⟨W2, hW2⟩ : ∃ W2, wQ.alloc (.cells #[.int .i64 o.par, .slice A2 cn c2] 36) = W2 := ⟨_, rfl⟩
              have g0' : W2.heap[wQ.heap.size]? = some (.cells #[.int .i64 o.par, .slice A2 cn c2] 36) := hW2 ▸ heap_alloc_new _ _
              have bW2 : Below wQ.heap.size wQ W2 := hW2 ▸ (Below.refl _ _).alloc (Nat.le_refl _) _
              have sW2 : W2.heap.size = wQ.heap.size + 1 := by rw [← hW2]; simp
              have d3 := blk_cell (j := 1) g0' rfl
              have HG0 := Lib.hid g0'
              have HN2q := Lib.hid (HNq.out.stay bW2)
              have HZlt : Hid (∀ b o, Z1 b = some o → b < wQ.heap.size) := Lib.hid fun b o hb => (Array.getElem?_eq_some_iff.1 (HNq.out.st.sub b o hb)).1
              have HSlt : Hid (∀ b, soft g1 sb b → b < wQ.heap.size) := Lib.hid fun b hb => HNq.out.st.softlt hb
              clear hrows hcn g0' bW2 r1 HOo HNq hv2
              go_upto_region 19 with fail
              clear hW2
              go_wp2_with fail
              clear d0 d1 d3
              go_loopw [13, 65] (fun u i wr => ∃ p : Nat, p ≤ cn ∧ i = .int .i64 p ∧ Hid (∃ xs Zx, OwnAt W2 wr u o.l p xs Zx)) (fun _ i _ => cn - (intOf i).toNat)
              case atStart => exact ⟨0, Nat.zero_le _, rfl, Lib.hid ⟨_, _, OwnAt.start _ _⟩⟩
              case round =>
                obtain ⟨p, hpl, rfl, HP⟩ := hrel
                obtain ⟨xs, Zx, hP⟩ := HP.out
                have HOw := Lib.hid hP
                obtain ⟨UB, ub, hu⟩ := own_sl hP.own
                have hxl : xs.length = p := by
                  have := congrArg List.length hP.map
                  rw [List.length_map, List.length_map, List.length_take, HCn.out] at this
                  omega
                rw [hxl] at hu
                have HXl := Lib.hid hxl
                clear HP hP hxl
                subst hu
                by_cases hlt5 : p < cn
                · skip
                  --BEG
                  obtain ⟨b3, off3, rfl, hi⟩ := HRo.out (by omega)
                  obtain ⟨x, hx⟩ : ∃ x, o.l[p]? = some x := ⟨o.l[p]'(by rw [HCn.out]; exact hlt5), by simp⟩
                  have bwA : Below w.heap.size w wr := HN2q.out.below.trans (HOw.out.below.mono HN2q.out.below.size)
                  have r1 := ((hi p _ hx).sub (hp_below bwA)).at
                  have HXx := Lib.hid ((HOe.out x (List.mem_of_getElem? hx)).sub (hp_below bwA))
                  have HXg := Lib.hid hx
                  have one := HXx.out.ones
                  have sn := fun w => store_newA w x one
                  obtain ⟨W3, hW3⟩ : ∃ W3, wr.alloc (.cells (acs x).toArray 46) = W3 := ⟨_, rfl⟩
                  have f3 : W3.heap[wr.heap.size]? = some (.cells (acs x).toArray 46) := hW3 ▸ heap_alloc_new _ _
                  have b33 : Below wr.heap.size wr W3 := hW3 ▸ (Below.refl _ _).alloc (Nat.le_refl _) _
                  have s3 : W3.heap.size = wr.heap.size + 1 := by rw [← hW3]; simp
                  have hs27 : (acs x).toArray.size = 27 := by simp [acs_len]
                  have F3 := Lib.hid f3
                  have B33 := Lib.hid b33
                  clear hx hi bwA f3 b33
                  go_upto_region 23 with (first
                    | (refine wpList_load_mid rfl 46 _ rfl b3 _ rfl (acs x) _ r1 Try.underlying46 rfl (infoAcs _) ?_)
                    | (refine wpList_alloc_row rfl 46 rfl _ zeroAcc ?_))
                  clear hW3 sn r1
                  obtain ⟨V3, hV3⟩ : ∃ V3, W3.alloc (.cells #[] 5) = V3 := ⟨_, rfl⟩
                  have bV3 : Below W3.heap.size W3 V3 := hV3 ▸ (Below.refl _ _).alloc (Nat.le_refl _) _
                  have sV3 : V3.heap.size = wr.heap.size + 2 := by rw [← hV3]; simp [s3]
                  have hE1 : V3.ownsRow wr.heap.size 5 1 (.slice (some ⟨W3.heap.size, 0, none⟩) 0 0) 0 [] := hV3 ▸ ⟨rfl, .inr ⟨W3.heap.size, 0, #[], rfl, by omega, heap_alloc_new _ _, Nat.le_refl _, by simp [maxLen], rfl, rfl⟩⟩
                  rw [s3] at hE1
                  have HE1 := Lib.hid hE1
                  have fV3 := stay bV3 F3.out
                  obtain ⟨-, -, p2, -, -⟩ := boxcells fV3
                  have fz := blk_frozen (j := 25) fV3
                  have FV3 := Lib.hid fV3
                  have BV3 : Hid (Below wr.heap.size wr V3) := Lib.hid (B33.out.trans (bV3.mono B33.out.size))
                  clear hE1 fV3 bV3
                  go_upto_region 24 with (first
                    | (refine append_row rfl _ _ 43 rfl 5 (.int .u8 0) 1 1 Try.underlying43 infoU8 rfl (by decide) (by decide) wr.heap.size (.slice (some ⟨wr.heap.size + 1, 0, none⟩) 0 0) 0 [] rfl HE1.out x.p x.a.co.length (x.a.co.map u8v) rfl (HXx.out.cod.sub (hp_below BV3.out)) (u8_one _) (by have := HXx.out.cl; omega) (by omega) ?_
                       intro v1 w1 ho1 hg1 _
                       simp only [Nat.zero_add, List.nil_append] at ho1
                       have f4 := (hg1.block wr.heap.size (by omega) (by simp [Value.ownBlock] <;> omega)).trans FV3.out
                       have fz1 := blk_frozen (j := 25) f4
                       obtain ⟨-, -, g2, g3, -⟩ := boxcells f4
                       have HO1 := Lib.hid ho1
                       have F4 := Lib.hid f4
                       have hz1 := hg1.size
                       have HB1 : Hid (Below wr.heap.size wr w1) := Lib.hid (BV3.out.grown hg1 (by omega) (fun k hk => by simp [Value.ownBlock] at hk; omega))
                       obtain ⟨A1, c1, rfl⟩ := own_sl ho1
                       clear ho1 hg1 f4))
                  clear hV3 p2 fz g2 g3 fz1
                  obtain ⟨wX, hwX⟩ : ∃ wX, w1.setCell ⟨wr.heap.size, 25, none⟩ (.slice A1 x.a.co.length c1) = wX := ⟨_, rfl⟩
                  obtain ⟨V4, hV4⟩ : ∃ V4, wX.alloc (.cells #[] 82) = V4 := ⟨_, rfl⟩
                  have swX : wX.heap.size = w1.heap.size := by rw [← hwX]; simp [World.setCell]
                  have bwX : Below wr.heap.size wr wX := hwX ▸ HB1.out.setCell (Nat.le_refl _) _
                  have fX : wX.heap[wr.heap.size]? = some (.cells ((acs x).toArray.setIfInBounds 25 (.slice A1 x.a.co.length c1)) 46) := hwX ▸ blk_set F4.out _
                  have oX : ∀ i, i ≠ wr.heap.size → wX.heap[i]? = w1.heap[i]? := fun i hi => hwX ▸ Below.heap_setCell _ _ _ _ hi
                  have bV4 : Below wX.heap.size wX V4 := hV4 ▸ (Below.refl _ _).alloc (Nat.le_refl _) _
                  have sV4 : V4.heap.size = wX.heap.size + 1 := by rw [← hV4]; simp
                  have hE2 : V4.ownsRow wr.heap.size 82 8 (.slice (some ⟨wX.heap.size, 0, none⟩) 0 0) 0 [] := hV4 ▸ ⟨rfl, .inr ⟨wX.heap.size, 0, #[], rfl, bwX.size, heap_alloc_new _ _, Nat.le_refl _, by simp [maxLen], rfl, rfl⟩⟩
                  have fV4 := stay bV4 fX
                  have q4 : V4.cell? ⟨wr.heap.size, 26, none⟩ = some x.q := blk_cell fV4 (by rw [Array.getElem?_setIfInBounds_ne (by decide)]; simpa using acs_q x)
                  have fz4 := blk_frozen (j := 26) fV4
                  have BV4 : Hid (Below wr.heap.size wr V4) := Lib.hid (bwX.trans (bV4.mono bwX.size))
                  have hwXs := bwX.size
                  rw [swX] at hE2
                  have HE2 := Lib.hid hE2
                  have FV4 := Lib.hid fV4
                  have OX := Lib.hid oX
                  have BV4X := Lib.hid bV4
                  clear hE2 fV4 oX fX bwX bV4
                  rw [hwX]
                  clear hwX
                  go_upto_region 25 with (first
                    | (refine append_row rfl _ _ 44 rfl 82 (.agg (wa 0 ++ wa 0)) 8 64 Try.underlying44 infoSlot (by simp [Value.cells, wa_size]) (by decide) (by decide) wr.heap.size (.slice (some ⟨w1.heap.size, 0, none⟩) 0 0) 0 [] rfl HE2.out x.q x.a.so.length (x.a.so.flatMap scs) rfl (HXx.out.sto.sub (hp_below BV4.out)) (so_one _) (by have := HXx.out.sl; omega) (by omega) ?_
                       intro v2 w2' ho2 hg2 _
                       simp only [Nat.zero_add, List.nil_append] at ho2
                       have f5 := (hg2.block wr.heap.size (by omega) (by simp [Value.ownBlock] <;> omega)).trans FV4.out
                       have fz2 := blk_frozen (j := 26) f5
                       have q5 : w2'.cell? ⟨wr.heap.size, 26, none⟩ = some x.q := blk_cell f5 (by rw [Array.getElem?_setIfInBounds_ne (by decide)]; simpa using acs_q x)
                       have HO2 := Lib.hid ho2
                       have F5 := Lib.hid f5
                       have HG2 := Lib.hid hg2
                       have HB2 : Hid (Below wr.heap.size wr w2') := Lib.hid (BV4.out.grown hg2 (by omega) (fun k hk => by simp [Value.ownBlock] at hk; omega))
                       obtain ⟨A3, c3, rfl⟩ := own_sl ho2
                       clear ho2 hg2 f5))
                  clear hV4 q4 fz4 q5 fz2
                  obtain ⟨wY, hwY⟩ : ∃ wY, w2'.setCell ⟨wr.heap.size, 26, none⟩ (.slice A3 x.a.so.length c3) = wY := ⟨_, rfl⟩
                  obtain ⟨y, hy⟩ : ∃ y : AV, (⟨x.a, .slice A1 x.a.co.length c1, .slice A3 x.a.so.length c3⟩ : AV) = y := ⟨_, rfl⟩
                  have swY : wY.heap.size = w2'.heap.size := by rw [← hwY]; simp [World.setCell]
                  have bwY : Below wr.heap.size wr wY := hwY ▸ HB2.out.setCell (Nat.le_refl _) _
                  have fY : wY.heap[wr.heap.size]? = some (.cells (acs y).toArray 46) := by rw [← hwY, ← hy, ← acs_set x]; exact blk_set F5.out _
                  have oY : ∀ i, i ≠ wr.heap.size → wY.heap[i]? = w2'.heap[i]? := fun i hi => hwY ▸ Below.heap_setCell _ _ _ _ hi
                  have hY : AccC (fr wr.heap.size wY) y := by
                    have e1 : ∀ b, (Value.slice A1 x.a.co.length c1).ownBlock = some b → wY.heap[b]? = w1.heap[b]? := fun b hb => by
                      have n1 := own_not HO1.out F4.out (by decide) b hb
                      have l1 := (HO1.out.lt b hb).2
                      rw [oY b n1, HG2.out.block b (by omega) (by simp [Value.ownBlock]; omega), BV4X.out.block b (by omega), OX.out b n1]
                    have e2 : ∀ b, (Value.slice A3 x.a.so.length c3).ownBlock = some b → wY.heap[b]? = w2'.heap[b]? := fun b hb => oY b (own_not HO2.out F5.out (by decide) b hb)
                    rw [← hy]
                    exact { HXx.out with cod := RowZ.ownF (own_same HO1.out e1), sto := RowZ.ownF (own_same HO2.out e2), cp := ClrZ.ownF (own_same HO1.out e1), cq := ClrZ.ownF (own_same HO2.out e2) }
                  have HYa : Hid (y.a = x.a) := Lib.hid (by rw [← hy])
                  have HY := Lib.hid hY
                  have HBY := Lib.hid bwY
                  have oneY := (oneA y hY.cod.oneCell hY.sto.oneCell)
                  have OneY := Lib.hid oneY
                  have rY := (rng_block fY).at
                  have f27 := fold27 y
                  have hsY : (acs y).toArray.size = 27 := by simp [acs_len]
                  obtain ⟨wZ, hwZ⟩ : ∃ wZ, wY.alloc (.cells (acs y).toArray 46) = wZ := ⟨_, rfl⟩
                  have bwZ : Below wY.heap.size wY wZ := hwZ ▸ (Below.refl _ _).alloc (Nat.le_refl _) _
                  have fwZ : wZ.heap[wY.heap.size]? = some (.cells (acs y).toArray 46) := hwZ ▸ heap_alloc_new _ _
                  have swZ : wZ.heap.size = w2'.heap.size + 1 := by rw [← hwZ]; simp [swY]
                  have HRz := rowOne fwZ
                  rw [swY] at HRz
                  have HRZ := Lib.hid HRz
                  have hzw := HOw.out.below.size
                  have hzb := bwY.size
                  have HOu : Hid (wZ.ownsRow W2.heap.size 46 27 (.slice UB p ub) p (xs.flatMap acs)) := Lib.hid (by
                    have := own_same HOw.out.own (fun b hb => (bwZ.block b (Nat.lt_of_lt_of_le (HOw.out.own.lt b hb).2 hzb)).trans (bwY.block b (HOw.out.own.lt b hb).2))
                    rwa [HXl.out] at this)
                  have HBZ := Lib.hid bwZ
                  rw [hwY]
                  clear hwY hY bwY fY oY oneY HRz fwZ bwZ hy
                  go_wp2_with (first
                    | (refine wpList_load_mid rfl 46 _ rfl wr.heap.size 0 rfl (acs y) _ rY Try.underlying46 rfl (infoAcs _) ?_)
                    | (refine append_row rfl _ _ 30 rfl 46 (.agg (acs noneAV).toArray) 27 112 Try.underlying30 infoA27 (by simp [Value.cells, acs_len]) (by decide) (by decide) W2.heap.size (.slice UB p ub) p (xs.flatMap acs) rfl HOu.out (.slice (some ⟨w2'.heap.size, 0, none⟩) 1 1) 1 (acs y) rfl HRZ.out OneY.out (by omega) (by omega) ?_
                       intro v3 w3' ho3 hg3 hl3
                       rw [← HXl.out] at ho3
                       have HS3 := Lib.hid (HOw.out.step HXg.out HYa.out HY.out HBY.out HBZ.out ho3 hg3 hl3)
                       clear ho3 hg3 hl3))
                  exact ⟨⟨p + 1, by omega, by go_num, Lib.hid ⟨_, _, HS3.out⟩⟩, by simp [intOf]; omega⟩
                  --END
                · obtain rfl : p = cn := by omega
                  obtain ⟨wO, rfl⟩ : ∃ wO, wO = wr := ⟨_, rfl⟩
                  have hmap : xs.map AV.a = o.l.map AV.a := by
                    have := HOw.out.map
                    rwa [List.take_of_length_le (by rw [HCn.out]; exact Nat.le_refl _)] at this
                  have HNO := Lib.hid (HN2q.out.stay HOw.out.below)
                  have hrow0 := HOw.out.own
                  rw [HXl.out] at hrow0
                  have hacc : AccsZ (hp wO) (.slice UB p ub) xs := ⟨by rw [HXl.out]; exact RowZ.own hrow0, fun x hx => ((HOw.out.each x hx).sub HOw.out.sub).toAccZ⟩
                  have hg1M : g1.n ≤ k + q + 1 := HNO.out.hi
                  have hkq : k + q ≤ 62 := by omega
                  have KM := Lib.hid (commit_keep HNO.out.st o.par (.slice UB p ub) xs hacc (by have := HXl.out; omega) (by omega) (50 * (k + q)) HNO.out.ln)
                  have d2 : wO.cell? ⟨wQ.heap.size, 0, none⟩ = some (.int .i64 o.par) := blk_cell (j := 0) (stay HOw.out.below HG0.out) rfl
                  have hOz := HOw.out.below.size
                  clear hmap hrow0 hacc
                  go_wp2_with (first
                    | (go_at_call 11; refine KM.out.mono ?_; rintro e w6 ⟨r1, r2, Z2, g2, L2, rfl, hk6⟩; have HK6 := Lib.hid hk6; clear hk6))
                  clear d2 KM
                  have HTin : Hid (∀ b, Tb xs b → W2.heap.size ≤ b ∧ b < wO.heap.size) := Lib.hid fun b hb => by
                    obtain ⟨cs, e, hc, _⟩ := hb.at HOw.out.each
                    exact ⟨HOw.out.zge _ _ hc, (Array.getElem?_eq_some_iff.1 (HOw.out.sub _ _ hc)).1⟩
                  have HK6z := HK6.out.below.size
                  have hkeep : ∀ b, W2.heap.size ≤ b → b < wO.heap.size → w6.heap[b]? = wO.heap[b]? := fun b h1 h2 => HK6.out.keep b h2 (fun hs => by have := HSlt.out b hs; omega)
                  have hO6 : wO.heap.size ≤ w6.heap.size := HK6.out.below.size
                  have HTb : Hid (∀ b, Tb xs b → b < w6.heap.size) := Lib.hid fun b hb => by have := HTin.out b hb; omega
                  have HSub6 : Hid (Sub Zx (hp w6)) := Lib.hid fun b o hb => (hkeep b (HOw.out.zge b o hb) (Array.getElem?_eq_some_iff.1 (HOw.out.sub b o hb)).1).trans (HOw.out.sub b o hb)
                  have HEach := Lib.hid HOw.out.each
                  have HOwn6 : Hid (w6.ownsRow W2.heap.size 46 27 (.slice UB p ub) xs.length (xs.flatMap acs)) := Lib.hid (own_same HOw.out.own (fun b hb => hkeep b (HOw.out.own.lt b hb).1 (HOw.out.own.lt b hb).2))
                  have HN6 := Lib.hid (HNO.out.kept (m := xs.length) (by have := HXl.out; omega) HK6.out)
                  have HZ2n : Hid (∀ b, Tb xs b → Z2 b = none) := Lib.hid fun b hb => by
                    have h0 := HTin.out b hb
                    have hz1 : Z1 b = none := by
                      cases hz : Z1 b with
                      | none => rfl
                      | some o => have := HZlt.out b o hz; omega
                    cases hz : Z2 b with
                    | none => rfl
                    | some o => have := HK6.out.new b hz1 (by rw [hz]; simp); omega
                  have HS2n : Hid (∀ b, Tb xs b → ¬ soft g2 sb b) := Lib.hid fun b hb hs => by
                    have h0 := HTin.out b hb
                    rcases HK6.out.soft' b hs with h1 | h1
                    · have := HSlt.out b h1; omega
                    · omega
                  have HBn : Hid (∀ b, Tb xs b → w.heap.size ≤ b) := Lib.hid fun b hb => by
                    have h0 := HTin.out b hb
                    have := HN2q.out.below.size
                    omega
                  have HWsz : Hid (w.heap.size ≤ W2.heap.size) := Lib.hid HN2q.out.below.size
                  clear hkeep HK6 HOw HNO HN2q HTin
                  go_loopw [91] (fun i wr => ∃ y : Nat, y ≤ p ∧ i = .int .i64 y ∧ Hid (Wiped (Tb xs) w6 wr)) (fun i _ => p - (intOf i).toNat)
                  case atStart => exact ⟨0, Nat.zero_le _, rfl, Lib.hid (Wiped.refl _ _)⟩
                  case round =>
                    obtain ⟨y, hy, rfl, HWp⟩ := hrel
                    by_cases hlt6 : y < p
                    · skip
                      --BEG
                      have hrow := HWp.out.row HEach.out HSub6.out HOwn6.out
                      obtain ⟨RA, rc, hRA, -, -, -, hrows⟩ := (RowZ.own hrow).one (fun x _ => acs_len x)
                      obtain ⟨vb, off4, rfl, -, hri⟩ := hrows (by have := HXl.out; omega)
                      injection hRA with hU1 hU2 hU3
                      clear hU2
                      subst hU1 hU3
                      obtain ⟨x, hx⟩ : ∃ x, xs[y]? = some x := ⟨xs[y]'(by have := HXl.out; omega), by simp⟩
                      have hxm := List.mem_of_getElem? hx
                      have r1 := (hri y x hx).at
                      have HXc := Lib.hid (HEach.out x hxm)
                      have HXm := Lib.hid hxm
                      have one := HXc.out.toAccZ.ones
                      have sn := fun w => store_newA w x one
                      obtain ⟨W3, hW3⟩ : ∃ W3, wr.alloc (.cells (acs x).toArray 46) = W3 := ⟨_, rfl⟩
                      have f3 : W3.heap[wr.heap.size]? = some (.cells (acs x).toArray 46) := hW3 ▸ heap_alloc_new _ _
                      have b33 : Below wr.heap.size wr W3 := hW3 ▸ (Below.refl _ _).alloc (Nat.le_refl _) _
                      have hs27 : (acs x).toArray.size = 27 := by simp [acs_len]
                      have HWq := Lib.hid (HWp.out.below b33)
                      have F3 := Lib.hid f3
                      have hwz := HWp.out.size
                      clear hx hxm hrow hrows hri b33 f3
                      go_upto_region 31 with (first
                        | (refine wpList_load_mid rfl 46 _ rfl vb _ rfl (acs x) _ r1 Try.underlying46 rfl (infoAcs _) ?_)
                        | (refine wpList_alloc_row rfl 46 rfl _ zeroAcc ?_))
                      clear hW3 sn r1
                      have p2 := (boxcells F3.out).2.2.1
                      have HK1 := Lib.hid (HWq.out.clr (fun b hb => ⟨x, HXm.out, .inl hb⟩) (HXc.out.cp.sub HSub6.out))
                      go_upto_region 32 with (first
                        | (refine wpList_clear rfl _ 43 5 (.int .u8 0) 1 rfl Try.underlying43 zero8_run rfl ones1 (by decide) x.p x.a.co.length rfl HK1.out ?_
                           intro w8 hw8
                           have HWr := Lib.hid (HWq.out.clear (fun b hb => ⟨x, HXm.out, .inl hb⟩) hw8)
                           have HF8 := Lib.hid (wiped_box hw8 F3.out (fun b hb => by
                             have := HTb.out b ⟨x, HXm.out, .inl hb⟩
                             omega))
                           clear hw8))
                      clear p2
                      have p3 := (boxcells HF8.out).2.2.2.1
                      have HK2 := Lib.hid (HWr.out.clr (fun b hb => ⟨x, HXm.out, .inr hb⟩) (HXc.out.cq.sub HSub6.out))
                      go_wp2_with (first
                        | (refine wpList_clear rfl _ 44 82 (.agg (wa 0 ++ wa 0)) 8 rfl Try.underlying44 zero82_run (by simp [Value.cells, wa_size]) ones82 (by decide) x.q x.a.so.length rfl HK2.out ?_
                           intro w9 hw9
                           have HWs := Lib.hid (HWr.out.clear (fun b hb => ⟨x, HXm.out, .inr hb⟩) hw9)
                           clear hw9))
                      exact ⟨⟨y + 1, by omega, by go_num, HWs⟩, by simp [intOf]; omega⟩
                      --END
                    · obtain rfl : y = p := by omega
                      obtain ⟨wE, rfl⟩ : ∃ wE, wE = wr := ⟨_, rfl⟩
                      have HNE := Lib.hid (HN6.out.wiped HWp.out HZ2n.out HS2n.out HBn.out)
                      obtain ⟨p2, hp2⟩ : ∃ p2, g2.n = p2 + 1 := ⟨g2.n - 1, by have := HNE.out.st.n1; omega⟩
                      have hg2M := HNE.out.hi
                      have KL := Lib.hid (slen_walk HNE.out.st)
                      rw [show ((g2.n : Nat) : Int) = (p2 : Int) + 1 by rw [hp2]; rfl] at KL
                      have hpM : (p2 : Int) < 100 := by omega
                      have KA := Lib.hid (all_walk HNE.out.st (by omega) p2 (by omega))
                      have HP2 := Lib.hid hp2
                      clear HWp HN6 hp2
                      go_wp2_with (first
                        | (go_at_call 13; refine KL.out.mono ?_; rintro e w9 ⟨rfl, rfl⟩)
                        | (go_at_call 16
                           refine KA.out.mono ?_
                           rintro e w10 ⟨val, ys, Zp, rfl, hal⟩
                           have HAl := Lib.hid hal
                           obtain ⟨AA, ac, eA⟩ := own_sl hal.own
                           subst eA
                           clear hal))
                      clear KL KA
                      have HYe := Lib.hid HAl.out.each
                      have HYs := Lib.hid HAl.out.sub
                      have HYo := Lib.hid HAl.out.own
                      have HTc : Hid (∀ b, Tb ys b → wE.heap.size ≤ b ∧ b < w10.heap.size) := Lib.hid fun b hb => by
                        obtain ⟨cs, e, hc, _⟩ := hb.at HAl.out.each
                        exact ⟨HAl.out.zge _ _ hc, (Array.getElem?_eq_some_iff.1 (HAl.out.sub _ _ hc)).1⟩
                      have HTd : Hid (∀ b, Tb ys b → b < w10.heap.size) := Lib.hid fun b hb => (HTc.out b hb).2
                      have hynM : ys.length ≤ 10000 := by
                        have a1 := HAl.out.len
                        have a2 := HNE.out.ln p2 (by have := HP2.out; omega)
                        omega
                      obtain ⟨yn, hyn⟩ : ∃ yn, ys.length = yn := ⟨_, rfl⟩
                      have HYn := Lib.hid hyn
                      rw [hyn] at hynM
                      rw [hyn]
                      have HYo2 := Lib.hid HYo.out
                      rw [hyn] at HYo2
                      clear hyn
                      go_loopw [106] (fun i wr => ∃ y : Nat, y ≤ yn ∧ i = .int .i64 y ∧ Hid (Wiped (Tb ys) w10 wr)) (fun i _ => yn - (intOf i).toNat)
                      case atStart => exact ⟨0, Nat.zero_le _, rfl, Lib.hid (Wiped.refl _ _)⟩
                      case round =>
                        obtain ⟨y, hy, rfl, HWp⟩ := hrel
                        by_cases hlt6 : y < yn
                        · skip
                          --BEG
                          have hrow := HWp.out.row HYe.out HYs.out HYo.out
                          obtain ⟨RA, rc, hRA, -, -, -, hrows⟩ := (RowZ.own hrow).one (fun x _ => acs_len x)
                          obtain ⟨vb, off4, rfl, -, hri⟩ := hrows (by have := HYn.out; omega)
                          injection hRA with hU1 hU2 hU3
                          clear hU2
                          subst hU1 hU3
                          obtain ⟨x, hx⟩ : ∃ x, ys[y]? = some x := ⟨ys[y]'(by have := HYn.out; omega), by simp⟩
                          have hxm := List.mem_of_getElem? hx
                          have r1 := (hri y x hx).at
                          have HXc := Lib.hid (HYe.out x hxm)
                          have HXm := Lib.hid hxm
                          have one := HXc.out.toAccZ.ones
                          have sn := fun w => store_newA w x one
                          obtain ⟨W3, hW3⟩ : ∃ W3, wr.alloc (.cells (acs x).toArray 46) = W3 := ⟨_, rfl⟩
                          have f3 : W3.heap[wr.heap.size]? = some (.cells (acs x).toArray 46) := hW3 ▸ heap_alloc_new _ _
                          have b33 : Below wr.heap.size wr W3 := hW3 ▸ (Below.refl _ _).alloc (Nat.le_refl _) _
                          have hs27 : (acs x).toArray.size = 27 := by simp [acs_len]
                          have HWq := Lib.hid (HWp.out.below b33)
                          have F3 := Lib.hid f3
                          have hwz := HWp.out.size
                          clear hx hxm hrow hrows hri b33 f3
                          go_upto_region 37 with (first
                            | (refine wpList_load_mid rfl 46 _ rfl vb _ rfl (acs x) _ r1 Try.underlying46 rfl (infoAcs _) ?_)
                            | (refine wpList_alloc_row rfl 46 rfl _ zeroAcc ?_))
                          clear hW3 sn r1
                          have p2 := (boxcells F3.out).2.2.1
                          have HK1 := Lib.hid (HWq.out.clr (fun b hb => ⟨x, HXm.out, .inl hb⟩) (HXc.out.cp.sub HYs.out))
                          go_upto_region 38 with (first
                            | (refine wpList_clear rfl _ 43 5 (.int .u8 0) 1 rfl Try.underlying43 zero8_run rfl ones1 (by decide) x.p x.a.co.length rfl HK1.out ?_
                               intro w8 hw8
                               have HWr := Lib.hid (HWq.out.clear (fun b hb => ⟨x, HXm.out, .inl hb⟩) hw8)
                               have HF8 := Lib.hid (wiped_box hw8 F3.out (fun b hb => by
                                 have := HTd.out b ⟨x, HXm.out, .inl hb⟩
                                 omega))
                               clear hw8))
                          clear p2
                          have p3 := (boxcells HF8.out).2.2.2.1
                          have HK2 := Lib.hid (HWr.out.clr (fun b hb => ⟨x, HXm.out, .inr hb⟩) (HXc.out.cq.sub HYs.out))
                          go_wp2_with (first
                            | (refine wpList_clear rfl _ 44 82 (.agg (wa 0 ++ wa 0)) 8 rfl Try.underlying44 zero82_run (by simp [Value.cells, wa_size]) ones82 (by decide) x.q x.a.so.length rfl HK2.out ?_
                               intro w9 hw9
                               have HWs := Lib.hid (HWr.out.clear (fun b hb => ⟨x, HXm.out, .inr hb⟩) hw9)
                               clear hw9))
                          exact ⟨⟨y + 1, by omega, by go_num, HWs⟩, by simp [intOf]; omega⟩
                          --END
                        · obtain rfl : y = yn := by omega
                          have HNF := Lib.hid ((HNE.out.stay HAl.out.below).wiped HWp.out (fun b hb => by
                            have h0 := HTc.out b hb
                            cases hz : Z2 b with
                            | none => rfl
                            | some o =>
                              have := (Array.getElem?_eq_some_iff.1 (HNE.out.st.sub b o hz)).1
                              omega) (fun b hb hs => by
                            have h0 := HTc.out b hb
                            have := HNE.out.st.softlt hs
                            omega) (fun b hb => by
                            have h0 := HTc.out b hb
                            have := HNE.out.below.size
                            omega))
                          go_wp2_with fail
                          exact ⟨⟨q + 1, by omega, by go_num, Lib.hid ⟨_, _, _, HNF.out⟩⟩, by simp [intOf]; omega⟩
            · obtain rfl : q = m2 := by omega
              --BEG
              have hgn3 := HNq.out.hi
              go_wp2_with fail
              go_loopw [117] (fun i wr => ∃ i2 : Nat, i2 ≤ j ∧ i = .int .i64 i2 ∧ Hid (NevAt w sb wr Zf L j (k + q) Z1 g1 L1)) (fun i _ => j - (intOf i).toNat)
              case atStart => exact ⟨0, Nat.zero_le _, rfl, HNq⟩
              case round =>
                obtain ⟨i2, hi2, rfl, HNi⟩ := hrel
                clear HNq
                by_cases hlt4 : i2 < j
                · obtain ⟨vv, hvv⟩ : ∃ vv, vals[i2]? = some vv := ⟨vals[i2]'(by rw [HVl.out]; exact hlt4), by simp⟩
                  obtain ⟨ysW, hy1, hy2⟩ := HFe.out i2 vv hvv
                  have HYa := Lib.hid hy1
                  have HYe := Lib.hid hy2
                  obtain ⟨UB, uc2, hUA, -, -, -, hrows⟩ := HFr.out.val
                  obtain ⟨vb, off, rfl, hri⟩ := hrows (by omega)
                  injection hUA with hU1 _ hU3
                  subst hU1 hU3
                  have C1 : Hid (∀ w', Below wr.heap.size wr w' → w'.cell? ⟨vb, off + i2, none⟩ = some vv) := Lib.hid fun w' hb => (hri.sub (HNi.out.fix.trans (HNi.out.st.sub.below hb))).cell hvv
                  have KAll := Lib.hid fun (w' : World) (hb : Below wr.heap.size wr w') => all_walk (HNi.out.st.below hb) (by omega) i2 (Nat.lt_of_lt_of_le hlt4 HNi.out.lo)
                  clear hrows hri hvv hy1 hy2
                  go_upto_region 44 with fail
                  refine wp_region_held_drew (S := fun w' => Below wr.heap.size wr w') (by kernel_rfl) ((Below.refl _ _).drew) (fun hHeld => ?_)
                  refine wpAnyH_take (i := 0) (oi := ⟨_, _, _, _, _, _⟩) (v := ?_) rfl (by kernel_rfl) (by kernel_rfl) (by kernel_rfl) (fun _ _ _ h => h) (Or.inl ⟨by rfl, ?_⟩) (by assumption) ?_
                  rotate_left
                  · (intro w hSw; first | (go_simp; done) | (go_simp; with_reducible rfl))
                  try simp only [Act.put, List.setIfInBounds_toArray, List.set_cons_zero, List.set_cons_succ]
                  refine wpAnyH_take (i := 1) (oi := ⟨_, _, _, _, _, _⟩) (v := ?_) rfl (by kernel_rfl) (by kernel_rfl) (by kernel_rfl) (fun _ _ _ h => h) (Or.inl ⟨by rfl, ?_⟩) (by assumption) ?_
                  rotate_left
                  · (intro w hSw; first | (go_simp; done) | (go_simp; with_reducible rfl))
                  try simp only [Act.put, List.setIfInBounds_toArray, List.set_cons_zero, List.set_cons_succ]
                  refine wpAnyH_take (i := 3) (oi := ⟨_, _, _, _, _, _⟩) (v := ?_) rfl (by kernel_rfl) (by kernel_rfl) (by kernel_rfl) (fun _ _ _ h => h) (Or.inl ⟨by rfl, ?_⟩) (by assumption) ?_
                  rotate_left
                  · (intro w hSw; first | (go_simp; done) | (go_simp; with_reducible rfl))
                  try simp only [Act.put, List.setIfInBounds_toArray, List.set_cons_zero, List.set_cons_succ]
                  refine wpAnyH_take (i := 4) (oi := ⟨_, _, _, _, _, _⟩) (v := ?_) rfl (by kernel_rfl) (by kernel_rfl) (by kernel_rfl) (fun _ _ _ h => h) (Or.inl ⟨by rfl, ?_⟩) (by assumption) ?_
                  rotate_left
                  · (intro w hSw; first | (go_simp; done) | (go_simp; with_reducible rfl))
                  try simp only [Act.put, List.setIfInBounds_toArray, List.set_cons_zero, List.set_cons_succ]
                  refine wpAnyH_take (i := 5) (oi := ⟨_, _, _, _, _, _⟩) (v := ?_) rfl (by kernel_rfl) (by kernel_rfl) (by kernel_rfl) (fun _ _ _ h => h) (Or.inl ⟨by rfl, ?_⟩) (by assumption) ?_
                  rotate_left
                  · (intro w hSw; first | (go_simp; done) | (go_simp; with_reducible rfl))
                  try simp only [Act.put, List.setIfInBounds_toArray, List.set_cons_zero, List.set_cons_succ]
                  refine wpAnyH_take (i := 6) (oi := ⟨_, _, _, _, _, _⟩) (v := ?_) rfl (by kernel_rfl) (by kernel_rfl) (by kernel_rfl) (fun _ _ _ h => h) (Or.inl ⟨by rfl, ?_⟩) (by assumption) ?_
                  rotate_left
                  · (intro w hSw; have hc := C1.out w hSw; first | (go_simp; done) | (go_simp; with_reducible rfl))
                  try simp only [Act.put, List.setIfInBounds_toArray, List.set_cons_zero, List.set_cons_succ]
                  refine wpAnyH_ready (rs := [2]) (by kernel_rfl) (by simp) ?_
                  refine AllReadyH.cons (o := ⟨_, _, _, _, _, _⟩) rfl (fun K hK => ?_) AllReadyH.nil
                  go_simp
                  go_wp2_with (go_at_call 16; refine (KAll.out _ hHeld).mono ?_; rintro e w6 ⟨val, ys, Zp, rfl, hall⟩)
                  have HAll := Lib.hid hall
                  obtain ⟨AA, ac, eA⟩ := own_sl hall.own
                  have b1 := hall.below
                  subst eA
                  clear hall
                  refine hK.out _ _ (Below.trans hHeld (b1.mono (Below.size hHeld))) (fun hHeld => ?_)
                  clear hK K
                  try simp only [Act.put, List.setIfInBounds_toArray, List.set_cons_zero, List.set_cons_succ]
                  refine wpAnyH_ready (rs := [7]) (by kernel_rfl) (by simp) ?_
                  refine AllReadyH.cons (o := ⟨_, _, _, _, _, _⟩) rfl (fun K hK => ?_) AllReadyH.nil
                  go_simp
                  have KSA := Lib.hid (sameAll_walk _ vv ys ysW _ (by rw [HAll.out.eq, HNi.out.eq i2 hlt4, HYe.out]) HAll.out.accs (HYa.out.sub (HNi.out.fix.trans (HNi.out.st.sub.below hHeld))) (by have := HAll.out.len; have := HNi.out.ln i2 (Nat.lt_of_lt_of_le hlt4 HNi.out.lo); omega))
                  go_wp2_with (go_at_call 21; refine KSA.out.mono ?_; rintro e w7 ⟨rfl, b1⟩)
                  refine hK.out _ _ (Below.trans hHeld (b1.mono (Below.size hHeld))) (fun hHeld => ?_)
                  clear hK K
                  try simp only [Act.put, List.setIfInBounds_toArray, List.set_cons_zero, List.set_cons_succ]
                  refine wpAnyH_take (i := 8) (oi := ⟨_, _, _, _, _, _⟩) (v := ?_) rfl (by kernel_rfl) (by kernel_rfl) (by kernel_rfl) (fun _ _ _ h => h) (Or.inl ⟨by rfl, ?_⟩) (by assumption) ?_
                  rotate_left
                  · (intro w hSw; first | (go_simp; done) | (go_simp; with_reducible rfl))
                  try simp only [Act.put, List.setIfInBounds_toArray, List.set_cons_zero, List.set_cons_succ]
                  refine wpAnyH_done (by kernel_rfl) ?_ _
                  replace HNi := Lib.hid (HNi.out.stay hHeld)
                  clear C1 KAll
                  go_wp2_with fail
                  exact ⟨⟨i2 + 1, by omega, by go_num, HNi⟩, by simp [intOf]; omega⟩
                · obtain rfl : i2 = j := by omega
                  go_wp2_with fail
                  go_ret
                  exact ⟨rfl, HNi.out.below⟩
              --END
end Go.Proofs.Ytpkoiifidlnbeaa
