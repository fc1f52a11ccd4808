/- Maps keyed by addresses: what a map in memory holds, said as a function of the address; looked up, written, gone through. -/
import Derived.Test.YtdgenbidgieojaaG2
import Derived.Test.YtdgenbidgieojaaG0
import Derived.Maps.OwnSet
import Derived.Maps.RangeWalk
import Derived.WideKeyEntry
import Derived.DeepKeys4
import Derived.Test.YtdgenbidgieojaaG3
import Derived.Deep.MidRow
import Derived.Deep.Cut
import Derived.Deep.CutBlock
import Derived.Test.YtdgenbidgieojaaG1
namespace Go.Proofs.Ytdgenbidgieojaa
open Go.RowKit SmWord Go.Maps
set_option maxRecDepth 100000

/-- The i-th byte of an address. -/
def ab (A i : Nat) : Nat := A / 256 ^ (19 - i) % 256
/-- Its twenty cells. -/
def aN (A : Nat) : Array Value := arr .u8 20 (fun i => ((ab A i : Nat) : Int))
theorem aN_size (A : Nat) : (aN A).size = 20 := arr_size _ _ _
theorem ab_lt (A i : Nat) : ab A i < 256 := Nat.mod_lt _ (by decide)
theorem low_eq (A B : Nat) : ∀ n, (∀ i, i < n → A / 256 ^ i % 256 = B / 256 ^ i % 256) → A % 256 ^ n = B % 256 ^ n
  | 0, _ => by simp [Nat.mod_one]
  | n + 1, h => by
    rw [Nat.pow_succ, Nat.mod_mul, Nat.mod_mul, low_eq A B n (fun i hi => h i (by omega)), h n (by omega)]
theorem ab_inj {A B : Nat} (hA : A < 2 ^ 160) (hB : B < 2 ^ 160) (h : ∀ i, i < 20 → ab A i = ab B i) : A = B := by
  have e := low_eq A B 20 (fun i hi => by
    have := h (19 - i) (by omega)
    unfold ab at this
    rwa [show 19 - (19 - i) = i by omega] at this)
  rwa [Nat.mod_eq_of_lt (by simpa using hA), Nat.mod_eq_of_lt (by simpa using hB)] at e
theorem aN_inj {A B : Nat} (hA : A < 2 ^ 160) (hB : B < 2 ^ 160) (h : aN A = aN B) : A = B :=
  ab_inj hA hB fun i hi => by have := arr_inj h hi; omega

theorem laidOutP : laidOutB Try.prog = true := by kernel_rfl
theorem lawAN : WideMaps.KeyLaw Try.prog 32 := deep_law_laid (m := 3) laidOutP (by decide) (of_decide_eq_true (by kernel_rfl : decide (32 < Try.prog.types.size) = true)) (by kernel_rfl) (by kernel_rfl)
theorem lawA : Keyed Try.prog 32 := Keyed.of_law lawAN
theorem mapM_some' {α β : Type} (f : α → Option β) (g : α → β) : ∀ l : List α, (∀ x ∈ l, f x = some (g x)) → l.mapM f = some (l.map g)
  | [], _ => rfl
  | x :: l, h => by
    rw [List.mapM_cons, h x (by simp), mapM_some' f g l (fun y hy => h y (by simp [hy]))]
    rfl
theorem keyTypeA : Try.prog.keyType 32 = true := by kernel_rfl
theorem cellsA : Try.prog.cellsOf 32 = 20 := by kernel_rfl
theorem cells8 : Try.prog.cellsOf 5 = 1 := by kernel_rfl
theorem typesN : Try.prog.types.size + 1 = (Try.prog.types.size - 1 + 1) + 1 := by kernel_rfl
theorem keyA (A : Nat) : ∃ l, keyOf Try.prog 32 (.agg (aN A)) = some l := by
  unfold keyOf
  rw [Try.underlying32]
  have hf : (Value.agg (aN A)).formed Try.prog 32 = true := by
    simp [Value.formed, Try.underlying32, cellsA, aN_size]
  simp only [keyTypeA, hf, Bool.and_self, if_true]
  have hk : ∀ d, Try.prog.keyLits (d + 1 + 1) 32 (Value.agg (aN A)).cells.toList = some (((List.range 20).map fun i => [Lit.int .u8 ((ab A i : Nat) : Int)]).flatten) := by
    intro d
    unfold Program.keyLits
    rw [Try.underlying32]
    have hl : (Value.agg (aN A)).cells.toList.length = Try.prog.cellsOf 32 := by rw [cellsA]; simp [Value.cells, aN_size]
    simp only [hl, if_true]
    rw [mapM_some' _ (fun i => [Lit.int .u8 ((ab A i : Nat) : Int)]) _ (fun i hi => ?_)]
    · rfl
    · have hi' : i < 20 := List.mem_range.1 hi
      have e : ((Value.agg (aN A)).cells.toList.drop (i * Try.prog.cellsOf 5)).take (Try.prog.cellsOf 5) = [Value.int .u8 ((ab A i : Nat) : Int)] := by
        rw [cells8, Nat.mul_one]
        apply List.ext_getElem?
        intro j
        rw [List.getElem?_take]
        by_cases hj : j < 1
        · obtain rfl : j = 0 := by omega
          rw [if_pos hj, List.getElem?_drop]
          have := arr_get .u8 (n := 20) (fun i => ((ab A i : Nat) : Int)) hi'
          simpa [Value.cells, aN] using this
        · rw [if_neg hj]
          simp
          omega
      unfold Program.keyLits
      simp only [Try.underlying5, e]
      have hw : (Lit.int .u8 ((ab A i : Nat) : Int)).wf = true := by
        have := ab_lt A i
        unfold Lit.wf
        simp [IntKind.min, IntKind.max, IntKind.bits, IntKind.signed]
        omega
      simp [hw]
  rw [typesN, hk]
  exact ⟨_, rfl⟩
/-- What an address reads as. -/
noncomputable def kl (A : Nat) : Lit := (keyA A).choose
theorem key_kl (A : Nat) : keyOf Try.prog 32 (.agg (aN A)) = some (kl A) := (keyA A).choose_spec
theorem kl_inj {A B : Nat} (hA : A < 2 ^ 160) (hB : B < 2 ^ 160) (h : kl A = kl B) : A = B := by
  have h1 := key_kl A
  rw [h] at h1
  have := lawA.inj h1 (key_kl B)
  injection this with e
  exact aN_inj hA hB e
theorem kl_of {A : Nat} {v : Value} (h : keyOf Try.prog 32 v = some (kl A)) : v = .agg (aN A) := lawA.inj h (key_kl A)
theorem kl_key (A : Nat) : WideAt.IsKeyLit (kl A) := lawA.key (key_kl A)
theorem kl_same {A B : Nat} (hA : A < 2 ^ 160) (hB : B < 2 ^ 160) : (kl A).sameKey (kl B) = decide (A = B) := by
  by_cases h : A = B
  · subst h; simp [WideAt.sameKey_self (kl_key A)]
  · rw [sameKey_ne (fun e => h (kl_inj hA hB e))]; simp [h]

/-- An element is read as itself. -/
def hR (v : Value) : Option (DataW Value × List MemPlace) := some (.held v, [])

/-- What D says is f. -/
structure SaysF (D : DataW Value) (f : Nat → Option Value) : Prop where
  at' : ∀ A, A < 2 ^ 160 → ∀ zd, D.atKey (kl A) zd = match f A with | some v => .held v | none => zd
  has : ∀ A, A < 2 ^ 160 → Maps.has D (kl A) = (f A).isSome
  only : ∀ l, Maps.has D l = true → ∃ A, A < 2 ^ 160 ∧ l = kl A
def upd (f : Nat → Option Value) (A : Nat) (v : Value) : Nat → Option Value := fun B => if B = A then some v else f B
theorem SaysF.put {D : DataW Value} {f : Nat → Option Value} (h : SaysF D f) (hD : IsMap D) {A : Nat} (hA : A < 2 ^ 160) (v : Value) : SaysF (D.put (kl A) (.held v)) (upd f A v) := by
  refine ⟨fun B hB zd => ?_, fun B hB => ?_, fun l hl => ?_⟩
  · unfold upd
    by_cases e : B = A
    · subst e; rw [atKey_put_same hD (kl_key B)]; simp
    · rw [atKey_put_other (fun e' => e (kl_inj hB hA e')), h.at' B hB]; simp [e]
  · unfold upd
    by_cases e : B = A
    · subst e; rw [has_put_same hD (kl_key B)]; simp
    · rw [has_put_other (fun e' => e (kl_inj hB hA e')), h.has B hB]; simp [e]
  · by_cases e : l = kl A
    · exact ⟨A, hA, e⟩
    · rw [has_put_other e] at hl
      exact h.only l hl

/-- Block b of w is a map of at most n entries: f. -/
def mapIs (w : World) (b n : Nat) (f : Nat → Option Value) : Prop := ∃ D : DataW Value, w.ownsMap Try.prog 32 hR b n D ∧ SaysF D f

section
variable {w : World} {b n : Nat} {f : Nat → Option Value}
theorem mapIs.isMap {D : DataW Value} (h : w.ownsMap Try.prog 32 hR b n D) : IsMap D := by
  obtain ⟨es, e, _⟩ := h.entries lawA
  exact ⟨es, e⟩
theorem mapIs_made (w : World) : mapIs (w.alloc (.map #[] 0)) w.heap.size 0 (fun _ => none) :=
  ⟨.map [], World.ownsMap_made _ _ _ _, fun _ _ _ => rfl, fun _ _ => rfl, fun l h => by simp [Maps.has] at h⟩
theorem mapIs.lt (h : mapIs w b n f) : b < w.heap.size := by obtain ⟨D, h, _⟩ := h; exact h.lt
theorem mapIs.mono (h : mapIs w b n f) {n' : Nat} (hn : n ≤ n') : mapIs w b n' f := by obtain ⟨D, h, s⟩ := h; exact ⟨D, h.mono hn, s⟩
theorem mapIs.same {w' : World} (h : mapIs w b n f) (hb : w'.heap[b]? = w.heap[b]?) : mapIs w' b n f := by
  obtain ⟨D, ⟨es, clock, h1, h2⟩, s⟩ := h
  exact ⟨D, ⟨es, clock, hb.trans h1, h2⟩, s⟩
theorem mapIs.look {t e : TypeId} (h : mapIs w b n f) (ht : Try.prog.underlying t = some (.map 32 e)) {z : Value} (hz : (zeroValue e).run Try.prog w = .ok z w) {A : Nat} (hA : A < 2 ^ 160) :
    (Instr.lookup t (.map (some b)) (.agg (aN A)) false).run Try.prog w = .ok ((f A).getD z) w := by
  obtain ⟨D, h, s⟩ := h
  obtain ⟨v, ps, hrun, hv⟩ := h.lookup (zd := .held z) (zp := []) lawA ht hz rfl (key_kl A)
  rw [s.at' A hA] at hv
  rw [hrun]
  congr 1
  unfold hR at hv
  cases hf : f A with
  | none => rw [hf] at hv; simp at hv; exact hv.1
  | some y => rw [hf] at hv; simp at hv; exact hv.1
theorem mapIs.update {t e : TypeId} (h : mapIs w b n f) (ht : Try.prog.underlying t = some (.map 32 e)) (hn : n < maxLen) {A : Nat} (hA : A < 2 ^ 160) (v : Value) :
    ∃ w', (Instr.mapUpdate t (.map (some b)) (.agg (aN A)) v).run Try.prog w = .ok () w' ∧ mapIs w' b (n + 1) (upd f A v) ∧ w.grownBy w' (some b) := by
  obtain ⟨D, h, s⟩ := h
  obtain ⟨w', hrun, h', hg⟩ := h.update (d := .held v) (ps := []) lawA ht hn (key_kl A) rfl
  exact ⟨w', hrun, ⟨_, h', s.put (mapIs.isMap h) hA v⟩, hg⟩
theorem mapIs.entry {t e : TypeId} (h : mapIs w b n f) (ht : Try.prog.underlying t = some (.map 32 e)) (hn : n < maxLen) {z : Value} (hz : ∀ u : World, (zeroValue e).run Try.prog u = .ok z u) {A : Nat} (hA : A < 2 ^ 160) :
    ∃ (st : Nat) (w1 : World), (Instr.mapEntry t (.map (some b)) (.agg (aN A))).run Try.prog w = .ok (.tuple #[(f A).getD z, goInt st]) w1 ∧ w.grownBy w1 (some b) ∧ w1.heap.size = w.heap.size ∧ (∃ es clock, w1.heap[b]? = some (.map es clock)) ∧
      ∀ (w2 : World) (val : Value), w2.heap[b]? = w1.heap[b]? → ∃ w3, (Instr.entryStore t (.map (some b)) (goInt st) val).run Try.prog w2 = .ok () w3 ∧ mapIs w3 b (n + 1) (upd f A val) ∧ w2.grownBy w3 (some b) ∧ w3.heap.size = w2.heap.size := by
  have hl := h.look ht (hz w) hA
  obtain ⟨D, ho, s⟩ := h
  have hisM := mapIs.isMap ho
  obtain ⟨es, clock, hb, F, hs, hD⟩ := ho
  obtain ⟨v0, st, es1, clock1, hrun, hv0, hst⟩ := WideElems.entry_then_store lawAN ht hz hb F (key_kl A)
  have hb1 : (ChangeMaps.setBlock w b (.map es1 clock1)).heap[b]? = some (.map es1 clock1) := ChangeMaps.heap_setBlock_same hb _
  have hv : v0 = (f A).getD z := by
    rcases Maps.fit_look false lawA ht (hz w) hb F (key_kl A) with ⟨h1, h2, _⟩ | ⟨e0, y, h1, h2, h3, _⟩
    · rw [hl] at h1
      have e1 : (f A).getD z = z := by simpa using h1
      rcases hv0 with ⟨e0, h4, h5, _⟩ | ⟨_, h4⟩
      · exact absurd h5 (h2 e0 h4)
      · rw [h4, e1]
    · rw [hl] at h3
      have e1 : (f A).getD z = e0.val := by simpa using h3
      rcases hv0 with ⟨e0', h4, h5, h6⟩ | ⟨h4, _⟩
      · have : e0 = e0' := by
          have hap := Maps.fit_apart lawA F
          refine entry_eq_of_key ?_ h1 h4 (h2.trans h5.symm)
          rw [List.pairwise_map] at hap
          refine hap.imp_of_mem fun {x y} hx hy hne e => hne ?_
          obtain ⟨yx, hyx⟩ := F.reads x hx
          obtain ⟨yy, hyy⟩ := F.reads y hy
          rw [WideElems.rg_of hyx, WideElems.rg_of hyy]
          have k1 := WideElems.rd_key hyx
          have k2 := WideElems.rd_key hyy
          rw [e, k2] at k1
          exact (Option.some.inj k1).symm
        subst this
        rw [h6, e1]
      · exact absurd h2 (h4 e0 h1)
  subst hv
  refine ⟨st, _, hrun, ⟨rfl, rfl, rfl, by simp [ChangeMaps.setBlock], fun i _ hi => ChangeMaps.heap_setBlock_other hb _ (fun e => hi (by rw [e]))⟩, by simp [ChangeMaps.setBlock], ⟨_, _, hb1⟩, fun w2 val hw2 => ?_⟩
  obtain ⟨es', clock', hr2, hup⟩ := hst w2 val (hw2.trans hb1)
  obtain ⟨w', hrun', h', _⟩ := World.ownsMap.update (w := w) (d := .held val) (ps := []) ⟨es, clock, hb, F, hs, hD⟩ lawA ht hn (key_kl A) rfl
  rw [hup] at hrun'
  have e' : w' = ChangeMaps.setBlock w b (.map es' clock') := by simpa using hrun'.symm
  subst e'
  have hb2 : w2.heap[b]? = some (.map es1 clock1) := hw2.trans hb1
  refine ⟨_, hr2, ⟨_, ?_, s.put hisM hA val⟩, ⟨rfl, rfl, rfl, by simp [ChangeMaps.setBlock], fun i _ hi => ChangeMaps.heap_setBlock_other hb2 _ (fun e => hi (by rw [e]))⟩, by simp [ChangeMaps.setBlock]⟩
  obtain ⟨es2, clock2, hbb, rest⟩ := h'
  rw [ChangeMaps.heap_setBlock_same hb] at hbb
  cases hbb
  exact ⟨_, _, ChangeMaps.heap_setBlock_same hb2 _, rest⟩

/-- A map that is gone through: block r is the place; what is still to come. -/
def rangesIs (w : World) (b r n : Nat) (f : Nat → Option Value) (left : Nat → Bool) (cnt : Nat) : Prop :=
  ∃ (D : DataW Value) (lf : Lit → Bool), w.ranges Try.prog 32 hR b r n D lf cnt ∧ SaysF D f ∧ (∀ A, A < 2 ^ 160 → left A = lf (kl A)) ∧ ∀ l, lf l = true → Maps.has D l = true
theorem rangesIs.map {r : Nat} {left : Nat → Bool} {cnt : Nat} (h : rangesIs w b r n f left cnt) : mapIs w b n f := by
  obtain ⟨D, lf, h, s, _⟩ := h
  exact ⟨D, h.owns, s⟩
theorem rangesIs.same {r : Nat} {left : Nat → Bool} {cnt : Nat} {w' : World} (h : rangesIs w b r n f left cnt) (hb : w'.heap[b]? = w.heap[b]?) (hr : w'.heap[r]? = w.heap[r]?) : rangesIs w' b r n f left cnt := by
  obtain ⟨D, lf, ⟨es, clock, since, seen, c0, h1, h2, h3, h4, h5, h6⟩, s, h'⟩ := h
  exact ⟨D, lf, ⟨es, clock, since, seen, c0, hb.trans h1, h2, h3, h4, hr.trans h5, h6⟩, s, h'⟩
theorem rangesIs.lt {r : Nat} {left : Nat → Bool} {cnt : Nat} (h : rangesIs w b r n f left cnt) : r < w.heap.size := by
  obtain ⟨D, lf, h, _⟩ := h
  exact h.lt
theorem rangesIs.left_eq {r : Nat} {left : Nat → Bool} {cnt : Nat} (h : rangesIs w b r n f left cnt) : w.rangeLeft b r = cnt := by
  obtain ⟨D, lf, h, _⟩ := h
  exact h.left_eq
theorem mapIs.range {t e : TypeId} (h : mapIs w b n f) (ht : Try.prog.underlying t = some (.map 32 e)) :
    ∃ w' cnt, (Instr.range t (.map (some b))).run Try.prog w = .ok (.pointer (some ⟨w.heap.size, 0, none⟩)) w' ∧ rangesIs w' b w.heap.size n f (fun A => (f A).isSome) cnt ∧ w.grownBy w' none ∧ w'.heap.size = w.heap.size + 1 ∧ cnt ≤ n := by
  obtain ⟨D, h, s⟩ := h
  obtain ⟨w', hrun, h', hg, hs⟩ := h.range lawA ht
  have hn : Maps.size D ≤ n := by
    obtain ⟨es, clock, _, _, hsz, rfl⟩ := h
    simp only [Maps.size, length_sorted, List.length_map, Array.length_toList]
    exact hsz
  exact ⟨w', _, hrun, ⟨D, _, h', s, fun A hA => (s.has A hA).symm, fun l hl => hl⟩, hg, hs, hn⟩
theorem rangesIs.next {r : Nat} {left : Nat → Bool} {cnt : Nat} (h : rangesIs w b r n f left cnt) (ty : TypeId) :
    (cnt = 0 ∧ (∀ A, A < 2 ^ 160 → left A = false) ∧ (Instr.next (.pointer (some ⟨r, 0, none⟩)) false ty).run Try.prog w = .ok (.tuple #[.bool false]) w) ∨
    ∃ A v w' cnt', A < 2 ^ 160 ∧ left A = true ∧ f A = some v ∧ (Instr.next (.pointer (some ⟨r, 0, none⟩)) false ty).run Try.prog w = .ok (.tuple #[.bool true, .agg (aN A), v]) w' ∧
      rangesIs w' b r n f (fun B => left B && !decide (B = A)) cnt' ∧ cnt' < cnt ∧ w.grownBy w' (some r) ∧ w'.heap.size = w.heap.size ∧ (Instr.entry (.pointer (some ⟨r, 0, none⟩))).run Try.prog w' = .ok (.tuple #[.agg (aN A), v]) w' := by
  obtain ⟨D, lf, h, s, hl, hh⟩ := h
  rcases h.next lawA ty with ⟨h0, hz, hrun⟩ | ⟨key, v, l, y, w', cnt', hkey, hlk, hv, hat, hrun, hrg, hlt, hgr, hsz, hen⟩
  · exact .inl ⟨h0, fun A hA => by rw [hl A hA, hz], hrun⟩
  · obtain ⟨A, hA, rfl⟩ := s.only l (hh l hlk)
    obtain rfl := kl_of hkey
    refine .inr ⟨A, v, w', cnt', hA, by rw [hl A hA]; exact hlk, ?_, hrun, ⟨D, _, hrg, s, fun B hB => ?_, fun l hl' => hh l ?_⟩, hlt, hgr, hsz, hen⟩
    · have h1 := hat (.held (.bool true))
      have h2 := hat (.held (.bool false))
      rw [s.at' A hA] at h1 h2
      cases hv
      cases hf : f A with
      | none => rw [hf] at h1 h2; simp at h1 h2; rw [← h1] at h2; simp at h2
      | some u => rw [hf] at h1; simp at h1; rw [h1]
    · show (left B && !decide (B = A)) = (lf (kl B) && !(kl B).sameKey (kl A))
      rw [hl B hB, kl_same hB hA]
    · simp at hl'
      exact hl'.1
end
#print axioms mapIs.entry
#print axioms rangesIs.next
end Go.Proofs.Ytdgenbidgieojaa
/- Accounts in memory: how they lie, and what a part of memory says of them. -/
namespace Go.Proofs.Ytdgenbidgieojaa
open Go.RowKit SmWord
set_option maxRecDepth 100000

/-! A part of memory. -/
abbrev Hp := Nat → Option Obj
def hp (w : World) : Hp := fun b => w.heap[b]?
def Sub (Z Z' : Hp) : Prop := ∀ b o, Z b = some o → Z' b = some o
theorem Sub.refl (Z : Hp) : Sub Z Z := fun _ _ h => h
theorem Sub.trans {Z Z' Z'' : Hp} (h : Sub Z Z') (k : Sub Z' Z'') : Sub Z Z'' := fun b o hb => k b o (h b o hb)
theorem Sub.below {Z : Hp} {w w' : World} (h : Sub Z (hp w)) (hb : Below w.heap.size w w') : Sub Z (hp w') := fun b o ho => by
  have h1 := h b o ho
  exact (hb.block b (Array.getElem?_eq_some_iff.1 h1).1).trans h1
theorem hp_below {w w' : World} (hb : Below w.heap.size w w') : Sub (hp w) (hp w') := Sub.below (Sub.refl _) hb
/-- The cells of a row in block b from o on. -/
def rng (Z : Hp) (b o : Nat) (cs : List Value) : Prop := ∃ C t fr, Z b = some (.cells C t fr) ∧ ∀ j v, cs[j]? = some v → C[o + j]? = some v
theorem rng.sub {Z Z' : Hp} {b o : Nat} {cs : List Value} (h : rng Z b o cs) (hs : Sub Z Z') : rng Z' b o cs := by
  obtain ⟨C, t, fr, h1, h2⟩ := h
  exact ⟨C, t, fr, hs _ _ h1, h2⟩
theorem rng.at {w : World} {b o : Nat} {cs : List Value} (h : rng (hp w) b o cs) : w.rangeAt b o cs := fun j v hv => by
  obtain ⟨C, t, fr, h1, h2⟩ := h
  rw [cell_of_row w b (o + j) C t fr h1]
  exact h2 j v hv
theorem rng.lt {w : World} {b o : Nat} {cs : List Value} (h : rng (hp w) b o cs) : b < w.heap.size := by
  obtain ⟨C, t, fr, h1, _⟩ := h
  exact (Array.getElem?_eq_some_iff.1 h1).1
theorem rng.part {Z : Hp} {b o : Nat} {cs : List Value} (h : rng Z b o cs) (k : Nat) (ds : List Value) (hd : ∀ j v, ds[j]? = some v → cs[k + j]? = some v) : rng Z b (o + k) ds := by
  obtain ⟨C, t, fr, h1, h2⟩ := h
  exact ⟨C, t, fr, h1, fun j v hv => by rw [Nat.add_assoc]; exact h2 _ _ (hd j v hv)⟩
theorem rng_block {w : World} {b : Nat} {cs : List Value} {t : TypeId} (h : w.heap[b]? = some (.cells cs.toArray t)) : rng (hp w) b 0 cs := ⟨_, _, _, h, fun j v hv => by rw [Nat.zero_add]; simpa using hv⟩
theorem rng.cell {w : World} {b o : Nat} {cs : List Value} (h : rng (hp w) b o cs) {j : Nat} {v : Value} (hv : cs[j]? = some v) : w.cell? ⟨b, o + j, none⟩ = some v := h.at j v hv
/-- Rows of k cells each, one behind the other. -/
theorem flat_len {α : Type} {f : α → List Value} {k : Nat} : ∀ l : List α, (∀ x ∈ l, (f x).length = k) → (l.flatMap f).length = l.length * k
  | [], _ => by simp
  | x :: l, h => by
    rw [List.flatMap_cons, List.length_append, h x (by simp), flat_len l (fun y hy => h y (by simp [hy])), List.length_cons, Nat.succ_mul]
    omega
theorem flat_get {α : Type} {f : α → List Value} {k : Nat} : ∀ (l : List α), (∀ x ∈ l, (f x).length = k) → ∀ (i : Nat) (x : α), l[i]? = some x → ∀ j v, (f x)[j]? = some v → (l.flatMap f)[i * k + j]? = some v
  | [], _, i, x, hx, _, _, _ => by simp at hx
  | y :: l, h, 0, x, hx, j, v, hj => by
    simp at hx
    subst hx
    rw [List.flatMap_cons, Nat.zero_mul, Nat.zero_add, List.getElem?_append_left (List.getElem?_eq_some_iff.1 hj).1]
    exact hj
  | y :: l, h, i + 1, x, hx, j, v, hj => by
    rw [List.flatMap_cons, List.getElem?_append_right (by rw [h y (by simp), Nat.succ_mul]; omega), h y (by simp), show (i + 1) * k + j - k = i * k + j by rw [Nat.succ_mul]; omega]
    exact flat_get l (fun z hz => h z (by simp [hz])) i x (by simpa using hx) j v hj

/-- A slice of n elements of k cells each: the cells are L. -/
structure RowZ (Z : Hp) (v : Value) (n k : Nat) (L : List Value) : Prop where
  len : L.length = n * k
  val : ∃ A c, v = .slice A n c ∧ n ≤ c ∧ c ≤ maxLen ∧ (A = none → n = 0 ∧ c = 0) ∧ (0 < n → ∃ b off, A = some ⟨b, off, none⟩ ∧ rng Z b off L)
theorem RowZ.sub {Z Z' : Hp} {v : Value} {n k : Nat} {L : List Value} (h : RowZ Z v n k L) (hs : Sub Z Z') : RowZ Z' v n k L := by
  refine ⟨h.len, ?_⟩
  obtain ⟨A, c, h1, h2, h3, h4, h5⟩ := h.val
  exact ⟨A, c, h1, h2, h3, h4, fun hn => by obtain ⟨b, off, e, hr⟩ := h5 hn; exact ⟨b, off, e, hr.sub hs⟩⟩
theorem RowZ.nil (Z : Hp) (k : Nat) : RowZ Z (.slice none 0 0) 0 k [] := ⟨by simp, none, 0, rfl, Nat.le_refl _, by simp [maxLen], fun _ => ⟨rfl, rfl⟩, fun h => absurd h (by decide)⟩
/-- A row of one's own is a row. -/
theorem RowZ.own {w : World} {base : Nat} {e : TypeId} {k n : Nat} {v : Value} {xs : List Value} (h : w.ownsRow base e k v n xs) : RowZ (hp w) v n k xs := by
  refine ⟨h.1, ?_⟩
  rcases h.2 with ⟨rfl, rfl⟩ | ⟨g, cap, cur, rfl, _, hg, hn, hc, hcs, ht⟩
  · exact ⟨none, 0, rfl, Nat.le_refl _, by simp [maxLen], fun _ => ⟨rfl, rfl⟩, fun h => absurd h (by decide)⟩
  · refine ⟨_, _, rfl, hn, hc, fun h => (by simp at h), fun _ => ⟨g, 0, rfl, cur, e, (0, 0), hg, fun j u hj => ?_⟩⟩
    rw [Nat.zero_add]
    rw [← ht, List.getElem?_take] at hj
    split at hj
    · simpa using hj
    · cases hj

/-! Accounts. -/
structure AV where
  a : Acc
  p : Value
  q : Value
instance : Inhabited AV := ⟨⟨default, .slice none 0 0, .slice none 0 0⟩⟩
/-- A slot's cells; an account's. -/
def scs (s : Nat × Nat) : List Value := (wa s.1).toList ++ (wa s.2).toList
def acs (x : AV) : List Value := (aN x.a.ad).toList ++ ((Value.int .u64 (x.a.no : Int)) :: ((wa x.a.ba).toList ++ [x.p, x.q]))
def u8v (n : Nat) : Value := .int .u8 (n : Int)
theorem scs_len (s : Nat × Nat) : (scs s).length = 8 := by simp [scs, wa_size]
theorem acs_len (x : AV) : (acs x).length = 27 := by simp [acs, aN_size, wa_size]
/-- How an account with these slices lies. -/
structure AccZ (Z : Hp) (x : AV) : Prop where
  ad : x.a.ad < 2 ^ 160
  no : x.a.no < B
  ba : x.a.ba < M
  cod : RowZ Z x.p x.a.co.length 1 (x.a.co.map u8v)
  c8 : ∀ c ∈ x.a.co, c < 256
  cl : x.a.co.length ≤ 1000000
  sto : RowZ Z x.q x.a.so.length 8 (x.a.so.flatMap scs)
  sM : ∀ s ∈ x.a.so, s.1 < M ∧ s.2 < M
  sl : x.a.so.length ≤ 1000000
theorem AccZ.sub {Z Z' : Hp} {x : AV} (h : AccZ Z x) (hs : Sub Z Z') : AccZ Z' x := { h with cod := h.cod.sub hs, sto := h.sto.sub hs }
/-- A row of accounts. -/
structure AccsZ (Z : Hp) (v : Value) (l : List AV) : Prop where
  row : RowZ Z v l.length 27 (l.flatMap acs)
  each : ∀ x ∈ l, AccZ Z x
theorem AccsZ.sub {Z Z' : Hp} {v : Value} {l : List AV} (h : AccsZ Z v l) (hs : Sub Z Z') : AccsZ Z' v l := ⟨h.row.sub hs, fun x hx => (h.each x hx).sub hs⟩
theorem AccsZ.nil (Z : Hp) : AccsZ Z (.slice none 0 0) [] := ⟨RowZ.nil Z 27, fun x hx => by simp at hx⟩
/-- The value. -/
def aval (x : AV) : Value := .agg (acs x).toArray
/-- The parts of an account's cells. -/
theorem acs_ad (x : AV) (j : Nat) (v : Value) (h : (aN x.a.ad).toList[j]? = some v) : (acs x)[0 + j]? = some v := by
  unfold acs
  rw [Nat.zero_add, List.getElem?_append_left (List.getElem?_eq_some_iff.1 h).1]
  exact h
theorem acs_no (x : AV) : (acs x)[20]? = some (.int .u64 (x.a.no : Int)) := by
  unfold acs
  rw [List.getElem?_append_right (by simp [aN_size])]
  simp [aN_size]
theorem acs_ba (x : AV) (j : Nat) (v : Value) (h : (wa x.a.ba).toList[j]? = some v) : (acs x)[21 + j]? = some v := by
  unfold acs
  rw [List.getElem?_append_right (by simp [aN_size]; omega)]
  simp only [Array.length_toList, aN_size, show 21 + j - 20 = j + 1 by omega, List.getElem?_cons_succ]
  rw [List.getElem?_append_left (List.getElem?_eq_some_iff.1 h).1]
  exact h
theorem acs_p (x : AV) : (acs x)[25]? = some x.p := by
  unfold acs
  rw [List.getElem?_append_right (by simp [aN_size])]
  simp only [Array.length_toList, aN_size, show 25 - 20 = 4 + 1 by omega, List.getElem?_cons_succ]
  rw [List.getElem?_append_right (by simp [wa_size])]
  simp [wa_size]
theorem acs_q (x : AV) : (acs x)[26]? = some x.q := by
  unfold acs
  rw [List.getElem?_append_right (by simp [aN_size])]
  simp only [Array.length_toList, aN_size, show 26 - 20 = 5 + 1 by omega, List.getElem?_cons_succ]
  rw [List.getElem?_append_right (by simp [wa_size])]
  simp [wa_size]
theorem scs_k (s : Nat × Nat) (j : Nat) (v : Value) (h : (wa s.1).toList[j]? = some v) : (scs s)[0 + j]? = some v := by
  unfold scs
  rw [Nat.zero_add, List.getElem?_append_left (List.getElem?_eq_some_iff.1 h).1]
  exact h
theorem scs_v (s : Nat × Nat) (j : Nat) (v : Value) (h : (wa s.2).toList[j]? = some v) : (scs s)[4 + j]? = some v := by
  unfold scs
  rw [List.getElem?_append_right (by simp [wa_size]), Array.length_toList, wa_size, show 4 + j - 4 = j by omega]
  exact h
theorem RowZ.one {Z : Hp} {α : Type} {f : α → List Value} {k : Nat} {l : List α} {v : Value} (h : RowZ Z v l.length k (l.flatMap f)) (hk : ∀ x ∈ l, (f x).length = k) :
    ∃ A c, v = .slice A l.length c ∧ l.length ≤ c ∧ c ≤ maxLen ∧ (A = none → l.length = 0 ∧ c = 0) ∧ (0 < l.length → ∃ b off, A = some ⟨b, off, none⟩ ∧ rng Z b off (l.flatMap f) ∧ ∀ i x, l[i]? = some x → rng Z b (off + i * k) (f x)) := by
  obtain ⟨A, c, h1, h2, h3, h4, h5⟩ := h.val
  refine ⟨A, c, h1, h2, h3, h4, fun hn => ?_⟩
  obtain ⟨b, off, e, hr⟩ := h5 hn
  exact ⟨b, off, e, hr, fun i x hx => hr.part (i * k) (f x) (fun j u hj => flat_get l hk i x hx j u hj)⟩
theorem oneA (x : AV) (h : x.p.oneCell' = true) (h' : x.q.oneCell' = true) : ∀ v ∈ acs x, v.oneCell' = true := fun v hv => by
  unfold acs at hv
  rw [List.mem_append, List.mem_cons, List.mem_append] at hv
  rcases hv with hv | rfl | hv | hv
  · exact (Array.all_eq_true_iff_forall_mem.1 (arr_one .u8 20 _)) v (by simpa [aN] using hv)
  · rfl
  · exact (Array.all_eq_true_iff_forall_mem.1 (wa_one (n := x.a.ba))) v (by simpa using hv)
  · simp at hv
    rcases hv with rfl | rfl
    · exact h
    · exact h'
theorem RowZ.oneCell {Z : Hp} {v : Value} {n k : Nat} {L : List Value} (h : RowZ Z v n k L) : v.oneCell' = true := by
  obtain ⟨A, c, rfl, _⟩ := h.val
  rfl
theorem AccZ.ones {Z : Hp} {x : AV} (h : AccZ Z x) : (acs x).toArray.all (·.oneCell') = true := all_oneCell_toArray (oneA x h.cod.oneCell h.sto.oneCell)
theorem Try.infoA46 : (Try.prog.info? 39).map (·.size) = some 27 := by kernel_rfl
theorem Try.infoA82 : (Try.prog.info? 79).map (·.size) = some 8 := by kernel_rfl
theorem infoAcs (x : AV) : (Try.prog.info? 39).map (·.size) = some (acs x).length := by rw [acs_len]; exact Try.infoA46
theorem infoScs (s : Nat × Nat) : (Try.prog.info? 79).map (·.size) = some (scs s).length := by rw [scs_len]; exact Try.infoA82
theorem Try.infoAd20 : (Try.prog.info? 32).map (·.size) = some 20 := by kernel_rfl
theorem infoAd (A : Nat) : (Try.prog.info? 32).map (·.size) = some (aN A).toList.length := by rw [Array.length_toList, aN_size]; exact Try.infoAd20
end Go.Proofs.Ytdgenbidgieojaa
/- Right and Empty, the program's and the document's. -/
namespace Go.Proofs.Ytdgenbidgieojaa
open Go.RowKit SmWord
set_option maxRecDepth 100000

theorem z4w : #[Value.int .u64 0, .int .u64 0, .int .u64 0, .int .u64 0] = wa 0 := rfl
/-- A word's four cells. -/
theorem wcellsAt {w : World} {b o n : Nat} (h : w.rangeAt b o (wa n).toList) :
    w.cell? ⟨b, o, none⟩ = some (.int .u64 ((l0 n : Nat) : Int)) ∧ w.cell? ⟨b, o + 1, none⟩ = some (.int .u64 ((l1 n : Nat) : Int)) ∧ w.cell? ⟨b, o + 2, none⟩ = some (.int .u64 ((l2 n : Nat) : Int)) ∧ w.cell? ⟨b, o + 3, none⟩ = some (.int .u64 ((l3 n : Nat) : Int)) :=
  ⟨h 0 _ rfl, h 1 _ rfl, h 2 _ rfl, h 3 _ rfl⟩
theorem run_eq_wa0 (n : Nat) (hn : n < M) (w : World) : (Op.equalIn 10000 35 (.agg (wa n)) (.agg (wa 0))).run Try.prog w = .ok (n == 0) w := by
  rw [equal_wa, Nat.mod_eq_of_lt hn]
  rfl
/-- An account in a box. -/
theorem boxA (w : World) (x : AV) : (w.alloc (.cells (acs x).toArray 39)).heap[w.heap.size]? = some (.cells (acs x).toArray 39) ∧ Below w.heap.size w (w.alloc (.cells (acs x).toArray 39)) :=
  ⟨heap_alloc_new _ _, (Below.refl _ _).alloc (Nat.le_refl _) _⟩
theorem boxcells {w : World} {b : Nat} {x : AV} (h : w.heap[b]? = some (.cells (acs x).toArray 39)) :
    w.cell? ⟨b, 20, none⟩ = some (.int .u64 (x.a.no : Int)) ∧ w.rangeAt b 21 (wa x.a.ba).toList ∧ w.cell? ⟨b, 25, none⟩ = some x.p ∧ w.cell? ⟨b, 26, none⟩ = some x.q ∧ w.rangeAt b 0 (aN x.a.ad).toList := by
  have h1 := (rng_block h).at
  refine ⟨?_, fun j v hv => ?_, ?_, ?_, fun j v hv => ?_⟩
  · have := h1 20 _ (acs_no x); rwa [Nat.zero_add] at this
  · have := h1 (21 + j) _ (acs_ba x j v hv); rwa [Nat.zero_add] at this
  · have := h1 25 _ (acs_p x); rwa [Nat.zero_add] at this
  · have := h1 26 _ (acs_q x); rwa [Nat.zero_add] at this
  · have := h1 (0 + j) _ (acs_ad x j v hv); simpa using this
end Go.Proofs.Ytdgenbidgieojaa
/- Right, the program's and the document's. -/
namespace Go.Proofs.Ytdgenbidgieojaa
open Go.RowKit SmWord
set_option maxRecDepth 100000

/-- The i-th slot. -/
def sat (l : List (Nat × Nat)) (i : Nat) : Nat × Nat := l.getD i (0, 0)
def okAt (l : List (Nat × Nat)) (i : Nat) : Prop := (sat l i).2 ≠ 0 ∧ (i = 0 ∨ (sat l (i - 1)).1 < (sat l i).1)
theorem sat_get {l : List (Nat × Nat)} {i : Nat} (h : i < l.length) : l[i]? = some (sat l i) := by simp [sat, h]
theorem rightS_iff : ∀ l : List (Nat × Nat), rightS l = true ↔ ∀ i, i < l.length → okAt l i
  | [] => by simp [rightS]
  | [s] => by
    simp only [rightS]
    constructor
    · intro h i hi
      obtain rfl : i = 0 := by simpa using hi
      exact ⟨by simpa [sat] using h, .inl rfl⟩
    · intro h
      have := (h 0 (by simp)).1
      simpa [sat] using this
  | s :: t :: l => by
    have ih := rightS_iff (t :: l)
    simp only [rightS, Bool.and_eq_true, ih]
    constructor
    · rintro ⟨⟨h1, h2⟩, h3⟩ i hi
      match i with
      | 0 => exact ⟨by simpa [sat] using h1, .inl rfl⟩
      | 1 => exact ⟨by have := (h3 0 (by simp)).1; simpa [sat] using this, .inr (by simpa [sat] using h2)⟩
      | i + 2 =>
        have := h3 (i + 1) (by simpa using hi)
        refine ⟨by simpa [sat] using this.1, .inr ?_⟩
        rcases this.2 with h | h
        · omega
        · simpa [sat] using h
    · intro h
      refine ⟨⟨?_, ?_⟩, fun i hi => ?_⟩
      · have := (h 0 (by simp)).1; simpa [sat] using this
      · have := (h 1 (by simp)).2; simpa [sat] using this
      · have := h (i + 1) (by simpa using hi)
        refine ⟨by simpa [sat] using this.1, ?_⟩
        by_cases e : i = 0
        · exact .inl e
        · rcases this.2 with h' | h'
          · omega
          · refine .inr ?_
            obtain ⟨j, rfl⟩ : ∃ j, i = j + 1 := ⟨i - 1, by omega⟩
            simpa [sat] using h'
theorem zero82 : (Try.prog.info? 79).map (fun i => (i.zero, i.size)) = some (some (.agg (wa 0 ++ wa 0)), 8) := by kernel_rfl
theorem zero82_run (w : World) : (zeroValue 79).run Try.prog w = .ok (.agg (wa 0 ++ wa 0)) w := (zero_of_info zero82).1 w
theorem scs_one (s : Nat × Nat) : (scs s).toArray.all (·.oneCell') = true := all_oneCell_toArray fun v hv => by
  unfold scs at hv
  rcases List.mem_append.1 hv with h | h
  · exact (Array.all_eq_true_iff_forall_mem.1 (wa_one (n := s.1))) v (by simpa using h)
  · exact (Array.all_eq_true_iff_forall_mem.1 (wa_one (n := s.2))) v (by simpa using h)
theorem store_newS (w : World) (s : Nat × Nat) : (storeCells ⟨w.heap.size, 0, none⟩ (scs s) 0).run Try.prog (w.alloc (.cells (wa 0 ++ wa 0) 79)) = .ok () (w.alloc (.cells (scs s).toArray 79)) := by
  have := run_storeCells_new (P := Try.prog) w 79 (wa 0 ++ wa 0) (scs s).toArray (by simpa using infoScs s) (by simp [wa_size, scs_len]) (scs_one s)
  simpa using this
theorem slotcells {w : World} {b o : Nat} {s : Nat × Nat} (h : w.rangeAt b o (scs s)) : w.rangeAt b o (wa s.1).toList ∧ w.rangeAt b (o + 4) (wa s.2).toList :=
  ⟨fun j v hv => by have := h _ _ (scs_k s j v hv); simpa using this, fun j v hv => by have := h _ _ (scs_v s j v hv); rwa [← Nat.add_assoc] at this⟩
theorem below_at {w w' : World} (hb : Below w.heap.size w w') {b o : Nat} {cs : List Value} (h : w.rangeAt b o cs) : w'.rangeAt b o cs := fun j v hv => by
  have := h j v hv
  exact (hb.cell (p := ⟨b, o + j, none⟩) (by simpa using World.block_lt_of_cell? w _ this)).trans this
theorem cmpN_lt (m n : Nat) : cmpN m n < 0 ↔ m < n := by
  unfold cmpN
  split
  · simp [*]
  · split <;> simp [*]
set_option maxHeartbeats 2000000 in
theorem right_walk (x : AV) (w : World) (h : AccZ (hp w) x) : Calls Try.prog 33 #[aval x] w fun e w' => e = .returned (.bool (rightA x.a)) ∧ Below w.heap.size w w' := by
  unfold aval rightA
  obtain ⟨f0, bW⟩ := boxA w x
  have hs : (acs x).toArray.size = 27 := by simp [acs_len]
  have HR := Lib.hid (rightS_iff x.a.so)
  obtain ⟨A, c, hq, hn, hc, hA, hcells⟩ := h.sto.one (fun s _ => scs_len s)
  have hsl := h.sl
  have HM := Lib.hid h.sM
  obtain ⟨W, hW⟩ : ∃ W, w.alloc (.cells (acs x).toArray 39) = W := ⟨_, rfl⟩
  rw [hW] at f0 bW
  obtain ⟨-, -, -, p3, -⟩ := boxcells f0
  rw [hq] at p3
  have HC : Hid (0 < x.a.so.length → ∃ b off, A = some ⟨b, off, none⟩ ∧ ∀ i s, x.a.so[i]? = some s → rng (hp W) b (off + i * 8) (scs s)) := Lib.hid fun hn => by
    obtain ⟨b, off, e, _, hi⟩ := hcells hn
    exact ⟨b, off, e, fun i s hs => (hi i s hs).sub (hp_below bW)⟩
  have HB := Lib.hid bW
  generalize x.a.so = so at *
  generalize hN : so.length = n at *
  have HN := Lib.hid hN
  clear hcells bW h hN f0
  go_enter Try.func33, Try.ntmps33
  go_upto_region 1 with fail
  clear hW
  go_wp2_with fail
  go_loopw [8] (fun i wr => ∃ k : Nat, k ≤ n ∧ i = .int .i64 k ∧ Hid (∀ j, j < k → okAt so j) ∧ Hid (Below W.heap.size W wr)) (fun i _ => n - (intOf i).toNat)
  case atStart => exact ⟨0, Nat.zero_le _, rfl, Lib.hid fun j hj => absurd hj (by omega), Lib.hid (Below.refl _ _)⟩
  case round =>
    obtain ⟨k, hk, rfl, HO, HW⟩ := hrel
    by_cases hlt : k < n
    · obtain ⟨b, off, rfl, hi⟩ := HC.out (by omega)
      have r1 := ((hi k _ (sat_get (by rw [HN.out]; exact hlt))).sub (hp_below HW.out)).at
      have eg := Try.guardW
      have fo := fold_wa
      have e0 := z4w
      have sn := store_newS
      have hMk : (sat so k).2 < M := (HM.out _ (List.mem_of_getElem? (sat_get (by rw [HN.out]; exact hlt)))).2
      have eq := run_eq_wa0 _ hMk
      obtain ⟨W2, hW2⟩ : ∃ W2, wr.alloc (.cells (scs (sat so k)).toArray 79) = W2 := ⟨_, rfl⟩
      have g0 : W2.heap[wr.heap.size]? = some (.cells (scs (sat so k)).toArray 79) := hW2 ▸ heap_alloc_new _ _
      have HW2 : Hid (Below wr.heap.size wr W2) := Lib.hid (hW2 ▸ (Below.refl _ _).alloc (Nat.le_refl _) _)
      obtain ⟨g1, g2⟩ := slotcells (rng_block g0).at
      rw [Nat.zero_add] at g2
      obtain ⟨q0, q1, q2, q3⟩ := wcellsAt g2
      simp only [Nat.reduceAdd] at q1 q2 q3
      cases hz : ((sat so k).2 == 0) <;> rw [hz] at eq
      · go_wp2_with (first
          | (refine wpList_load_mid rfl 79 _ rfl b _ rfl (scs (sat so k)) _ r1 Try.underlying79 rfl (infoScs _) ?_)
          | (refine wpList_alloc_row rfl 79 rfl _ zero82_run ?_))
        have gx1 := fun g : Ext W2 => (g.below.cell (p := ⟨w.heap.size, 26, none⟩) (by have := HW.out.size; have := HW2.out.size; have := World.block_lt_of_cell? W _ p3; simp only at this ⊢; omega)).trans (((HW2.out.cell (p := ⟨w.heap.size, 26, none⟩) (by have := HW.out.size; have := World.block_lt_of_cell? W _ p3; simp only at this ⊢; omega))).trans ((HW.out.cell (p := ⟨w.heap.size, 26, none⟩) (by have := World.block_lt_of_cell? W _ p3; simpa using this)).trans p3))
        have gy := wcellsAt g1
        simp only [Nat.zero_add] at gy
        obtain ⟨y0, y1, y2, y3⟩ := gy
        have cell : ∀ (g : Ext W2) {b o : Nat} {v : Value}, W2.cell? ⟨b, o, none⟩ = some v → g.on.cell? ⟨b, o, none⟩ = some v := fun g b o v h => (g.below.cell (p := ⟨b, o, none⟩) (by simpa using World.block_lt_of_cell? W2 _ h)).trans h
        have z0 := fun g => cell g y0
        have z1 := fun g => cell g y1
        have z2 := fun g => cell g y2
        have z3 := fun g => cell g y3
        have HO1 : Hid ((sat so k).2 ≠ 0) := Lib.hid (by simpa using hz)
        have HW3 := Lib.hid (HW.out.trans (HW2.out.mono HW.out.size))
        rcases Nat.eq_zero_or_pos k with rfl | hk0
        · clear eq hz y0 y1 y2 y3 q0 q1 q2 q3 g0 g1 g2 cell
          refine region_ext (by kernel_rfl) (by kernel_rfl) ?_
          repeat (go_big_quiet_step (fail))
          refine wpQuiet_nil ?_
          rintro w' ⟨gg, rfl⟩
          go_wp2_with fail
          exact ⟨⟨1, by omega, by go_num, Lib.hid (fun j hj => by obtain rfl : j = 0 := by omega
                                                                  exact ⟨HO1.out, .inl rfl⟩), Lib.hid (HW3.out.trans (gg.below.mono HW3.out.size))⟩, by simp [intOf]; omega⟩
        · have r3 := ((hi (k - 1) _ (sat_get (by rw [HN.out]; omega))).sub (hp_below HW3.out)).at
          obtain ⟨r4, _⟩ := slotcells r3
          obtain ⟨a0, a1, a2, a3⟩ := wcellsAt r4
          have b0 := fun g => cell g a0
          have b1 := fun g => cell g a1
          have b2 := fun g => cell g a2
          have b3 := fun g => cell g a3
          have KC := Lib.hid (compare_wd (sat so (k - 1)).1 (sat so k).1)
          have i1 : (k : Int) - 1 = ((k - 1 : Nat) : Int) := by omega
          have hc : cmpN ((sat so (k - 1)).1 % M) ((sat so k).1 % M) < 0 ∨ ¬ cmpN ((sat so (k - 1)).1 % M) ((sat so k).1 % M) < 0 := Classical.em _
          have HCM : Hid (cmpN ((sat so (k - 1)).1 % M) ((sat so k).1 % M) < 0 ↔ (sat so (k - 1)).1 < (sat so k).1) := Lib.hid (by
            have m1 := (HM.out _ (List.mem_of_getElem? (sat_get (i := k - 1) (by rw [HN.out]; omega)))).1
            have m2 := (HM.out _ (List.mem_of_getElem? (sat_get (i := k) (by rw [HN.out]; exact hlt)))).1
            rw [Nat.mod_eq_of_lt m1, Nat.mod_eq_of_lt m2]
            exact cmpN_lt _ _)
          generalize cmpN ((sat so (k - 1)).1 % M) ((sat so k).1 % M) = cv at *
          clear eq hz y0 y1 y2 y3 q0 q1 q2 q3 g0 g1 g2 cell a0 a1 a2 a3 r3 r4
          refine region_ext (by kernel_rfl) (by kernel_rfl) ?_
          repeat (go_big_quiet_step (first | (go_at_call 46; with_reducible exact calls_ext (KC.out _))))
          refine wpQuiet_nil ?_
          rintro w' ⟨gg, rfl⟩
          have HG := Lib.hid gg.below
          generalize gg.on = wg at *
          go_wp2_with fail
          · rename_i hcv
            go_ret
            refine ⟨?_, HB.out.trans ((HW3.out.trans (HG.out.mono HW3.out.size)).mono HB.out.size)⟩
            have : rightS so = false := by
              cases hr : rightS so
              · rfl
              · rcases (HR.out.1 hr k hlt).2 with h | h
                · omega
                · have := HCM.out.2 h; omega
            rw [this]
            rfl
          · rename_i hcv
            refine ⟨⟨k + 1, by omega, by go_num, Lib.hid (fun j hj => ?_), Lib.hid (HW3.out.trans (HG.out.mono HW3.out.size))⟩, by simp [intOf]; omega⟩
            by_cases e : j = k
            · rw [e]; exact ⟨HO1.out, .inr (HCM.out.1 (by omega))⟩
            · exact HO.out j (by omega)
      · go_wp2_with (first
          | (refine wpList_load_mid rfl 79 _ rfl b _ rfl (scs (sat so k)) _ r1 Try.underlying79 rfl (infoScs _) ?_)
          | (refine wpList_alloc_row rfl 79 rfl _ zero82_run ?_))
        go_ret
        refine ⟨?_, HB.out.trans ((HW.out.trans (HW2.out.mono HW.out.size)).mono HB.out.size)⟩
        have : rightS so = false := by
          cases hr : rightS so
          · rfl
          · have := (HR.out.1 hr k hlt).1
            simp at hz
            exact absurd hz this
        rw [this]
        rfl
    · obtain rfl : k = n := by omega
      go_wp2_with fail
      go_ret
      exact ⟨by rw [HR.out.2 HO.out]; rfl, HB.out.trans (HW.out.mono HB.out.size)⟩
end Go.Proofs.Ytdgenbidgieojaa
/- The document's Right. -/
namespace Go.Proofs.Ytdgenbidgieojaa
open Go.RowKit SmWord
set_option maxRecDepth 100000

theorem wbox2 (w : World) (m n : Nat) :
    ((w.alloc (.cells (wa m) 35)).alloc (.cells (wa n) 35)).heap[w.heap.size]? = some (.cells (wa m) 35) ∧
    ((w.alloc (.cells (wa m) 35)).alloc (.cells (wa n) 35)).heap[w.heap.size + 1]? = some (.cells (wa n) 35) ∧
    Below w.heap.size w ((w.alloc (.cells (wa m) 35)).alloc (.cells (wa n) 35)) :=
  ⟨blk_alloc (heap_alloc_new _ _), heap_alloc2_new _ _ _, ((Below.refl _ _).alloc (Nat.le_refl _) _).alloc (by simp) _⟩
theorem wblk {w : World} {b n : Nat} (h : w.heap[b]? = some (.cells (wa n) 35)) : w.rangeAt b 0 (wa n).toList := fun j v hv => by
  rw [Nat.zero_add]
  exact blk_cell h (by simpa using hv)
theorem wcellsAt4 {w : World} {b o n : Nat} (h : w.rangeAt b (o + 4) (wa n).toList) :
    w.cell? ⟨b, o + 4, none⟩ = some (.int .u64 ((l0 n : Nat) : Int)) ∧ w.cell? ⟨b, o + 5, none⟩ = some (.int .u64 ((l1 n : Nat) : Int)) ∧ w.cell? ⟨b, o + 6, none⟩ = some (.int .u64 ((l2 n : Nat) : Int)) ∧ w.cell? ⟨b, o + 7, none⟩ = some (.int .u64 ((l3 n : Nat) : Int)) := wcellsAt h
theorem rless_walk (m n : Nat) (w : World) : Calls Try.prog 38 #[wd m, wd n] w fun e w' => e = .returned (.bool (decide (m % M < n % M))) ∧ Below w.heap.size w w' := by
  obtain ⟨f0, f1, bW⟩ := wbox2 w m n
  have hs := wa_size
  have fo := fold_wa
  have KO := Lib.hid fun m => of_ref m
  have KC := Lib.hid (compare_ref m n)
  have HD : Hid (decide (cmpN (m % M) (n % M) < 0) = decide (m % M < n % M)) := Lib.hid (by simp [cmpN_lt])
  generalize cmpN (m % M) (n % M) = cv at *
  obtain ⟨W, hW⟩ : ∃ W, (w.alloc (.cells (wa m) 35)).alloc (.cells (wa n) 35) = W := ⟨_, rfl⟩
  rw [hW] at f0 f1 bW
  have HB := Lib.hid bW
  obtain ⟨a0, a1, a2, a3⟩ := wcellsAt (wblk f0)
  obtain ⟨b0, b1, b2, b3⟩ := wcellsAt (wblk f1)
  simp only [Nat.zero_add] at a1 a2 a3 b1 b2 b3
  have cell : ∀ (g : Ext W) {b o : Nat} {v : Value}, W.cell? ⟨b, o, none⟩ = some v → g.on.cell? ⟨b, o, none⟩ = some v := fun g b o v h => (g.below.cell (p := ⟨b, o, none⟩) (by simpa using World.block_lt_of_cell? W _ h)).trans h
  have x0 := fun g => cell g a0
  have x1 := fun g => cell g a1
  have x2 := fun g => cell g a2
  have x3 := fun g => cell g a3
  have y0 := fun g => cell g b0
  have y1 := fun g => cell g b1
  have y2 := fun g => cell g b2
  have y3 := fun g => cell g b3
  clear bW cell a0 a1 a2 a3 b0 b1 b2 b3 f0 f1
  go_enter Try.func38, Try.ntmps38
  go_upto_region 1 with fail
  clear hW
  refine region_ext (by kernel_rfl) (by kernel_rfl) ?_
  repeat (go_big_quiet_step (first
    | (go_at_call 50; with_reducible exact calls_ext (KO.out _ _))
    | (go_at_call 49; with_reducible exact calls_ext (KC.out _))))
  refine wpQuiet_nil ?_
  rintro w' ⟨gg, rfl⟩
  have HG := Lib.hid gg.below
  generalize gg.on = wg at *
  clear x0 x1 x2 x3 y0 y1 y2 y3
  go_wp2_with fail
  go_ret
  exact ⟨by rw [← HD.out]; rfl, HB.out.trans (HG.out.mono HB.out.size)⟩
set_option maxHeartbeats 2000000 in
theorem rright_walk (x : AV) (w : World) (h : AccZ (hp w) x) : Calls Try.prog 25 #[aval x] w fun e w' => e = .returned (.bool (rightA x.a)) ∧ Below w.heap.size w w' := by
  unfold aval rightA
  obtain ⟨f0, bW⟩ := boxA w x
  have hs : (acs x).toArray.size = 27 := by simp [acs_len]
  have HR := Lib.hid (rightS_iff x.a.so)
  obtain ⟨A, c, hq, hn, hc, hA, hcells⟩ := h.sto.one (fun s _ => scs_len s)
  have hsl := h.sl
  have HM := Lib.hid h.sM
  obtain ⟨W, hW⟩ : ∃ W, w.alloc (.cells (acs x).toArray 39) = W := ⟨_, rfl⟩
  rw [hW] at f0 bW
  obtain ⟨-, -, -, p3, -⟩ := boxcells f0
  rw [hq] at p3
  have HC : Hid (0 < x.a.so.length → ∃ b off, A = some ⟨b, off, none⟩ ∧ ∀ i s, x.a.so[i]? = some s → rng (hp W) b (off + i * 8) (scs s)) := Lib.hid fun hn => by
    obtain ⟨b, off, e, _, hi⟩ := hcells hn
    exact ⟨b, off, e, fun i s hs => (hi i s hs).sub (hp_below bW)⟩
  have HB := Lib.hid bW
  generalize x.a.so = so at *
  generalize hN : so.length = n at *
  have HN := Lib.hid hN
  clear hcells bW h hN f0
  go_enter Try.func25, Try.ntmps25
  go_upto_region 1 with fail
  clear hW
  go_wp2_with fail
  go_loopw [7] (fun i wr => ∃ k : Nat, k ≤ n ∧ i = .int .i64 k ∧ Hid (∀ j, j < k → okAt so j) ∧ Hid (Below W.heap.size W wr)) (fun i _ => n - (intOf i).toNat)
  case atStart => exact ⟨0, Nat.zero_le _, rfl, Lib.hid fun j hj => absurd hj (by omega), Lib.hid (Below.refl _ _)⟩
  case round =>
    obtain ⟨k, hk, rfl, HO, HW⟩ := hrel
    by_cases hlt : k < n
    · obtain ⟨b, off, rfl, hi⟩ := HC.out (by omega)
      have r1 := ((hi k _ (sat_get (by rw [HN.out]; exact hlt))).sub (hp_below HW.out)).at
      have eg := Try.guardW
      have fo := fold_wa
      have e0 := z4w
      have hMk : (sat so k).2 < M := (HM.out _ (List.mem_of_getElem? (sat_get (by rw [HN.out]; exact hlt)))).2
      have eq := run_eq_wa0 _ hMk
      obtain ⟨g1, g2⟩ := slotcells r1
      obtain ⟨q0, q1, q2, q3⟩ := wcellsAt4 g2
      have px := (HW.out.cell (p := ⟨w.heap.size, 26, none⟩) (by have := World.block_lt_of_cell? W _ p3; simpa using this)).trans p3
      have HO1 : Hid ((sat so k).2 = 0 ↔ ((sat so k).2 == 0) = true) := Lib.hid (by simp)
      cases hz : ((sat so k).2 == 0) <;> rw [hz] at eq
      · go_wp2_with fail
        have cell : ∀ (g : Ext wr) {b o : Nat} {v : Value}, wr.cell? ⟨b, o, none⟩ = some v → g.on.cell? ⟨b, o, none⟩ = some v := fun g b o v h => (g.below.cell (p := ⟨b, o, none⟩) (by simpa using World.block_lt_of_cell? wr _ h)).trans h
        have gx1 := fun g => cell g px
        replace HO1 : Hid ((sat so k).2 ≠ 0) := Lib.hid (fun e => by have := HO1.out.1 e; rw [hz] at this; cases this)
        rcases Nat.eq_zero_or_pos k with rfl | hk0
        · clear eq hz q0 q1 q2 q3 cell px
          refine region_ext (by kernel_rfl) (by kernel_rfl) ?_
          repeat (go_big_quiet_step (fail))
          refine wpQuiet_nil ?_
          rintro w' ⟨gg, rfl⟩
          have HG := Lib.hid gg.below
          generalize gg.on = wg at *
          go_wp2_with fail
          exact ⟨⟨1, by omega, by go_num, Lib.hid (fun j hj => by obtain rfl : j = 0 := by omega
                                                                  exact ⟨HO1.out, .inl rfl⟩), Lib.hid (HW.out.trans (HG.out.mono HW.out.size))⟩, by simp [intOf]; omega⟩
        · obtain ⟨r4, _⟩ := slotcells ((hi (k - 1) _ (sat_get (by rw [HN.out]; omega))).sub (hp_below HW.out)).at
          obtain ⟨a0, a1, a2, a3⟩ := wcellsAt r4
          obtain ⟨y0, y1, y2, y3⟩ := wcellsAt g1
          have b0 := fun g => cell g a0
          have b1 := fun g => cell g a1
          have b2 := fun g => cell g a2
          have b3 := fun g => cell g a3
          have z0 := fun g => cell g y0
          have z1 := fun g => cell g y1
          have z2 := fun g => cell g y2
          have z3 := fun g => cell g y3
          have m1 := (HM.out _ (List.mem_of_getElem? (sat_get (i := k - 1) (by rw [HN.out]; omega)))).1
          have m2 := (HM.out _ (List.mem_of_getElem? (sat_get (i := k) (by rw [HN.out]; exact hlt)))).1
          have KC := Lib.hid (rless_walk (sat so (k - 1)).1 (sat so k).1)
          rw [Nat.mod_eq_of_lt m1, Nat.mod_eq_of_lt m2] at KC
          have i1 : (k : Int) - 1 = ((k - 1 : Nat) : Int) := by omega
          have HCM : Hid (decide ((sat so (k - 1)).1 < (sat so k).1) = true ↔ (sat so (k - 1)).1 < (sat so k).1) := Lib.hid (by simp)
          generalize decide ((sat so (k - 1)).1 < (sat so k).1) = cv at *
          clear eq hz y0 y1 y2 y3 q0 q1 q2 q3 g1 g2 cell a0 a1 a2 a3 r4 px m1 m2
          cases cv
          · refine region_ext (by kernel_rfl) (by kernel_rfl) ?_
            repeat (go_big_quiet_step (first | (go_at_call 38; with_reducible exact calls_ext (KC.out _))))
            refine wpQuiet_nil ?_
            rintro w' ⟨gg, rfl⟩
            have HG := Lib.hid gg.below
            generalize gg.on = wg at *
            go_wp2_with fail
            go_ret
            refine ⟨?_, HB.out.trans ((HW.out.trans (HG.out.mono HW.out.size)).mono HB.out.size)⟩
            have : rightS so = false := by
              cases hr : rightS so
              · rfl
              · rcases (HR.out.1 hr k hlt).2 with h | h
                · omega
                · have := HCM.out.2 h; cases this
            rw [this]
            rfl
          · refine region_ext (by kernel_rfl) (by kernel_rfl) ?_
            repeat (go_big_quiet_step (first | (go_at_call 38; with_reducible exact calls_ext (KC.out _))))
            refine wpQuiet_nil ?_
            rintro w' ⟨gg, rfl⟩
            have HG := Lib.hid gg.below
            generalize gg.on = wg at *
            go_wp2_with fail
            refine ⟨⟨k + 1, by omega, by go_num, Lib.hid (fun j hj => ?_), Lib.hid (HW.out.trans (HG.out.mono HW.out.size))⟩, by simp [intOf]; omega⟩
            by_cases e : j = k
            · rw [e]; exact ⟨HO1.out, .inr (HCM.out.1 rfl)⟩
            · exact HO.out j (by omega)
      · go_wp2_with fail
        go_ret
        refine ⟨?_, HB.out.trans (HW.out.mono HB.out.size)⟩
        have : rightS so = false := by
          cases hr : rightS so
          · rfl
          · exact absurd (HO1.out.2 hz) (HR.out.1 hr k hlt).1
        rw [this]
        rfl
    · obtain rfl : k = n := by omega
      go_wp2_with fail
      go_ret
      exact ⟨by rw [HR.out.2 HO.out]; rfl, HB.out.trans (HW.out.mono HB.out.size)⟩
end Go.Proofs.Ytdgenbidgieojaa
