/- Maps keyed by addresses: what a map in memory holds, said as a function of the address; looked up, written, gone through. -/
import Derived.Test.YtnjeoeekidnffaaGreatN2
import Derived.Maps.OwnSet
import Derived.Maps.RangeWalk
import Derived.WideKeyEntry
import Derived.DeepKeys4
import Derived.Test.YtnjeoeekidnffaaGreatN0
namespace Go.Proofs.YtnjeoeekidnffaaGreat
open Go.RowKit SmWord Go.Maps
set_option maxRecDepth 100000

/-- The i-th byte of an address. -/
def ab (A i : Nat) : Nat := A / 256 ^ (19 - i) % 256
/-- Its twenty cells. -/
def aN (A : Nat) : Array Value := arr .u8 20 (fun i => ((ab A i : Nat) : Int))
theorem aN_size (A : Nat) : (aN A).size = 20 := arr_size _ _ _
theorem ab_lt (A i : Nat) : ab A i < 256 := Nat.mod_lt _ (by decide)
theorem low_eq (A B : Nat) : ∀ n, (∀ i, i < n → A / 256 ^ i % 256 = B / 256 ^ i % 256) → A % 256 ^ n = B % 256 ^ n
  | 0, _ => by simp [Nat.mod_one]
  | n + 1, h => by
    rw [Nat.pow_succ, Nat.mod_mul, Nat.mod_mul, low_eq A B n (fun i hi => h i (by omega)), h n (by omega)]
theorem ab_inj {A B : Nat} (hA : A < 2 ^ 160) (hB : B < 2 ^ 160) (h : ∀ i, i < 20 → ab A i = ab B i) : A = B := by
  have e := low_eq A B 20 (fun i hi => by
    have := h (19 - i) (by omega)
    unfold ab at this
    rwa [show 19 - (19 - i) = i by omega] at this)
  rwa [Nat.mod_eq_of_lt (by simpa using hA), Nat.mod_eq_of_lt (by simpa using hB)] at e
theorem aN_inj {A B : Nat} (hA : A < 2 ^ 160) (hB : B < 2 ^ 160) (h : aN A = aN B) : A = B :=
  ab_inj hA hB fun i hi => by have := arr_inj h hi; omega

theorem laidOutP : laidOutB Tryz.prog = true := by kernel_rfl
theorem lawAN : WideMaps.KeyLaw Tryz.prog 41 := deep_law_laid (m := 3) laidOutP (by decide) (of_decide_eq_true (by kernel_rfl : decide (41 < Tryz.prog.types.size) = true)) (by kernel_rfl) (by kernel_rfl)
theorem lawA : Keyed Tryz.prog 41 := Keyed.of_law lawAN
theorem mapM_some' {α β : Type} (f : α → Option β) (g : α → β) : ∀ l : List α, (∀ x ∈ l, f x = some (g x)) → l.mapM f = some (l.map g)
  | [], _ => rfl
  | x :: l, h => by
    rw [List.mapM_cons, h x (by simp), mapM_some' f g l (fun y hy => h y (by simp [hy]))]
    rfl
theorem keyTypeA : Tryz.prog.keyType 41 = true := by kernel_rfl
theorem cellsA : Tryz.prog.cellsOf 41 = 20 := by kernel_rfl
theorem cells8 : Tryz.prog.cellsOf 5 = 1 := by kernel_rfl
theorem typesN : Tryz.prog.types.size + 1 = (Tryz.prog.types.size - 1 + 1) + 1 := by kernel_rfl
theorem keyA (A : Nat) : ∃ l, keyOf Tryz.prog 41 (.agg (aN A)) = some l := by
  unfold keyOf
  rw [Tryz.underlying41]
  have hf : (Value.agg (aN A)).formed Tryz.prog 41 = true := by
    simp [Value.formed, Tryz.underlying41, cellsA, aN_size]
  simp only [keyTypeA, hf, Bool.and_self, if_true]
  have hk : ∀ d, Tryz.prog.keyLits (d + 1 + 1) 41 (Value.agg (aN A)).cells.toList = some (((List.range 20).map fun i => [Lit.int .u8 ((ab A i : Nat) : Int)]).flatten) := by
    intro d
    unfold Program.keyLits
    rw [Tryz.underlying41]
    have hl : (Value.agg (aN A)).cells.toList.length = Tryz.prog.cellsOf 41 := by rw [cellsA]; simp [Value.cells, aN_size]
    simp only [hl, if_true]
    rw [mapM_some' _ (fun i => [Lit.int .u8 ((ab A i : Nat) : Int)]) _ (fun i hi => ?_)]
    · rfl
    · have hi' : i < 20 := List.mem_range.1 hi
      have e : ((Value.agg (aN A)).cells.toList.drop (i * Tryz.prog.cellsOf 5)).take (Tryz.prog.cellsOf 5) = [Value.int .u8 ((ab A i : Nat) : Int)] := by
        rw [cells8, Nat.mul_one]
        apply List.ext_getElem?
        intro j
        rw [List.getElem?_take]
        by_cases hj : j < 1
        · obtain rfl : j = 0 := by omega
          rw [if_pos hj, List.getElem?_drop]
          have := arr_get .u8 (n := 20) (fun i => ((ab A i : Nat) : Int)) hi'
          simpa [Value.cells, aN] using this
        · rw [if_neg hj]
          simp
          omega
      unfold Program.keyLits
      simp only [Tryz.underlying5, e]
      have hw : (Lit.int .u8 ((ab A i : Nat) : Int)).wf = true := by
        have := ab_lt A i
        unfold Lit.wf
        simp [IntKind.min, IntKind.max, IntKind.bits, IntKind.signed]
        omega
      simp [hw]
  rw [typesN, hk]
  exact ⟨_, rfl⟩
/-- What an address reads as. -/
noncomputable def kl (A : Nat) : Lit := (keyA A).choose
theorem key_kl (A : Nat) : keyOf Tryz.prog 41 (.agg (aN A)) = some (kl A) := (keyA A).choose_spec
theorem kl_inj {A B : Nat} (hA : A < 2 ^ 160) (hB : B < 2 ^ 160) (h : kl A = kl B) : A = B := by
  have h1 := key_kl A
  rw [h] at h1
  have := lawA.inj h1 (key_kl B)
  injection this with e
  exact aN_inj hA hB e
theorem kl_of {A : Nat} {v : Value} (h : keyOf Tryz.prog 41 v = some (kl A)) : v = .agg (aN A) := lawA.inj h (key_kl A)
theorem kl_key (A : Nat) : WideAt.IsKeyLit (kl A) := lawA.key (key_kl A)
theorem kl_same {A B : Nat} (hA : A < 2 ^ 160) (hB : B < 2 ^ 160) : (kl A).sameKey (kl B) = decide (A = B) := by
  by_cases h : A = B
  · subst h; simp [WideAt.sameKey_self (kl_key A)]
  · rw [sameKey_ne (fun e => h (kl_inj hA hB e))]; simp [h]

/-- An element is read as itself. -/
def hR (v : Value) : Option (DataW Value × List MemPlace) := some (.held v, [])

/-- What D says is f. -/
structure SaysF (D : DataW Value) (f : Nat → Option Value) : Prop where
  at' : ∀ A, A < 2 ^ 160 → ∀ zd, D.atKey (kl A) zd = match f A with | some v => .held v | none => zd
  has : ∀ A, A < 2 ^ 160 → Maps.has D (kl A) = (f A).isSome
  only : ∀ l, Maps.has D l = true → ∃ A, A < 2 ^ 160 ∧ l = kl A
def upd (f : Nat → Option Value) (A : Nat) (v : Value) : Nat → Option Value := fun B => if B = A then some v else f B
theorem SaysF.put {D : DataW Value} {f : Nat → Option Value} (h : SaysF D f) (hD : IsMap D) {A : Nat} (hA : A < 2 ^ 160) (v : Value) : SaysF (D.put (kl A) (.held v)) (upd f A v) := by
  refine ⟨fun B hB zd => ?_, fun B hB => ?_, fun l hl => ?_⟩
  · unfold upd
    by_cases e : B = A
    · subst e; rw [atKey_put_same hD (kl_key B)]; simp
    · rw [atKey_put_other (fun e' => e (kl_inj hB hA e')), h.at' B hB]; simp [e]
  · unfold upd
    by_cases e : B = A
    · subst e; rw [has_put_same hD (kl_key B)]; simp
    · rw [has_put_other (fun e' => e (kl_inj hB hA e')), h.has B hB]; simp [e]
  · by_cases e : l = kl A
    · exact ⟨A, hA, e⟩
    · rw [has_put_other e] at hl
      exact h.only l hl

/-- Block b of w is a map of at most n entries: f. -/
def mapIs (w : World) (b n : Nat) (f : Nat → Option Value) : Prop := ∃ D : DataW Value, w.ownsMap Tryz.prog 41 hR b n D ∧ SaysF D f

section
variable {w : World} {b n : Nat} {f : Nat → Option Value}
theorem mapIs.isMap {D : DataW Value} (h : w.ownsMap Tryz.prog 41 hR b n D) : IsMap D := by
  obtain ⟨es, e, _⟩ := h.entries lawA
  exact ⟨es, e⟩
theorem mapIs_made (w : World) : mapIs (w.alloc (.map #[] 0)) w.heap.size 0 (fun _ => none) :=
  ⟨.map [], World.ownsMap_made _ _ _ _, fun _ _ _ => rfl, fun _ _ => rfl, fun l h => by simp [Maps.has] at h⟩
theorem mapIs.lt (h : mapIs w b n f) : b < w.heap.size := by obtain ⟨D, h, _⟩ := h; exact h.lt
theorem mapIs.mono (h : mapIs w b n f) {n' : Nat} (hn : n ≤ n') : mapIs w b n' f := by obtain ⟨D, h, s⟩ := h; exact ⟨D, h.mono hn, s⟩
theorem mapIs.same {w' : World} (h : mapIs w b n f) (hb : w'.heap[b]? = w.heap[b]?) : mapIs w' b n f := by
  obtain ⟨D, ⟨es, clock, h1, h2⟩, s⟩ := h
  exact ⟨D, ⟨es, clock, hb.trans h1, h2⟩, s⟩
theorem mapIs.look {t e : TypeId} (h : mapIs w b n f) (ht : Tryz.prog.underlying t = some (.map 41 e)) {z : Value} (hz : (zeroValue e).run Tryz.prog w = .ok z w) {A : Nat} (hA : A < 2 ^ 160) :
    (Instr.lookup t (.map (some b)) (.agg (aN A)) false).run Tryz.prog w = .ok ((f A).getD z) w := by
  obtain ⟨D, h, s⟩ := h
  obtain ⟨v, ps, hrun, hv⟩ := h.lookup (zd := .held z) (zp := []) lawA ht hz rfl (key_kl A)
  rw [s.at' A hA] at hv
  rw [hrun]
  congr 1
  unfold hR at hv
  cases hf : f A with
  | none => rw [hf] at hv; simp at hv; exact hv.1
  | some y => rw [hf] at hv; simp at hv; exact hv.1
theorem mapIs.update {t e : TypeId} (h : mapIs w b n f) (ht : Tryz.prog.underlying t = some (.map 41 e)) (hn : n < maxLen) {A : Nat} (hA : A < 2 ^ 160) (v : Value) :
    ∃ w', (Instr.mapUpdate t (.map (some b)) (.agg (aN A)) v).run Tryz.prog w = .ok () w' ∧ mapIs w' b (n + 1) (upd f A v) ∧ w.grownBy w' (some b) := by
  obtain ⟨D, h, s⟩ := h
  obtain ⟨w', hrun, h', hg⟩ := h.update (d := .held v) (ps := []) lawA ht hn (key_kl A) rfl
  exact ⟨w', hrun, ⟨_, h', s.put (mapIs.isMap h) hA v⟩, hg⟩
theorem mapIs.entry {t e : TypeId} (h : mapIs w b n f) (ht : Tryz.prog.underlying t = some (.map 41 e)) (hn : n < maxLen) {z : Value} (hz : ∀ u : World, (zeroValue e).run Tryz.prog u = .ok z u) {A : Nat} (hA : A < 2 ^ 160) :
    ∃ (st : Nat) (w1 : World), (Instr.mapEntry t (.map (some b)) (.agg (aN A))).run Tryz.prog w = .ok (.tuple #[(f A).getD z, goInt st]) w1 ∧ w.grownBy w1 (some b) ∧ w1.heap.size = w.heap.size ∧ (∃ es clock, w1.heap[b]? = some (.map es clock)) ∧
      ∀ (w2 : World) (val : Value), w2.heap[b]? = w1.heap[b]? → ∃ w3, (Instr.entryStore t (.map (some b)) (goInt st) val).run Tryz.prog w2 = .ok () w3 ∧ mapIs w3 b (n + 1) (upd f A val) ∧ w2.grownBy w3 (some b) ∧ w3.heap.size = w2.heap.size := by
  have hl := h.look ht (hz w) hA
  obtain ⟨D, ho, s⟩ := h
  have hisM := mapIs.isMap ho
  obtain ⟨es, clock, hb, F, hs, hD⟩ := ho
  obtain ⟨v0, st, es1, clock1, hrun, hv0, hst⟩ := WideElems.entry_then_store lawAN ht hz hb F (key_kl A)
  have hb1 : (ChangeMaps.setBlock w b (.map es1 clock1)).heap[b]? = some (.map es1 clock1) := ChangeMaps.heap_setBlock_same hb _
  have hv : v0 = (f A).getD z := by
    rcases Maps.fit_look false lawA ht (hz w) hb F (key_kl A) with ⟨h1, h2, _⟩ | ⟨e0, y, h1, h2, h3, _⟩
    · rw [hl] at h1
      have e1 : (f A).getD z = z := by simpa using h1
      rcases hv0 with ⟨e0, h4, h5, _⟩ | ⟨_, h4⟩
      · exact absurd h5 (h2 e0 h4)
      · rw [h4, e1]
    · rw [hl] at h3
      have e1 : (f A).getD z = e0.val := by simpa using h3
      rcases hv0 with ⟨e0', h4, h5, h6⟩ | ⟨h4, _⟩
      · have : e0 = e0' := by
          have hap := Maps.fit_apart lawA F
          refine entry_eq_of_key ?_ h1 h4 (h2.trans h5.symm)
          rw [List.pairwise_map] at hap
          refine hap.imp_of_mem fun {x y} hx hy hne e => hne ?_
          obtain ⟨yx, hyx⟩ := F.reads x hx
          obtain ⟨yy, hyy⟩ := F.reads y hy
          rw [WideElems.rg_of hyx, WideElems.rg_of hyy]
          have k1 := WideElems.rd_key hyx
          have k2 := WideElems.rd_key hyy
          rw [e, k2] at k1
          exact (Option.some.inj k1).symm
        subst this
        rw [h6, e1]
      · exact absurd h2 (h4 e0 h1)
  subst hv
  refine ⟨st, _, hrun, ⟨rfl, rfl, rfl, by simp [ChangeMaps.setBlock], fun i _ hi => ChangeMaps.heap_setBlock_other hb _ (fun e => hi (by rw [e]))⟩, by simp [ChangeMaps.setBlock], ⟨_, _, hb1⟩, fun w2 val hw2 => ?_⟩
  obtain ⟨es', clock', hr2, hup⟩ := hst w2 val (hw2.trans hb1)
  obtain ⟨w', hrun', h', _⟩ := World.ownsMap.update (w := w) (d := .held val) (ps := []) ⟨es, clock, hb, F, hs, hD⟩ lawA ht hn (key_kl A) rfl
  rw [hup] at hrun'
  have e' : w' = ChangeMaps.setBlock w b (.map es' clock') := by simpa using hrun'.symm
  subst e'
  have hb2 : w2.heap[b]? = some (.map es1 clock1) := hw2.trans hb1
  refine ⟨_, hr2, ⟨_, ?_, s.put hisM hA val⟩, ⟨rfl, rfl, rfl, by simp [ChangeMaps.setBlock], fun i _ hi => ChangeMaps.heap_setBlock_other hb2 _ (fun e => hi (by rw [e]))⟩, by simp [ChangeMaps.setBlock]⟩
  obtain ⟨es2, clock2, hbb, rest⟩ := h'
  rw [ChangeMaps.heap_setBlock_same hb] at hbb
  cases hbb
  exact ⟨_, _, ChangeMaps.heap_setBlock_same hb2 _, rest⟩

/-- A map that is gone through: block r is the place; what is still to come. -/
def rangesIs (w : World) (b r n : Nat) (f : Nat → Option Value) (left : Nat → Bool) (cnt : Nat) : Prop :=
  ∃ (D : DataW Value) (lf : Lit → Bool), w.ranges Tryz.prog 41 hR b r n D lf cnt ∧ SaysF D f ∧ (∀ A, A < 2 ^ 160 → left A = lf (kl A)) ∧ ∀ l, lf l = true → Maps.has D l = true
theorem rangesIs.map {r : Nat} {left : Nat → Bool} {cnt : Nat} (h : rangesIs w b r n f left cnt) : mapIs w b n f := by
  obtain ⟨D, lf, h, s, _⟩ := h
  exact ⟨D, h.owns, s⟩
theorem rangesIs.same {r : Nat} {left : Nat → Bool} {cnt : Nat} {w' : World} (h : rangesIs w b r n f left cnt) (hb : w'.heap[b]? = w.heap[b]?) (hr : w'.heap[r]? = w.heap[r]?) : rangesIs w' b r n f left cnt := by
  obtain ⟨D, lf, ⟨es, clock, since, seen, c0, h1, h2, h3, h4, h5, h6⟩, s, h'⟩ := h
  exact ⟨D, lf, ⟨es, clock, since, seen, c0, hb.trans h1, h2, h3, h4, hr.trans h5, h6⟩, s, h'⟩
theorem rangesIs.lt {r : Nat} {left : Nat → Bool} {cnt : Nat} (h : rangesIs w b r n f left cnt) : r < w.heap.size := by
  obtain ⟨D, lf, h, _⟩ := h
  exact h.lt
theorem rangesIs.left_eq {r : Nat} {left : Nat → Bool} {cnt : Nat} (h : rangesIs w b r n f left cnt) : w.rangeLeft b r = cnt := by
  obtain ⟨D, lf, h, _⟩ := h
  exact h.left_eq
theorem mapIs.range {t e : TypeId} (h : mapIs w b n f) (ht : Tryz.prog.underlying t = some (.map 41 e)) :
    ∃ w' cnt, (Instr.range t (.map (some b))).run Tryz.prog w = .ok (.pointer (some ⟨w.heap.size, 0, none⟩)) w' ∧ rangesIs w' b w.heap.size n f (fun A => (f A).isSome) cnt ∧ w.grownBy w' none ∧ w'.heap.size = w.heap.size + 1 ∧ cnt ≤ n := by
  obtain ⟨D, h, s⟩ := h
  obtain ⟨w', hrun, h', hg, hs⟩ := h.range lawA ht
  have hn : Maps.size D ≤ n := by
    obtain ⟨es, clock, _, _, hsz, rfl⟩ := h
    simp only [Maps.size, length_sorted, List.length_map, Array.length_toList]
    exact hsz
  exact ⟨w', _, hrun, ⟨D, _, h', s, fun A hA => (s.has A hA).symm, fun l hl => hl⟩, hg, hs, hn⟩
theorem rangesIs.next {r : Nat} {left : Nat → Bool} {cnt : Nat} (h : rangesIs w b r n f left cnt) (ty : TypeId) :
    (cnt = 0 ∧ (∀ A, A < 2 ^ 160 → left A = false) ∧ (Instr.next (.pointer (some ⟨r, 0, none⟩)) false ty).run Tryz.prog w = .ok (.tuple #[.bool false]) w) ∨
    ∃ A v w' cnt', A < 2 ^ 160 ∧ left A = true ∧ f A = some v ∧ (Instr.next (.pointer (some ⟨r, 0, none⟩)) false ty).run Tryz.prog w = .ok (.tuple #[.bool true, .agg (aN A), v]) w' ∧
      rangesIs w' b r n f (fun B => left B && !decide (B = A)) cnt' ∧ cnt' < cnt ∧ w.grownBy w' (some r) ∧ w'.heap.size = w.heap.size ∧ (Instr.entry (.pointer (some ⟨r, 0, none⟩))).run Tryz.prog w' = .ok (.tuple #[.agg (aN A), v]) w' := by
  obtain ⟨D, lf, h, s, hl, hh⟩ := h
  rcases h.next lawA ty with ⟨h0, hz, hrun⟩ | ⟨key, v, l, y, w', cnt', hkey, hlk, hv, hat, hrun, hrg, hlt, hgr, hsz, hen⟩
  · exact .inl ⟨h0, fun A hA => by rw [hl A hA, hz], hrun⟩
  · obtain ⟨A, hA, rfl⟩ := s.only l (hh l hlk)
    obtain rfl := kl_of hkey
    refine .inr ⟨A, v, w', cnt', hA, by rw [hl A hA]; exact hlk, ?_, hrun, ⟨D, _, hrg, s, fun B hB => ?_, fun l hl' => hh l ?_⟩, hlt, hgr, hsz, hen⟩
    · have h1 := hat (.held (.bool true))
      have h2 := hat (.held (.bool false))
      rw [s.at' A hA] at h1 h2
      cases hv
      cases hf : f A with
      | none => rw [hf] at h1 h2; simp at h1 h2; rw [← h1] at h2; simp at h2
      | some u => rw [hf] at h1; simp at h1; rw [h1]
    · show (left B && !decide (B = A)) = (lf (kl B) && !(kl B).sameKey (kl A))
      rw [hl B hB, kl_same hB hA]
    · simp at hl'
      exact hl'.1
end
#print axioms mapIs.entry
#print axioms rangesIs.next
end Go.Proofs.YtnjeoeekidnffaaGreat
/- Maps keyed by words: what a map in memory holds, said as a function of the word; looked up, written, gone through, a key taken out. -/
namespace Go.Proofs.YtnjeoeekidnffaaGreat
open Go.RowKit SmWord Go.Maps
set_option maxRecDepth 100000

def wl (n i : Nat) : Nat := [l0 n, l1 n, l2 n, l3 n].getD i 0
theorem wl_get (n : Nat) {i : Nat} (hi : i < 4) : (wa n)[i]? = some (.int .u64 ((wl n i : Nat) : Int)) := by
  match i, hi with
  | 0, _ => rfl
  | 1, _ => rfl
  | 2, _ => rfl
  | 3, _ => rfl
theorem wl_lt (n i : Nat) : wl n i < 18446744073709551616 := by
  obtain ⟨a0, a1, a2, a3⟩ := l_lt n
  match i with
  | 0 => exact a0
  | 1 => exact a1
  | 2 => exact a2
  | 3 => exact a3
  | i + 4 => simp [wl]
theorem lawWN : WideMaps.KeyLaw Tryz.prog 44 := deep_law_laid (m := 3) laidOutP (by decide) (of_decide_eq_true (by kernel_rfl : decide (44 < Tryz.prog.types.size) = true)) (by kernel_rfl) (by kernel_rfl)
theorem lawW : Keyed Tryz.prog 44 := Keyed.of_law lawWN
theorem keyTypeW : Tryz.prog.keyType 44 = true := by kernel_rfl
theorem cellsW4 : Tryz.prog.cellsOf 44 = 4 := by kernel_rfl
theorem cells64 : Tryz.prog.cellsOf 42 = 1 := by kernel_rfl
theorem keyW (A : Nat) : ∃ l, keyOf Tryz.prog 44 (.agg (wa A)) = some l := by
  unfold keyOf
  rw [Tryz.underlying44]
  have hf : (Value.agg (wa A)).formed Tryz.prog 44 = true := by
    simp [Value.formed, Tryz.underlying44, cellsW4, wa_size]
  simp only [keyTypeW, hf, Bool.and_self, if_true]
  have hk : ∀ d, Tryz.prog.keyLits (d + 1 + 1) 44 (Value.agg (wa A)).cells.toList = some (((List.range 4).map fun i => [Lit.int .u64 ((wl A i : Nat) : Int)]).flatten) := by
    intro d
    unfold Program.keyLits
    rw [Tryz.underlying44]
    have hl : (Value.agg (wa A)).cells.toList.length = Tryz.prog.cellsOf 44 := by rw [cellsW4]; simp [Value.cells, wa_size]
    simp only [hl, if_true]
    rw [mapM_some' _ (fun i => [Lit.int .u64 ((wl A i : Nat) : Int)]) _ (fun i hi => ?_)]
    · rfl
    · have hi' : i < 4 := List.mem_range.1 hi
      have e : ((Value.agg (wa A)).cells.toList.drop (i * Tryz.prog.cellsOf 42)).take (Tryz.prog.cellsOf 42) = [Value.int .u64 ((wl A i : Nat) : Int)] := by
        rw [cells64, Nat.mul_one]
        apply List.ext_getElem?
        intro j
        rw [List.getElem?_take]
        by_cases hj : j < 1
        · obtain rfl : j = 0 := by omega
          rw [if_pos hj, List.getElem?_drop]
          simpa [Value.cells] using wl_get A hi'
        · rw [if_neg hj]
          simp
          omega
      unfold Program.keyLits
      simp only [Tryz.underlying42, e]
      have hw : (Lit.int .u64 ((wl A i : Nat) : Int)).wf = true := by
        have := wl_lt A i
        unfold Lit.wf
        simp [IntKind.min, IntKind.max, IntKind.bits, IntKind.signed]
        omega
      simp [hw]
  rw [typesN, hk]
  exact ⟨_, rfl⟩
/-- What a word reads as. -/
noncomputable def klW (A : Nat) : Lit := (keyW A).choose
theorem key_klW (A : Nat) : keyOf Tryz.prog 44 (.agg (wa A)) = some (klW A) := (keyW A).choose_spec
theorem kl_injW {A B : Nat} (hA : A < M) (hB : B < M) (h : klW A = klW B) : A = B := by
  have h1 := key_klW A
  rw [h] at h1
  have := lawW.inj h1 (key_klW B)
  injection this with e
  have := wa_inj e
  rwa [Nat.mod_eq_of_lt hA, Nat.mod_eq_of_lt hB] at this
theorem kl_ofW {A : Nat} {v : Value} (h : keyOf Tryz.prog 44 v = some (klW A)) : v = .agg (wa A) := lawW.inj h (key_klW A)
theorem kl_keyW (A : Nat) : WideAt.IsKeyLit (klW A) := lawW.key (key_klW A)
theorem kl_sameW {A B : Nat} (hA : A < M) (hB : B < M) : (klW A).sameKey (klW B) = decide (A = B) := by
  by_cases h : A = B
  · subst h; simp [WideAt.sameKey_self (kl_keyW A)]
  · rw [sameKey_ne (fun e => h (kl_injW hA hB e))]; simp [h]


/-- What D says is f. -/
structure SaysFW (D : DataW Value) (f : Nat → Option Value) : Prop where
  at' : ∀ A, A < M → ∀ zd, D.atKey (klW A) zd = match f A with | some v => .held v | none => zd
  has : ∀ A, A < M → Maps.has D (klW A) = (f A).isSome
  only : ∀ l, Maps.has D l = true → ∃ A, A < M ∧ l = klW A
theorem SaysFW.put {D : DataW Value} {f : Nat → Option Value} (h : SaysFW D f) (hD : IsMap D) {A : Nat} (hA : A < M) (v : Value) : SaysFW (D.put (klW A) (.held v)) (upd f A v) := by
  refine ⟨fun B hB zd => ?_, fun B hB => ?_, fun l hl => ?_⟩
  · unfold upd
    by_cases e : B = A
    · subst e; rw [atKey_put_same hD (kl_keyW B)]; simp
    · rw [atKey_put_other (fun e' => e (kl_injW hB hA e')), h.at' B hB]; simp [e]
  · unfold upd
    by_cases e : B = A
    · subst e; rw [has_put_same hD (kl_keyW B)]; simp
    · rw [has_put_other (fun e' => e (kl_injW hB hA e')), h.has B hB]; simp [e]
  · by_cases e : l = klW A
    · exact ⟨A, hA, e⟩
    · rw [has_put_other e] at hl
      exact h.only l hl

/-- Block b of w is a map of at most n entries: f. -/
def mapIsW (w : World) (b n : Nat) (f : Nat → Option Value) : Prop := ∃ D : DataW Value, w.ownsMap Tryz.prog 44 hR b n D ∧ SaysFW D f

section
variable {w : World} {b n : Nat} {f : Nat → Option Value}
theorem mapIsW.isMap {D : DataW Value} (h : w.ownsMap Tryz.prog 44 hR b n D) : IsMap D := by
  obtain ⟨es, e, _⟩ := h.entries lawW
  exact ⟨es, e⟩
theorem mapIs_madeW (w : World) : mapIsW (w.alloc (.map #[] 0)) w.heap.size 0 (fun _ => none) :=
  ⟨.map [], World.ownsMap_made _ _ _ _, fun _ _ _ => rfl, fun _ _ => rfl, fun l h => by simp [Maps.has] at h⟩
theorem mapIsW.lt (h : mapIsW w b n f) : b < w.heap.size := by obtain ⟨D, h, _⟩ := h; exact h.lt
theorem mapIsW.mono (h : mapIsW w b n f) {n' : Nat} (hn : n ≤ n') : mapIsW w b n' f := by obtain ⟨D, h, s⟩ := h; exact ⟨D, h.mono hn, s⟩
theorem mapIsW.same {w' : World} (h : mapIsW w b n f) (hb : w'.heap[b]? = w.heap[b]?) : mapIsW w' b n f := by
  obtain ⟨D, ⟨es, clock, h1, h2⟩, s⟩ := h
  exact ⟨D, ⟨es, clock, hb.trans h1, h2⟩, s⟩
theorem mapIsW.look {t e : TypeId} (h : mapIsW w b n f) (ht : Tryz.prog.underlying t = some (.map 44 e)) {z : Value} (hz : (zeroValue e).run Tryz.prog w = .ok z w) {A : Nat} (hA : A < M) :
    (Instr.lookup t (.map (some b)) (.agg (wa A)) false).run Tryz.prog w = .ok ((f A).getD z) w := by
  obtain ⟨D, h, s⟩ := h
  obtain ⟨v, ps, hrun, hv⟩ := h.lookup (zd := .held z) (zp := []) lawW ht hz rfl (key_klW A)
  rw [s.at' A hA] at hv
  rw [hrun]
  congr 1
  unfold hR at hv
  cases hf : f A with
  | none => rw [hf] at hv; simp at hv; exact hv.1
  | some y => rw [hf] at hv; simp at hv; exact hv.1
theorem mapIsW.update {t e : TypeId} (h : mapIsW w b n f) (ht : Tryz.prog.underlying t = some (.map 44 e)) (hn : n < maxLen) {A : Nat} (hA : A < M) (v : Value) :
    ∃ w', (Instr.mapUpdate t (.map (some b)) (.agg (wa A)) v).run Tryz.prog w = .ok () w' ∧ mapIsW w' b (n + 1) (upd f A v) ∧ w.grownBy w' (some b) := by
  obtain ⟨D, h, s⟩ := h
  obtain ⟨w', hrun, h', hg⟩ := h.update (d := .held v) (ps := []) lawW ht hn (key_klW A) rfl
  exact ⟨w', hrun, ⟨_, h', s.put (mapIsW.isMap h) hA v⟩, hg⟩
theorem mapIsW.entry {t e : TypeId} (h : mapIsW w b n f) (ht : Tryz.prog.underlying t = some (.map 44 e)) (hn : n < maxLen) {z : Value} (hz : ∀ u : World, (zeroValue e).run Tryz.prog u = .ok z u) {A : Nat} (hA : A < M) :
    ∃ (st : Nat) (w1 : World), (Instr.mapEntry t (.map (some b)) (.agg (wa A))).run Tryz.prog w = .ok (.tuple #[(f A).getD z, goInt st]) w1 ∧ w.grownBy w1 (some b) ∧ w1.heap.size = w.heap.size ∧ (∃ es clock, w1.heap[b]? = some (.map es clock)) ∧
      ∀ (w2 : World) (val : Value), w2.heap[b]? = w1.heap[b]? → ∃ w3, (Instr.entryStore t (.map (some b)) (goInt st) val).run Tryz.prog w2 = .ok () w3 ∧ mapIsW w3 b (n + 1) (upd f A val) ∧ w2.grownBy w3 (some b) ∧ w3.heap.size = w2.heap.size := by
  have hl := h.look ht (hz w) hA
  obtain ⟨D, ho, s⟩ := h
  have hisM := mapIsW.isMap ho
  obtain ⟨es, clock, hb, F, hs, hD⟩ := ho
  obtain ⟨v0, st, es1, clock1, hrun, hv0, hst⟩ := WideElems.entry_then_store lawWN ht hz hb F (key_klW A)
  have hb1 : (ChangeMaps.setBlock w b (.map es1 clock1)).heap[b]? = some (.map es1 clock1) := ChangeMaps.heap_setBlock_same hb _
  have hv : v0 = (f A).getD z := by
    rcases Maps.fit_look false lawW ht (hz w) hb F (key_klW A) with ⟨h1, h2, _⟩ | ⟨e0, y, h1, h2, h3, _⟩
    · rw [hl] at h1
      have e1 : (f A).getD z = z := by simpa using h1
      rcases hv0 with ⟨e0, h4, h5, _⟩ | ⟨_, h4⟩
      · exact absurd h5 (h2 e0 h4)
      · rw [h4, e1]
    · rw [hl] at h3
      have e1 : (f A).getD z = e0.val := by simpa using h3
      rcases hv0 with ⟨e0', h4, h5, h6⟩ | ⟨h4, _⟩
      · have : e0 = e0' := by
          have hap := Maps.fit_apart lawW F
          refine entry_eq_of_key ?_ h1 h4 (h2.trans h5.symm)
          rw [List.pairwise_map] at hap
          refine hap.imp_of_mem fun {x y} hx hy hne e => hne ?_
          obtain ⟨yx, hyx⟩ := F.reads x hx
          obtain ⟨yy, hyy⟩ := F.reads y hy
          rw [WideElems.rg_of hyx, WideElems.rg_of hyy]
          have k1 := WideElems.rd_key hyx
          have k2 := WideElems.rd_key hyy
          rw [e, k2] at k1
          exact (Option.some.inj k1).symm
        subst this
        rw [h6, e1]
      · exact absurd h2 (h4 e0 h1)
  subst hv
  refine ⟨st, _, hrun, ⟨rfl, rfl, rfl, by simp [ChangeMaps.setBlock], fun i _ hi => ChangeMaps.heap_setBlock_other hb _ (fun e => hi (by rw [e]))⟩, by simp [ChangeMaps.setBlock], ⟨_, _, hb1⟩, fun w2 val hw2 => ?_⟩
  obtain ⟨es', clock', hr2, hup⟩ := hst w2 val (hw2.trans hb1)
  obtain ⟨w', hrun', h', _⟩ := World.ownsMap.update (w := w) (d := .held val) (ps := []) ⟨es, clock, hb, F, hs, hD⟩ lawW ht hn (key_klW A) rfl
  rw [hup] at hrun'
  have e' : w' = ChangeMaps.setBlock w b (.map es' clock') := by simpa using hrun'.symm
  subst e'
  have hb2 : w2.heap[b]? = some (.map es1 clock1) := hw2.trans hb1
  refine ⟨_, hr2, ⟨_, ?_, s.put hisM hA val⟩, ⟨rfl, rfl, rfl, by simp [ChangeMaps.setBlock], fun i _ hi => ChangeMaps.heap_setBlock_other hb2 _ (fun e => hi (by rw [e]))⟩, by simp [ChangeMaps.setBlock]⟩
  obtain ⟨es2, clock2, hbb, rest⟩ := h'
  rw [ChangeMaps.heap_setBlock_same hb] at hbb
  cases hbb
  exact ⟨_, _, ChangeMaps.heap_setBlock_same hb2 _, rest⟩

/-- A map that is gone through: block r is the place; what is still to come. -/
def rangesIsW (w : World) (b r n : Nat) (f : Nat → Option Value) (left : Nat → Bool) (cnt : Nat) : Prop :=
  ∃ (D : DataW Value) (lf : Lit → Bool), w.ranges Tryz.prog 44 hR b r n D lf cnt ∧ SaysFW D f ∧ (∀ A, A < M → left A = lf (klW A)) ∧ ∀ l, lf l = true → Maps.has D l = true
theorem rangesIsW.map {r : Nat} {left : Nat → Bool} {cnt : Nat} (h : rangesIsW w b r n f left cnt) : mapIsW w b n f := by
  obtain ⟨D, lf, h, s, _⟩ := h
  exact ⟨D, h.owns, s⟩
theorem rangesIsW.same {r : Nat} {left : Nat → Bool} {cnt : Nat} {w' : World} (h : rangesIsW w b r n f left cnt) (hb : w'.heap[b]? = w.heap[b]?) (hr : w'.heap[r]? = w.heap[r]?) : rangesIsW w' b r n f left cnt := by
  obtain ⟨D, lf, ⟨es, clock, since, seen, c0, h1, h2, h3, h4, h5, h6⟩, s, h'⟩ := h
  exact ⟨D, lf, ⟨es, clock, since, seen, c0, hb.trans h1, h2, h3, h4, hr.trans h5, h6⟩, s, h'⟩
theorem rangesIsW.lt {r : Nat} {left : Nat → Bool} {cnt : Nat} (h : rangesIsW w b r n f left cnt) : r < w.heap.size := by
  obtain ⟨D, lf, h, _⟩ := h
  exact h.lt
theorem rangesIsW.left_eq {r : Nat} {left : Nat → Bool} {cnt : Nat} (h : rangesIsW w b r n f left cnt) : w.rangeLeft b r = cnt := by
  obtain ⟨D, lf, h, _⟩ := h
  exact h.left_eq
theorem mapIsW.range {t e : TypeId} (h : mapIsW w b n f) (ht : Tryz.prog.underlying t = some (.map 44 e)) :
    ∃ w' cnt, (Instr.range t (.map (some b))).run Tryz.prog w = .ok (.pointer (some ⟨w.heap.size, 0, none⟩)) w' ∧ rangesIsW w' b w.heap.size n f (fun A => (f A).isSome) cnt ∧ w.grownBy w' none ∧ w'.heap.size = w.heap.size + 1 ∧ cnt ≤ n := by
  obtain ⟨D, h, s⟩ := h
  obtain ⟨w', hrun, h', hg, hs⟩ := h.range lawW ht
  have hn : Maps.size D ≤ n := by
    obtain ⟨es, clock, _, _, hsz, rfl⟩ := h
    simp only [Maps.size, length_sorted, List.length_map, Array.length_toList]
    exact hsz
  exact ⟨w', _, hrun, ⟨D, _, h', s, fun A hA => (s.has A hA).symm, fun l hl => hl⟩, hg, hs, hn⟩
theorem rangesIsW.next {r : Nat} {left : Nat → Bool} {cnt : Nat} (h : rangesIsW w b r n f left cnt) (ty : TypeId) :
    (cnt = 0 ∧ (∀ A, A < M → left A = false) ∧ (Instr.next (.pointer (some ⟨r, 0, none⟩)) false ty).run Tryz.prog w = .ok (.tuple #[.bool false]) w) ∨
    ∃ A v w' cnt', A < M ∧ left A = true ∧ f A = some v ∧ (Instr.next (.pointer (some ⟨r, 0, none⟩)) false ty).run Tryz.prog w = .ok (.tuple #[.bool true, .agg (wa A), v]) w' ∧
      rangesIsW w' b r n f (fun B => left B && !decide (B = A)) cnt' ∧ cnt' < cnt ∧ w.grownBy w' (some r) ∧ w'.heap.size = w.heap.size ∧ (Instr.entry (.pointer (some ⟨r, 0, none⟩))).run Tryz.prog w' = .ok (.tuple #[.agg (wa A), v]) w' := by
  obtain ⟨D, lf, h, s, hl, hh⟩ := h
  rcases h.next lawW ty with ⟨h0, hz, hrun⟩ | ⟨key, v, l, y, w', cnt', hkey, hlk, hv, hat, hrun, hrg, hlt, hgr, hsz, hen⟩
  · exact .inl ⟨h0, fun A hA => by rw [hl A hA, hz], hrun⟩
  · obtain ⟨A, hA, rfl⟩ := s.only l (hh l hlk)
    obtain rfl := kl_ofW hkey
    refine .inr ⟨A, v, w', cnt', hA, by rw [hl A hA]; exact hlk, ?_, hrun, ⟨D, _, hrg, s, fun B hB => ?_, fun l hl' => hh l ?_⟩, hlt, hgr, hsz, hen⟩
    · have h1 := hat (.held (.bool true))
      have h2 := hat (.held (.bool false))
      rw [s.at' A hA] at h1 h2
      cases hv
      cases hf : f A with
      | none => rw [hf] at h1 h2; simp at h1 h2; rw [← h1] at h2; simp at h2
      | some u => rw [hf] at h1; simp at h1; rw [h1]
    · show (left B && !decide (B = A)) = (lf (klW B) && !(klW B).sameKey (klW A))
      rw [hl B hB, kl_sameW hB hA]
    · simp at hl'
      exact hl'.1
end
section
variable {w : World} {b n : Nat} {f : Nat → Option Value}
/-- A key taken out. -/
def updN (f : Nat → Option Value) (A : Nat) : Nat → Option Value := fun B => if B = A then none else f B
theorem SaysFW.del {D : DataW Value} {f : Nat → Option Value} (h : SaysFW D f) {A : Nat} (hA : A < M) : SaysFW (D.del (klW A)) (updN f A) := by
  refine ⟨fun B hB zd => ?_, fun B hB => ?_, fun l hl => ?_⟩
  · unfold updN
    by_cases e : B = A
    · subst e; rw [atKey_del_same]; simp
    · rw [atKey_del_other (fun e' => e (kl_injW hB hA e')), h.at' B hB]; simp [e]
  · unfold updN
    by_cases e : B = A
    · subst e; rw [has_del_same]; simp
    · rw [has_del_other (fun e' => e (kl_injW hB hA e')), h.has B hB]; simp [e]
  · by_cases e : l = klW A
    · exact ⟨A, hA, e⟩
    · rw [has_del_other e] at hl
      exact h.only l hl
theorem mapIsW.look_ok {t e : TypeId} (h : mapIsW w b n f) (ht : Tryz.prog.underlying t = some (.map 44 e)) {z : Value} (hz : (zeroValue e).run Tryz.prog w = .ok z w) {A : Nat} (hA : A < M) :
    (Instr.lookup t (.map (some b)) (.agg (wa A)) true).run Tryz.prog w = .ok (.tuple #[(f A).getD z, .bool (f A).isSome]) w := by
  obtain ⟨D, h, s⟩ := h
  obtain ⟨v, ps, hrun, hv⟩ := h.look_ok (zd := .held z) (zp := []) lawW ht hz rfl (key_klW A)
  rw [s.at' A hA] at hv
  rw [hrun, s.has A hA]
  congr 3
  unfold hR at hv
  cases hf : f A with
  | none => rw [hf] at hv; simp at hv; rw [hv.1]; rfl
  | some y => rw [hf] at hv; simp at hv; rw [hv.1]; rfl
theorem mapIsW.drop {t e : TypeId} (h : mapIsW w b n f) (ht : Tryz.prog.underlying t = some (.map 44 e)) {A : Nat} (hA : A < M) (ty : TypeId) :
    ∃ w', (Builtin.delete_ #[t, 44] ty #[.map (some b), .agg (wa A)]).run Tryz.prog w = .ok (.tuple #[]) w' ∧ mapIsW w' b n (updN f A) ∧ w.grownBy w' (some b) := by
  obtain ⟨D, h, s⟩ := h
  obtain ⟨w', hrun, h', hg⟩ := h.drop lawW ht (key_klW A) ty
  exact ⟨w', hrun, ⟨_, h', s.del hA⟩, hg.grown⟩
end
end Go.Proofs.YtnjeoeekidnffaaGreat
/- Accounts in versions, plainly: what the document says of them. -/
namespace Go.Proofs.YtnjeoeekidnffaaGreat
open SmWord

/-- An account: its address, nonce, balance, code and slots. -/
structure Acc where
  ad : Nat
  no : Nat
  ba : Nat
  co : List Nat
  so : List (Nat × Nat)
instance : Inhabited Acc := ⟨⟨0, 0, 0, [], []⟩⟩

def Acc.none : Acc := ⟨0, 0, 0, [], []⟩
def emptyA (a : Acc) : Bool := a.no == 0 && a.ba == 0 && a.co.isEmpty && a.so.isEmpty
/-- Slots by rising keys, none of them 0; what comes before is below them. -/
def rightS : List (Nat × Nat) → Bool
  | [] => true
  | [s] => !(s.2 == 0)
  | s :: t :: l => !(s.2 == 0) && decide (s.1 < t.1) && rightS (t :: l)
def rightA (a : Acc) : Bool := rightS a.so
/-- Into its place. -/
def putA (a : Acc) : List Acc → List Acc
  | [] => [a]
  | x :: l => if a.ad < x.ad then a :: x :: l else if x.ad = a.ad then a :: l else x :: putA a l
def putAll (L l : List Acc) : List Acc := l.foldl (fun L a => putA a L) L
def lookA (L : List Acc) (A : Nat) : Option Acc := L.find? (fun x => x.ad == A)
def Srt (L : List Acc) : Prop := L.Pairwise fun x y => x.ad < y.ad

theorem putA_mem {a : Acc} : ∀ {L : List Acc} {x : Acc}, x ∈ putA a L → x = a ∨ x ∈ L
  | [], x, h => by simp [putA] at h; exact .inl h
  | y :: L, x, h => by
    unfold putA at h
    split at h
    · simp at h; rcases h with rfl | rfl | h <;> simp [*]
    · split at h
      · simp at h; rcases h with rfl | h <;> simp [*]
      · simp at h
        rcases h with rfl | h
        · simp
        · rcases putA_mem h with rfl | h' <;> simp [*]
theorem putA_srt {a : Acc} : ∀ {L : List Acc}, Srt L → Srt (putA a L)
  | [], _ => by simp [putA, Srt]
  | y :: L, h => by
    obtain ⟨h1, h2⟩ := List.pairwise_cons.1 h
    unfold putA
    split
    · rename_i hlt
      refine List.pairwise_cons.2 ⟨fun z hz => ?_, h⟩
      rcases List.mem_cons.1 hz with rfl | hz
      · exact hlt
      · exact Nat.lt_trans hlt (h1 z hz)
    · split
      · rename_i _ he
        exact List.pairwise_cons.2 ⟨fun z hz => he ▸ h1 z hz, h2⟩
      · rename_i hn hne
        refine List.pairwise_cons.2 ⟨fun z hz => ?_, putA_srt h2⟩
        rcases putA_mem hz with rfl | hz
        · omega
        · exact h1 z hz
theorem lookA_none_of {L : List Acc} {A : Nat} (h : ∀ x ∈ L, x.ad ≠ A) : lookA L A = none := by
  unfold lookA
  rw [List.find?_eq_none]
  intro x hx
  simp [h x hx]
theorem putA_look {a : Acc} (A : Nat) : ∀ {L : List Acc}, Srt L → lookA (putA a L) A = if A = a.ad then some a else lookA L A
  | [], _ => by
    by_cases h : A = a.ad <;> simp [putA, lookA, h]
    exact fun e => h e.symm
  | y :: L, h => by
    obtain ⟨h1, h2⟩ := List.pairwise_cons.1 h
    unfold putA
    split
    · rename_i hlt
      by_cases e : A = a.ad
      · simp [lookA, e]
      · unfold lookA; rw [List.find?_cons_of_neg (by simp; exact fun e' => e e'.symm), if_neg e]
    · split
      · rename_i _ he
        by_cases e : A = a.ad
        · simp [lookA, e]
        · unfold lookA
          rw [List.find?_cons_of_neg (by simp; exact fun e' => e e'.symm), if_neg e, List.find?_cons_of_neg (by simp; omega)]
      · rename_i hn hne
        by_cases e : y.ad = A
        · unfold lookA
          rw [List.find?_cons_of_pos (by simp [e]), if_neg (by omega), List.find?_cons_of_pos (by simp [e])]
        · unfold lookA
          rw [List.find?_cons_of_neg (by simp [e]), List.find?_cons_of_neg (by simp [e])]
          exact putA_look A h2
theorem putAll_srt : ∀ {l L : List Acc}, Srt L → Srt (putAll L l)
  | [], _, h => h
  | _ :: l, _, h => putAll_srt (l := l) (putA_srt h)
/-- The last one of an address. -/
def lastA (l : List Acc) (A : Nat) : Option Acc := lookA l.reverse A
theorem lastA_snoc (l : List Acc) (a : Acc) (A : Nat) : lastA (l ++ [a]) A = if A = a.ad then some a else lastA l A := by
  unfold lastA lookA
  rw [List.reverse_append, List.reverse_singleton, List.singleton_append]
  by_cases h : A = a.ad
  · rw [List.find?_cons_of_pos (by simp [h]), if_pos h]
  · rw [List.find?_cons_of_neg (by simp; exact fun e => h e.symm), if_neg h]
theorem lastA_append (l : List Acc) (A : Nat) : ∀ l', lastA (l' ++ l) A = (lastA l A).or (lastA l' A) := by
  intro l'
  unfold lastA lookA
  rw [List.reverse_append, List.find?_append]
theorem putAll_look (A : Nat) : ∀ {l L : List Acc}, Srt L → lookA (putAll L l) A = (lastA l A).or (lookA L A)
  | [], _, _ => rfl
  | a :: l, L, h => by
    show lookA (putAll (putA a L) l) A = _
    rw [putAll_look A (putA_srt h), putA_look A h, show a :: l = [a] ++ l from rfl, lastA_append l A [a], Option.or_assoc]
    congr 1
    unfold lastA lookA
    by_cases e : A = a.ad
    · simp [e]
    · rw [if_neg e]
      have : ¬ a.ad = A := fun e' => e e'.symm
      simp [this]
theorem putAll_mem : ∀ {l L : List Acc} {x : Acc}, x ∈ putAll L l → x ∈ l ∨ x ∈ L
  | [], _, _, h => .inr h
  | a :: l, L, x, h => by
    rcases putAll_mem (l := l) (L := putA a L) h with h | h
    · exact .inl (by simp [h])
    · rcases putA_mem h with rfl | h
      · exact .inl (by simp)
      · exact .inr h
theorem lookA_some {L : List Acc} {A : Nat} {x : Acc} (h : lookA L A = some x) : x ∈ L ∧ x.ad = A := by
  unfold lookA at h
  exact ⟨List.mem_of_find?_eq_some h, by simpa using List.find?_some h⟩
theorem lookA_of_mem {L : List Acc} (h : Srt L) {x : Acc} (hx : x ∈ L) : lookA L x.ad = some x := by
  induction L with
  | nil => simp at hx
  | cons y L ih =>
    obtain ⟨h1, h2⟩ := List.pairwise_cons.1 h
    unfold lookA
    rcases List.mem_cons.1 hx with rfl | hx
    · rw [List.find?_cons_of_pos (by simp)]
    · rw [List.find?_cons_of_neg (by simp; have := h1 x hx; omega)]
      exact ih h2 hx

/-! Where a version's account was set last. -/
/-- The nearest version from v up in which A was set: what was set there. -/
def near (par : Nat → Nat) (acc : Nat → Option Nat) (v : Nat) : Option Nat :=
  match acc v with
  | some b => some b
  | none => if _h : par v < v then near par acc (par v) else none
termination_by v
theorem near_some {par : Nat → Nat} {acc : Nat → Option Nat} {v b : Nat} (h : acc v = some b) : near par acc v = some b := by rw [near, h]
theorem near_none {par : Nat → Nat} {acc : Nat → Option Nat} {v : Nat} (h : acc v = none) (hp : par v < v) : near par acc v = near par acc (par v) := by rw [near, h]; simp [hp]
theorem near_stop {par : Nat → Nat} {acc : Nat → Option Nat} {v : Nat} (h : acc v = none) (hp : ¬ par v < v) : near par acc v = none := by rw [near, h]; simp [hp]
/-- x is v, or above it. -/
inductive Up (par : Nat → Nat) : Nat → Nat → Prop
  | here (v : Nat) : Up par v v
  | step {v x : Nat} : par v < v → Up par (par v) x → Up par v x
theorem Up.le {par : Nat → Nat} {v x : Nat} (h : Up par v x) : x ≤ v := by induction h <;> omega
theorem Up.trans {par : Nat → Nat} {v x y : Nat} (h : Up par v x) (k : Up par x y) : Up par v y := by
  induction h with
  | here => exact k
  | step hp _ ih => exact .step hp (ih k)
/-- Nothing was set from v on up to x (x left out): the same is near. -/
theorem near_up {par : Nat → Nat} {acc : Nat → Option Nat} {v x : Nat} (h : Up par v x) (hn : ∀ y, x < y → y ≤ v → acc y = none) : near par acc v = near par acc x := by
  induction h with
  | here => rfl
  | @step v x hp hu ih =>
    have := hu.le
    rw [near_none (hn v (by omega) (Nat.le_refl _)) hp, ih fun y h1 h2 => hn y h1 (by omega)]
/-- The first one from v up that is u at most. -/
structure First (par : Nat → Nat) (v u x : Nat) : Prop where
  up : Up par v x
  le : x ≤ u
theorem near_low {par : Nat → Nat} {acc : Nat → Option Nat} : ∀ {v : Nat}, (∀ y, y ≤ v → acc y = none) → near par acc v = none := by
  intro v
  induction v using Nat.strongRecOn with
  | _ v ih =>
    intro h
    by_cases hp : par v < v
    · rw [near_none (h v (Nat.le_refl _)) hp]
      exact ih _ hp fun y hy => h y (by omega)
    · exact near_stop (h v (Nat.le_refl _)) hp
end Go.Proofs.YtnjeoeekidnffaaGreat
