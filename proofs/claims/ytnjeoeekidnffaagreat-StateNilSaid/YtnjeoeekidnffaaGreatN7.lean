/- What the function Shift of the document's digits does: the digits of the number whose bits stand so many places up, or down. -/
import Derived.Test.YtnjeoeekidnffaaGreatN6
import Derived.Deep.LoopGhost
import Derived.Test.YtnjeoeekidnffaaGreatN3
import Derived.Test.YtnjeoeekidnffaaGreatN4
import Derived.Deep.MidRow
import Derived.Deep.Cut
import Derived.Deep.CutBlock
namespace Go.Proofs.YtnjeoeekidnffaaGreat
open Go.RowKit SmWord
set_option maxRecDepth 100000

theorem stay {w w' : World} (h : Below w.heap.size w w') {b : Nat} {o : Obj} (hb : w.heap[b]? = some o) : w'.heap[b]? = some o := Ext.block ⟨w', h⟩ hb
theorem fillB_step (f : Nat → Int) (k : Nat) (hk : k < 256) (v : Int) (hv : v = f k) :
    (arr .i64 256 (fun j => if j < k then f j else 0)).setIfInBounds k (.int .i64 v) = arr .i64 256 (fun j => if j < k + 1 then f j else 0) := by
  rw [arr_set _ _ _ hk]
  refine arr_congr fun i _ => ?_
  by_cases h1 : i = k
  · subst h1; simp [hv]
  · by_cases h2 : i < k
    · simp [h1, h2, show i < k + 1 by omega]
    · simp [h1, h2, show ¬ i < k + 1 by omega]
theorem fillB_start (f : Nat → Int) : arr .i64 256 (fun j => if j < 0 then f j else 0) = zB := arr_congr fun i _ => by simp
theorem fillB_end (f : Nat → Int) : arr .i64 256 (fun j => if j < 256 then f j else 0) = arr .i64 256 f := arr_congr fun i hi => by simp [hi]
end Go.Proofs.YtnjeoeekidnffaaGreat
/- What the function From of package word, and the document's, do with any bytes: the word whose bytes end with them, the highest first; all older memory is as it was. -/
namespace Go.Proofs.YtnjeoeekidnffaaGreat
open Go.RowKit SmWord
set_option maxRecDepth 100000

/-- What a slice of bytes holds, a nil one too. -/
structure Sl (w : World) (A : Option Addr) (n : Nat) (f : Nat → Nat) : Prop where
  small : ∀ i, i < n → f i < 256
  cells : 0 < n → ∃ b off, A = some ⟨b, off, none⟩ ∧ b < w.heap.size ∧ ∀ i, i < n → w.cell? ⟨b, off + i, none⟩ = some (.int .u8 ((f i : Nat) : Int))
theorem Sl.below {w w' : World} {A : Option Addr} {n : Nat} {f : Nat → Nat} (h : Sl w A n f) (hb : Below w.heap.size w w') : Sl w' A n f :=
  ⟨h.small, fun hn => by
    obtain ⟨b, off, e, hlt, hc⟩ := h.cells hn
    exact ⟨b, off, e, Nat.lt_of_lt_of_le hlt hb.size, fun i hi => (hb.cell (p := ⟨b, off + i, none⟩) hlt).trans (hc i hi)⟩⟩
/-- The digits of a slice of bytes, the lowest first. -/
def gd (f : Nat → Nat) (n i : Nat) : Nat := f (n - 1 - i)
theorem gd_small {w : World} {A : Option Addr} {n : Nat} {f : Nat → Nat} (h : Sl w A n f) {k : Nat} (hk : k ≤ n) : ∀ i, i < k → gd f n i < 256 := fun i hi => h.small _ (by omega)

theorem wa_set (x y q : Nat) (hq : q < 4) (h1 : ∀ j, j < 4 → j ≠ q → lb y j = lb x j) : (wa x).setIfInBounds q (.int .u64 ((lb y q : Nat) : Int)) = wa y := by
  apply Array.ext_getElem?
  intro j
  by_cases hj : j < 4
  · by_cases e : j = q
    · subst e; rw [Array.getElem?_setIfInBounds_self_of_lt (by rw [wa_size]; exact hj), wa_lb y j hj]
    · rw [Array.getElem?_setIfInBounds_ne (fun h => e h.symm), wa_lb x j hj, wa_lb y j hj, h1 j hj e]
  · rw [Array.getElem?_eq_none (by simp [wa_size]; omega), Array.getElem?_eq_none (by rw [wa_size]; omega)]

theorem val_none (f : Nat → Nat) (n : Nat) : wa (val (gd f n) 0) = #[Value.int .u64 0, .int .u64 0, .int .u64 0, .int .u64 0] := by rw [show val (gd f n) 0 = 0 from rfl]; rfl
theorem or_put {x d s : Nat} (hx : x < B) (h : d * 2 ^ s < B) : bits .or .u64 (x : Int) (IntKind.u64.wrap ((d : Int) * 2 ^ s)) = ((x ||| d * 2 ^ s : Nat) : Int) := by
  have e : ((d : Int) * 2 ^ s) = ((d * 2 ^ s : Nat) : Int) := by simp
  have e2 : IntKind.u64.wrap ((d * 2 ^ s : Nat) : Int) = ((d * 2 ^ s : Nat) : Int) := by
    rw [IntKind.wrap_u64]
    simp only [B] at h
    generalize d * 2 ^ s = y at *
    omega
  rw [e, e2, u64_or_nat _ _ hx h]
theorem val_digits {f : Nat → Nat} {n mn : Nat} (h : ∀ i, i < mn → gd f n i < 256) : arr .i64 32 (fun j => if j < mn then ((gd f n j : Nat) : Int) else 0) = da (val (gd f n) mn) :=
  arr_congr fun i _ => by
    by_cases hi : i < mn
    · rw [if_pos hi, dig_val h hi]
    · rw [if_neg hi, dig_val_high h (by omega)]; rfl
end Go.Proofs.YtnjeoeekidnffaaGreat
/- Accounts in memory: how they lie, and what a part of memory says of them. -/
namespace Go.Proofs.YtnjeoeekidnffaaGreat
open Go.RowKit SmWord
set_option maxRecDepth 100000

/-! A part of memory. -/
abbrev Hp := Nat → Option Obj
def hp (w : World) : Hp := fun b => w.heap[b]?
def Sub (Z Z' : Hp) : Prop := ∀ b o, Z b = some o → Z' b = some o
theorem Sub.refl (Z : Hp) : Sub Z Z := fun _ _ h => h
theorem Sub.trans {Z Z' Z'' : Hp} (h : Sub Z Z') (k : Sub Z' Z'') : Sub Z Z'' := fun b o hb => k b o (h b o hb)
theorem Sub.below {Z : Hp} {w w' : World} (h : Sub Z (hp w)) (hb : Below w.heap.size w w') : Sub Z (hp w') := fun b o ho => by
  have h1 := h b o ho
  exact (hb.block b (Array.getElem?_eq_some_iff.1 h1).1).trans h1
theorem hp_below {w w' : World} (hb : Below w.heap.size w w') : Sub (hp w) (hp w') := Sub.below (Sub.refl _) hb
/-- The cells of a row in block b from o on. -/
def rng (Z : Hp) (b o : Nat) (cs : List Value) : Prop := ∃ C t fr, Z b = some (.cells C t fr) ∧ ∀ j v, cs[j]? = some v → C[o + j]? = some v
theorem rng.sub {Z Z' : Hp} {b o : Nat} {cs : List Value} (h : rng Z b o cs) (hs : Sub Z Z') : rng Z' b o cs := by
  obtain ⟨C, t, fr, h1, h2⟩ := h
  exact ⟨C, t, fr, hs _ _ h1, h2⟩
theorem rng.at {w : World} {b o : Nat} {cs : List Value} (h : rng (hp w) b o cs) : w.rangeAt b o cs := fun j v hv => by
  obtain ⟨C, t, fr, h1, h2⟩ := h
  rw [cell_of_row w b (o + j) C t fr h1]
  exact h2 j v hv
theorem rng.lt {w : World} {b o : Nat} {cs : List Value} (h : rng (hp w) b o cs) : b < w.heap.size := by
  obtain ⟨C, t, fr, h1, _⟩ := h
  exact (Array.getElem?_eq_some_iff.1 h1).1
theorem rng.part {Z : Hp} {b o : Nat} {cs : List Value} (h : rng Z b o cs) (k : Nat) (ds : List Value) (hd : ∀ j v, ds[j]? = some v → cs[k + j]? = some v) : rng Z b (o + k) ds := by
  obtain ⟨C, t, fr, h1, h2⟩ := h
  exact ⟨C, t, fr, h1, fun j v hv => by rw [Nat.add_assoc]; exact h2 _ _ (hd j v hv)⟩
theorem rng_block {w : World} {b : Nat} {cs : List Value} {t : TypeId} (h : w.heap[b]? = some (.cells cs.toArray t)) : rng (hp w) b 0 cs := ⟨_, _, _, h, fun j v hv => by rw [Nat.zero_add]; simpa using hv⟩
theorem rng.cell {w : World} {b o : Nat} {cs : List Value} (h : rng (hp w) b o cs) {j : Nat} {v : Value} (hv : cs[j]? = some v) : w.cell? ⟨b, o + j, none⟩ = some v := h.at j v hv
/-- Rows of k cells each, one behind the other. -/
theorem flat_len {α : Type} {f : α → List Value} {k : Nat} : ∀ l : List α, (∀ x ∈ l, (f x).length = k) → (l.flatMap f).length = l.length * k
  | [], _ => by simp
  | x :: l, h => by
    rw [List.flatMap_cons, List.length_append, h x (by simp), flat_len l (fun y hy => h y (by simp [hy])), List.length_cons, Nat.succ_mul]
    omega
theorem flat_get {α : Type} {f : α → List Value} {k : Nat} : ∀ (l : List α), (∀ x ∈ l, (f x).length = k) → ∀ (i : Nat) (x : α), l[i]? = some x → ∀ j v, (f x)[j]? = some v → (l.flatMap f)[i * k + j]? = some v
  | [], _, i, x, hx, _, _, _ => by simp at hx
  | y :: l, h, 0, x, hx, j, v, hj => by
    simp at hx
    subst hx
    rw [List.flatMap_cons, Nat.zero_mul, Nat.zero_add, List.getElem?_append_left (List.getElem?_eq_some_iff.1 hj).1]
    exact hj
  | y :: l, h, i + 1, x, hx, j, v, hj => by
    rw [List.flatMap_cons, List.getElem?_append_right (by rw [h y (by simp), Nat.succ_mul]; omega), h y (by simp), show (i + 1) * k + j - k = i * k + j by rw [Nat.succ_mul]; omega]
    exact flat_get l (fun z hz => h z (by simp [hz])) i x (by simpa using hx) j v hj

/-- A slice of n elements of k cells each: the cells are L. -/
structure RowZ (Z : Hp) (v : Value) (n k : Nat) (L : List Value) : Prop where
  len : L.length = n * k
  val : ∃ A c, v = .slice A n c ∧ n ≤ c ∧ c ≤ maxLen ∧ (A = none → n = 0 ∧ c = 0) ∧ (0 < n → ∃ b off, A = some ⟨b, off, none⟩ ∧ rng Z b off L)
theorem RowZ.sub {Z Z' : Hp} {v : Value} {n k : Nat} {L : List Value} (h : RowZ Z v n k L) (hs : Sub Z Z') : RowZ Z' v n k L := by
  refine ⟨h.len, ?_⟩
  obtain ⟨A, c, h1, h2, h3, h4, h5⟩ := h.val
  exact ⟨A, c, h1, h2, h3, h4, fun hn => by obtain ⟨b, off, e, hr⟩ := h5 hn; exact ⟨b, off, e, hr.sub hs⟩⟩
theorem RowZ.nil (Z : Hp) (k : Nat) : RowZ Z (.slice none 0 0) 0 k [] := ⟨by simp, none, 0, rfl, Nat.le_refl _, by simp [maxLen], fun _ => ⟨rfl, rfl⟩, fun h => absurd h (by decide)⟩
/-- A row of one's own is a row. -/
theorem RowZ.own {w : World} {base : Nat} {e : TypeId} {k n : Nat} {v : Value} {xs : List Value} (h : w.ownsRow base e k v n xs) : RowZ (hp w) v n k xs := by
  refine ⟨h.1, ?_⟩
  rcases h.2 with ⟨rfl, rfl⟩ | ⟨g, cap, cur, rfl, _, hg, hn, hc, hcs, ht⟩
  · exact ⟨none, 0, rfl, Nat.le_refl _, by simp [maxLen], fun _ => ⟨rfl, rfl⟩, fun h => absurd h (by decide)⟩
  · refine ⟨_, _, rfl, hn, hc, fun h => (by simp at h), fun _ => ⟨g, 0, rfl, cur, e, (0, 0), hg, fun j u hj => ?_⟩⟩
    rw [Nat.zero_add]
    rw [← ht, List.getElem?_take] at hj
    split at hj
    · simpa using hj
    · cases hj

/-! Accounts. -/
structure AV where
  a : Acc
  p : Value
  q : Value
instance : Inhabited AV := ⟨⟨default, .slice none 0 0, .slice none 0 0⟩⟩
/-- A slot's cells; an account's. -/
def scs (s : Nat × Nat) : List Value := (wa s.1).toList ++ (wa s.2).toList
def acs (x : AV) : List Value := (aN x.a.ad).toList ++ ((Value.int .u64 (x.a.no : Int)) :: ((wa x.a.ba).toList ++ [x.p, x.q]))
def u8v (n : Nat) : Value := .int .u8 (n : Int)
theorem scs_len (s : Nat × Nat) : (scs s).length = 8 := by simp [scs, wa_size]
theorem acs_len (x : AV) : (acs x).length = 27 := by simp [acs, aN_size, wa_size]
/-- How an account with these slices lies. -/
structure AccZ (Z : Hp) (x : AV) : Prop where
  ad : x.a.ad < 2 ^ 160
  no : x.a.no < B
  ba : x.a.ba < M
  cod : RowZ Z x.p x.a.co.length 1 (x.a.co.map u8v)
  c8 : ∀ c ∈ x.a.co, c < 256
  cl : x.a.co.length ≤ 1000000
  sto : RowZ Z x.q x.a.so.length 8 (x.a.so.flatMap scs)
  sM : ∀ s ∈ x.a.so, s.1 < M ∧ s.2 < M
  sl : x.a.so.length ≤ 1000000
theorem AccZ.sub {Z Z' : Hp} {x : AV} (h : AccZ Z x) (hs : Sub Z Z') : AccZ Z' x := { h with cod := h.cod.sub hs, sto := h.sto.sub hs }
/-- A row of accounts. -/
structure AccsZ (Z : Hp) (v : Value) (l : List AV) : Prop where
  row : RowZ Z v l.length 27 (l.flatMap acs)
  each : ∀ x ∈ l, AccZ Z x
theorem AccsZ.sub {Z Z' : Hp} {v : Value} {l : List AV} (h : AccsZ Z v l) (hs : Sub Z Z') : AccsZ Z' v l := ⟨h.row.sub hs, fun x hx => (h.each x hx).sub hs⟩
theorem AccsZ.nil (Z : Hp) : AccsZ Z (.slice none 0 0) [] := ⟨RowZ.nil Z 27, fun x hx => by simp at hx⟩
/-- The value. -/
def aval (x : AV) : Value := .agg (acs x).toArray
/-- The parts of an account's cells. -/
theorem acs_ad (x : AV) (j : Nat) (v : Value) (h : (aN x.a.ad).toList[j]? = some v) : (acs x)[0 + j]? = some v := by
  unfold acs
  rw [Nat.zero_add, List.getElem?_append_left (List.getElem?_eq_some_iff.1 h).1]
  exact h
theorem acs_no (x : AV) : (acs x)[20]? = some (.int .u64 (x.a.no : Int)) := by
  unfold acs
  rw [List.getElem?_append_right (by simp [aN_size])]
  simp [aN_size]
theorem acs_ba (x : AV) (j : Nat) (v : Value) (h : (wa x.a.ba).toList[j]? = some v) : (acs x)[21 + j]? = some v := by
  unfold acs
  rw [List.getElem?_append_right (by simp [aN_size]; omega)]
  simp only [Array.length_toList, aN_size, show 21 + j - 20 = j + 1 by omega, List.getElem?_cons_succ]
  rw [List.getElem?_append_left (List.getElem?_eq_some_iff.1 h).1]
  exact h
theorem acs_p (x : AV) : (acs x)[25]? = some x.p := by
  unfold acs
  rw [List.getElem?_append_right (by simp [aN_size])]
  simp only [Array.length_toList, aN_size, show 25 - 20 = 4 + 1 by omega, List.getElem?_cons_succ]
  rw [List.getElem?_append_right (by simp [wa_size])]
  simp [wa_size]
theorem acs_q (x : AV) : (acs x)[26]? = some x.q := by
  unfold acs
  rw [List.getElem?_append_right (by simp [aN_size])]
  simp only [Array.length_toList, aN_size, show 26 - 20 = 5 + 1 by omega, List.getElem?_cons_succ]
  rw [List.getElem?_append_right (by simp [wa_size])]
  simp [wa_size]
theorem scs_k (s : Nat × Nat) (j : Nat) (v : Value) (h : (wa s.1).toList[j]? = some v) : (scs s)[0 + j]? = some v := by
  unfold scs
  rw [Nat.zero_add, List.getElem?_append_left (List.getElem?_eq_some_iff.1 h).1]
  exact h
theorem scs_v (s : Nat × Nat) (j : Nat) (v : Value) (h : (wa s.2).toList[j]? = some v) : (scs s)[4 + j]? = some v := by
  unfold scs
  rw [List.getElem?_append_right (by simp [wa_size]), Array.length_toList, wa_size, show 4 + j - 4 = j by omega]
  exact h
theorem RowZ.one {Z : Hp} {α : Type} {f : α → List Value} {k : Nat} {l : List α} {v : Value} (h : RowZ Z v l.length k (l.flatMap f)) (hk : ∀ x ∈ l, (f x).length = k) :
    ∃ A c, v = .slice A l.length c ∧ l.length ≤ c ∧ c ≤ maxLen ∧ (A = none → l.length = 0 ∧ c = 0) ∧ (0 < l.length → ∃ b off, A = some ⟨b, off, none⟩ ∧ rng Z b off (l.flatMap f) ∧ ∀ i x, l[i]? = some x → rng Z b (off + i * k) (f x)) := by
  obtain ⟨A, c, h1, h2, h3, h4, h5⟩ := h.val
  refine ⟨A, c, h1, h2, h3, h4, fun hn => ?_⟩
  obtain ⟨b, off, e, hr⟩ := h5 hn
  exact ⟨b, off, e, hr, fun i x hx => hr.part (i * k) (f x) (fun j u hj => flat_get l hk i x hx j u hj)⟩
theorem oneA (x : AV) (h : x.p.oneCell' = true) (h' : x.q.oneCell' = true) : ∀ v ∈ acs x, v.oneCell' = true := fun v hv => by
  unfold acs at hv
  rw [List.mem_append, List.mem_cons, List.mem_append] at hv
  rcases hv with hv | rfl | hv | hv
  · exact (Array.all_eq_true_iff_forall_mem.1 (arr_one .u8 20 _)) v (by simpa [aN] using hv)
  · rfl
  · exact (Array.all_eq_true_iff_forall_mem.1 (wa_one (n := x.a.ba))) v (by simpa using hv)
  · simp at hv
    rcases hv with rfl | rfl
    · exact h
    · exact h'
theorem RowZ.oneCell {Z : Hp} {v : Value} {n k : Nat} {L : List Value} (h : RowZ Z v n k L) : v.oneCell' = true := by
  obtain ⟨A, c, rfl, _⟩ := h.val
  rfl
theorem AccZ.ones {Z : Hp} {x : AV} (h : AccZ Z x) : (acs x).toArray.all (·.oneCell') = true := all_oneCell_toArray (oneA x h.cod.oneCell h.sto.oneCell)
theorem Tryz.infoA46 : (Tryz.prog.info? 69).map (·.size) = some 27 := by kernel_rfl
theorem Tryz.infoA82 : (Tryz.prog.info? 136).map (·.size) = some 8 := by kernel_rfl
theorem infoAcs (x : AV) : (Tryz.prog.info? 69).map (·.size) = some (acs x).length := by rw [acs_len]; exact Tryz.infoA46
theorem infoScs (s : Nat × Nat) : (Tryz.prog.info? 136).map (·.size) = some (scs s).length := by rw [scs_len]; exact Tryz.infoA82
theorem Tryz.infoAd20 : (Tryz.prog.info? 41).map (·.size) = some 20 := by kernel_rfl
theorem infoAd (A : Nat) : (Tryz.prog.info? 41).map (·.size) = some (aN A).toList.length := by rw [Array.length_toList, aN_size]; exact Tryz.infoAd20
end Go.Proofs.YtnjeoeekidnffaaGreat
/- Right and Empty, the program's and the document's. -/
namespace Go.Proofs.YtnjeoeekidnffaaGreat
open Go.RowKit SmWord
set_option maxRecDepth 100000

theorem z4w : #[Value.int .u64 0, .int .u64 0, .int .u64 0, .int .u64 0] = wa 0 := rfl
/-- A word's four cells. -/
theorem wcellsAt {w : World} {b o n : Nat} (h : w.rangeAt b o (wa n).toList) :
    w.cell? ⟨b, o, none⟩ = some (.int .u64 ((l0 n : Nat) : Int)) ∧ w.cell? ⟨b, o + 1, none⟩ = some (.int .u64 ((l1 n : Nat) : Int)) ∧ w.cell? ⟨b, o + 2, none⟩ = some (.int .u64 ((l2 n : Nat) : Int)) ∧ w.cell? ⟨b, o + 3, none⟩ = some (.int .u64 ((l3 n : Nat) : Int)) :=
  ⟨h 0 _ rfl, h 1 _ rfl, h 2 _ rfl, h 3 _ rfl⟩
theorem run_eq_wa0 (n : Nat) (hn : n < M) (w : World) : (Op.equalIn 10000 44 (.agg (wa n)) (.agg (wa 0))).run Tryz.prog w = .ok (n == 0) w := by
  rw [equal_wa, Nat.mod_eq_of_lt hn]
  rfl
/-- An account in a box. -/
theorem boxA (w : World) (x : AV) : (w.alloc (.cells (acs x).toArray 69)).heap[w.heap.size]? = some (.cells (acs x).toArray 69) ∧ Below w.heap.size w (w.alloc (.cells (acs x).toArray 69)) :=
  ⟨heap_alloc_new _ _, (Below.refl _ _).alloc (Nat.le_refl _) _⟩
theorem boxcells {w : World} {b : Nat} {x : AV} (h : w.heap[b]? = some (.cells (acs x).toArray 69)) :
    w.cell? ⟨b, 20, none⟩ = some (.int .u64 (x.a.no : Int)) ∧ w.rangeAt b 21 (wa x.a.ba).toList ∧ w.cell? ⟨b, 25, none⟩ = some x.p ∧ w.cell? ⟨b, 26, none⟩ = some x.q ∧ w.rangeAt b 0 (aN x.a.ad).toList := by
  have h1 := (rng_block h).at
  refine ⟨?_, fun j v hv => ?_, ?_, ?_, fun j v hv => ?_⟩
  · have := h1 20 _ (acs_no x); rwa [Nat.zero_add] at this
  · have := h1 (21 + j) _ (acs_ba x j v hv); rwa [Nat.zero_add] at this
  · have := h1 25 _ (acs_p x); rwa [Nat.zero_add] at this
  · have := h1 26 _ (acs_q x); rwa [Nat.zero_add] at this
  · have := h1 (0 + j) _ (acs_ad x j v hv); simpa using this
end Go.Proofs.YtnjeoeekidnffaaGreat
