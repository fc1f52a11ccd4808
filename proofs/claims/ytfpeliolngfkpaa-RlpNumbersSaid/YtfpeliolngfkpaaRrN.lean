/- Bytes as strings; the chapter's examples. -/
import Derived.Test.YtfpeliolngfkpaaRrM
namespace Go.Proofs.Ytfpeliolngfkpaa
open Go.RowKit SmWord
set_option maxRecDepth 100000

def strL (l : List Nat) : ByteArray := str (l.map UInt8.ofNat)
theorem strL_inj {l m : List Nat} (hl : ∀ x ∈ l, x < 256) (hm : ∀ x ∈ m, x < 256) : strL l = strL m ↔ l = m := by
  constructor
  · intro h
    have h1 : l.map UInt8.ofNat = m.map UInt8.ofNat := by
      have := congrArg (fun b : ByteArray => b.data.toList) h
      simpa [strL, str] using this
    have h2 : ∀ k : List Nat, (∀ x ∈ k, x < 256) → (k.map UInt8.ofNat).map UInt8.toNat = k := fun k hk => by
      rw [List.map_map]
      conv => rhs; rw [← List.map_id k]
      refine List.map_congr_left fun x hx => ?_
      have := hk x hx
      simp
      omega
    rw [← h2 l hl, h1, h2 m hm]
  · rintro rfl; rfl
theorem bs_list (l : List Nat) : bs (fun i => l.getD i 0) l.length = l.map UInt8.ofNat := by
  have := bf_list l
  unfold bf at this
  unfold bs
  conv => rhs; rw [← this]
  rw [List.map_map]
  refine List.map_congr_left fun i _ => ?_
  simp
theorem conv_bytes {w : World} {A : Option Addr} {c : Nat} {l : List Nat} (h : Sl w A l.length (fun i => l.getD i 0)) : (convert 25 9 (.slice A l.length c)).run Try.prog w = .ok (.string (strL l)) w := by
  have := conv_sl (c := c) h
  rwa [bs_list] at this
theorem own_bytes {w : World} {base : Nat} {v : Value} {l : List Nat} (h : w.ownsRow base 5 1 v l.length (lb8 l)) (hl : ∀ x ∈ l, x < 256) : ∃ A c, v = .slice A l.length c ∧ l.length ≤ c ∧ (A = none → l.length = 0 ∧ c = 0) ∧ Sl w A l.length (fun i => l.getD i 0) := by
  rw [lb8_bb] at h
  refine own_sl h fun i hi => ?_
  rw [List.getD, List.getElem?_eq_getElem hi]
  exact hl _ (List.getElem_mem hi)
theorem conv_own {w : World} {base : Nat} {v : Value} {l : List Nat} (h : w.ownsRow base 5 1 v l.length (lb8 l)) (hl : ∀ x ∈ l, x < 256) : (convert 25 9 v).run Try.prog w = .ok (.string (strL l)) w := by
  obtain ⟨A, c, rfl, _, _, hs⟩ := own_bytes h hl
  exact conv_bytes hs
theorem hea_lt {n m : Nat} (hm : m = 0 ∨ m = 64) (hn : n ≤ 1048576) : ∀ x ∈ hea n m, x < 256 := by
  have := nbl_le8 hn
  unfold hea
  split
  · intro x hx
    simp only [List.mem_singleton] at hx
    omega
  · intro x hx
    simp only [List.mem_cons] at hx
    rcases hx with rfl | hx
    · omega
    · exact bdig_lt _ _ _ hx
theorem wrs_lt : ∀ F, wt (rows F) ≤ 1000000 → (∀ x ∈ rows F, ∀ y ∈ x.by', y < 256) → ∀ y ∈ wrs F, y < 256
  | .no, _, _ => by simp [wrs]
  | .st b nx, hw, h => by
    rw [rows, wt_cons] at hw
    have ih := wrs_lt nx (by omega) fun x hx => h x (by simp [rows, hx])
    have hb : ∀ y ∈ b, y < 256 := h ⟨false, b, 0⟩ (by simp [rows])
    intro y hy
    rw [wrs, List.mem_append] at hy
    rcases hy with hy | hy
    · unfold ws at hy
      split at hy
      · exact hb y hy
      · rw [List.mem_append] at hy
        rcases hy with hy | hy
        · exact hea_lt (.inl rfl) (by simp only at hw; omega) y hy
        · exact hb y hy
    · exact ih y hy
  | .li k nx, hw, h => by
    rw [rows, wt_cons, wt_app] at hw
    have ih := wrs_lt nx (by omega) fun x hx => h x (by simp [rows, hx])
    have ihk := wrs_lt k (by omega) fun x hx => h x (by simp [rows, hx])
    have hl := wrs_le k (by omega)
    intro y hy
    rw [wrs, List.mem_append, List.mem_append] at hy
    rcases hy with (hy | hy) | hy
    · exact hea_lt (.inr rfl) (by omega) y hy
    · exact ihk y hy
    · exact ih y hy
/-- A row of nodes that the call has laid. -/
theorem nodes_of {w : World} {b : Nat} {cs : Array Value} {t : TypeId} {fr : Nat × Nat} {X : List Nd} (hb : w.heap[b]? = some (.cells cs t fr))
    (h : ∀ (i : Nat) (x : Nd), X[i]? = some x → cs[3 * i]? = some (.bool x.ls) ∧ (∃ A c, cs[3 * i + 1]? = some (.slice A x.by'.length c) ∧ x.by'.length ≤ c ∧ x.by'.length ≤ maxLen ∧ (A = none → x.by'.length = 0 ∧ c = 0) ∧ Sl w A x.by'.length (fun i => x.by'.getD i 0)) ∧ cs[3 * i + 2]? = some (.int .i64 x.sz)) :
    NodesS w (some ⟨b, 0, none⟩) X := ⟨fun _ => ⟨b, 0, rfl, (Array.getElem?_eq_some_iff.1 hb).1, fun i x hx => by
  obtain ⟨h1, ⟨A, c, h2, h3⟩, h4⟩ := h i x hx
  rw [Nat.zero_add]
  exact ⟨by rw [cell_of_row w b _ cs t fr hb]; exact h1, ⟨A, c, by rw [cell_of_row w b _ cs t fr hb]; exact h2, h3⟩, by rw [cell_of_row w b _ cs t fr hb]; exact h4⟩⟩⟩
theorem sl_const {w : World} {b n : Nat} {cs : Array Value} {fr : Nat × Nat} {l : List Nat} (hb : w.heap[b]? = some (.cells cs 5 fr)) (_ : l.length = n) (h : ∀ i, i < n → l.getD i 0 < 256 ∧ cs[i]? = some (.int .u8 ((l.getD i 0 : Nat) : Int))) : Sl w (some ⟨b, 0, none⟩) n (fun i => l.getD i 0) :=
  ⟨fun i hi => (h i hi).1, fun _ => ⟨b, 0, rfl, (Array.getElem?_eq_some_iff.1 hb).1, fun i hi => by rw [Nat.zero_add, cell_of_row w b i cs _ fr hb]; exact (h i hi).2⟩⟩
def dogF : Fo := .st [100, 111, 103] .no
def catF : Fo := .li (.st [99, 97, 116] (.st [100, 111, 103] .no)) .no
def nilF : Fo := .li .no .no
theorem dog_arg (w : World) (b c : Nat) {t : TypeId} {fr fr' : Nat × Nat} (h1 : w.heap[b]? = some (.cells #[.int .u8 100, .int .u8 111, .int .u8 103] 5 fr)) (h2 : w.heap[c]? = some (.cells #[.bool false, .slice (some ⟨b, 0, none⟩) 3 3, .int .i64 0] t fr')) : Arg w (some ⟨c, 0, none⟩) 1 1 (rows dogF) := by
  have hs := sl_const (l := [100, 111, 103]) h1 rfl (fun i hi => match i, hi with | 0, _ => ⟨by decide, rfl⟩ | 1, _ => ⟨by decide, rfl⟩ | 2, _ => ⟨by decide, rfl⟩)
  refine ⟨rfl, Nat.le_refl _, (fun h => by cases h), nodes_of h2 fun i x hx => ?_, fun i x hx => ?_⟩
  · match i, hx with
    | 0, hx =>
      cases hx
      exact ⟨rfl, ⟨_, _, rfl, Nat.le_refl _, by decide, (fun h => by cases h), hs⟩, rfl⟩
  · match i, hx with
    | 0, hx =>
      cases hx
      exact ⟨by decide, by decide, by decide⟩
theorem nil_arg (w : World) (c : Nat) {t : TypeId} {fr' : Nat × Nat} (h2 : w.heap[c]? = some (.cells #[.bool true, .slice none 0 0, .int .i64 0] t fr')) : Arg w (some ⟨c, 0, none⟩) 1 1 (rows nilF) := by
  refine ⟨rfl, Nat.le_refl _, (fun h => by cases h), nodes_of h2 fun i x hx => ?_, fun i x hx => ?_⟩
  · match i, hx with
    | 0, hx =>
      cases hx
      exact ⟨rfl, ⟨_, _, rfl, Nat.le_refl _, by decide, fun _ => ⟨rfl, rfl⟩, ⟨(fun i hi => by cases hi), (fun h => by cases h)⟩⟩, rfl⟩
  · match i, hx with
    | 0, hx =>
      cases hx
      exact ⟨by decide, by decide, by decide⟩
theorem cat_arg (w : World) (b d c : Nat) {t : TypeId} {fr fr1 fr' : Nat × Nat} (h1 : w.heap[b]? = some (.cells #[.int .u8 99, .int .u8 97, .int .u8 116] 5 fr)) (h3 : w.heap[d]? = some (.cells #[.int .u8 100, .int .u8 111, .int .u8 103] 5 fr1))
    (h2 : w.heap[c]? = some (.cells #[.bool true, .slice none 0 0, .int .i64 2, .bool false, .slice (some ⟨b, 0, none⟩) 3 3, .int .i64 0, .bool false, .slice (some ⟨d, 0, none⟩) 3 3, .int .i64 0] t fr')) : Arg w (some ⟨c, 0, none⟩) 3 3 (rows catF) := by
  have hs := sl_const (l := [99, 97, 116]) h1 rfl (fun i hi => match i, hi with | 0, _ => ⟨by decide, rfl⟩ | 1, _ => ⟨by decide, rfl⟩ | 2, _ => ⟨by decide, rfl⟩)
  have hs2 := sl_const (l := [100, 111, 103]) h3 rfl (fun i hi => match i, hi with | 0, _ => ⟨by decide, rfl⟩ | 1, _ => ⟨by decide, rfl⟩ | 2, _ => ⟨by decide, rfl⟩)
  refine ⟨rfl, Nat.le_refl _, (fun h => by cases h), nodes_of h2 fun i x hx => ?_, fun i x hx => ?_⟩
  · match i, hx with
    | 0, hx =>
      cases hx
      exact ⟨rfl, ⟨_, _, rfl, Nat.le_refl _, by decide, fun _ => ⟨rfl, rfl⟩, ⟨(fun i hi => by cases hi), (fun h => by cases h)⟩⟩, rfl⟩
    | 1, hx =>
      cases hx
      exact ⟨rfl, ⟨_, _, rfl, Nat.le_refl _, by decide, (fun h => by cases h), hs⟩, rfl⟩
    | 2, hx =>
      cases hx
      exact ⟨rfl, ⟨_, _, rfl, Nat.le_refl _, by decide, (fun h => by cases h), hs2⟩, rfl⟩
  · match i, hx with
    | 0, hx => cases hx; exact ⟨by decide, by decide, by decide⟩
    | 1, hx => cases hx; exact ⟨by decide, by decide, by decide⟩
    | 2, hx => cases hx; exact ⟨by decide, by decide, by decide⟩
set_option maxHeartbeats 2000000 in
theorem fixed_walk (w : World) : Calls Try.prog 8 #[] w fun e w' => e = .returned (.bool true) ∧ Below w.heap.size w w' := by
  have cvd := fun w : World => Lib.run_convert_bytes_const (P := Try.prog) w 25 5 #[.int .u8 100, .int .u8 111, .int .u8 103] 3 3 Try.underlying25 Try.underlying5
  have cvc := fun w : World => Lib.run_convert_bytes_const (P := Try.prog) w 25 5 #[.int .u8 99, .int .u8 97, .int .u8 116] 3 3 Try.underlying25 Try.underlying5
  go_enter Try.func8, Try.ntmps8
  go_wp2_with fail
  refine (encode_ok (F := dogF) rfl rfl (by decide) (by decide) (dog_arg _ w.heap.size (w.heap.size + 1) (blk_alloc (heap_alloc_new _ _)) (heap_alloc2_new _ _ _))).mono ?_
  rintro e w1 ⟨⟨v1, rfl, o1⟩, b1⟩
  have B0 : Below w.heap.size w ((w.alloc (.cells #[.int .u8 100, .int .u8 111, .int .u8 103] 5 (3, 4))).alloc (.cells #[.bool false, .slice (some ⟨w.heap.size, 0, none⟩) 3 3, .int .i64 0] 43)) := ((Below.refl _ _).alloc (Nat.le_refl _) _).alloc (by simp) _
  replace B0 := Lib.hid (B0.trans (b1.mono B0.size))
  clear b1
  have O1 := Lib.hid o1
  clear o1
  have cv2 := cvd (w1.alloc (.cells #[.int .u8 99, .int .u8 97, .int .u8 116] 5 (3, 4)))
  rw [show (w1.alloc (.cells #[.int .u8 99, .int .u8 97, .int .u8 116] 5 (3, 4))).heap.size = w1.heap.size + 1 by simp] at cv2
  go_wp2_with fail
  have hs2 : (((w1.alloc (.cells #[.int .u8 99, .int .u8 97, .int .u8 116] 5 (3, 4))).alloc (.cells #[.int .u8 100, .int .u8 111, .int .u8 103] 5 (3, 4)))).heap.size = w1.heap.size + 2 := by simp
  refine (encode_ok (F := catF) rfl rfl (by decide) (by decide) (cat_arg _ w1.heap.size (w1.heap.size + 1) (w1.heap.size + 1 + 1) (blk_alloc (blk_alloc (heap_alloc_new _ _))) (blk_alloc (heap_alloc2_new _ _ _)) (by
    have := heap_alloc_new ((w1.alloc (.cells #[.int .u8 99, .int .u8 97, .int .u8 116] 5 (3, 4))).alloc (.cells #[.int .u8 100, .int .u8 111, .int .u8 103] 5 (3, 4))) (.cells #[.bool true, .slice none 0 0, .int .i64 2, .bool false, .slice (some ⟨w1.heap.size, 0, none⟩) 3 3, .int .i64 0, .bool false, .slice (some ⟨w1.heap.size + 1, 0, none⟩) 3 3, .int .i64 0] 43)
    rw [hs2] at this
    exact this))).mono ?_
  rintro e w2 ⟨⟨v2, rfl, o2⟩, b2⟩
  have C0 : Below w1.heap.size w1 (((w1.alloc (.cells #[.int .u8 99, .int .u8 97, .int .u8 116] 5 (3, 4))).alloc (.cells #[.int .u8 100, .int .u8 111, .int .u8 103] 5 (3, 4))).alloc (.cells #[.bool true, .slice none 0 0, .int .i64 2, .bool false, .slice (some ⟨w1.heap.size, 0, none⟩) 3 3, .int .i64 0, .bool false, .slice (some ⟨w1.heap.size + 1, 0, none⟩) 3 3, .int .i64 0] 43)) := (((Below.refl _ _).alloc (Nat.le_refl _) _).alloc (by simp) _).alloc (by simp; omega) _
  replace C0 := C0.trans (b2.mono C0.size)
  replace O1 := Lib.hid (own_below O1.out C0)
  replace B0 := Lib.hid (B0.out.trans (C0.mono B0.out.size))
  have O2 := Lib.hid o2
  clear b2 o2 C0 cvd cvc cv2 hs2
  go_wp2_with fail
  refine (encode_ok (F := nilF) rfl rfl (by decide) (by decide) (nil_arg _ w2.heap.size (heap_alloc_new _ _))).mono ?_
  rintro e w3 ⟨⟨v3, rfl, o3⟩, b3⟩
  have C0 : Below w2.heap.size w2 (w2.alloc (.cells #[.bool true, .slice none 0 0, .int .i64 0] 43)) := (Below.refl _ _).alloc (Nat.le_refl _) _
  replace C0 := C0.trans (b3.mono C0.size)
  have c1 := conv_own (own_below O1.out C0) (by decide)
  have c2 := conv_own (own_below O2.out C0) (by decide)
  have c3 := conv_own o3 (by decide)
  rw [show strL (wrs dogF) = ⟨#[131, 100, 111, 103]⟩ by rfl] at c1
  rw [show strL (wrs catF) = ⟨#[200, 131, 99, 97, 116, 131, 100, 111, 103]⟩ by rfl] at c2
  rw [show strL (wrs nilF) = ⟨#[192]⟩ by rfl] at c3
  replace B0 := Lib.hid (B0.out.trans (C0.mono B0.out.size))
  clear b3 o3 C0 O1 O2
  go_wp2_with fail
  go_ret
  exact ⟨rfl, B0.out⟩
end Go.Proofs.Ytfpeliolngfkpaa
