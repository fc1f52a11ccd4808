/- The statement KeccakSums at every slice of bytes. -/
import Derived.Test.YtgejfdbbapjpmaaDoorKkQ
import Derived.Lib.SlBytesRow
import Derived.Lib.ConvBytes
namespace Go.Proofs.YtgejfdbbapjpmaaDoor
open Go.RowKit SmWord
set_option maxRecDepth 100000

def str (l : List UInt8) : ByteArray := ⟨l.toArray⟩
theorem str_of (s : ByteArray) : str s.data.toList = s := by cases s; simp [str]
theorem str_size (l : List UInt8) : (str l).size = l.length := by simp [str, ByteArray.size]
theorem str_get (l : List UInt8) {i : Nat} (hi : i < (str l).size) : (str l)[i].toNat = (l.getD i 0).toNat := by
  have h : i < l.length := by rw [← str_size]; exact hi
  rw [List.getD, List.getElem?_eq_getElem h]
  rfl
/-- The signs of these bytes. -/
def bs (f : Nat → Nat) (n : Nat) : List UInt8 := (List.range n).map fun i => UInt8.ofNat (f i)
theorem bs_length (f : Nat → Nat) (n : Nat) : (bs f n).length = n := by simp [bs]
theorem bs_congr {f g : Nat → Nat} {n : Nat} (h : ∀ i, i < n → f i = g i) : bs f n = bs g n := by
  unfold bs
  exact List.map_congr_left fun i hi => by rw [h i (List.mem_range.1 hi)]
theorem conv_list (w : World) (b off c : Nat) (l : List UInt8) (h : ∀ i, i < l.length → w.cell? ⟨b, off + i, none⟩ = some (.int .u8 (((l.getD i 0).toNat : Nat) : Int))) :
    (convert 27 9 (.slice (some ⟨b, off, none⟩) l.length c)).run Tryd.prog w = .ok (.string (str l)) w := by
  have hb : Lib.Bytes w b off (str l) := fun i hi => by
    rw [h i (by rw [← str_size]; exact hi), str_get l hi]
  have := Lib.run_convert_whole (P := Tryd.prog) w 27 5 9 Tryd.underlying27 Tryd.underlying5 Tryd.underlying9 b off (str l) hb c
  rwa [str_size] at this
theorem conv_sl {w : World} {A : Option Addr} {n c : Nat} {f : Nat → Nat} (h : Sl w A n f) :
    (convert 27 9 (.slice A n c)).run Tryd.prog w = .ok (.string (str (bs f n))) w := by
  by_cases hn : 0 < n
  · obtain ⟨b, off, rfl, _, hc⟩ := h.cells hn
    have := conv_list w b off c (bs f n) (fun i hi => by
      rw [bs_length] at hi
      rw [hc i hi]
      have e : (bs f n).getD i 0 = UInt8.ofNat (f i) := by simp [bs, List.getD, hi]
      rw [e]
      have := h.small i hi
      simp
      omega)
    rwa [bs_length] at this
  · obtain rfl : n = 0 := by omega
    cases A with
    | none => exact run_convert_bytes_nil (P := Tryd.prog) w 27 5 Tryd.underlying27 Tryd.underlying5 0 c 9 Tryd.underlying9
    | some a =>
      rw [run_convert_bytes_string w 27 9 5 (some a) 0 c Tryd.underlying27 Tryd.underlying5 Tryd.underlying9]
      exact run_bytesToString (P := Tryd.prog) w a 0 c [] (by kernel_rfl)

theorem Tryd.guardW : Tryd.prog.eqGuardType Tryd.prog.depth 32 = false := by kernel_rfl
theorem Tryd.guardH : Tryd.prog.eqGuardType Tryd.prog.depth 29 = false := by kernel_rfl
theorem Tryd.cells8 : Tryd.prog.cellsOf 5 = 1 := by kernel_rfl
theorem equal_ha (f : Nat → Nat) (w : World) : (Op.equalIn 10000 29 (.agg (ha f)) (.agg (ha f))).run Tryd.prog w = .ok true w := by
  obtain ⟨r, hr, hiff⟩ := equal_ints (k := .u8) Tryd.underlying29 Tryd.underlying5 Tryd.cells8 (ha f) (ha f) (arr_size _ _ _) (arr_size _ _ _) (fun i hi => ⟨_, _, arr_get .u8 _ hi, arr_get .u8 _ hi⟩) w
  rw [hr, hiff.2 rfl]
theorem equal_wd (V : Nat) (w : World) : (Op.equalIn 10000 32 (.agg (wa V)) (.agg (wa V))).run Tryd.prog w = .ok true w := by
  rw [equal_wa]; simp
theorem sums_big (A : Option Addr) (n c : Nat) (w : World) (hn : 3000 < n) (hm : n ≤ maxLen) (hT : Tab w) :
    Calls Tryd.prog 4 #[.slice A n c] w fun e w' => e = .returned (.bool true) ∧ Below w.heap.size w w' := by
  have hm' : n ≤ 9223372036854775807 := hm
  have HT := Lib.hid hT
  clear hT
  go_enter Tryd.func4, Tryd.ntmps4
  go_wp2_with fail
  refine (fixed_walk _ HT.out).mono ?_
  rintro e w1 ⟨rfl, b1⟩
  go_wp2_with fail
  go_ret
  exact ⟨rfl, b1⟩
theorem own_sl {w : World} {base : Nat} {v : Value} {k : Nat} {f : Nat → Nat} (h : w.ownsRow base 5 1 v k (bl f k)) (hf : ∀ i, i < k → f i < 256) : ∃ A c, v = .slice A k c ∧ k ≤ c ∧ Sl w A k f := by
  rcases h.2 with ⟨rfl, rfl⟩ | ⟨g, cap, cur, rfl, hb, hg, h1, h2, h3, h4⟩
  · exact ⟨none, 0, rfl, Nat.le_refl _, hf, fun h => by omega⟩
  · refine ⟨_, cap, rfl, h1, hf, fun h => ⟨g, 0, rfl, (Array.getElem?_eq_some_iff.1 hg).1, fun i hi => ?_⟩⟩
    rw [Nat.zero_add]
    refine blk_cell hg ?_
    have e : cur.toList[i]? = (cur.toList.take (k * 1))[i]? := by rw [List.getElem?_take_of_lt (by omega)]
    rw [← Array.getElem?_toList, e, h4, bl_get f hi]
set_option maxHeartbeats 2000000 in
theorem sums_core (A : Option Addr) (n c V : Nat) (f H : Nat → Nat) (w : World) (hn : n ≤ 3000) (hA : A = none → n = 0 ∧ c = 0) (hT : Tab w) (hs : Sl w A n f)
    (H1 : Hid (∀ (A : Option Addr) (c : Nat) (w : World), n ≤ c → Tab w → Sl w A n f → Calls Tryd.prog 9 #[.slice A n c] w fun e w' => e = .returned (.agg (ha H)) ∧ Below w.heap.size w w'))
    (H2 : Hid (∀ (A : Option Addr) (c : Nat) (w : World), (A = none → n = 0 ∧ c = 0) → Sl w A n f → Calls Tryd.prog 10 #[.slice A n c] w fun e w' => e = .returned (.agg (ha H)) ∧ Below w.heap.size w w'))
    (H3 : Hid (∀ (A : Option Addr) (c : Nat) (w : World), n ≤ c → Tab w → Sl w A n f → Calls Tryd.prog 11 #[.slice A n c] w fun e w' => e = .returned (wd V) ∧ Below w.heap.size w w'))
    (H4 : Hid (∀ (A : Option Addr) (c : Nat) (w : World), (A = none → n = 0 ∧ c = 0) → Sl w A n f → Calls Tryd.prog 12 #[.slice A n c] w fun e w' => e = .returned (wd V) ∧ Below w.heap.size w w')) :
    Calls Tryd.prog 4 #[.slice A n c] w fun e w' => e = .returned (.bool true) ∧ Below w.heap.size w w' := by
  have HS := Lib.hid hs
  have HT := Lib.hid hT
  have HA := Lib.hid hA
  have bW : Below w.heap.size w (w.alloc (.cells #[] 5)) := (Below.refl _ _).alloc (Nat.le_refl _) _
  have o0 : (w.alloc (.cells #[] 5)).ownsRow w.heap.size 5 1 (.slice (some ⟨w.heap.size, 0, none⟩) 0 0) 0 (bl f 0) :=
    ⟨rfl, .inr ⟨w.heap.size, 0, #[], rfl, Nat.le_refl _, heap_alloc_new _ _, Nat.le_refl _, Nat.zero_le _, rfl, rfl⟩⟩
  clear hs hT hA
  go_enter Tryd.func4, Tryd.ntmps4
  have hsl := HS.out.below bW
  go_upto_region 4 with (at_builtin; refine append_sl rfl _ _ rfl w.heap.size _ 0 (bl f 0) rfl o0 A n c f rfl HA.out hsl (by omega) (by simp) ?_; intro v1 w1 hown hgrow)
  rw [Nat.zero_add, show bl f 0 ++ bl f n = bl f n from List.nil_append _] at hown
  have hb1 : Below w.heap.size w w1 := bW.grown hgrow (by simp) (fun b hb' => by have := (o0.lt b hb').1; omega)
  obtain ⟨A1, c1, rfl, hc1, hs1⟩ := own_sl hown HS.out.small
  replace HT := Lib.hid (HT.out.below hb1)
  replace HS := Lib.hid (HS.out.below hb1)
  have HS1 := Lib.hid hs1
  have HB := Lib.hid hb1
  clear hown hgrow bW o0 hsl hb1 hs1
  have e1 := fun w => equal_ha H w
  have e2 := fun w => equal_wd V w
  have g1 := Tryd.guardH
  have g2 := Tryd.guardW
  go_wp2_with fail
  refine (fixed_walk w1 HT.out).mono ?_
  rintro e w2 ⟨rfl, b2⟩
  replace HB := Lib.hid (HB.out.trans (b2.mono HB.out.size))
  replace HS := Lib.hid (HS.out.below b2)
  replace HS1 := Lib.hid (HS1.out.below b2)
  replace HT := Lib.hid (HT.out.below b2)
  clear b2
  go_wp2_with fail
  refine (H1.out A1 c1 w2 hc1 HT.out HS1.out).mono ?_
  rintro e w3 ⟨rfl, b3⟩
  replace HB := Lib.hid (HB.out.trans (b3.mono HB.out.size))
  replace HS := Lib.hid (HS.out.below b3)
  replace HS1 := Lib.hid (HS1.out.below b3)
  replace HT := Lib.hid (HT.out.below b3)
  clear b3
  go_wp2_with fail
  refine (H2.out A c w3 HA.out HS.out).mono ?_
  rintro e w4 ⟨rfl, b4⟩
  replace HB := Lib.hid (HB.out.trans (b4.mono HB.out.size))
  replace HS := Lib.hid (HS.out.below b4)
  replace HS1 := Lib.hid (HS1.out.below b4)
  replace HT := Lib.hid (HT.out.below b4)
  clear b4
  go_wp2_with fail
  refine (H3.out A1 c1 w4 hc1 HT.out HS1.out).mono ?_
  rintro e w5 ⟨rfl, b5⟩
  replace HB := Lib.hid (HB.out.trans (b5.mono HB.out.size))
  replace HS := Lib.hid (HS.out.below b5)
  replace HS1 := Lib.hid (HS1.out.below b5)
  replace HT := Lib.hid (HT.out.below b5)
  clear b5
  go_wp2_with fail
  refine (H4.out A c w5 HA.out HS.out).mono ?_
  rintro e w6 ⟨rfl, b6⟩
  replace HB := Lib.hid (HB.out.trans (b6.mono HB.out.size))
  replace HS := Lib.hid (HS.out.below b6)
  replace HS1 := Lib.hid (HS1.out.below b6)
  replace HT := Lib.hid (HT.out.below b6)
  clear b6
  have v1 := conv_sl (c := c1) HS1.out
  have v2 := conv_sl (c := c) HS.out
  generalize str (bs f n) = S at *
  go_wp2_with fail
  go_ret
  exact ⟨rfl, HB.out⟩
theorem sums_walk (A : Option Addr) (n c : Nat) (f : Nat → Nat) (w : World) (hm : n ≤ maxLen) (hA : A = none → n = 0 ∧ c = 0) (hT : Tab w) (hs : Sl w A n f) :
    Calls Tryd.prog 4 #[.slice A n c] w fun e w' => e = .returned (.bool true) ∧ Below w.heap.size w w' := by
  by_cases h : 3000 < n
  · exact sums_big A n c w h hm hT
  · exact sums_core A n c (kw f n) f (kk f n) w (by omega) hA hT hs (Lib.hid fun A c w hc hT hs => sum_walk A n c f w hm hc hT hs) (Lib.hid fun A c w hA hs => rsum_walk A n c f w (by omega) hA hs)
      (Lib.hid fun A c w hc hT hs => word_walk A n c f w hm hc hT hs) (Lib.hid fun A c w hA hs => rword_walk A n c f w (by omega) hA hs)
end Go.Proofs.YtgejfdbbapjpmaaDoor
