/- Which bytes a text says: the document's Bytes. -/
import Derived.Test.YtlplncfonphkeaaDoorHxD
import Derived.Laws.AppendOwn
import Derived.Maps.AppendAt
namespace Go.Proofs.YtlplncfonphkeaaDoor
open Go.RowKit SmWord
set_option maxRecDepth 100000

/-- A text of fewer than two signs, or not 0x ahead, or an odd number of signs. -/
theorem rbytes_no0 (s : ByteArray) (w : World) (hs : s.size < 2) :
    Calls Tryd.prog 13 #[.string s] w fun e w' => e = .returned (.tuple #[.slice (some ⟨w.heap.size, 0, none⟩) 0 0, .int .i64 2]) ∧ Below w.heap.size w w' := by
  go_enter Tryd.func13, Tryd.ntmps13
  go_wp2_with fail
  go_ret2
  exact ⟨rfl, (Below.refl _ _).alloc (Nat.le_refl _) _⟩
theorem rbytes_no1 (s : ByteArray) (w : World) (h2 : 2 ≤ s.size) (hn : s.size ≤ 140737488355328) (h : ¬ (s[0].toNat = 48 ∧ s[1].toNat = 120 ∧ s.size % 2 = 0)) :
    Calls Tryd.prog 13 #[.string s] w fun e w' => e = .returned (.tuple #[.slice (some ⟨w.heap.size, 0, none⟩) 0 0, .int .i64 2]) ∧ Below w.heap.size w w' := by
  generalize h0 : s[0].toNat = a at *
  generalize h1 : s[1].toNat = b at *
  by_cases ha : a = 48
  · by_cases hb : b = 120
    · have e1 : (s.size : Int) % 2 = 1 := by
        rcases Nat.mod_two_eq_zero_or_one s.size with e | e
        · exact absurd ⟨ha, hb, e⟩ h
        · omega
      subst ha; subst hb
      clear h
      go_enter Tryd.func13, Tryd.ntmps13
      go_wp2_with fail
      go_ret2
      exact ⟨rfl, (Below.refl _ _).alloc (Nat.le_refl _) _⟩
    · subst ha
      clear h
      go_enter Tryd.func13, Tryd.ntmps13
      go_wp2_with fail
      all_goals first | (exfalso; omega) | (go_ret2; exact ⟨rfl, (Below.refl _ _).alloc (Nat.le_refl _) _⟩)
  · clear h
    go_enter Tryd.func13, Tryd.ntmps13
    go_wp2_with fail
    all_goals first | (exfalso; omega) | (go_ret2; exact ⟨rfl, (Below.refl _ _).alloc (Nat.le_refl _) _⟩)
/-- What a round leaves of the row: one byte more. -/
theorem row_next {w0 : World} {B : Nat} {v : Value} {k : Nat} {f : Nat → Nat} (h : w0.ownsRow B 5 1 v (k + 1) ((List.range k).map (fun i => Value.int .u8 ((f i : Nat) : Int)) ++ [.int .u8 ((f k : Nat) : Int)])) :
    w0.ownsRow B 5 1 v (k + 1) ((List.range (k + 1)).map (fun i => Value.int .u8 ((f i : Nat) : Int))) := by
  rw [List.range_succ, List.map_append]; exact h
theorem row_sl {w : World} {B : Nat} {v : Value} {k : Nat} {f : Nat → Nat} (h : w.ownsRow B 5 1 v k ((List.range k).map (fun i => Value.int .u8 ((f i : Nat) : Int)))) (hf : ∀ i, i < k → f i < 256) : ∃ A c, v = .slice A k c ∧ Sl w A k f := by
  rcases h.2 with ⟨rfl, rfl⟩ | ⟨g, cap, cur, rfl, hb, hg, h1, h2, h3, h4⟩
  · exact ⟨none, 0, rfl, hf, fun h => by omega⟩
  · refine ⟨_, cap, rfl, hf, fun h => ⟨g, 0, rfl, (Array.getElem?_eq_some_iff.1 hg).1, fun i hi => ?_⟩⟩
    rw [Nat.zero_add]
    refine blk_cell hg ?_
    have e : cur.toList[i]? = (cur.toList.take (k * 1))[i]? := by rw [List.getElem?_take_of_lt (by omega)]
    rw [← Array.getElem?_toList, e, h4]
    simp [hi]
/-- What the document's Bytes leaves: a slice that holds these bytes; or none, and the error 2. -/
def Left (d : List UInt8) (w : World) (e : Ending) (w' : World) : Prop :=
  (okD d → ∃ A c, e = .returned (.tuple #[.slice A (d.length / 2) c, .int .i64 0]) ∧ Sl w' A (d.length / 2) (pv d)) ∧
  (¬ okD d → ∃ A c, e = .returned (.tuple #[.slice A 0 c, .int .i64 2])) ∧ Below w.heap.size w w'
theorem okD_two {d : List UInt8} {k : Nat} (h : okD (d.take (2 * k))) (hk : 2 * k + 1 < d.length) (h1 : vc (d.getD (2 * k) 0).toNat < 16) (h2 : vc (d.getD (2 * k + 1) 0).toNat < 16) : okD (d.take (2 * (k + 1))) :=
  okD_take (k := 2 * k + 1) (okD_take h (Nat.lt_of_succ_lt hk) h1) hk h2
theorem Tryd.parts8 : ∃ i, Tryd.prog.info? 5 = some i ∧ i.zero = some (.int .u8 0) ∧ i.size = 1 ∧ i.bytes = 1 := info_parts Tryd.info8
theorem left_no {d : List UInt8} {w w' : World} {A : Option Addr} (h : ¬ okD d) (hb : Below w.heap.size w w') : Left d w (.returned (.tuple #[.slice A 0 0, .int .i64 2])) w' :=
  ⟨fun h' => absurd h' h, fun _ => ⟨A, 0, rfl⟩, hb⟩
theorem left_yes {d : List UInt8} {w w' : World} {v : Value} {k B : Nat} (hl : d.length = 2 * k) (h : okD d) (ho : w'.ownsRow B 5 1 v k ((List.range k).map (fun i => Value.int .u8 ((pv d i : Nat) : Int)))) (hb : Below w.heap.size w w') :
    Left d w (.returned (.tuple #[v, .int .i64 0])) w' := by
  refine ⟨fun _ => ?_, fun h' => absurd h h', hb⟩
  obtain ⟨A, c, rfl, hs⟩ := row_sl ho (fun i hi => pv_lt h (by omega))
  have e : d.length / 2 = k := by omega
  rw [e]
  exact ⟨A, c, rfl, hs⟩
set_option maxHeartbeats 1000000 in
theorem rbytes_walk (s : ByteArray) (d : List UInt8) (w : World) (h2 : 2 ≤ s.size) (hn : s.size ≤ 70368744177664) (h0 : s[0].toNat = 48) (h1 : s[1].toNat = 120) (hm : s.size % 2 = 0) (hs : Hid (Str s (48 :: 120 :: d))) :
    Calls Tryd.prog 13 #[.string s] w (Left d w) := by
  have e1 : (s.size : Int) % 2 = 0 := by omega
  have HM := Lib.hid hm
  clear hm
  obtain ⟨i0, hi0, hz0, hz1, hz2⟩ := Tryd.parts8
  go_enter Tryd.func13, Tryd.ntmps13
  have e2 : decide ((s.size : Int) < 2) = false := decide_eq_false (by omega)
  go_wp2_with fail
  clear e1 e2 h0 h1
  have bW : Below w.heap.size w ((w.alloc (.cells #[] 5)).alloc (.cells #[] 5)) := ((Below.refl _ _).alloc (Nat.le_refl _) _).alloc (by simp) _
  have o0 : ((w.alloc (.cells #[] 5)).alloc (.cells #[] 5)).ownsRow (w.heap.size + 1) 5 1 (.slice (some ⟨w.heap.size + 1, 0, none⟩) 0 0) 0 ((List.range 0).map (fun i => Value.int .u8 ((pv d i : Nat) : Int))) :=
    ⟨rfl, .inr ⟨w.heap.size + 1, 0, #[], rfl, Nat.le_refl _, heap_alloc2_new _ _ _, Nat.le_refl _, Nat.zero_le _, rfl, rfl⟩⟩
  generalize (w.alloc (.cells #[] 5)).alloc (.cells #[] 5) = W at *
  go_loopw [5, 6] (fun v i wr => ∃ k : Nat, 2 * k + 2 ≤ s.size ∧ i = .int .i64 ((2 * k + 2 : Nat) : Int) ∧ wr.ownsRow (w.heap.size + 1) 5 1 v k ((List.range k).map (fun i => Value.int .u8 ((pv d i : Nat) : Int))) ∧ Below w.heap.size w wr ∧ okD (d.take (2 * k))) (fun _ i _ => s.size - (intOf i).toNat)
  case atStart => exact ⟨0, by omega, rfl, o0, bW, by intro c hc; cases hc⟩
  case round =>
    obtain ⟨k, hk, rfl, hown, hb, ho⟩ := hrel
    have HO := Lib.hid ho
    have HB := Lib.hid hb
    clear ho hb o0 bW
    by_cases hlt : 2 * k + 2 < s.size
    · have i1 : 2 * k + 2 < s.size := hlt
      have i2 : 2 * k + 3 < s.size := by have := HM.out; omega
      have g1 := hs.out.get (2 * k + 2) i1
      have g2 := hs.out.get (2 * k + 3) i2
      have HL := Lib.hid hs.out.size
      rw [show (48 :: 120 :: d).getD (2 * k + 2) 0 = d.getD (2 * k) 0 from rfl] at g1
      rw [show (48 :: 120 :: d).getD (2 * k + 3) 0 = d.getD (2 * k + 1) 0 from rfl] at g2
      have hl : 2 * k + 1 < d.length := by have := HL.out; simp at this; omega
      have HT := Lib.hid (fun h1 h2 => okD_two HO.out hl h1 h2)
      have HP := Lib.hid (show pv d k = vl (d.getD (2 * k) 0) * 16 + vl (d.getD (2 * k + 1) 0) from rfl)
      have HX := Lib.hid (fun h => okD_bad (d := d) (k := 2 * k) (Nat.lt_of_succ_lt hl) h)
      have HY := Lib.hid (fun h => okD_bad (d := d) (k := 2 * k + 1) hl h)
      have c1 := UInt8.toNat_lt (d.getD (2 * k) 0)
      have c2 := UInt8.toNat_lt (d.getD (2 * k + 1) 0)
      have e1 : ((2 * k + 2 : Nat) : Int) + 1 = ((2 * k + 3 : Nat) : Int) := by omega
      have v1 := vc_lt (d.getD (2 * k) 0).toNat
      have v2 := vc_lt (d.getD (2 * k + 1) 0).toNat
      unfold vl at HP
      clear hl
      generalize (d.getD (2 * k) 0).toNat = x at *
      generalize (d.getD (2 * k + 1) 0).toNat = y at *
      generalize h3 : 2 * k + 3 = q at *
      generalize h2' : 2 * k + 2 = p at *
      have HR := Lib.hid h2'
      clear h2' h3 HL
      by_cases hx : vc x < 16
      · clear v1 HX
        by_cases hy : vc y < 16
        · clear v2 HY
          have K1 := fun w => rvalue_yes x w c1 hx
          have K2 := fun w => rvalue_yes y w c2 hy
          have hv : ((vc x : Nat) : Int) * 16 + ((vc y : Nat) : Int) = ((pv d k : Nat) : Int) := by rw [HP.out]; omega
          have hb8 : pv d k < 256 := by rw [HP.out]; omega
          have hbs := HB.out.size
          have hk0 : k ≤ s.size := by have := HR.out; omega
          have hr2 := hown.alloc (.cells #[Value.int .u8 ((pv d k : Nat) : Int)] 5)
          have HW := Lib.hid hr2
          clear hown hr2
          go_wp2_with (first | (go_at_call 27; with_reducible refine (K1 _).mono ?_; rintro e w' ⟨rfl, rfl⟩) | (go_at_call 27; with_reducible refine (K2 _).mono ?_; rintro e w' ⟨rfl, rfl⟩) | (at_builtin; refine wpList_append_own_at _ rfl _ _ 22 rfl (w.heap.size + 1) 5 i0 (.int .u8 0) 1 1 Tryd.underlying22 hi0 hz0 hz1 hz2 rfl (by decide) _ _ _ rfl HW.out ⟨wr.heap.size, 0, none⟩ 1 1 [.int .u8 ((pv d k : Nat) : Int)] rfl rfl (cell_one_new _ _ _) ?c2 ?c3 ?c4 ?c5 ?_))
          case c2 => intro u hu; simp only [List.mem_cons, List.mem_nil_iff, or_false] at hu; subst hu; rfl
          case c3 => unfold maxLen; omega
          case c4 => omega
          case c5 => simp; omega
          intro v' w1 hown' hgrow _ hob
          clear hob
          have HO' := Lib.hid (row_next hown')
          have HB' := Lib.hid ((HB.out.alloc hbs _).grown hgrow (by simp; omega) (fun b hb' => by have := (HW.out.lt b hb').1; omega))
          clear hown' hgrow
          go_wp2_with fail
          have hr := HR.out
          exact ⟨⟨k + 1, by omega, by rw [show 2 * (k + 1) + 2 = p + 2 by omega]; go_num, HO'.out, HB'.out, HT.out hx hy⟩, by simp [intOf]; omega⟩
        · have hy1 : vc y = 16 := by omega
          clear v2 hy
          have K1 := fun w => rvalue_yes x w c1 hx
          have K2 := fun w => rvalue_no y w c2 hy1
          have HN := HY hy1
          clear HY hown
          go_wp2_with (first | (go_at_call 27; with_reducible refine (K1 _).mono ?_; rintro e w' ⟨rfl, rfl⟩) | (go_at_call 27; with_reducible refine (K2 _).mono ?_; rintro e w' ⟨rfl, rfl⟩))
          go_ret2
          exact left_no HN HB.out
      · have hx1 : vc x = 16 := by omega
        clear v1 hx
        have K1 := fun w => rvalue_no x w c1 hx1
        have HN := HX hx1
        clear HX hown
        by_cases hy : vc y < 16
        · have K2 := fun w => rvalue_yes y w c2 hy
          clear v2
          go_wp2_with (first | (go_at_call 27; with_reducible refine (K1 _).mono ?_; rintro e w' ⟨rfl, rfl⟩) | (go_at_call 27; with_reducible refine (K2 _).mono ?_; rintro e w' ⟨rfl, rfl⟩))
          go_ret2
          exact left_no HN HB.out
        · have hy1 : vc y = 16 := by omega
          clear v2 hy
          have K2 := fun w => rvalue_no y w c2 hy1
          go_wp2_with (first | (go_at_call 27; with_reducible refine (K1 _).mono ?_; rintro e w' ⟨rfl, rfl⟩) | (go_at_call 27; with_reducible refine (K2 _).mono ?_; rintro e w' ⟨rfl, rfl⟩))
          go_ret2
          exact left_no HN HB.out
    · have hl : d.length = 2 * k := by have := hs.out.size; simp at this; omega
      have hok : okD d := by have := HO.out; rwa [List.take_of_length_le (by omega)] at this
      have HW := Lib.hid hown
      clear hown
      go_wp2_with fail
      go_ret2
      exact left_yes hl hok HW.out HB.out
theorem rbytes_short (l : List UInt8) (w : World) (h : l.length < 2) :
    Calls Tryd.prog 13 #[.string (str l)] w fun e w' => e = .returned (.tuple #[.slice (some ⟨w.heap.size, 0, none⟩) 0 0, .int .i64 2]) ∧ Below w.heap.size w w' :=
  rbytes_no0 (str l) w (by rw [str_size]; exact h)
theorem sign_of {c d : UInt8} (h : c.toNat = d.toNat) : c = d := by
  have := congrArg UInt8.ofNat h
  simpa using this
/-- The document's Bytes at a text that is not 0x and pairs of digits. -/
theorem rbytes_no (l : List UInt8) (w : World) (hn : l.length ≤ 70368744177664) (h : ∀ d, ¬ form l d) :
    Calls Tryd.prog 13 #[.string (str l)] w fun e w' => (∃ A c, e = .returned (.tuple #[.slice A 0 c, .int .i64 2])) ∧ Below w.heap.size w w' := by
  match l, hn, h with
  | [], _, _ => exact (rbytes_short _ w (by simp)).mono fun e w' ⟨h1, h2⟩ => ⟨⟨_, _, h1⟩, h2⟩
  | [a], _, _ => exact (rbytes_short _ w (by simp)).mono fun e w' ⟨h1, h2⟩ => ⟨⟨_, _, h1⟩, h2⟩
  | a :: b :: d, hn, h =>
    have hz := str_size (a :: b :: d)
    have h2 : 2 ≤ (str (a :: b :: d)).size := by rw [hz]; simp
    have g0 : (str (a :: b :: d))[0].toNat = a.toNat := rfl
    have g1 : (str (a :: b :: d))[1].toNat = b.toNat := rfl
    by_cases hf : a.toNat = 48 ∧ b.toNat = 120 ∧ (str (a :: b :: d)).size % 2 = 0
    · obtain ⟨ha, hb, hm⟩ := hf
      obtain rfl := sign_of (d := 48) ha
      obtain rfl := sign_of (d := 120) hb
      refine (rbytes_walk (str (48 :: 120 :: d)) d w h2 (by rw [hz]; exact hn) rfl rfl hm (Lib.hid (Str.of _))).mono ?_
      rintro e w' ⟨_, hbad, hB⟩
      refine ⟨hbad fun ho => h d ⟨rfl, ho, ?_⟩, hB⟩
      rw [hz] at hm; simp at hm; omega
    · exact (rbytes_no1 _ w h2 (by rw [hz]; simp at hn ⊢; omega) (by rw [g0, g1]; exact hf)).mono fun e w' ⟨h1, h2⟩ => ⟨⟨_, _, h1⟩, h2⟩
/-- The document's Bytes at 0x and pairs of digits. -/
theorem rbytes_ok (d : List UInt8) (w : World) (hn : d.length ≤ 70368744177000) (h : okD d) (h2 : d.length % 2 = 0) :
    Calls Tryd.prog 13 #[.string (str (48 :: 120 :: d))] w fun e w' => (∃ A c, e = .returned (.tuple #[.slice A (d.length / 2) c, .int .i64 0]) ∧ Sl w' A (d.length / 2) (pv d)) ∧ Below w.heap.size w w' := by
  have hz := str_size (48 :: 120 :: d)
  refine (rbytes_walk (str (48 :: 120 :: d)) d w (by rw [hz]; simp) (by rw [hz]; simp; omega) rfl rfl (by rw [hz]; simp; omega) (Lib.hid (Str.of _))).mono ?_
  rintro e w' ⟨hok, _, hB⟩
  exact ⟨hok h, hB⟩
end Go.Proofs.YtlplncfonphkeaaDoor
