/- The digits behind 0x (package hex's digitsOf). -/
import Derived.Test.YtlplncfonphkeaaDoorHxA
namespace Go.Proofs.YtlplncfonphkeaaDoor
open Go.RowKit SmWord
set_option maxRecDepth 100000

theorem str_of (s : ByteArray) : str s.data.toList = s := by cases s; simp [str]
theorem str_size (l : List UInt8) : (str l).size = l.length := by simp [str, ByteArray.size]
theorem str_get (l : List UInt8) {i : Nat} (hi : i < (str l).size) : (str l)[i].toNat = (l.getD i 0).toNat := by
  have h : i < l.length := by rw [← str_size]; exact hi
  rw [List.getD, List.getElem?_eq_getElem h]
  rfl
theorem str_inj {a b : List UInt8} (h : str a = str b) : a = b := by
  have := congrArg (fun s : ByteArray => s.data.toList) h
  simpa [str] using this

theorem cut_yes (d : List UInt8) (w : World) : Calls Tryd.prog 38 #[.string (str (48 :: 120 :: d)), .string ⟨#[48, 120]⟩] w fun e w' => e = .returned (.tuple #[.string (str d), .bool true]) ∧ w = w' := by
  refine (Tryd.strings_CutPrefix (str (48 :: 120 :: d)) ⟨#[48, 120]⟩ w).mono ?_
  rintro e w' ⟨rfl, rfl⟩
  exact ⟨rfl, rfl⟩
theorem cut_no (l : List UInt8) (w : World) (h : Lib.hasPrefix l [48, 120] = false) : Calls Tryd.prog 38 #[.string (str l), .string ⟨#[48, 120]⟩] w fun e w' => e = .returned (.tuple #[.string (str l), .bool false]) ∧ w = w' := by
  refine (Tryd.strings_CutPrefix (str l) ⟨#[48, 120]⟩ w).mono ?_
  rintro e w' ⟨rfl, rfl⟩
  have h' : Lib.hasPrefix (str l).data.toList [48, 120] = false := h
  refine ⟨?_, rfl⟩
  show Ending.returned (.tuple #[.string ⟨(Lib.trimPrefix (str l).data.toList [48, 120]).toArray⟩, .bool (Lib.hasPrefix (str l).data.toList [48, 120])]) = _
  rw [h', Lib.trimPrefix, h']
  rfl
theorem digits_no (l : List UInt8) (w : World) (h : Lib.hasPrefix l [48, 120] = false) :
    Calls Tryd.prog 22 #[.string (str l)] w fun e w' => e = .returned (.tuple #[.string ⟨#[]⟩, .bool false]) ∧ w = w' := by
  have H := Lib.hid h
  clear h
  go_enter Tryd.func22, Tryd.ntmps22
  go_wp2_with (go_at_call 38; refine (cut_no l _ H.out).mono ?_; rintro e w' ⟨rfl, rfl⟩)
  go_ret2
  exact ⟨rfl, rfl⟩

theorem okD_take {d : List UInt8} {k : Nat} (h : okD (d.take k)) (hk : k < d.length) (hc : vc (d.getD k 0).toNat < 16) : okD (d.take (k + 1)) := by
  intro c hm
  rw [List.take_succ_eq_append_getElem hk] at hm
  rcases List.mem_append.1 hm with hm | hm
  · exact h c hm
  · rw [List.getD, List.getElem?_eq_getElem hk] at hc
    simp only [List.mem_cons, List.mem_nil_iff, or_false] at hm
    subst hm; exact hc
theorem okD_bad {d : List UInt8} {k : Nat} (hk : k < d.length) (hc : vc (d.getD k 0).toNat = 16) : ¬ okD d := by
  intro h
  have := okD_get h hk
  unfold vl at this
  omega
/-- A string that holds these signs, said apart from it. -/
structure Str (s : ByteArray) (l : List UInt8) : Prop where
  size : s.size = l.length
  get : ∀ i (hi : i < s.size), s[i].toNat = (l.getD i 0).toNat
  eq : str l = s
theorem Str.of (l : List UInt8) : Str (str l) l := ⟨str_size l, fun _ hi => str_get l hi, rfl⟩
set_option maxHeartbeats 1000000 in
theorem digits_walk (S s : ByteArray) (d : List UInt8) (r : Value) (w : World) (hn : s.size ≤ 9223372036854775807) (hs : Hid (Str s d))
    (H1 : Hid (okD d → r = .tuple #[.string s, .bool true])) (H0 : Hid (¬ okD d → r = .tuple #[.string ⟨#[]⟩, .bool false]))
    (HC : Hid (∀ w, Calls Tryd.prog 38 #[.string S, .string ⟨#[48, 120]⟩] w fun e w' => e = .returned (.tuple #[.string s, .bool true]) ∧ w = w')) :
    Calls Tryd.prog 22 #[.string S] w fun e w' => e = .returned r ∧ w = w' := by
  go_enter Tryd.func22, Tryd.ntmps22
  go_wp2_with (go_at_call 38; refine (HC.out _).mono ?_; rintro e w' ⟨rfl, rfl⟩)
  go_loop [18] (fun i => ∃ k : Nat, k ≤ s.size ∧ i = .int .i64 k ∧ okD (d.take k)) (fun i => s.size - (intOf i).toNat)
  case atStart => exact ⟨0, Nat.zero_le _, rfl, by intro c hc; cases hc⟩
  case round =>
    obtain ⟨k, hk, rfl, ho⟩ := hrel
    have HO := Lib.hid ho
    clear ho
    by_cases hlt : k < s.size
    · have hl : k < d.length := by rw [← hs.out.size]; exact hlt
      have hc : (d.getD k 0).toNat < 256 := UInt8.toNat_lt _
      have hg := hs.out.get k hlt
      have hv := vc_lt (d.getD k 0).toNat
      have HT := Lib.hid (fun h => okD_take HO.out hl h)
      have HBd := Lib.hid (fun h => okD_bad hl h)
      clear HO hl
      generalize (d.getD k 0).toNat = c at *
      by_cases h : vc c < 16
      · clear hv
        go_wp2_with (go_at_call 39; refine (value_yes c _ hc h).mono ?_; rintro e w' ⟨rfl, rfl⟩)
        go_round
        case rel => exact ⟨k + 1, by omega, by go_num, HT.out h⟩
        case measure => simp [intOf]; omega
      · have h1 : vc c = 16 := by omega
        clear hv h
        go_wp2_with (go_at_call 39; refine (value_no c _ hc h1).mono ?_; rintro e w' ⟨rfl, rfl⟩)
        go_ret2
        exact ⟨by rw [H0.out (HBd.out h1)]; rfl, rfl⟩
    · have hok : okD d := by have := HO.out; rwa [List.take_of_length_le (by have := hs.out.size; omega)] at this
      go_wp2_with fail
      go_ret2
      exact ⟨by rw [H1.out hok]; rfl, rfl⟩
theorem digits_ok (d : List UInt8) (w : World) (hd : d.length ≤ 9223372036854775807) (h : okD d) :
    Calls Tryd.prog 22 #[.string (str (48 :: 120 :: d))] w fun e w' => e = .returned (.tuple #[.string (str d), .bool true]) ∧ w = w' :=
  digits_walk _ _ d _ w (by rw [str_size]; exact hd) (Lib.hid (Str.of d)) (Lib.hid fun _ => rfl) (Lib.hid fun h' => absurd h h') (Lib.hid fun w => cut_yes d w)
theorem digits_bad (d : List UInt8) (w : World) (hd : d.length ≤ 9223372036854775807) (h : ¬ okD d) :
    Calls Tryd.prog 22 #[.string (str (48 :: 120 :: d))] w fun e w' => e = .returned (.tuple #[.string ⟨#[]⟩, .bool false]) ∧ w = w' :=
  digits_walk _ _ d _ w (by rw [str_size]; exact hd) (Lib.hid (Str.of d)) (Lib.hid fun h' => absurd h' h) (Lib.hid fun _ => rfl) (Lib.hid fun w => cut_yes d w)
end Go.Proofs.YtlplncfonphkeaaDoor
