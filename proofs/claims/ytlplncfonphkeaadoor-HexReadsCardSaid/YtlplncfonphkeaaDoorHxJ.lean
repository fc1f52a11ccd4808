/- Which quantity a text says: package hex's Word. -/
import Derived.Test.YtlplncfonphkeaaDoorHxI
import Derived.Test.YtlplncfonphkeaaDoorHxC
import Derived.Test.YtlplncfonphkeaaDoorRefW
import Derived.Laws.ResultCell
namespace Go.Proofs.YtlplncfonphkeaaDoor
open Go.RowKit SmWord
set_option maxRecDepth 100000

theorem results_pair {P : Program} {fn : Func} {p u : Tmp} {ty : TypeId} (h : fn.results = #[.cell p ty, .tmp u]) (tmps : Array Value) (w : World) (g : Nat) (t : TypeId) (cs : Array Value) (fr : Nat × Nat) (d : TypeDesc) (v : Value)
    (hp : tmps.getD p undef = .pointer (some ⟨g, 0, none⟩)) (hg : w.heap[g]? = some (.cells cs t fr))
    (hu : P.underlying ty = some d) (hd : (match d with | .struct _ | .array _ _ => true | _ => false) = true) (hi : (P.info? ty).map (·.size) = some cs.size) (hv : tmps.getD u undef = v) :
    (results fn tmps).run P w = .ok (.tuple #[.agg cs, v]) w := by
  have hp' : tmps[p]?.getD undef = .pointer (some ⟨g, 0, none⟩) := by simpa using hp
  have hv' : tmps[u]?.getD undef = v := by simpa using hv
  rw [results_cell_tmp h]
  simp [hp', asAddr, run_loadVar_row w g t ty cs fr d hg hu hd hi, hv']
set_option maxHeartbeats 1000000 in
theorem word_no0 (S : ByteArray) (w : World) (H : Hid (∀ w, Calls Tryd.prog 22 #[.string S] w fun e w' => e = .returned (.tuple #[.string ⟨#[]⟩, .bool false]) ∧ w = w')) :
    Calls Tryd.prog 10 #[.string S] w fun e w' => e = .returned (.tuple #[wd 0, .int .i64 2]) ∧ Below w.heap.size w w' := by
  go_enter Tryd.func10, Tryd.ntmps10
  go_wp2_with (go_at_call 22; refine (H.out _).mono ?_; rintro e w' ⟨rfl, rfl⟩)
  refine bodyPost_ret (v := .tuple #[wd 0, .int .i64 2]) (results_pair rfl _ _ _ 25 (wa 0) (0, 0) _ _ rfl (heap_alloc_new _ _) Tryd.underlying25 rfl Tryd.infoWa rfl) rfl ⟨rfl, (Below.refl _ _).alloc (Nat.le_refl _) _⟩
theorem word_no1 (S : ByteArray) (w : World) (H : Hid (∀ w, Calls Tryd.prog 22 #[.string S] w fun e w' => e = .returned (.tuple #[.string ⟨#[]⟩, .bool true]) ∧ w = w')) :
    Calls Tryd.prog 10 #[.string S] w fun e w' => e = .returned (.tuple #[wd 0, .int .i64 2]) ∧ Below w.heap.size w w' := by
  go_enter Tryd.func10, Tryd.ntmps10
  go_wp2_with (go_at_call 22; refine (H.out _).mono ?_; rintro e w' ⟨rfl, rfl⟩)
  refine bodyPost_ret (v := .tuple #[wd 0, .int .i64 2]) (results_pair rfl _ _ _ 25 (wa 0) (0, 0) _ _ rfl (heap_alloc_new _ _) Tryd.underlying25 rfl Tryd.infoWa rfl) rfl ⟨rfl, (Below.refl _ _).alloc (Nat.le_refl _) _⟩
set_option maxHeartbeats 1000000 in
theorem word_no2 (S s : ByteArray) (w : World) (h0 : 0 < s.size) (h1 : s[0].toNat = 48) (hE : s.toList.isEmpty = false) (hq : (s.toList == [48]) = false)
    (H : Hid (∀ w, Calls Tryd.prog 22 #[.string S] w fun e w' => e = .returned (.tuple #[.string s, .bool true]) ∧ w = w')) :
    Calls Tryd.prog 10 #[.string S] w fun e w' => e = .returned (.tuple #[wd 0, .int .i64 2]) ∧ Below w.heap.size w w' := by
  go_enter Tryd.func10, Tryd.ntmps10
  go_wp2_with (go_at_call 22; refine (H.out _).mono ?_; rintro e w' ⟨rfl, rfl⟩)
  refine bodyPost_ret (v := .tuple #[wd 0, .int .i64 2]) (results_pair rfl _ _ _ 25 (wa 0) (0, 0) _ _ rfl (heap_alloc_new _ _) Tryd.underlying25 rfl Tryd.infoWa rfl) rfl ⟨rfl, (Below.refl _ _).alloc (Nat.le_refl _) _⟩
set_option maxHeartbeats 1000000 in
theorem word_long (S s : ByteArray) (c : Nat) (w : World) (h0 : 0 < s.size) (h1 : s[0].toNat = c) (hc : ((c : Int) == 48) = false) (hE : s.toList.isEmpty = false) (h64 : 64 < s.size)
    (H : Hid (∀ w, Calls Tryd.prog 22 #[.string S] w fun e w' => e = .returned (.tuple #[.string s, .bool true]) ∧ w = w')) :
    Calls Tryd.prog 10 #[.string S] w fun e w' => e = .returned (.tuple #[wd 0, .int .i64 4]) ∧ Below w.heap.size w w' := by
  go_enter Tryd.func10, Tryd.ntmps10
  go_wp2_with (go_at_call 22; refine (H.out _).mono ?_; rintro e w' ⟨rfl, rfl⟩)
  refine bodyPost_ret (v := .tuple #[wd 0, .int .i64 4]) (results_pair rfl _ _ _ 25 (wa 0) (0, 0) _ _ rfl (heap_alloc_new _ _) Tryd.underlying25 rfl Tryd.infoWa rfl) rfl ⟨rfl, (Below.refl _ _).alloc (Nat.le_refl _) _⟩
set_option maxHeartbeats 2000000 in
theorem word_even (S s : ByteArray) (c n V : Nat) (f : Nat → Nat) (w : World) (h0 : 0 < s.size) (h1 : s[0].toNat = c) (hc : ((c : Int) == 48) = false) (hE : s.toList.isEmpty = false) (h64 : s.size ≤ 64) (hp : s.size % 2 = 0)
    (H : Hid (∀ w, Calls Tryd.prog 22 #[.string S] w fun e w' => e = .returned (.tuple #[.string s, .bool true]) ∧ w = w'))
    (HP : Hid (∀ w : World, Calls Tryd.prog 23 #[.string s] w fun e w' => e = .returned (.slice (some ⟨w.heap.size, 0, none⟩) n n) ∧ Below w.heap.size w w' ∧ Sl w' (some ⟨w.heap.size, 0, none⟩) n f))
    (HF : Hid (∀ (A : Option Addr) (w : World), Sl w A n f → Calls Tryd.prog 24 #[.slice A n n] w fun e w' => e = .returned (wd V) ∧ Below w.heap.size w w')) :
    Calls Tryd.prog 10 #[.string S] w fun e w' => e = .returned (.tuple #[wd V, .int .i64 0]) ∧ Below w.heap.size w w' := by
  have e1 : (s.size : Int) % 2 = 0 := by omega
  clear hp
  go_enter Tryd.func10, Tryd.ntmps10
  go_wp2_with (go_at_call 22; refine (H.out _).mono ?_; rintro e w' ⟨rfl, rfl⟩)
  have f0 : (w.alloc (.cells #[Value.int .u64 0, .int .u64 0, .int .u64 0, .int .u64 0] 25)).heap[w.heap.size]? = some (.cells #[Value.int .u64 0, .int .u64 0, .int .u64 0, .int .u64 0] 25) := heap_alloc_new _ _
  have bW : Below w.heap.size w (w.alloc (.cells #[Value.int .u64 0, .int .u64 0, .int .u64 0, .int .u64 0] 25)) := (Below.refl _ _).alloc (Nat.le_refl _) _
  generalize w.alloc (.cells #[Value.int .u64 0, .int .u64 0, .int .u64 0, .int .u64 0] 25) = W at *
  refine (HP.out _).mono ?_
  rintro e w1 ⟨rfl, b1, hs⟩
  have f1 := below_of b1 f0
  have bW1 := Lib.hid (bW.trans (b1.mono bW.size))
  have HS := Lib.hid hs
  clear b1 hs bW f0
  go_wp2_with fail
  refine (HF.out _ _ HS.out).mono ?_
  rintro e w2 ⟨rfl, b2⟩
  have f2 := below_of b2 f1
  have bW2 := Lib.hid (bW1.out.trans (b2.mono bW1.out.size))
  clear b2 bW1 HS f1
  go_wp2_with (refine wpList_store_row rfl 25 _ _ rfl _ #[Value.int .u64 0, .int .u64 0, .int .u64 0, .int .u64 0] (wa V) rfl rfl f2 Tryd.infoWa rfl wa_one ?_)
  refine bodyPost_ret (v := .tuple #[wd V, .int .i64 0]) (results_pair rfl _ _ _ 25 (wa V) (0, 0) _ _ rfl (blk_row f2) Tryd.underlying25 rfl Tryd.infoWa rfl) rfl ⟨rfl, below_setRow bW2.out (Nat.le_refl _) _⟩
set_option maxHeartbeats 2000000 in
theorem word_odd (S s s' : ByteArray) (c n V : Nat) (f : Nat → Nat) (w : World) (h0 : 0 < s.size) (h1 : s[0].toNat = c) (hc : ((c : Int) == 48) = false) (hE : s.toList.isEmpty = false) (h64 : s.size ≤ 64) (hp : s.size % 2 = 1) (hs' : ⟨#[48]⟩ ++ s = s')
    (H : Hid (∀ w, Calls Tryd.prog 22 #[.string S] w fun e w' => e = .returned (.tuple #[.string s, .bool true]) ∧ w = w'))
    (HP : Hid (∀ w : World, Calls Tryd.prog 23 #[.string s'] w fun e w' => e = .returned (.slice (some ⟨w.heap.size, 0, none⟩) n n) ∧ Below w.heap.size w w' ∧ Sl w' (some ⟨w.heap.size, 0, none⟩) n f))
    (HF : Hid (∀ (A : Option Addr) (w : World), Sl w A n f → Calls Tryd.prog 24 #[.slice A n n] w fun e w' => e = .returned (wd V) ∧ Below w.heap.size w w')) :
    Calls Tryd.prog 10 #[.string S] w fun e w' => e = .returned (.tuple #[wd V, .int .i64 0]) ∧ Below w.heap.size w w' := by
  have e1 : (s.size : Int) % 2 = 1 := by omega
  clear hp
  go_enter Tryd.func10, Tryd.ntmps10
  go_wp2_with (go_at_call 22; refine (H.out _).mono ?_; rintro e w' ⟨rfl, rfl⟩)
  have f0 : (w.alloc (.cells #[Value.int .u64 0, .int .u64 0, .int .u64 0, .int .u64 0] 25)).heap[w.heap.size]? = some (.cells #[Value.int .u64 0, .int .u64 0, .int .u64 0, .int .u64 0] 25) := heap_alloc_new _ _
  have bW : Below w.heap.size w (w.alloc (.cells #[Value.int .u64 0, .int .u64 0, .int .u64 0, .int .u64 0] 25)) := (Below.refl _ _).alloc (Nat.le_refl _) _
  generalize w.alloc (.cells #[Value.int .u64 0, .int .u64 0, .int .u64 0, .int .u64 0] 25) = W at *
  refine (HP.out _).mono ?_
  rintro e w1 ⟨rfl, b1, hs⟩
  have f1 := below_of b1 f0
  have bW1 := Lib.hid (bW.trans (b1.mono bW.size))
  have HS := Lib.hid hs
  clear b1 hs bW f0
  go_wp2_with fail
  refine (HF.out _ _ HS.out).mono ?_
  rintro e w2 ⟨rfl, b2⟩
  have f2 := below_of b2 f1
  have bW2 := Lib.hid (bW1.out.trans (b2.mono bW1.out.size))
  clear b2 bW1 HS f1
  go_wp2_with (refine wpList_store_row rfl 25 _ _ rfl _ #[Value.int .u64 0, .int .u64 0, .int .u64 0, .int .u64 0] (wa V) rfl rfl f2 Tryd.infoWa rfl wa_one ?_)
  refine bodyPost_ret (v := .tuple #[wd V, .int .i64 0]) (results_pair rfl _ _ _ 25 (wa V) (0, 0) _ _ rfl (blk_row f2) Tryd.underlying25 rfl Tryd.infoWa rfl) rfl ⟨rfl, below_setRow bW2.out (Nat.le_refl _) _⟩
set_option maxHeartbeats 2000000 in
theorem word_nought (S s s' : ByteArray) (c n V : Nat) (f : Nat → Nat) (w : World) (h0 : 0 < s.size) (h1 : s[0].toNat = c) (hc : c = 48) (hq : (s.toList == [48]) = true) (hE : s.toList.isEmpty = false) (h64 : s.size ≤ 64) (hp : s.size % 2 = 1) (hs' : ⟨#[48]⟩ ++ s = s')
    (H : Hid (∀ w, Calls Tryd.prog 22 #[.string S] w fun e w' => e = .returned (.tuple #[.string s, .bool true]) ∧ w = w'))
    (HP : Hid (∀ w : World, Calls Tryd.prog 23 #[.string s'] w fun e w' => e = .returned (.slice (some ⟨w.heap.size, 0, none⟩) n n) ∧ Below w.heap.size w w' ∧ Sl w' (some ⟨w.heap.size, 0, none⟩) n f))
    (HF : Hid (∀ (A : Option Addr) (w : World), Sl w A n f → Calls Tryd.prog 24 #[.slice A n n] w fun e w' => e = .returned (wd V) ∧ Below w.heap.size w w')) :
    Calls Tryd.prog 10 #[.string S] w fun e w' => e = .returned (.tuple #[wd V, .int .i64 0]) ∧ Below w.heap.size w w' := by
  subst hc
  have e1 : (s.size : Int) % 2 = 1 := by omega
  clear hp
  go_enter Tryd.func10, Tryd.ntmps10
  go_wp2_with (go_at_call 22; refine (H.out _).mono ?_; rintro e w' ⟨rfl, rfl⟩)
  have f0 : (w.alloc (.cells #[Value.int .u64 0, .int .u64 0, .int .u64 0, .int .u64 0] 25)).heap[w.heap.size]? = some (.cells #[Value.int .u64 0, .int .u64 0, .int .u64 0, .int .u64 0] 25) := heap_alloc_new _ _
  have bW : Below w.heap.size w (w.alloc (.cells #[Value.int .u64 0, .int .u64 0, .int .u64 0, .int .u64 0] 25)) := (Below.refl _ _).alloc (Nat.le_refl _) _
  generalize w.alloc (.cells #[Value.int .u64 0, .int .u64 0, .int .u64 0, .int .u64 0] 25) = W at *
  refine (HP.out _).mono ?_
  rintro e w1 ⟨rfl, b1, hs⟩
  have f1 := below_of b1 f0
  have bW1 := Lib.hid (bW.trans (b1.mono bW.size))
  have HS := Lib.hid hs
  clear b1 hs bW f0
  go_wp2_with fail
  refine (HF.out _ _ HS.out).mono ?_
  rintro e w2 ⟨rfl, b2⟩
  have f2 := below_of b2 f1
  have bW2 := Lib.hid (bW1.out.trans (b2.mono bW1.out.size))
  clear b2 bW1 HS f1
  go_wp2_with (refine wpList_store_row rfl 25 _ _ rfl _ #[Value.int .u64 0, .int .u64 0, .int .u64 0, .int .u64 0] (wa V) rfl rfl f2 Tryd.infoWa rfl wa_one ?_)
  refine bodyPost_ret (v := .tuple #[wd V, .int .i64 0]) (results_pair rfl _ _ _ 25 (wa V) (0, 0) _ _ rfl (blk_row f2) Tryd.underlying25 rfl Tryd.infoWa rfl) rfl ⟨rfl, below_setRow bW2.out (Nat.le_refl _) _⟩
/-- 0x and digits, at least one, without noughts ahead of others. -/
def wform (l d : List UInt8) : Prop := l = 48 :: 120 :: d ∧ okD d ∧ d ≠ [] ∧ ∀ t, d = 48 :: t → t = []
theorem str_toList (l : List UInt8) : (str l).toList = l := by simp [str]
theorem sign_int {c : UInt8} (h : c ≠ 48) : ((c.toNat : Int) == 48) = false := by
  have : ¬ c.toNat = 48 := fun e => h (sign_of (d := 48) e)
  simpa using (fun e : (c.toNat : Int) = 48 => this (by omega))
theorem from_pairs (d : List UInt8) (n : Nat) (hd : d.length = 2 * n) (hn : n ≤ 32) (A : Option Addr) (w : World) (hs : Sl w A n (pv d)) :
    Calls Tryd.prog 24 #[.slice A n n] w fun e w' => e = .returned (wd (nm d)) ∧ Below w.heap.size w w' := by
  have h := from_wd A n n n (pv d) w (by unfold maxLen; omega) (by omega) hs
  rw [nm_pairs hd]
  exact h
theorem hword_no (l : List UInt8) (w : World) (hn : l.length ≤ 140737488355328) (h : ∀ d, ¬ wform l d) :
    Calls Tryd.prog 10 #[.string (str l)] w fun e w' => e = .returned (.tuple #[wd 0, .int .i64 2]) ∧ Below w.heap.size w w' := by
  by_cases hp : Lib.hasPrefix l [48, 120] = true
  · obtain ⟨d, rfl⟩ := pre_of hp
    have hl : d.length ≤ 140737488355328 := by simp at hn; omega
    by_cases h1 : okD d
    · match d, hl, h1, h with
      | [], hl, h1, h => exact word_no1 _ w (Lib.hid fun w => digits_ok [] w (by simp) h1)
      | c :: t, hl, h1, h =>
        have h2 : c = 48 ∧ t ≠ [] := by
          rcases Classical.em (c = 48 ∧ t ≠ []) with h3 | h3
          · exact h3
          · refine absurd ⟨rfl, h1, by simp, fun u hu => ?_⟩ (h (c :: t))
            simp only [List.cons.injEq] at hu
            obtain ⟨rfl, rfl⟩ := hu
            rcases Classical.em (t = []) with h4 | h4
            · exact h4
            · exact absurd ⟨rfl, h4⟩ h3
        obtain ⟨rfl, ht⟩ := h2
        refine word_no2 _ (str (48 :: t)) w (by rw [str_size]; simp) rfl (by rw [str_toList]; rfl) ?_ (Lib.hid fun w => digits_ok _ w (by omega) h1)
        rw [str_toList]
        cases t with
        | nil => exact absurd rfl ht
        | cons => simp
    · exact word_no0 _ w (Lib.hid fun w => digits_bad d w (by omega) h1)
  · exact word_no0 _ w (Lib.hid fun w => digits_no l w (by simpa using hp))
theorem wform_head {l d : List UInt8} (h : wform l d) : ∃ c t, d = c :: t ∧ (c = 48 → t = []) := by
  obtain ⟨_, _, hn, ht⟩ := h
  cases d with
  | nil => exact absurd rfl hn
  | cons c t => exact ⟨c, t, rfl, fun e => ht t (by rw [e])⟩
theorem hword_long (l d : List UInt8) (w : World) (hn : d.length ≤ 140737488355328) (h : wform l d) (h64 : 64 < d.length) :
    Calls Tryd.prog 10 #[.string (str l)] w fun e w' => e = .returned (.tuple #[wd 0, .int .i64 4]) ∧ Below w.heap.size w w' := by
  obtain ⟨c, t, rfl, hc⟩ := wform_head h
  obtain ⟨rfl, ho, _⟩ := h
  have hne : c ≠ 48 := fun e => by rw [hc e] at h64; simp at h64
  exact word_long _ (str (c :: t)) c.toNat w (by rw [str_size]; simp) rfl (sign_int hne) (by rw [str_toList]; rfl) (by rw [str_size]; exact h64) (Lib.hid fun w => digits_ok _ w (by omega) ho)
theorem str_nought (l : List UInt8) : (⟨#[48]⟩ : ByteArray) ++ str l = str (48 :: l) := by
  apply ByteArray.ext
  simp [str]
theorem okD_nought {d : List UInt8} (h : okD d) : okD (48 :: d) := by
  intro c hc
  rcases List.mem_cons.1 hc with rfl | hc
  · decide
  · exact h c hc
theorem hword_ok (l d : List UInt8) (w : World) (h : wform l d) (h64 : d.length ≤ 64) :
    Calls Tryd.prog 10 #[.string (str l)] w fun e w' => e = .returned (.tuple #[wd (nm d), .int .i64 0]) ∧ Below w.heap.size w w' := by
  obtain ⟨c, t, rfl, hc⟩ := wform_head h
  obtain ⟨rfl, ho, _⟩ := h
  have hz := str_size (c :: t)
  have hp : 0 < (str (c :: t)).size := by rw [hz]; simp
  have hE : (str (c :: t)).toList.isEmpty = false := by rw [str_toList]; rfl
  have HD := fun w => digits_ok (c :: t) w (by omega) ho
  by_cases hne : c = 48
  · obtain rfl := hc hne
    subst hne
    have hk : (48 :: [48] : List UInt8).length = 2 * 1 := rfl
    have hv : nm [48] = nm [48, 48] := rfl
    rw [hv]
    exact word_nought _ (str [48]) _ 48 1 _ (pv [48, 48]) w hp rfl rfl (by rw [str_toList]; rfl) hE (by rw [hz]; exact h64) (by rw [hz]; rfl) (str_nought _) (Lib.hid HD)
      (Lib.hid fun w => pairs_any _ 1 w (by simp) rfl (okD_nought ho)) (Lib.hid fun A w hs => from_pairs _ 1 hk (by omega) A w hs)
  · have hi := sign_int hne
    rcases Nat.mod_two_eq_zero_or_one (c :: t).length with e | e
    · have hk : (c :: t).length = 2 * ((c :: t).length / 2) := by omega
      exact word_even _ (str (c :: t)) c.toNat ((c :: t).length / 2) _ (pv (c :: t)) w hp rfl hi hE (by rw [hz]; exact h64) (by rw [hz]; exact e) (Lib.hid HD)
        (Lib.hid fun w => pairs_any _ _ w (by omega) rfl ho) (Lib.hid fun A w hs => from_pairs _ _ hk (by omega) A w hs)
    · have hl : (48 :: c :: t).length = (c :: t).length + 1 := rfl
      have hk : (48 :: c :: t).length = 2 * ((48 :: c :: t).length / 2) := by omega
      rw [← nm_zero (c :: t)]
      exact word_odd _ (str (c :: t)) _ c.toNat ((48 :: c :: t).length / 2) _ (pv (48 :: c :: t)) w hp rfl hi hE (by rw [hz]; exact h64) (by rw [hz]; exact e) (str_nought _) (Lib.hid HD)
        (Lib.hid fun w => pairs_any _ _ w (by omega) rfl (okD_nought ho)) (Lib.hid fun A w hs => from_pairs _ _ hk (by omega) A w hs)
end Go.Proofs.YtlplncfonphkeaaDoor
