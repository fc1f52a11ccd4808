/- What the functions root, Primes and Constants of the document's answers for sha do: the constants by roots of primes. -/
import Derived.Test.YtnnodibjocilmaaDoorShH
import Derived.Deep.CutRange
namespace Go.Proofs.YtnnodibjocilmaaDoor
open Go.RowKit SmWord
set_option maxRecDepth 100000

theorem rt_next (f : Nat → Bool) (k n : Nat) : rt f (k + 1) n = rt f k (if f (n + 2 ^ k) then n + 2 ^ k else n) := by rw [rt]
theorem rt_none (f : Nat → Bool) (n : Nat) : rt f 0 n = n := by rw [rt]
/-- The bit that is tried while k are left. -/
def bt (k : Nat) : Nat := if k = 0 then 0 else 2 ^ (k - 1)
theorem bt_next (k : Nat) : bt (k + 1) = 2 ^ k ∧ bt (k + 1) / 2 = bt k := by
  have e : bt (k + 1) = 2 ^ k := by simp [bt]
  refine ⟨e, ?_⟩
  rw [e]
  cases k with
  | zero => simp [bt]
  | succ k => rw [Nat.pow_succ, Nat.mul_div_cancel _ (by decide)]; simp [bt]
theorem pow37 {k : Nat} (h : k ≤ 37) : 2 ^ k ≤ 137438953472 := Nat.le_trans (Nat.pow_le_pow_right (by decide) h) (by decide)
set_option maxHeartbeats 1000000 in
theorem root_core (p : Nat) (cube : Bool) (f : Nat → Bool) (w : World) (H : Hid (∀ (y : Nat) (w : World), y < B → Calls Tryd.prog 15 #[.int .u64 (y : Int), .int .u64 (p : Int), .bool cube] w fun e w' => e = .returned (.bool (f y)) ∧ Below w.heap.size w w')) :
    Calls Tryd.prog 10 #[.int .u64 (p : Int), .bool cube] w fun e w' => e = .returned (.int .u32 ((rt f 37 0 % D32 : Nat) : Int)) ∧ Below w.heap.size w w' := by
  obtain ⟨R, hR⟩ : ∃ R, rt f 37 0 = R := ⟨_, rfl⟩
  rw [hR]
  have HR := Lib.hid hR
  clear hR
  go_enter Tryd.func10, Tryd.ntmps10
  go_wp2_with fail
  go_loopw [5, 6] (fun n b wr => ∃ k x y : Nat, k ≤ 37 ∧ n = .int .u64 (x : Int) ∧ b = .int .u64 (y : Int) ∧ Hid (bt k = y) ∧ Hid (rt f k x = R) ∧ Hid (x + 2 ^ k ≤ 137438953472) ∧ Below w.heap.size w wr) (fun _ b _ => (intOf b).toNat)
  case atStart => exact ⟨37, 0, 68719476736, by omega, rfl, rfl, Lib.hid (by decide), HR, Lib.hid (by decide), Below.refl _ _⟩
  case round =>
    clear HR
    obtain ⟨k, x, y, hk, rfl, rfl, hy, HR, hx, bW⟩ := hrel
    have HB := Lib.hid bW
    clear bW
    cases k with
    | zero =>
      obtain rfl : y = 0 := by rw [← hy.out]; rfl
      have e := HR.out
      rw [rt_none] at e
      subst e
      have h8 := hx.out
      rw [Nat.pow_zero] at h8
      clear hk
      go_wp2_with fail
      go_ret
      refine ⟨?_, HB.out⟩
      rw [show ((x % D32 : Nat) : Int) = (x : Int) % 4294967296 by simp only [D32]; omega]
      rfl
    | succ k =>
      obtain ⟨b1, b2⟩ := bt_next k
      rw [hy.out] at b1 b2
      have hr := HR.out
      rw [rt_next, ← b1] at hr
      have hp2 := hx.out
      rw [Nat.pow_succ, ← b1] at hp2
      have hpos : 0 < y := by rw [b1]; exact Nat.two_pow_pos k
      obtain ⟨z, hz⟩ : ∃ z, x + y = z := ⟨_, rfl⟩
      rw [hz] at hr
      have hzI : (x : Int) + (y : Int) = (z : Int) := by omega
      have hzB : z < B := by simp only [B]; omega
      obtain ⟨y', hy'⟩ : ∃ y', y / 2 = y' := ⟨_, rfl⟩
      have e2 : IntKind.u64.wrap ((y : Int) / 2) = (y' : Int) := by rw [IntKind.wrap_u64]; omega
      have HY : Hid (bt k = y') := Lib.hid (by rw [← b2, hy'])
      have hyy : Hid (y' < y) := Lib.hid (by omega)
      have hx1 : Hid (z + 2 ^ k ≤ 137438953472) := Lib.hid (by rw [← b1]; omega)
      have hx2 : Hid (x + 2 ^ k ≤ 137438953472) := Lib.hid (by rw [← b1]; omega)
      have hx3 : x ≤ 137438953472 := by omega
      have hy3 : y ≤ 137438953472 := by omega
      have HZ := Lib.hid hr
      clear hr hp2 b1 b2 hz hy hx HR hy'
      go_wp2_with fail
      refine (H.out z wr hzB).mono ?_
      rintro e w1 ⟨rfl, b1⟩
      replace HB := Lib.hid (HB.out.trans (b1.mono HB.out.size))
      clear b1
      cases hf : f z with
      | true =>
        have HN : Hid (rt f k z = R) := Lib.hid (by have := HZ.out; rwa [hf, if_pos rfl] at this)
        go_wp2_with fail
        exact ⟨⟨k, z, y', by omega, rfl, rfl, HY, HN, hx1, HB.out⟩, by have := hyy.out; simp only [intOf]; omega⟩
      | false =>
        have HN : Hid (rt f k x = R) := Lib.hid (by have := HZ.out; rwa [hf, if_neg (by decide)] at this)
        go_wp2_with fail
        exact ⟨⟨k, x, y', by omega, rfl, rfl, HY, HN, hx2, HB.out⟩, by have := hyy.out; simp only [intOf]; omega⟩
theorem root_cube (p : Nat) (w : World) (hp : p < B) : Calls Tryd.prog 10 #[.int .u64 (p : Int), .bool true] w fun e w' => e = .returned (.int .u32 ((rt (cuOk p) 37 0 % D32 : Nat) : Int)) ∧ Below w.heap.size w w' :=
  root_core p true (cuOk p) w (Lib.hid fun y w hy => below_ref y p true w hy hp)
theorem root_square (p : Nat) (w : World) (hp : p < B) : Calls Tryd.prog 10 #[.int .u64 (p : Int), .bool false] w fun e w' => e = .returned (.int .u32 ((rt (sqOk p) 37 0 % D32 : Nat) : Int)) ∧ Below w.heap.size w w' :=
  root_core p false (sqOk p) w (Lib.hid fun y w hy => below_ref y p false w hy hp)

/-- The primes below p. -/
def lp (p : Nat) : List Nat := (List.range p).filter fun q => decide (2 ≤ q) && isP q 20
theorem lp_next (p : Nat) (h : 2 ≤ p) : lp (p + 1) = lp p ++ if isP p 20 then [p] else [] := by
  unfold lp
  rw [List.range_succ, List.filter_append]
  congr 1
  simp only [List.filter_cons, List.filter_nil, decide_eq_true h, Bool.true_and]
theorem lp_le (p : Nat) (h : 2 ≤ p) : ∀ k, (lp p).length ≤ (lp (p + k)).length
  | 0 => Nat.le_refl _
  | k + 1 => by
    have := lp_le p h k
    rw [← Nat.add_assoc, lp_next _ (by omega), List.length_append]
    omega
theorem lp_312 : lp 312 = prs := prs_all
theorem lp_311 : (lp 311).length = 63 := by
  have h := congrArg List.length (lp_next 311 (by decide))
  rw [lp_312, List.length_append, show isP 311 20 = true by decide +kernel] at h
  have e : prs.length = 64 := by decide
  rw [e] at h
  simpa using h.symm
theorem lp_short {p : Nat} (h : 2 ≤ p) (h2 : p ≤ 311) : (lp p).length < 64 := by
  have := lp_le p h (311 - p)
  rw [show p + (311 - p) = 311 by omega, lp_311] at this
  omega
theorem isP_next (p d : Nat) : isP p (d + 1) = (isP p d && !(decide (2 ≤ d ∧ d * d ≤ p) && p % d == 0)) := by rw [isP]
theorem isP_end {p d : Nat} (h : p < d * d) : ∀ k, isP p (d + k) = isP p d
  | 0 => rfl
  | k + 1 => by
    have h2 : d * d ≤ (d + k) * (d + k) := Nat.mul_le_mul (by omega) (by omega)
    rw [← Nat.add_assoc, isP_next, isP_end h k]
    have h3 : decide (2 ≤ d + k ∧ (d + k) * (d + k) ≤ p) = false := by simp; omega
    rw [h3]
    simp
theorem isP_two (p : Nat) : isP p 2 = true := by simp [isP]
def ul (l : List Nat) : List Value := l.map fun x => Value.int .u64 ((x : Nat) : Int)
theorem Tryd.infoU : (Tryd.prog.info? 38).map (fun i => (i.zero, i.size, i.bytes)) = some (some (.int .u64 0), 1, 8) := by kernel_rfl
theorem own_emptyU (w : World) {base : Nat} (hb : base ≤ w.heap.size) : (w.alloc (.cells #[] 38)).ownsRow base 38 1 (.slice (some ⟨w.heap.size, 0, none⟩) 0 0) 0 [] :=
  ⟨rfl, .inr ⟨w.heap.size, 0, #[], rfl, hb, heap_alloc_new _ _, Nat.le_refl _, Nat.zero_le _, rfl, rfl⟩⟩
theorem own_oneU (w : World) (x : Value) : ∀ j u, [x][j]? = some u → (w.alloc (.cells #[x] 38)).cell? ((⟨w.heap.size, 0, none⟩ : Addr).add j) = some u := fun j u h => by
  cases j with
  | zero =>
    have hu : u = x := by simpa using h.symm
    subst hu
    exact blk_cell (heap_alloc_new _ _) rfl
  | succ j => simp at h
theorem own_slice {w : World} {base : Nat} {e : TypeId} {v : Value} {k : Nat} {xs : List Value} (h : w.ownsRow base e 1 v k xs) : ∃ A c, v = .slice A k c := by
  rcases h.2 with ⟨rfl, rfl⟩ | ⟨g, cap, cur, rfl, _⟩
  · exact ⟨none, 0, rfl⟩
  · exact ⟨_, _, rfl⟩
set_option maxHeartbeats 2000000 in
theorem primes_ref (w : World) : Calls Tryd.prog 9 #[.int .i64 64] w fun e w' => ∃ v, e = .returned v ∧ w'.ownsRow w.heap.size 38 1 v 64 (ul prs) ∧ Below w.heap.size w w' := by
  obtain ⟨i0, hi, hz0, hz1, hz2⟩ := info_parts Tryd.infoU
  go_enter Tryd.func9, Tryd.ntmps9
  go_wp2_with fail
  have o0 := own_emptyU w (Nat.le_refl w.heap.size)
  have bW : Below w.heap.size w (w.alloc (.cells #[] 38)) := (Below.refl _ _).alloc (Nat.le_refl _) _
  go_loopw [3, 4] (fun v p wr => ∃ q m : Nat, 2 ≤ q ∧ q ≤ 312 ∧ p = .int .u64 (q : Int) ∧ Hid ((lp q).length = m) ∧ m ≤ 1000 ∧ Hid (wr.ownsRow w.heap.size 38 1 v m (ul (lp q))) ∧ Hid (Below w.heap.size w wr)) (fun _ p _ => 312 - (intOf p).toNat)
  case atStart => exact ⟨2, 0, by omega, by omega, rfl, Lib.hid (by decide), by omega, Lib.hid o0, Lib.hid bW⟩
  case round =>
    clear o0 bW
    obtain ⟨q, m, h2, h312, rfl, hm, hm1, HO, HB⟩ := hrel
    obtain ⟨A, c, rfl⟩ := own_slice HO.out
    by_cases hmore : m < 64
    · have hq : q ≤ 311 := by
        apply Classical.byContradiction
        intro h
        obtain rfl : q = 312 := by omega
        have := hm.out
        rw [lp_312, show prs.length = 64 by decide] at this
        omega
      clear h312
      go_wp2_with fail
      obtain ⟨wo, rfl⟩ : ∃ wo : World, wo = wr := ⟨_, rfl⟩
      go_loopw [5, 6] (fun b d wi => ∃ k : Nat, 2 ≤ k ∧ k ≤ 18 ∧ b = .bool (isP q k) ∧ d = .int .u64 (k : Int) ∧ wi = wo) (fun _ d _ => 18 - (intOf d).toNat)
      case atStart => exact ⟨2, by omega, by omega, by rw [isP_two], rfl, rfl⟩
      case round =>
        obtain ⟨k, hk2, hk18, rfl, rfl, rfl⟩ := hrel
        obtain ⟨e, he⟩ : ∃ e, k * k = e := ⟨_, rfl⟩
        have he1 : e ≤ 324 := by rw [← he]; exact Nat.le_trans (Nat.mul_le_mul hk18 hk18) (by decide)
        have heI : (k : Int) * (k : Int) = (e : Int) := by rw [← he]; simp
        by_cases hle : e ≤ q
        · obtain ⟨r, hr⟩ : ∃ r, q % k = r := ⟨_, rfl⟩
          have hrI : (q : Int) % (k : Int) = (r : Int) := by rw [← hr]; simp
          have hk17 : k ≤ 17 := by
            apply Classical.byContradiction
            intro h
            obtain rfl : k = 18 := by omega
            omega
          have hn : isP q (k + 1) = (isP q k && !(r == 0)) := by
            rw [isP_next, hr, decide_eq_true ⟨hk2, by rw [he]; exact hle⟩, Bool.true_and]
          have HN := Lib.hid hn
          clear hn hr he
          generalize isP q k = b at *
          by_cases h0 : r = 0
          · subst h0
            go_wp2_with fail
            exact ⟨⟨k + 1, by omega, by omega, by rw [HN.out]; simp, by go_num, trivial⟩, by simp only [intOf]; omega⟩
          · have hrf : ((r : Int) == 0) = false := by simp; omega
            go_wp2_with fail
            refine ⟨⟨k + 1, by omega, by omega, by rw [HN.out, show (r == 0) = false by simp; omega]; simp, by go_num, trivial⟩, by simp only [intOf]; omega⟩
        · have hend : isP q 20 = isP q k := by
            have := isP_end (p := q) (d := k) (by rw [he]; omega) (20 - k)
            rwa [show k + (20 - k) = 20 by omega] at this
          rw [← hend]
          have hln := lp_next q h2
          have HLN := Lib.hid hln
          clear hend hln he
          have hsz := HB.out.size
          cases hP : isP q 20 with
          | false =>
            have HL : lp (q + 1) = lp q := by have := HLN.out; rwa [hP, if_neg (by decide), List.append_nil] at this
            have HL2 := Lib.hid HL
            clear HL
            go_wp2_with fail
            exact ⟨⟨q + 1, m, by omega, by omega, by go_num, by rw [HL2.out]; exact hm, by omega, by rw [HL2.out]; exact HO, HB⟩, by simp only [intOf]; omega⟩
          | true =>
            have HL : lp (q + 1) = lp q ++ [q] := by have := HLN.out; rwa [hP, if_pos rfl] at this
            have HL2 := Lib.hid HL
            have HO1 := Lib.hid (HO.out.alloc (.cells #[Value.int .u64 (q : Int)] 38))
            clear HL
            go_wp2_with (at_builtin; refine wpList_append_own _ rfl _ _ 35 rfl w.heap.size 38 i0 (.int .u64 0) 1 8 Tryd.underlying35 hi hz0 hz1 hz2 rfl (by decide) _ _ _ rfl HO1.out ⟨_, 0, none⟩ 1 1 [.int .u64 ((q : Nat) : Int)] rfl rfl ?c1 ?c2 ?c3 ?c4 ?c5 ?_)
            case c1 => exact own_oneU _ _
            case c2 => simp [Value.oneCell']
            case c3 => unfold maxLen; omega
            case c4 => omega
            case c5 => simp; omega
            intro v' w4 hown' hgrow _
            have hown2 : w4.ownsRow w.heap.size 38 1 v' (m + 1) (ul (lp (q + 1))) := by
              rw [HL2.out]
              simpa [ul] using hown'
            have hr := fun g hg => (HO.out.lt g hg).1
            have bX : Below w.heap.size w w4 := (HB.out.alloc (o := .cells #[Value.int .u64 (q : Int)] 38) (by omega)).grown hgrow (by simp; omega) (fun g hg => by have := hr g hg; omega)
            have hm2 : Hid ((lp (q + 1)).length = m + 1) := Lib.hid (by rw [HL2.out, List.length_append, hm.out]; rfl)
            have HO2 := Lib.hid hown2
            have HB2 := Lib.hid bX
            clear hown' hgrow hr bX hown2 HO HB HO1
            go_wp2_with fail
            exact ⟨⟨q + 1, m + 1, by omega, by omega, by go_num, hm2, by omega, HO2, HB2⟩, by simp only [intOf]; omega⟩
    · have hq : q = 312 := by
        apply Classical.byContradiction
        intro h
        have := lp_short h2 (show q ≤ 311 by omega)
        rw [hm.out] at this
        omega
      subst hq
      have h64 : m = 64 := by rw [← hm.out, lp_312]; decide
      subst h64
      have HO2 : Hid (wr.ownsRow w.heap.size 38 1 (.slice A 64 c) 64 (ul prs)) := Lib.hid (by have := HO.out; rwa [lp_312] at this)
      clear HO hm h2 h312 hm1 hmore
      go_wp2_with fail
      go_ret
      exact ⟨_, rfl, HO2.out, HB.out⟩
end Go.Proofs.YtnnodibjocilmaaDoor
