/-
  The laws of package field: the walks (4).
-/
import Derived.Test.YtcidhnpmmohfjaaDoorFieldL3
import Derived.Test.YtcidhnpmmohfjaaDoorBits2
set_option linter.unusedVariables false
namespace Go.Proofs.YtcidhnpmmohfjaaDoor
open Go.RowKit

/-- v is a list of numbers in memory, laid from block base on -/
def IsL (w : World) (base : Nat) (v : Value) (l : List Nat) : Prop :=
  (v = .slice none 0 0 ∧ l = []) ∨ ∃ g cap, v = .slice (some ⟨g, 0, none⟩) l.length cap ∧ base ≤ g ∧ g < w.heap.size ∧ ∀ i, i < l.length → w.cell? ⟨g, i, none⟩ = some (.int .i64 (l.getD i 0 : Nat))
theorem IsL.of_owns {w : World} {base e : Nat} {v : Value} {l : List Nat} (h : w.ownsRow base e 1 v l.length (l.map fun y : Nat => Value.int .i64 y)) : IsL w base v l := by
  have h' := h
  rcases h.2 with ⟨hv, hn⟩ | ⟨g, cap, cur, hv, hb, hg, _⟩
  · exact .inl ⟨hv, List.length_eq_zero_iff.1 hn⟩
  · subst hv
    refine .inr ⟨g, cap, rfl, hb, (Array.getElem?_eq_some_iff.1 hg).1, fun i hi => ?_⟩
    rw [h'.cellAt i (by omega), List.getElem?_map, List.getElem?_eq_getElem hi, List.getD_eq_getElem?_getD, List.getElem?_eq_getElem hi]
    rfl
theorem IsL.keep {w w1 : World} {base : Nat} {v : Value} {l : List Nat} (h : IsL w base v l) (hb : Below w.heap.size w w1) : IsL w1 base v l := by
  rcases h with h | ⟨g, cap, hv, hbg, hg, hc⟩
  · exact .inl h
  · exact .inr ⟨g, cap, hv, hbg, Nat.lt_of_lt_of_le hg hb.size, fun i hi => by rw [(bcell hb).1 _ _ hg]; exact hc i hi⟩
theorem places_t (x n : Nat) (w : World) (hd : Dw w) (hx : x < 18446744073709551616) (hn : n ≤ 64) : Calls Tryd.prog 19 #[.int .u64 x, .int .i64 n] w fun e w' => ∃ v, e = .returned v ∧ IsL w' w.heap.size v (onesL x n) ∧ Below w.heap.size w w' := by
  have := placesL_any x n w hx hd.1 hd.2
  unfold lowN at this
  rw [held_nat n hn, ones_low x n hn] at this
  exact this.mono fun e w' ⟨v, he, ho, hb⟩ => ⟨v, he, IsL.of_owns ho, hb⟩

def foldP (l : List Nat) (j : Nat) : Nat := (l.take j).foldl (fun x p => putN x p 1 1) 0
theorem foldP_step (l : List Nat) (j : Nat) (h : j < l.length) : foldP l (j + 1) = putN (foldP l j) (l.getD j 0) 1 1 := by
  unfold foldP
  rw [List.take_succ_eq_append_getElem h, List.foldl_append, List.getD_eq_getElem?_getD, List.getElem?_eq_getElem h]
  rfl
theorem foldP_bit (l : List Nat) (i : Nat) : ∀ j, j ≤ l.length → (foldP l j).testBit i = decide (i ∈ l.take j) := by
  intro j
  induction j with
  | zero => intro _; simp [foldP]
  | succ j ih =>
    intro h
    rw [foldP_step l j (by omega), putN_testBit, ih (by omega), List.take_succ_eq_append_getElem (by omega : j < l.length), List.getD_eq_getElem?_getD, List.getElem?_eq_getElem (by omega : j < l.length)]
    simp only [Option.getD_some, List.mem_append, List.mem_singleton]
    by_cases e : i = l[j]
    · rw [if_pos (by omega)]; simp [e]
    · rw [if_neg (by omega)]; simp [e]
theorem foldP_all (x n : Nat) : foldP (onesL x n) (onesL x n).length = x % 2 ^ n := by
  apply Nat.eq_of_testBit_eq
  intro i
  rw [foldP_bit _ i _ (Nat.le_refl _), List.take_of_length_le (Nat.le_refl _), Nat.testBit_mod_two_pow]
  unfold onesL
  rw [Bool.eq_iff_iff]
  simp
theorem foldP_lt (x n j : Nat) (hn : n ≤ 64) (hj : j ≤ (onesL x n).length) : foldP (onesL x n) j < 18446744073709551616 := by
  refine Nat.lt_pow_two_of_testBit (n := 64) _ fun i hi => ?_
  rw [foldP_bit _ i _ hj, decide_eq_false_iff_not]
  intro hm
  have := (ones_lt (List.mem_of_mem_take hm)).1
  omega
theorem ones_sorted (x n : Nat) : (onesL x n).Pairwise (· < ·) := List.Pairwise.filter _ List.pairwise_lt_range
def lastI (l : List Nat) (j : Nat) : Int := match j with | 0 => -1 | k + 1 => (l.getD k 0 : Nat)
theorem last_lt (x n j : Nat) (h : j < (onesL x n).length) : lastI (onesL x n) j < ((onesL x n).getD j 0 : Nat) ∧ (onesL x n).getD j 0 < n := by
  have hm : (onesL x n)[j] ∈ onesL x n := List.getElem_mem h
  rw [List.getD_eq_getElem?_getD, List.getElem?_eq_getElem h, Option.getD_some]
  refine ⟨?_, (ones_lt hm).1⟩
  cases j with
  | zero => show (-1 : Int) < _; omega
  | succ k =>
    show (((onesL x n).getD k 0 : Nat) : Int) < _
    rw [List.getD_eq_getElem?_getD, List.getElem?_eq_getElem (by omega : k < (onesL x n).length), Option.getD_some]
    have := List.pairwise_iff_getElem.1 (ones_sorted x n) k (k + 1) (by omega) h (by omega)
    omega
theorem get_zero (x n : Nat) (w : World) (hx : x < 18446744073709551616) (h1 : 1 ≤ n) (h : n ≤ 64) : Calls Tryd.prog 12 #[.int .u64 x, .int .i64 0, .int .i64 n] w fun e w' => e = .returned (.int .u64 (foldP (onesL x n) (onesL x n).length : Nat)) ∧ w = w' := by
  have := get_yes x 0 n w (by omega) (by omega) (by omega) (by omega) (by omega) (by omega)
  rwa [show getI x 0 n = (foldP (onesL x n) (onesL x n).length : Nat) by rw [foldP_all]; unfold getI getN; simp] at this
theorem put_one (y p : Nat) (w : World) (hy : y < 18446744073709551616) (hp : p < 64) : Calls Tryd.prog 14 #[.int .u64 y, .int .i64 p, .int .i64 1, .int .u64 1] w fun e w' => e = .returned (.int .u64 (putN y p 1 1 : Nat)) ∧ w = w' := by
  have := put_yes y p 1 1 w (by omega) (by omega) (by omega) (by omega) (by omega) (by omega) (by omega) (by omega)
  exact this

set_option maxHeartbeats 2000000 in
theorem fieldPlaces (x n : Nat) (m : Int) (w : World) (hd : Dw w) (hx : x < 18446744073709551616) (m0 : 0 ≤ m) (m1 : m ≤ 255) (hm : 1 + m % 64 = (n : Int)) :
    Calls Tryd.prog 8 #[.int .u64 x, .int .u8 m] w fun e w' => e = .returned (.bool true) ∧ Below w.heap.size w w' := by
  have hn : n ≤ 64 := by omega
  have hn1 : 1 ≤ n := by omega
  have hll := len_le x n
  have HM := Lib.hid hm
  clear hm
  go_enter Tryd.func8, Tryd.ntmps8
  go_wp2_with fail
  refine (awake_any _ hd).mono ?_
  rintro e w1 ⟨rfl, B1⟩
  have d1 := hd.keep B1
  have z1 := B1.size
  go_wp2_with fail
  simp only [HM.out]
  refine (places_t x n _ d1 hx hn).mono ?_
  rintro e w2 ⟨v, rfl, hL, hb2⟩
  have d2 := d1.keep hb2
  obtain ⟨B2, z2⟩ := belowStep B1 z1 hb2
  rcases hL with ⟨rfl, hnil⟩ | ⟨g, cap, rfl, _, _, hc⟩
  · have hg := get_zero x n w2 hx hn1 hn
    have ho := ones_t x n w2 d2 hx hn
    unfold oI at ho
    rw [hnil] at hg ho
    have HG := Lib.hid hg
    have HO := Lib.hid ho
    clear hg ho hnil hll
    go_wp2_with fail
    refine wp_loop_rounds 1 ?_
    rw [rounds_succ]
    go_wp2_with fail
    refine HG.out.mono ?_
    rintro e w' ⟨rfl, rfl⟩
    go_wp2_with fail
    refine HO.out.mono ?_
    rintro e w3 ⟨rfl, hb3⟩
    obtain ⟨B3, z3⟩ := belowStep B2 z2 hb3
    go_wp2_with fail
    go_ret
    exact ⟨rfl, B3⟩
  · have HC := Lib.hid hc
    clear hc
    have hmx : (onesL x n).length ≤ 64 := by omega
    go_wp2_with fail
    go_loop [8, 9, 10] (fun q la k => ∃ j : Nat, j ≤ (onesL x n).length ∧ k = .int .i64 j ∧ la = .int .i64 (lastI (onesL x n) j) ∧ q = .int .u64 ((foldP (onesL x n) j : Nat) : Int)) (fun _ _ k => 65 - (intOf k).toNat)
    case atStart => exact ⟨0, by omega, rfl, rfl, rfl⟩
    case round =>
      obtain ⟨j, hj, rfl, rfl, rfl⟩ := hrel
      by_cases hlt : j < (onesL x n).length
      · have hcj := HC.out j hlt
        obtain ⟨q1, q2⟩ := last_lt x n j hlt
        have hfl := foldP_lt x n j hn hj
        have hpt := put_one (foldP (onesL x n) j) ((onesL x n).getD j 0) w2 hfl (by omega)
        have hst := foldP_step (onesL x n) j hlt
        have hls : lastI (onesL x n) (j + 1) = ((onesL x n).getD j 0 : Nat) := rfl
        rw [← hst] at hpt
        have HP := Lib.hid hpt
        have HLS := Lib.hid hls
        clear hpt hst hls
        generalize (onesL x n).getD j 0 = p at *
        go_wp2_with (go_at_call 14; ((with_reducible refine HP.out.mono ?_); rintro e w' ⟨rfl, rfl⟩))
        go_round
        case rel => exact ⟨j + 1, by omega, by go_num, by rw [HLS.out], rfl⟩
        case measure => simp [intOf]; omega
      · obtain rfl : j = (onesL x n).length := by omega
        have HG := Lib.hid (get_zero x n w2 hx hn1 hn)
        have HO := Lib.hid (ones_t x n w2 d2 hx hn)
        go_wp2_with fail
        refine HG.out.mono ?_
        rintro e w' ⟨rfl, rfl⟩
        go_wp2_with fail
        refine HO.out.mono ?_
        rintro e w3 ⟨rfl, hb3⟩
        obtain ⟨B3, z3⟩ := belowStep B2 z2 hb3
        go_wp2_with fail
        go_ret
        exact ⟨by first | rfl | (simp [oI]; done), B3⟩
end Go.Proofs.YtcidhnpmmohfjaaDoor
