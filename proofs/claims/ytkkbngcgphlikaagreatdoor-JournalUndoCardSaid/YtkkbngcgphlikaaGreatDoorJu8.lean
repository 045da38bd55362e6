/-
  Part of the proof of JournalUndo.
-/
import Derived.Test.YtkkbngcgphlikaaGreatDoorJu5
import Derived.Test.YtkkbngcgphlikaaGreatDoorJu7
import Derived.Test.YtkkbngcgphlikaaGreatDoorJu0
set_option maxRecDepth 10000
set_option maxHeartbeats 1000000
set_option linter.unusedVariables false
set_option linter.unusedSimpArgs false
namespace Go.Proofs.YtkkbngcgphlikaaGreatDoor
open Go.RowKit Go.ChangeShapes Go.WideShapes Go.Deep
theorem KL.sl {w : World} {v : Value} {l : List Nat} (h : KL .u64 w v l) : SL w v l := by
 obtain ⟨A, cap, hv, h⟩ := h
 by_cases h0 : 0 < l.length
 ·obtain ⟨g, off, rfl, hg, hc, hi⟩ := h h0
  exact .inr ⟨g, off, cap, hv, hg, hc, hi⟩
 have : l = [] := List.eq_nil_of_length_eq_zero (by omega)
 subst this
 exact .inl ⟨rfl, A, cap, hv⟩
theorem SL.kl {w : World} {v : Value} {l : List Nat} (h : SL w v l) : KL .u64 w v l := by
 rcases h with ⟨rfl, A, cap, hv⟩ | ⟨g, off, cap, hv, hg, hc, hi⟩
 ·exact ⟨A, cap, hv, fun h => by simp at h⟩
 exact ⟨_, cap, hv, fun _ => ⟨g, off, rfl, hg, hc, hi⟩⟩
theorem OwnU.set {w : World} {base g cap n i y : Nat} {I : List Nat} (h : OwnU w base (.slice (some ⟨g, 0, none⟩) n cap) I) (hn : I.length = n) (hi : i < n) : OwnU (w.setCell ⟨g, i, none⟩ (.int .u64 (y : Nat))) base (.slice (some ⟨g, 0, none⟩) n cap) (I.set i y) := by
 unfold OwnU at h ⊢
 rw [hn] at h
 rw [List.length_set, hn, List.map_set]
 exact (World.ownsRow.stored h i _).1
theorem OwnU.cell {w : World} {base g cap n i : Nat} {I : List Nat} (h : OwnU w base (.slice (some ⟨g, 0, none⟩) n cap) I) (hn : I.length = n) (hi : i < n) : w.cell? ⟨g, i, none⟩ = some (.int .u64 (I.getD i 0 : Nat)) ∧ w.frozen? ⟨g, i, none⟩ = false := by
 unfold OwnU at h
 rw [hn] at h
 refine ⟨?_, h.frozenAt _⟩
 rw [World.ownsRow.cellAt h i (by omega), List.getElem?_map, List.getElem?_eq_getElem (by omega), List.getD_eq_getElem?_getD, List.getElem?_eq_getElem (by omega)]
 rfl
theorem OwnU.form {w : World} {base : Nat} {v : Value} {I : List Nat} (h : OwnU w base v I) : ∃ A cap, v = .slice A I.length cap ∧ (0 < I.length → ∃ g, A = some ⟨g, 0, none⟩ ∧ base ≤ g ∧ g < w.heap.size) := by
 rcases h.2 with ⟨h, h0⟩ | ⟨g, cap, cur, h, hb, hg, _⟩
 ·exact ⟨none, 0, by rw [h, h0], fun q => by omega⟩
 exact ⟨_, _, h, fun _ => ⟨g, rfl, hb, (Array.getElem?_eq_some_iff.1 hg).1⟩⟩
abbrev Ex := Int × Value × List Nat
def eE (x : Ex) : List Value := [.int .i64 x.1, x.2.1]
def eV (x : Ex) : Value := .agg (eE x).toArray
def canB (a m : Int) : Bool := decide (0 ≤ a) && decide (a < 65536) && decide (1 ≤ m) && decide (m ≤ 4096)
theorem canB_iff {a m : Int} : canB a m = true ↔ 0 ≤ a ∧ a < 65536 ∧ 1 ≤ m ∧ m ≤ 4096 := by
 unfold canB
 simp only [Bool.and_eq_true, decide_eq_true_eq, and_assoc]
def rightB (x : Ex) : Bool := canB x.1 x.2.2.length
def firstW (g a m : Nat) : Nat := a + 1048576 * m + 281474976710656 * (g % 65536)
def encW (g : Nat) (a : Nat) (l : List Nat) : List Nat := (firstW g a l.length :: l) ++ [moreN 0 (firstW g a l.length :: l)]
theorem can_any (a m : Int) (w : World) : Calls Tryz.prog 173 #[.int .i64 a, .int .i64 m] w fun e w' => e = .returned (.bool (canB a m)) ∧ w' = w := by
 unfold canB
 by_cases k1 : 0 ≤ a
 rotate_left
 ·rw [decide_eq_false k1]
  replace k1 : a < 0 := by omega
  go_enter Tryz.func173, Tryz.ntmps173
  go_wp2_with fail
  go_ret
  exact ⟨ret_b (by simp; try omega), rfl⟩
 by_cases k2 : a < 65536
 rotate_left
 ·rw [decide_eq_true k1, decide_eq_false k2]
  replace k2 : 65536 ≤ a := by omega
  go_enter Tryz.func173, Tryz.ntmps173
  go_wp2_with fail
  go_ret
  exact ⟨ret_b (by simp; try omega), rfl⟩
 by_cases k3 : 1 ≤ m
 ·by_cases k4 : m ≤ 4096
  ·rw [decide_eq_true k1, decide_eq_true k2, decide_eq_true k3, decide_eq_true k4]
   go_enter Tryz.func173, Tryz.ntmps173
   go_wp2_with fail
   go_ret
   exact ⟨ret_b (by simp; try omega), rfl⟩
  rw [decide_eq_true k1, decide_eq_true k2, decide_eq_true k3, decide_eq_false k4]
  replace k4 : 4096 < m := by omega
  go_enter Tryz.func173, Tryz.ntmps173
  go_wp2_with fail
  go_ret
  exact ⟨ret_b (by simp; try omega), rfl⟩
 rw [decide_eq_true k1, decide_eq_true k2, decide_eq_false k3]
 replace k3 : m < 1 := by omega
 go_enter Tryz.func173, Tryz.ntmps173
 go_wp2_with fail
 go_ret
 exact ⟨ret_b (by simp; try omega), rfl⟩
theorem Right_any (x : Ex) (w : World) (hx : KL .u64 w x.2.1 x.2.2) : Calls Tryz.prog 144 #[eV x] w fun e w' => e = .returned (.bool (rightB x)) ∧ Below w.heap.size w w' := by
 obtain ⟨a, v, l⟩ := x
 obtain ⟨A, cap, hv, _⟩ := hx.form rfl
 simp only [] at hv
 subst hv
 have hC := can_any a l.length (w.alloc (.cells #[.int .i64 a, .slice A l.length cap] (136 : Nat)))
 simp only [rightB, eV, eE]
 clear hx
 generalize l.length = n at *
 go_enter Tryz.func144, Tryz.ntmps144
 go_wp2_with (go_at_call 173; refine hC.mono ?_; rintro e w1 ⟨rfl, rfl⟩; clear hC)
 go_ret
 exact ⟨rfl, bZ _ _⟩
theorem put_at (a : Nat) (w : World) (h : a < 1048576) : Calls Tryz.prog 156 #[.int .u64 0, .int .i64 0, .int .i64 20, .int .u64 (a : Nat)] w fun e w' => e = .returned (.int .u64 (a : Nat)) ∧ w = w' := by
 refine (put_yes 0 0 20 a w (by omega) (by omega) (by omega) (by omega) (by omega) (by omega) (by omega) (by omega)).mono ?_
 rintro e w' ⟨rfl, rfl⟩
 refine ⟨?_, rfl⟩
 have e : a % 1048576 = a := Nat.mod_eq_of_lt (by omega)
 simp [putI, putN, e]
theorem put_many (a m : Nat) (w : World) (h : a < 1048576) (hm : m < 65536) : Calls Tryz.prog 156 #[.int .u64 (a : Nat), .int .i64 20, .int .i64 16, .int .u64 (m : Nat)] w fun e w' => e = .returned (.int .u64 ((a + 1048576 * m : Nat) : Int)) ∧ w = w' := by
 refine (put_yes a 20 16 m w (by omega) (by omega) (by omega) (by omega) (by omega) (by omega) (by omega) (by omega)).mono ?_
 rintro e w' ⟨rfl, rfl⟩
 refine ⟨?_, rfl⟩
 have e : m % 65536 = m := Nat.mod_eq_of_lt (by omega)
 have e2 : a % 1048576 = a := Nat.mod_eq_of_lt (by omega)
 have e3 : a / 68719476736 = 0 := by omega
 simp [putI, putN, e, e2, e3]
 omega
theorem putN_gen (b g : Nat) (h : b < 281474976710656) : putN b 48 16 g = b + 281474976710656 * (g % 65536) := by
 unfold putN
 rw [show (2 : Nat) ^ 48 = 281474976710656 from by decide, show (2 : Nat) ^ 16 = 65536 from by decide, Nat.mod_eq_of_lt h, Nat.div_eq_of_lt (Nat.lt_of_lt_of_le h (by decide)), Nat.zero_mul, Nat.add_zero, Nat.mul_comm]
theorem put_gen (b g : Nat) (w : World) (h : b < 281474976710656) (hg : g < 18446744073709551616) : Calls Tryz.prog 156 #[.int .u64 (b : Nat), .int .i64 48, .int .i64 16, .int .u64 (g : Nat)] w fun e w' => e = .returned (.int .u64 ((b + 281474976710656 * (g % 65536) : Nat) : Int)) ∧ w = w' := by
 refine (put_yes b 48 16 g w (by omega) (by omega) (by omega) (by omega) (by omega) (by omega) (by omega) (by omega)).mono ?_
 rintro e w' ⟨rfl, rfl⟩
 refine ⟨?_, rfl⟩
 rw [← putN_gen b g h]
 rfl
theorem first_any (g a m : Nat) (w : World) (hg : g < 18446744073709551616) (ha : a < 1048576) (hm : m < 65536) :
 Calls Tryz.prog 145 #[.int .u64 (g : Nat), .int .i64 (a : Nat), .int .i64 (m : Nat)] w fun e w' => e = .returned (.int .u64 (firstW g a m : Nat)) ∧ w' = w := by
 have h1 := put_at a w ha
 have h2 := put_many a m w ha hm
 have h3 := put_gen (a + 1048576 * m) g w (by omega) hg
 unfold firstW
 generalize a + 1048576 * m = b at *
 generalize b + 281474976710656 * (g % 65536) = c at *
 go_enter Tryz.func145, Tryz.ntmps145
 go_wp2_with (first
  | (go_at_call 156; refine h1.mono ?_; rintro e w1 ⟨rfl, rfl⟩; clear h1)
  | (go_at_call 156; refine h2.mono ?_; rintro e w1 ⟨rfl, rfl⟩; clear h2)
  | (go_at_call 156; refine h3.mono ?_; rintro e w1 ⟨rfl, rfl⟩; clear h3))
 go_ret
 exact ⟨rfl, rfl⟩
end Go.Proofs.YtkkbngcgphlikaaGreatDoor
