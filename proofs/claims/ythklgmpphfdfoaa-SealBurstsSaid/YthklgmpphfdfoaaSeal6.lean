/-
  The laws of package seal: SealHalves, SealTells, SealParts.
-/
import Derived.Test.YthklgmpphfdfoaaSeal5
set_option linter.unusedVariables false
namespace Go.Proofs.Ythklgmpphfdfoaa
open Go.RowKit

theorem SL.form {w : World} {v : Value} {l : List Nat} (h : SL w v l) : ∃ sp cap, v = .slice sp l.length cap := by
  rcases h with ⟨rfl, sp, cap, rfl⟩ | ⟨g, off, cap, rfl, _⟩
  · exact ⟨_, _, rfl⟩
  · exact ⟨_, _, rfl⟩

set_option maxHeartbeats 1000000 in
theorem sealHalves_big (s t : Nat) (l : List Nat) (v : Value) (w : World) (hv : SL w v l) (hbig : 40 < l.length) :
    Calls Try.prog 8 #[.int .u32 s, .int .u32 t, v] w fun e w' => e = .returned (.bool true) ∧ Below w.heap.size w w' := by
  obtain ⟨sp, cap, rfl⟩ := hv.form
  have hb : (40 : Int) < (l.length : Int) := by omega
  go_enter Try.func8, Try.ntmps8
  go_wp2_with fail
  refine (awake02 _).mono ?_
  rintro e w1 ⟨rfl, hb1⟩
  go_wp2_with fail
  go_ret
  exact ⟨rfl, hb1⟩
set_option maxHeartbeats 1000000 in
theorem sealHalves_in (s t : Nat) (l : List Nat) (v : Value) (w : World) (hs : s < 4294967296) (ht : t < 4294967296) (hl : WL l) (hv : SL w v l) (hin : l.length ≤ 40) (b : Bool)
    (h1 : (((moreN s l : Nat) : Int) == ((moreN t l : Nat) : Int)) = b) (h2 : ((s : Int) == (t : Int)) = b) :
    Calls Try.prog 8 #[.int .u32 s, .int .u32 t, v] w fun e w' => e = .returned (.bool true) ∧ Below w.heap.size w w' := by
  have hS := Lib.hid hv
  have hM1 := Lib.hid (fun w1 (hb : Below w.heap.size w w1) => more_any s v l w1 hs hl (by omega) (hS.out.keep hb))
  have hM2 := Lib.hid (fun w1 (hb : Below w.heap.size w w1) => more_any t v l w1 ht hl (by omega) (hS.out.keep hb))
  obtain ⟨sp, cap, rfl⟩ := hv.form
  clear hv
  have hb : ¬ (40 : Int) < (l.length : Int) := by omega
  generalize moreN s l = x at *
  generalize moreN t l = y at *
  go_enter Try.func8, Try.ntmps8
  go_wp2_with fail
  refine (awake02 _).mono ?_
  rintro e w1 ⟨rfl, hb1⟩
  go_wp2_with fail
  refine (hM1.out _ hb1).mono ?_
  rintro e w2 ⟨rfl, hb2⟩
  have hB2 := hb1.trans (hb2.mono hb1.size)
  go_wp2_with fail
  refine (hM2.out _ hB2).mono ?_
  rintro e w3 ⟨rfl, hb3⟩
  have hB3 := hB2.trans (hb3.mono hB2.size)
  cases b
  all_goals
    go_wp2_with fail
  all_goals
    go_ret
    exact ⟨ret_b (by first | rfl | (simp; done) | (simp [*]; done) | (rw [h1, h2]; rfl)), hB3⟩
theorem sealHalves (s t : Nat) (l : List Nat) (v : Value) (w : World) (hs : s < 4294967296) (ht : t < 4294967296) (hl : WL l) (hv : SL w v l) :
    Calls Try.prog 8 #[.int .u32 s, .int .u32 t, v] w fun e w' => e = .returned (.bool true) ∧ Below w.heap.size w w' := by
  by_cases h : 40 < l.length
  · exact sealHalves_big s t l v w hv h
  by_cases e : s = t
  · subst e
    exact sealHalves_in s s l v w hs hs hl hv (by omega) true (by simp) (by simp)
  · exact sealHalves_in s t l v w hs ht hl hv (by omega) false (by rw [beq_eq_false_iff_ne]; intro h2; exact e (more_inj s t l hs ht (by omega))) (by rw [beq_eq_false_iff_ne]; omega)

set_option maxHeartbeats 1000000 in
theorem sealTells (s : Nat) (l : List Nat) (v : Value) (w : World) (hs : s < 4294967296) (hl : WL l) (hv : SL w v l) :
    Calls Try.prog 3 #[v, .int .u32 s] w fun e w' => e = .returned (.bool true) ∧ Below w.heap.size w w' := by
  have hS := Lib.hid hv
  obtain ⟨sp, cap, rfl⟩ := hv.form
  clear hv
  by_cases h : 40 < l.length
  · have hb : (40 : Int) < (l.length : Int) := by omega
    go_enter Try.func3, Try.ntmps3
    go_wp2_with fail
    refine (awake02 _).mono ?_
    rintro e w1 ⟨rfl, hb1⟩
    go_wp2_with fail
    go_ret
    exact ⟨rfl, hb1⟩
  · have hM1 := Lib.hid (fun w1 (hb : Below w.heap.size w w1) => of_any _ l w1 hl (by omega) (hS.out.keep hb))
    have hM2 := Lib.hid (fun w1 (hb : Below w.heap.size w w1) => refOf_any _ l w1 hl (by omega) (hS.out.keep hb))
    have hM3 := Lib.hid (fun w1 (hb : Below w.heap.size w w1) => more_any s _ l w1 hs hl (by omega) (hS.out.keep hb))
    have hM4 := Lib.hid (fun w1 (hb : Below w.heap.size w w1) => refMore_any s _ l w1 hs hl (by omega) (hS.out.keep hb))
    have hb : ¬ (40 : Int) < (l.length : Int) := by omega
    generalize moreN s l = x at *
    generalize moreN 0 l = y at *
    have e1 : ((x : Int) == (x : Int)) = true := by simp
    have e2 : ((y : Int) == (y : Int)) = true := by simp
    go_enter Try.func3, Try.ntmps3
    go_wp2_with fail
    refine (awake02 _).mono ?_
    rintro e w1 ⟨rfl, hb1⟩
    go_wp2_with fail
    refine (hM1.out _ hb1).mono ?_
    rintro e w2 ⟨rfl, hb2⟩
    have hB2 := hb1.trans (hb2.mono hb1.size)
    go_wp2_with fail
    refine (hM2.out _ hB2).mono ?_
    rintro e w3 ⟨rfl, hb3⟩
    have hB3 := hB2.trans (hb3.mono hB2.size)
    go_wp2_with fail
    refine (hM3.out _ hB3).mono ?_
    rintro e w4 ⟨rfl, hb4⟩
    have hB4 := hB3.trans (hb4.mono hB3.size)
    go_wp2_with fail
    refine (hM4.out _ hB4).mono ?_
    rintro e w5 ⟨rfl, hb5⟩
    have hB5 := hB4.trans (hb5.mono hB4.size)
    go_wp2_with fail
    go_ret
    exact ⟨rfl, hB5⟩
end Go.Proofs.Ythklgmpphfdfoaa
