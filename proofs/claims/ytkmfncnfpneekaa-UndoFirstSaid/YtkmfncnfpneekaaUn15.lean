/-
  The laws of package undo: UndoEncodes, UndoBacks, UndoParts.
-/
import Derived.Test.YtkmfncnfpneekaaUn13
import Derived.Test.YtkmfncnfpneekaaUn14
set_option linter.unusedVariables false
set_option linter.unusedSimpArgs false
namespace Go.Proofs.Ytkmfncnfpneekaa
open Go.RowKit Go.ChangeShapes Go.WideShapes Go.Deep

theorem KL.nil (K : IntKind) (w : World) (A : Option Addr) (cap : Nat) : KL K w (.slice A 0 cap) [] := ⟨A, cap, rfl, fun h => by simp at h⟩

set_option maxRecDepth 10000 in
set_option maxHeartbeats 2000000 in
theorem undoEncodes_yes (gn : Nat) (a : Int) (A : Option Addr) (n c : Nat) (l : List Nat) (w : World) (hg : gn < 18446744073709551616) (hx : KL .u64 w (.slice A n c) l) (hn : l.length = n) (hl : WL l) (h4 : n ≤ 40) (hr : rightB ((a, .slice A n c, l) : Ex) = true) :
    Calls Try.prog 3 #[.int .u64 (gn : Nat), .agg #[.int .i64 a, .slice A n c]] w fun e w' => e = .returned (.bool true) ∧ Below w.heap.size w w' := by
  have hX0 := Bk.new w (.int .i64 a) (.slice A n c)
  have hb0 : Below w.heap.size w (w.alloc (.cells #[.int .i64 a, .slice A n c] 25)) := (Below.refl _ _).alloc (Nat.le_refl _) _
  have hAw := awake13 (w.alloc (.cells #[.int .i64 a, .slice A n c] 25))
  have h4' : (n : Int) ≤ 40 := by omega
  have hK := Lib.hid (fun w' (hb : Below w.heap.size w w') => hx.keep hb)
  have hE := Lib.hid (fun w' (hb : Below w.heap.size w w') => Encode_yes gn (a, .slice A n c, l) w' hg (hx.keep hb) hl (by show l.length ≤ 800; omega) hr)
  have hF := Lib.hid (fun w' (hb : Below w.heap.size w w') => refEncode_yes gn (a, .slice A n c, l) w' hg (hx.keep hb) hl (by show l.length ≤ 800; omega) hr)
  have hel : Hid ((encW gn a.toNat l).length = n + 2) := by show _ = _; unfold encW; simp [hn]
  have hRt := Lib.hid (fun w' (hb : Below w.heap.size w w') => Right_any (a, .slice A n c, l) w' (hx.keep hb))
  have hSz := Lib.hid (fun w' (hb : Below w.heap.size w w') => Size_any (a, .slice A n c, l) w' (hx.keep hb))
  rw [hr] at hRt
  have hsz : Hid (sizeE ((a, .slice A n c, l) : Ex) = n + 2) := by show _ = _; unfold sizeE; rw [hr]; simp [hn]
  rw [hsz.out] at hSz
  simp only [eV, eE] at hE hF hRt hSz
  obtain ⟨x0, x1⟩ := hX0.c2
  clear hr
  go_enter Try.func3, Try.ntmps3
  go_wp2_with (first
    | (go_at_call 10; refine hAw.mono ?_; rintro e w1 ⟨rfl, hb⟩
       have hX1 := hX0.keep hb
       have hB1 := hb0.trans (hb.mono hb0.size)
       have h1 := hE.out w1 hB1
       obtain ⟨x0, x1⟩ := hX1.c2
       clear hAw hX0 hb0 hb)
    | (go_at_call 11; refine h1.mono ?_; rintro e w2 ⟨v1, rfl, hK1, hb⟩
       have hX2 := hX1.keep hb
       have hB2 := hB1.trans (hb.mono hB1.size)
       have h2 := hF.out w2 hB2
       obtain ⟨A1, c1, hv1, _⟩ := hK1.form hel.out
       subst hv1
       obtain ⟨x0, x1⟩ := hX2.c2
       clear h1 hX1 hB1 hb)
    | (go_at_call 12; refine h2.mono ?_; rintro e w3 ⟨v2, rfl, hK2, hb⟩
       have hX3 := hX2.keep hb
       have hB3 := hB2.trans (hb.mono hB2.size)
       have hWd := words_any _ _ _ _ w3 (by rw [hel.out]; omega) (hK1.keep hb) hK2
       rw [decide_eq_true rfl] at hWd
       obtain ⟨A2, c2, hv2, _⟩ := hK2.form hel.out
       subst hv2
       obtain ⟨x0, x1⟩ := hX3.c2
       clear h2 hX2 hB2 hb hK1 hK2)
    | (go_at_call 13; refine hWd.mono ?_; rintro e w4 ⟨rfl, hb⟩
       have hX4 := hX3.keep hb
       have hB4 := hB3.trans (hb.mono hB3.size)
       have h4 := hRt.out w4 hB4
       obtain ⟨x0, x1⟩ := hX4.c2
       clear hWd hX3 hB3 hb)
    | (go_at_call 14; refine h4.mono ?_; rintro e w5 ⟨rfl, hb⟩
       have hX5 := hX4.keep hb
       have hB5 := hB4.trans (hb.mono hB4.size)
       have h5 := hSz.out w5 hB5
       obtain ⟨x0, x1⟩ := hX5.c2
       clear h4 hX4 hB4 hb)
    | (go_at_call 15; refine h5.mono ?_; rintro e w6 ⟨rfl, hb⟩
       have hB6 := hB5.trans (hb.mono hB5.size)
       clear h5 hB5 hb))
  go_ret
  exact ⟨ret_b (by simp), hB6⟩

set_option maxRecDepth 10000 in
set_option maxHeartbeats 2000000 in
theorem undoEncodes_no (gn : Nat) (a : Int) (A : Option Addr) (n c : Nat) (l : List Nat) (w : World) (hg : gn < 18446744073709551616) (hx : KL .u64 w (.slice A n c) l) (hn : l.length = n) (hl : WL l) (h4 : n ≤ 40) (hr : rightB ((a, .slice A n c, l) : Ex) = false) :
    Calls Try.prog 3 #[.int .u64 (gn : Nat), .agg #[.int .i64 a, .slice A n c]] w fun e w' => e = .returned (.bool true) ∧ Below w.heap.size w w' := by
  have hX0 := Bk.new w (.int .i64 a) (.slice A n c)
  have hb0 : Below w.heap.size w (w.alloc (.cells #[.int .i64 a, .slice A n c] 25)) := (Below.refl _ _).alloc (Nat.le_refl _) _
  have hAw := awake13 (w.alloc (.cells #[.int .i64 a, .slice A n c] 25))
  have h4' : (n : Int) ≤ 40 := by omega
  have hK := Lib.hid (fun w' (hb : Below w.heap.size w w') => hx.keep hb)
  have hE := Lib.hid (fun w' (hb : Below w.heap.size w w') => Encode_no gn (a, .slice A n c, l) w' (hx.keep hb) hr)
  have hF := Lib.hid (fun w' => refEncode_no gn a A n c w' (by rw [← hn]; exact hr))
  have hRt := Lib.hid (fun w' (hb : Below w.heap.size w w') => Right_any (a, .slice A n c, l) w' (hx.keep hb))
  have hSz := Lib.hid (fun w' (hb : Below w.heap.size w w') => Size_any (a, .slice A n c, l) w' (hx.keep hb))
  rw [hr] at hRt
  have hsz : Hid (sizeE ((a, .slice A n c, l) : Ex) = 0) := by show _ = _; unfold sizeE; rw [hr]; rfl
  rw [hsz.out] at hSz
  simp only [eV, eE] at hE hF hRt hSz
  obtain ⟨x0, x1⟩ := hX0.c2
  clear hr
  go_enter Try.func3, Try.ntmps3
  go_wp2_with (first
    | (go_at_call 10; refine hAw.mono ?_; rintro e w1 ⟨rfl, hb⟩
       have hX1 := hX0.keep hb
       have hB1 := hb0.trans (hb.mono hb0.size)
       have h1 := hE.out w1 hB1
       obtain ⟨x0, x1⟩ := hX1.c2
       clear hAw hX0 hb0 hb)
    | (go_at_call 11; refine h1.mono ?_; rintro e w2 ⟨rfl, hb⟩
       have hX2 := hX1.keep hb
       have hB2 := hB1.trans (hb.mono hB1.size)
       have h2 := hF.out w2
       obtain ⟨x0, x1⟩ := hX2.c2
       clear h1 hX1 hB1 hb)
    | (go_at_call 12; refine h2.mono ?_; rintro e w3 ⟨rfl, hb⟩
       have hX3 := hX2.keep hb
       have hB3 := hB2.trans (hb.mono hB2.size)
       have hWd := words_any _ _ [] [] w3 (by simp) (KL.nil .u64 w3 none 0) (KL.nil .u64 w3 none 0)
       rw [decide_eq_true rfl] at hWd
       obtain ⟨x0, x1⟩ := hX3.c2
       clear h2 hX2 hB2 hb)
    | (go_at_call 13; refine hWd.mono ?_; rintro e w4 ⟨rfl, hb⟩
       have hX4 := hX3.keep hb
       have hB4 := hB3.trans (hb.mono hB3.size)
       have h4 := hRt.out w4 hB4
       obtain ⟨x0, x1⟩ := hX4.c2
       clear hWd hX3 hB3 hb)
    | (go_at_call 14; refine h4.mono ?_; rintro e w5 ⟨rfl, hb⟩
       have hX5 := hX4.keep hb
       have hB5 := hB4.trans (hb.mono hB4.size)
       have h5 := hSz.out w5 hB5
       obtain ⟨x0, x1⟩ := hX5.c2
       clear h4 hX4 hB4 hb)
    | (go_at_call 15; refine h5.mono ?_; rintro e w6 ⟨rfl, hb⟩
       have hB6 := hB5.trans (hb.mono hB5.size)
       clear h5 hB5 hb))
  go_ret
  exact ⟨ret_b (by simp), hB6⟩

set_option maxRecDepth 10000 in
set_option maxHeartbeats 2000000 in
theorem undoEncodes (gn : Nat) (x : Ex) (w : World) (hg : gn < 18446744073709551616) (hx : KL .u64 w x.2.1 x.2.2) (hl : WL x.2.2) :
    Calls Try.prog 3 #[.int .u64 (gn : Nat), eV x] w fun e w' => e = .returned (.bool true) ∧ Below w.heap.size w w' := by
  obtain ⟨a, v, l⟩ := x
  obtain ⟨n, hn⟩ : ∃ n, l.length = n := ⟨_, rfl⟩
  obtain ⟨A, c, hv, _⟩ := hx.form hn
  simp only [] at hv hl
  subst hv
  by_cases h4 : n ≤ 40
  · cases hr : rightB ((a, .slice A n c, l) : Ex) with
    | true => exact undoEncodes_yes gn a A n c l w hg hx hn hl h4 hr
    | false => exact undoEncodes_no gn a A n c l w hg hx hn hl h4 hr
  · have h4' : (40 : Int) < (n : Int) := by omega
    have hX0 := Bk.new w (.int .i64 a) (.slice A n c)
    have hb0 : Below w.heap.size w (w.alloc (.cells #[.int .i64 a, .slice A n c] 25)) := (Below.refl _ _).alloc (Nat.le_refl _) _
    have hAw := awake13 (w.alloc (.cells #[.int .i64 a, .slice A n c] 25))
    obtain ⟨x0, x1⟩ := hX0.c2
    simp only [eV, eE]
    go_enter Try.func3, Try.ntmps3
    go_wp2_with (first
      | (go_at_call 10; refine hAw.mono ?_; rintro e w1 ⟨rfl, hb⟩
         have hX1 := hX0.keep hb
         have hB1 := hb0.trans (hb.mono hb0.size)
         obtain ⟨x0, x1⟩ := hX1.c2
         clear hAw hX0 hb0 hb))
    go_ret
    exact ⟨rfl, hB1⟩
end Go.Proofs.Ytkmfncnfpneekaa
