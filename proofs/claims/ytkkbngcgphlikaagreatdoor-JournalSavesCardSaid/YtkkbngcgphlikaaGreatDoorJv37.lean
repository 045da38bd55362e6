/-
  Part of the proof of JournalSaves.
-/
import Derived.Test.YtkkbngcgphlikaaGreatDoorJv13
import Derived.Test.YtkkbngcgphlikaaGreatDoorJv17
import Derived.Test.YtkkbngcgphlikaaGreatDoorJv20
import Derived.Test.YtkkbngcgphlikaaGreatDoorJv33
import Derived.Test.YtkkbngcgphlikaaGreatDoorJv34
import Derived.Test.YtkkbngcgphlikaaGreatDoorJv0
set_option maxRecDepth 10000
set_option maxHeartbeats 2000000
set_option linter.unusedVariables false
set_option linter.unusedSimpArgs false
section
namespace Go.Proofs.YtkkbngcgphlikaaGreatDoor
open Go.Lib Go.RowKit Go.ChangeShapes Go.WideShapes Go.Deep Go.Shelf
def nextN (g : Nat) : Nat := if g = 281474976710655 then 0 else g + 1
theorem nextN_eq (g : Nat) : nextG (g : Int) = ((nextN g : Nat) : Int) := by
 unfold nextG nextN
 by_cases h : g = 281474976710655
 ·subst h; rfl
 ·rw [if_neg (by omega), if_neg h]; rfl
theorem nextN_le {g : Nat} (h : g ≤ 281474976710655) : nextN g ≤ 281474976710655 := by
 unfold nextN; split <;> omega
theorem curG_le {x : Nat} (h : x < 18446744073709551616) : curG x ≤ 281474976710655 := by
 unfold curG
 split
 ·unfold mkG; omega
 ·omega
theorem okB_1 {g : Nat} (h : g ≤ 281474976710655) : okB ((1 : Nat) : Int) ((0 : Nat) : Int) ((g : Nat) : Int) = true := by
 unfold okB; simp; omega
def begW (x : Nat) : Nat := 1 + 0 * 4 + nextN (curG x) * 65536
theorem jSave (B : Nat) (F : Nat → Prop) (s : Dv) (N m : Nat) (v : Value) (l : List Sp) (w : World) (h : DvAt w B F s) (hg : GoodJ s N m) (hN : 1 ≤ N) (hN2 : N ≤ 1000) (hm : m + l.length * N ≤ 100000) (hP : ∀ w', Chg F w w' → PL w' v l) (hb : PS l) (hl : l.length ≤ 100000) :
 Calls Tryz.prog 17 #[.pointer (some ⟨B, 0, none⟩), v] w fun e w' => e = .returned (.tuple #[]) ∧ DvAt w' B F (fenceL s l) ∧ Chg F w w' := by
 have hF := jFence B F s N m v l w h hg hN hN2 hm hP hb hl
 obtain ⟨A, c, rfl, -⟩ := hP w (Chg.refl F w)
 clear h hg hP hb
 go_enter Tryz.func17, Tryz.ntmps17
 go_wp2_with fail
 refine hF.mono ?_
 rintro e w1 ⟨rfl, hD, hc⟩
 go_wp2_with fail
 go_end0
 exact ⟨rfl, hD, hc⟩
theorem jBegin (B : Nat) (F : Nat → Prop) (s : Dv) (N L ln m : Nat) (w : World) (h : DvAt w B F s) (hg : GoodJ s N m) (hN : 1 ≤ N) (hN2 : N ≤ 1000) (hm : m + N + 2 ≤ 100000) (hlk : lOk (N : Nat) (L : Nat) (ln : Nat) = true) (hln : ln ≤ 1000) (hxb : loadD s (10 + (ln : Int)) < 18446744073709551616) :
 Calls Tryz.prog 42 #[.pointer (some ⟨B, 0, none⟩), .agg #[.int .i64 (N : Nat), .int .i64 (L : Nat)], .int .i64 (ln : Nat)] w fun e w' => e = .returned (.tuple #[]) ∧ DvAt w' B F (layD s (10 + (ln : Int)) (begW (loadD s (10 + (ln : Int))))) ∧ Chg F w w' := by
 have hG1 := curG_le hxb
 obtain ⟨x, hx⟩ : ∃ x, loadD s (10 + (ln : Int)) = x := ⟨_, rfl⟩
 have hCu := lh (fun w1 (q : Below w.heap.size w w1) => jCurrent B F s N L ln w1 (h.keep q) (hg.good hN hN2 (by omega)) hlk hxb)
 rw [hx] at hCu hG1 ⊢
 unfold begW
 obtain ⟨sx, hsx⟩ : ∃ a, curS x = a := ⟨_, rfl⟩
 obtain ⟨cx, hcx⟩ : ∃ a, curC x = a := ⟨_, rfl⟩
 obtain ⟨gx, hgx⟩ : ∃ a, curG x = a := ⟨_, rfl⟩
 rw [hsx, hcx, hgx] at hCu
 rw [hgx] at hG1 ⊢
 have hBe := lh (fun w1 => begin_any (sx : Nat) (cx : Nat) (gx : Nat) w1 (by omega) (by omega))
 rw [nextN_eq] at hBe
 have hn1 := nextN_le hG1
 have hLm := lh (fun w1 (q : DvAt w1 B F s) => jLayMark B F s N L ln m 1 0 (nextN gx) w1 q hg hN hN2 hm hlk hln (okB_1 hn1) (by omega))
 generalize nextN gx = gn at *
 have hDv := lh (fun w1 (q : Below w.heap.size w w1) => h.keep q)
 clear hx hsx hcx hgx h hg hlk hxb
 have hb0 := bZ w (.cells #[.int .i64 (N : Nat), .int .i64 (L : Nat)] 37)
 have gG := HB.new w #[.int .i64 (N : Nat), .int .i64 (L : Nat)] 37
 obtain ⟨wb1, hwb1⟩ : ∃ x, w.alloc (.cells #[.int .i64 (N : Nat), .int .i64 (L : Nat)] 37) = x := ⟨_, rfl⟩
 have hswb1 : wb1.heap.size = w.heap.size + 1 := by rw [← hwb1]; simp
 rw [hwb1] at hb0 gG
 have hB : Below w.heap.size w wb1 := hb0
 obtain ⟨C, hC⟩ : ∃ C, w.heap.size = C := ⟨_, rfl⟩
 rw [hC] at gG hswb1
 clear hb0
 have hCF := lh (fun w' (hb : Below wb1.heap.size wb1 w') => show w'.cell? ⟨C, 0, none⟩ = some (.int .i64 (N : Nat)) ∧ w'.cell? ⟨C, 1, none⟩ = some (.int .i64 (L : Nat)) from (gG.keep hb).c2)
 clear gG
 go_enter Tryz.func42, Tryz.ntmps42
 go_wp2_with fail
 refine wp_region_tail (S := (fun w' => Below wb1.heap.size wb1 w')) (n := 8) (by kernel_rfl) (Below.refl _ _).drew (fun hHeld hInv => ?_) (by decide)
 refine takeHS 0 hInv ?_; clear hInv; intro hInv
 refine takeHS 1 hInv ?_; clear hInv; intro hInv
 refine takeHS 2 hInv ?_; clear hInv; intro hInv
 refine takeHS 3 hInv ?_; clear hInv; intro hInv
 refine takeHS 4 hInv ?_; clear hInv; intro hInv
 refine takeHS 5 hInv ?_; clear hInv; intro hInv
 refine oneS 6 hInv (by decide) rfl (by kernel_rfl) (fun K hK => ?_)
 go_simp
 refine (hCu.out _ (hB.trans (hHeld.mono hB.size))).mono ?_
 rintro e w2 ⟨rfl, hb⟩
 refine hK.out _ _ (hHeld.trans (hb.mono hHeld.size)) (fun hHeld2 hInv2 => ?_)
 clear hK K hHeld hInv
 have hHeld := hHeld2
 have hInv := hInv2
 clear hHeld2 hInv2
 try simp only [Act.put,sA,sB,sC] at hInv ⊢
 refine oneS 7 hInv (by decide) rfl (by kernel_rfl) (fun K hK => ?_)
 go_simp
 refine (hBe.out _).mono ?_
 rintro e w3 ⟨rfl, hb⟩
 refine hK.out _ _ (hHeld.trans (hb.mono hHeld.size)) (fun hHeld2 hInv2 => ?_)
 clear hK K hHeld hInv
 have hHeld := hHeld2
 have hInv := hInv2
 clear hHeld2 hInv2
 try simp only [Act.put,sA,sB,sC] at hInv ⊢
 refine lastS 8 rfl (by decide) (by kernel_rfl) (fun K hK => ?_)
 have hB3 := hB.trans (hHeld.mono hB.size)
 go_simp
 refine (hLm.out _ (hDv.out _ hB3)).mono ?_
 rintro e w4 ⟨rfl, hD4, hc4⟩
 refine hK.out _ _ ?_
 clear hK K
 try simp only [Act.put,sA,sB,sC]
 refine wpAnyS_done (by kernel_rfl) ?_ _
 have hc5 := (Chg.of_below F hB3).trans hc4 (fun j q => .inl q)
 clear hCF hInv hHeld hCu hDv hLm
 go_wp2_with fail
 go_end0
 exact ⟨rfl, hD4, hc5⟩
end Go.Proofs.YtkkbngcgphlikaaGreatDoor
end
section
namespace Go.Proofs.YtkkbngcgphlikaaGreatDoor
open Go.Lib Go.RowKit Go.ChangeShapes Go.WideShapes Go.Deep Go.Shelf
theorem KL.far {K : IntKind} {S : Nat → Prop} {w w1 : World} {v : Value} {l : List Nat} (h : KL K w v l) (hc : Chg S w w1) (hn : ∀ k, v.ownBlock = some k → ¬ S k) : KL K w1 v l := by
 obtain ⟨A, c, rfl, hk⟩ := h
 refine ⟨A, c, rfl, fun hp => ?_⟩
 obtain ⟨g, off, rfl, hg, hcap, hi⟩ := hk hp
 exact ⟨g, off, rfl, Nat.lt_of_lt_of_le hg hc.size, hcap, fun i hil => by rw [World.cell?_of_block (hc.block _ hg (hn g rfl))]; exact hi i hil⟩
def WD (s : Dv) : Prop := Al (fun _ v => v < 18446744073709551616) s
theorem WD.load {s : Dv} (h : WD s) (x : Int) : loadD s x < 18446744073709551616 := by
 by_cases hx : hasD s x = true
 ·have hx2 := hx
  unfold hasD at hx2
  rw [Bool.and_eq_true, decide_eq_true_iff, decide_eq_true_iff] at hx2
  obtain ⟨i, rfl⟩ := Int.eq_ofNat_of_zero_le hx2.1
  exact load_al h (by omega)
 ·unfold loadD
  rw [if_neg hx]
  decide
theorem WD.store {s : Dv} (h : WD s) (x : Int) {v : Nat} (hv : v < 18446744073709551616) : WD (storeD s x v) := Al.store h x v (fun _ _ _ => hv)
theorem fieldS (x y : Value) (w : World) : (Instr.field 70 (.agg #[x, y]) 0).run Tryz.prog w = .ok x w := by kernel_rfl
end Go.Proofs.YtkkbngcgphlikaaGreatDoor
end
section
namespace Go.Proofs.YtkkbngcgphlikaaGreatDoor
open Go.Lib Go.RowKit Go.ChangeShapes Go.WideShapes Go.Deep Go.Shelf
theorem HB.chgJ {S : Nat → Prop} {w w1 : World} {b : Nat} {cs : Array Value} {t : TypeId} (h : HB w b cs t) (hc : Chg S w w1) (hn : ¬ S b) : HB w1 b cs t := (hc.block b h.lt hn).trans h
end Go.Proofs.YtkkbngcgphlikaaGreatDoor
end
section
namespace Go.Proofs.YtkkbngcgphlikaaGreatDoor
open Go.Lib Go.RowKit Go.ChangeShapes Go.WideShapes Go.Deep Go.Shelf
def inB (N L : Nat) (a : Int) : Bool := decide (cFrom (N : Nat) (L : Nat) 0 ≤ a ∧ a < cFrom (N : Nat) (L : Nat) (gN (N : Nat) (L : Nat)))
theorem jInChunks (N L : Nat) (a : Int) (w : World) (hgk : gOk (N : Nat) (L : Nat) = true) :
 Calls Tryz.prog 92 #[.agg #[.int .i64 (N : Nat), .int .i64 (L : Nat)], .int .i64 a] w fun e w' => e = .returned (.bool (inB N L a)) ∧ Below w.heap.size w w' := by
 have hOf : ∃ i j : Int, decide (0 ≤ i) = inB N L a ∧ Hid (∀ w1, Calls Tryz.prog 130 #[.agg #[.int .i64 (N : Nat), .int .i64 (L : Nat)], .int .i64 a] w1 fun e w' => e = .returned (.tuple #[.int .i64 i, .int .i64 j]) ∧ Below w1.heap.size w1 w') := by
  unfold inB
  by_cases h1 : cFrom (N : Nat) (L : Nat) 0 ≤ a
  ·by_cases h2 : a < cFrom (N : Nat) (L : Nat) (gN (N : Nat) (L : Nat))
   ·exact ⟨_, _, (by rw [decide_eq_true (And.intro h1 h2)]; exact decide_eq_true (by omega)), lh (fun w1 => of_yes _ _ a w1 hgk h1 h2)⟩
   ·exact ⟨_, _, (by rw [decide_eq_false (p := cFrom (N : Nat) (L : Nat) 0 ≤ a ∧ a < cFrom (N : Nat) (L : Nat) (gN (N : Nat) (L : Nat))) (fun q => h2 q.2)]; rfl), lh (fun w1 => of_high _ _ a w1 hgk h1 (by omega))⟩
  ·exact ⟨_, _, (by rw [decide_eq_false (p := cFrom (N : Nat) (L : Nat) 0 ≤ a ∧ a < cFrom (N : Nat) (L : Nat) (gN (N : Nat) (L : Nat))) (fun q => h1 q.1)]; rfl), lh (fun w1 => of_low _ _ a w1 hgk (by omega))⟩
 obtain ⟨i, j, hij, hOf⟩ := hOf
 rw [← hij]
 clear hij hgk
 have hb0 := bZ w (.cells #[.int .i64 (N : Nat), .int .i64 (L : Nat)] 37)
 have gG := HB.new w #[.int .i64 (N : Nat), .int .i64 (L : Nat)] 37
 obtain ⟨wb1, hwb1⟩ : ∃ x, w.alloc (.cells #[.int .i64 (N : Nat), .int .i64 (L : Nat)] 37) = x := ⟨_, rfl⟩
 have hswb1 : wb1.heap.size = w.heap.size + 1 := by rw [← hwb1]; simp
 rw [hwb1] at hb0 gG
 have hB : Below w.heap.size w wb1 := hb0
 obtain ⟨C, hC⟩ : ∃ C, w.heap.size = C := ⟨_, rfl⟩
 rw [hC] at gG hswb1
 clear hb0
 obtain ⟨q0, q1⟩ := gG.c2
 clear gG
 go_enter Tryz.func92, Tryz.ntmps92
 go_wp2_with fail
 refine (hOf.out _).mono ?_
 rintro e w1 ⟨rfl, hb1⟩
 have hB1 := hB.trans (hb1.mono hB.size)
 clear hOf
 go_wp2_with fail
 go_ret
 first | exact ⟨rfl, hB1⟩ | (rw [hC] at hB1; exact ⟨rfl, hB1⟩)
theorem jNote_range (B : Nat) (F : Nat → Prop) (s : Dv) (N L ln : Nat) (a m : Int) (w : World) (h : DvAt w B F s) (hg : GoodD s) (hlk : lOk (N : Nat) (L : Nat) (ln : Nat) = true) (hxb : loadD s (10 + (ln : Int)) < 18446744073709551616) (ha : -1099511627776 ≤ a ∧ a ≤ 1099511627776) (hm : -1099511627776 ≤ m ∧ m ≤ 1099511627776) (hno : curS (loadD s (10 + (ln : Int))) = 1) (hr : m < 1 ∨ 4096 < m ∨ inB N L a = false ∨ inB N L (a + m - 1) = false) :
 Calls Tryz.prog 34 #[.pointer (some ⟨B, 0, none⟩), .agg #[.int .i64 (N : Nat), .int .i64 (L : Nat)], .int .i64 (ln : Nat), .agg #[.int .i64 a, .int .i64 m]] w fun e w' => e = .returned (.int .i64 13) ∧ Below w.heap.size w w' := by
 have hgk := (lOk_t hlk).1
 have hCu := lh (fun w1 (q : Below w.heap.size w w1) => jCurrent B F s N L ln w1 (h.keep q) hg hlk hxb)
 obtain ⟨x, hx⟩ : ∃ x, loadD s (10 + (ln : Int)) = x := ⟨_, rfl⟩
 rw [hx] at hCu hno
 obtain ⟨sx, hsx⟩ : ∃ a, curS x = a := ⟨_, rfl⟩
 obtain ⟨cx, hcx⟩ : ∃ a, curC x = a := ⟨_, rfl⟩
 obtain ⟨gx, hgx⟩ : ∃ a, curG x = a := ⟨_, rfl⟩
 rw [hsx] at hno
 rw [hsx, hcx, hgx] at hCu
 have hIn := lh (fun a w1 => jInChunks N L a w1 hgk)
 clear hx hsx hcx hgx h hg hlk hxb hgk
 subst hno
 have hb0 := bZ w (.cells #[.int .i64 (N : Nat), .int .i64 (L : Nat)] 37)
 have gG := HB.new w #[.int .i64 (N : Nat), .int .i64 (L : Nat)] 37
 obtain ⟨wb1, hwb1⟩ : ∃ x, w.alloc (.cells #[.int .i64 (N : Nat), .int .i64 (L : Nat)] 37) = x := ⟨_, rfl⟩
 have hswb1 : wb1.heap.size = w.heap.size + 1 := by rw [← hwb1]; simp
 rw [hwb1] at hb0 gG
 have hB : Below w.heap.size w wb1 := hb0
 have hb1 := bZ wb1 (.cells #[.int .i64 a, .int .i64 m] 70)
 have gS := HB.new wb1 #[.int .i64 a, .int .i64 m] 70
 obtain ⟨wb2, hwb2⟩ : ∃ x, wb1.alloc (.cells #[.int .i64 a, .int .i64 m] 70) = x := ⟨_, rfl⟩
 have hswb2 : wb2.heap.size = w.heap.size + 2 := by rw [← hwb2]; simp; omega
 rw [hwb2] at hb1 gS
 rw [hswb1] at gS
 replace gG := gG.keep hb1
 replace hB := hB.trans (hb1.mono (by omega))
 obtain ⟨C, hC⟩ : ∃ C, w.heap.size = C := ⟨_, rfl⟩
 rw [hC] at gG gS hswb1 hswb2
 have hz := lh hr
 clear hb0 hb1
 go_enter Tryz.func34, Tryz.ntmps34
 obtain ⟨r0, r1⟩ := gG.c2
 go_wp2_with fail
 refine (hCu.out _ hB).mono ?_
 rintro e w1 ⟨rfl, hb1⟩
 clear r0 r1
 have eM := bZ w1 (.cells #[.int .i64 1, .int .i64 (cx : Nat), .int .u64 (gx : Nat)] 123)
 have gM := HB.new w1 #[.int .i64 1, .int .i64 (cx : Nat), .int .u64 (gx : Nat)] 123
 have gG2 := (gG.keep hb1).keep eM
 have gS2 := (gS.keep hb1).keep eM
 have hB2 := (hB.trans (hb1.mono hB.size)).trans (eM.mono (hB.trans (hb1.mono hB.size)).size)
 obtain ⟨m0, n0⟩ := row_cell gM 0
 obtain ⟨m1, n1⟩ := row_cell gM 1
 obtain ⟨m2, n2⟩ := row_cell gM 2
 obtain ⟨r0, r1⟩ := gG2.c2
 obtain ⟨q0, q1⟩ := gS2.c2
 clear gG gS hCu hb1 eM
 by_cases h1 : m < 1
 ·clear gM gG2 gS2 hr hz
  go_wp2_with fail
  go_ret
  first | exact ⟨rfl, hB2⟩ | (rw [hC] at hB2; exact ⟨rfl, hB2⟩)
 by_cases h2 : 4096 < m
 ·clear gM gG2 gS2 hr hz
  go_wp2_with fail
  go_ret
  first | exact ⟨rfl, hB2⟩ | (rw [hC] at hB2; exact ⟨rfl, hB2⟩)
 have h1' : 1 ≤ m := by omega
 have h2' : m ≤ 4096 := by omega
 go_wp2_with fail
 refine (hIn.out _ _).mono ?_
 rintro e w3 ⟨rfl, hb3⟩
 have hB3 := hB2.trans (hb3.mono hB2.size)
 obtain ⟨q2, q3⟩ := (gS2.keep hb3).c2
 obtain ⟨r2, r3⟩ := (gG2.keep hb3).c2
 clear hB2 gS2 gG2 gM hb3 m0 m1 m2 n0 n1 n2 r0 r1 q0 q1
 cases hi : inB N L a with
 | false =>
   go_wp2_with fail
   go_ret
   first | exact ⟨rfl, hB3⟩ | (rw [hC] at hB3; exact ⟨rfl, hB3⟩)
 | true =>
   have hj : inB N L (a + m - 1) = false := by
    rcases hr with h | h | h | h
    ·omega
    ·omega
    ·rw [hi] at h; cases h
    ·exact h
   have hI2 := hIn.out (a + m - 1)
   rw [hj] at hI2
   replace hI2 := lh hI2
   have w1' : IntKind.i64.wrap (a + m) = a + m := (by rw [IntKind.wrap_i64]; omega)
   have w2' : IntKind.i64.wrap (a + m - 1) = a + m - 1 := (by rw [IntKind.wrap_i64]; omega)
   clear hIn hr hz hi hj
   go_wp2_with fail
   refine (hI2.out _).mono ?_
   rintro e w4 ⟨rfl, hb4⟩
   have hB4 := hB3.trans (hb4.mono hB3.size)
   clear hI2 hb4 hB3 q2 q3 r2 r3
   go_wp2_with fail
   go_ret
   first | exact ⟨rfl, hB4⟩ | (rw [hC] at hB4; exact ⟨rfl, hB4⟩)
end Go.Proofs.YtkkbngcgphlikaaGreatDoor
end
