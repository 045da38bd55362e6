/-
  Part of the proof of MendTouches.
-/
import Derived.Test.YtkdhdibjbabgfaaGreatDoorVt12
import Derived.Test.YtkdhdibjbabgfaaGreatDoorVt2
import Derived.Test.YtkdhdibjbabgfaaGreatDoorVt3
import Derived.Test.YtkdhdibjbabgfaaGreatDoorVt31
import Derived.Test.YtkdhdibjbabgfaaGreatDoorVt32
import Derived.Test.YtkdhdibjbabgfaaGreatDoorVt33
import Derived.Test.YtkdhdibjbabgfaaGreatDoorVt35
import Derived.Test.YtkdhdibjbabgfaaGreatDoorVt4
import Derived.Test.YtkdhdibjbabgfaaGreatDoorVt7
import Derived.Test.YtkdhdibjbabgfaaGreatDoorVt8
import Derived.Deep.RegionHeld3
import Derived.Laws.CopyOwn
import Derived.Lib.AppendZerosOnto
import Derived.Lib.SliceRun
import Derived.OwnWalkIn
import Derived.LoopIn
import Derived.LoopNIn
import Derived.Maps.AppendAt
import Derived.RangeFuncBound
import Derived.RangeFuncBox
import Derived.RangeFuncCalls
import Derived.RangeFuncFrom
import Derived.RangeFuncLeaves
import Derived.RangeFuncNested
import Derived.RangeFuncWrites
import Derived.Scope
import Derived.Shelf.Abstract
import Derived.Shelf.RegionOpen
import Derived.TacticsInMore
import Derived.WalkKit
import Derived.Test.YtkdhdibjbabgfaaGreatDoorVt0
set_option maxRecDepth 20000
set_option maxHeartbeats 2000000
set_option linter.unusedVariables false
set_option linter.unusedSimpArgs false
section
namespace Go.Proofs.YtkdhdibjbabgfaaGreatDoor
open Go.RowKit
theorem refEnc_yes (k c l m b : Int) (w : World) (hw : Lw w) (b0 : 0 ≤ b) (h : rightB_ti k c l m b = true) :
 Calls Tryz.prog 59 #[.agg #[.int .i64 k, .int .i64 c, .int .i64 l, .int .i64 m, .int .u64 b]] w fun e w' => e = .returned (.tuple #[.int .u64 (wordI k c l m b), .int .i64 0]) ∧ Below w.heap.size w w' := by
 have hr := rightB_t_ti h
 have hbd : 0 ≤ k ∧ k < 8 ∧ 0 ≤ c ∧ c < 4 ∧ 0 ≤ l ∧ l < 64 ∧ 0 ≤ m ∧ m < 8192 ∧ b < 256 := by unfold RightP at hr; omega
 obtain ⟨k0, k1, c0, c1, l0, l1, m0, m1, b1⟩ := hbd
 have H := lh h
 clear h hr
 have hw1 := lh (hw.alloc (.cells #[.int .i64 k, .int .i64 c, .int .i64 l, .int .i64 m, .int .u64 b] 96))
 have f1 : IntKind.u64.wrap k = k := by rw [IntKind.wrap_u64]; omega
 have f2 : IntKind.u64.wrap c = c := by rw [IntKind.wrap_u64]; omega
 have f3 : IntKind.u64.wrap l = l := by rw [IntKind.wrap_u64]; omega
 have f4 : IntKind.u64.wrap m = m := by rw [IntKind.wrap_u64]; omega
 have g1 : IntKind.u64.wrap (8 * c) = 8 * c := by rw [IntKind.wrap_u64]; omega
 have g2 : IntKind.u64.wrap (32 * l) = 32 * l := by rw [IntKind.wrap_u64]; omega
 have g3 : IntKind.u64.wrap (2048 * m) = 2048 * m := by rw [IntKind.wrap_u64]; omega
 have g4 : IntKind.u64.wrap (16777216 * b) = 16777216 * b := by rw [IntKind.wrap_u64]; omega
 have s1 : IntKind.u64.wrap (k + 8 * c) = k + 8 * c := by rw [IntKind.wrap_u64]; omega
 have s2 : IntKind.u64.wrap (k + 8 * c + 32 * l) = k + 8 * c + 32 * l := by rw [IntKind.wrap_u64]; omega
 have s3 : IntKind.u64.wrap (k + 8 * c + 32 * l + 2048 * m) = k + 8 * c + 32 * l + 2048 * m := by rw [IntKind.wrap_u64]; omega
 have s4 : IntKind.u64.wrap (k + 8 * c + 32 * l + 2048 * m + 16777216 * b) = k + 8 * c + 32 * l + 2048 * m + 16777216 * b := by rw [IntKind.wrap_u64]; omega
 go_enter Tryz.func59, Tryz.ntmps59
 go_wp2_with fail
 refine (refRight_any_ti k c l m b _ hw1.out.2.2.1 hw1.out.2.2.2.1 b0).mono ?_
 rw [H.out]
 rintro e w1 ⟨rfl, hb1⟩
 have kb := (C5.new w k c l m b 96).keep hb1
 have hB1 : Below w.heap.size w w1 := (bZ w _).trans (hb1.mono (by simp))
 obtain ⟨v0, v1, v2, v3, v4⟩ := kb
 go_wp2_with fail
 go_ret2
 exact ⟨by first | rfl | (rw [s4]; rfl) | (simp only [f1, f2, f3, f4, g1, g2, g3, g4, s1, s2, s3, s4]; rfl), hB1⟩
open Go.RowKit
theorem gets (x : Int) (h0 : 0 ≤ x) : getI x 0 3 = x % 8 ∧ getI x 3 2 = x / 8 % 4 ∧ getI x 5 6 = x / 32 % 64 ∧ getI x 11 13 = x / 2048 % 8192 ∧ getI x 24 8 = x / 16777216 % 256 := by
 obtain ⟨n, rfl⟩ := Int.eq_ofNat_of_zero_le h0
 unfold getI getN
 simp only [Int.toNat_natCast]
 have a1 : (0 : Int).toNat = 0 := rfl
 have a2 : (3 : Int).toNat = 3 := rfl
 have a3 : (2 : Int).toNat = 2 := rfl
 have a4 : (5 : Int).toNat = 5 := rfl
 have a5 : (6 : Int).toNat = 6 := rfl
 have a6 : (11 : Int).toNat = 11 := rfl
 have a7 : (13 : Int).toNat = 13 := rfl
 have a8 : (24 : Int).toNat = 24 := rfl
 have a9 : (8 : Int).toNat = 8 := rfl
 simp only [a1, a2, a3, a4, a5, a6, a7, a8, a9]
 omega
theorem refDecode_any_ti (x : Int) (w : World) (hw : Lw w) (h0 : 0 ≤ x) (h1 : x < 18446744073709551616) :
 Calls Tryz.prog 54 #[.int .u64 x] w fun e w' => e = .returned (.tuple #[decV x, .bool (decB_ti x)]) ∧ Below w.heap.size w w' := by
 obtain ⟨E0, E1, E2, E3, E4⟩ := gets x h0
 have hL0 := lh ((hw.alloc (.cells #[.int .i64 0, .int .i64 0, .int .i64 0, .int .i64 0, .int .u64 0] 96)).alloc (.cells #[.int .i64 (x % 8), .int .i64 (x / 8 % 4), .int .i64 (x / 32 % 64), .int .i64 (x / 2048 % 8192), .int .u64 (x / 16777216 % 256)] 96))
 have hA : Below w.heap.size w ((w.alloc (.cells #[.int .i64 0, .int .i64 0, .int .i64 0, .int .i64 0, .int .u64 0] 96)).alloc (.cells #[.int .i64 (x % 8), .int .i64 (x / 8 % 4), .int .i64 (x / 32 % 64), .int .i64 (x / 2048 % 8192), .int .u64 (x / 16777216 % 256)] 96)) := (bZ _ _).alloc (by simp) _
 have hC0 := C5.new (w.alloc (.cells #[.int .i64 0, .int .i64 0, .int .i64 0, .int .i64 0, .int .u64 0] 96)) (x % 8) (x / 8 % 4) (x / 32 % 64) (x / 2048 % 8192) (x / 16777216 % 256) 96
 rw [show (w.alloc (.cells #[.int .i64 0, .int .i64 0, .int .i64 0, .int .i64 0, .int .u64 0] 96)).heap.size = w.heap.size + 1 by simp] at hC0
 have hR0 := (Bx.new (B := w.heap.size) w 96 (Nat.le_refl _)).keep (bZ _ (.cells #[.int .i64 (x % 8), .int .i64 (x / 8 % 4), .int .i64 (x / 32 % 64), .int .i64 (x / 2048 % 8192), .int .u64 (x / 16777216 % 256)] 96))
 clear hw
 by_cases hr : rightB_ti (x % 8) (x / 8 % 4) (x / 32 % 64) (x / 2048 % 8192) (x / 16777216 % 256) = true
 ·have HR := lh hr
  clear hr
  by_cases hx : x < 4294967296
  ·have hv : decB_ti x = true := by unfold decB_ti; rw [E0, E1, E2, E3, E4, HR.out]; simpa using hx
   have hV : decV x = .agg #[.int .i64 (x % 8), .int .i64 (x / 8 % 4), .int .i64 (x / 32 % 64), .int .i64 (x / 2048 % 8192), .int .u64 (x / 16777216 % 256)] := by unfold decV; rw [if_pos hv, E0, E1, E2, E3, E4]
   have hq : x / 4294967296 = 0 := by omega
   clear E0 E1 E2 E3 E4
   go_enter Tryz.func54, Tryz.ntmps54
   go_wp2_with fail
   refine (refRight_any_ti (x % 8) (x / 8 % 4) (x / 32 % 64) (x / 2048 % 8192) (x / 16777216 % 256) _ hL0.out.2.2.1 hL0.out.2.2.2.1 (by omega)).mono ?_
   rw [HR.out]
   rintro e w1 ⟨rfl, hb⟩
   have hR1 := hR0.keep hb
   have hC1 := hC0.keep hb
   have hB1 : Below w.heap.size w w1 := hA.trans (hb.mono (by simp; omega))
   clear hR0 hC0 hA hb
   obtain ⟨c0, c1, c2, c3, c4⟩ := hC1
   have qR := hR1
   obtain ⟨⟨r0, r1, r2, r3, r4⟩, ⟨m0, m1, m2, m3, m4⟩, _⟩ := hR1
   go_wp2_with fail
   (try simp only [Exit.inBlock, Exit.then])
   obtain ⟨w7, hw7, hC7, hb7⟩ := st5_ex qR (x % 8) (x / 8 % 4) (x / 32 % 64) (x / 2048 % 8192) (x / 16777216 % 256)
   rw [← hw7]
   obtain ⟨t0, t1, t2, t3, t4⟩ := hC7
   refine bodyPost_ret (v := .tuple #[decV x, .bool (decB_ti x)]) ?_ rfl ⟨rfl, hB1.trans hb7⟩
   rw [results_cell_tmp rfl, hV, hv]
   clear hw7 hb7 qR c0 c1 c2 c3 c4 r0 r1 r2 r3 r4 m0 m1 m2 m3 m4
   go_simp
  ·have hv : decB_ti x = false := by unfold decB_ti; simp [hx]
   have hV : decV x = .agg #[.int .i64 0, .int .i64 0, .int .i64 0, .int .i64 0, .int .u64 0] := by unfold decV; rw [if_neg (by simp [hv])]
   have hq : ¬ x / 4294967296 = 0 := by omega
   clear E0 E1 E2 E3 E4
   go_enter Tryz.func54, Tryz.ntmps54
   go_wp2_with fail
   refine (refRight_any_ti (x % 8) (x / 8 % 4) (x / 32 % 64) (x / 2048 % 8192) (x / 16777216 % 256) _ hL0.out.2.2.1 hL0.out.2.2.2.1 (by omega)).mono ?_
   rw [HR.out]
   rintro e w1 ⟨rfl, hb⟩
   have hR1 := hR0.keep hb
   have hC1 := hC0.keep hb
   have hB1 : Below w.heap.size w w1 := hA.trans (hb.mono (by simp; omega))
   clear hR0 hC0 hA hb
   obtain ⟨c0, c1, c2, c3, c4⟩ := hC1
   have qR := hR1
   obtain ⟨⟨r0, r1, r2, r3, r4⟩, ⟨m0, m1, m2, m3, m4⟩, _⟩ := hR1
   go_wp2_with fail
   (try simp only [Exit.inBlock, Exit.then])
   obtain ⟨w7, hw7, hC7, hb7⟩ := st5_ex qR 0 0 0 0 0
   rw [← hw7]
   obtain ⟨t0, t1, t2, t3, t4⟩ := hC7
   refine bodyPost_ret (v := .tuple #[decV x, .bool (decB_ti x)]) ?_ rfl ⟨rfl, hB1.trans hb7⟩
   rw [results_cell_tmp rfl, hV, hv]
   clear hw7 hb7 qR c0 c1 c2 c3 c4 r0 r1 r2 r3 r4 m0 m1 m2 m3 m4
   go_simp
 ·have HR := lh (show rightB_ti (x % 8) (x / 8 % 4) (x / 32 % 64) (x / 2048 % 8192) (x / 16777216 % 256) = false by simpa using hr)
  clear hr
  have hv : decB_ti x = false := by unfold decB_ti; rw [E0, E1, E2, E3, E4, HR.out]; rfl
  have hV : decV x = .agg #[.int .i64 0, .int .i64 0, .int .i64 0, .int .i64 0, .int .u64 0] := by unfold decV; rw [if_neg (by simp [hv])]
  clear E0 E1 E2 E3 E4
  go_enter Tryz.func54, Tryz.ntmps54
  go_wp2_with fail
  refine (refRight_any_ti (x % 8) (x / 8 % 4) (x / 32 % 64) (x / 2048 % 8192) (x / 16777216 % 256) _ hL0.out.2.2.1 hL0.out.2.2.2.1 (by omega)).mono ?_
  rw [HR.out]
  rintro e w1 ⟨rfl, hb⟩
  have hR1 := hR0.keep hb
  have hC1 := hC0.keep hb
  have hB1 : Below w.heap.size w w1 := hA.trans (hb.mono (by simp; omega))
  clear hR0 hC0 hA hb
  obtain ⟨c0, c1, c2, c3, c4⟩ := hC1
  have qR := hR1
  obtain ⟨⟨r0, r1, r2, r3, r4⟩, ⟨m0, m1, m2, m3, m4⟩, _⟩ := hR1
  go_wp2_with fail
  (try simp only [Exit.inBlock, Exit.then])
  obtain ⟨w7, hw7, hC7, hb7⟩ := st5_ex qR 0 0 0 0 0
  rw [← hw7]
  obtain ⟨t0, t1, t2, t3, t4⟩ := hC7
  refine bodyPost_ret (v := .tuple #[decV x, .bool (decB_ti x)]) ?_ rfl ⟨rfl, hB1.trans hb7⟩
  rw [results_cell_tmp rfl, hV, hv]
  clear hw7 hb7 qR c0 c1 c2 c3 c4 r0 r1 r2 r3 r4 m0 m1 m2 m3 m4
  go_simp
open Go.RowKit
open Go.RowKit
theorem dec_yes_ti (x : Int) (w : World) (hw : Lw w) (h0 : 0 ≤ x) (h1 : x < 18446744073709551616) (h : decB_ti x = true) :
 Calls Tryz.prog 86 #[.int .u64 x] w fun e w' => e = .returned (.tuple #[.agg #[.int .i64 (getI x 0 3), .int .i64 (getI x 3 2), .int .i64 (getI x 5 6), .int .i64 (getI x 11 13), .int .u64 (getI x 24 8)], .bool true]) ∧ Below w.heap.size w w' := by
 have := decode_any x w hw h0 h1
 rwa [show decV x = .agg #[.int .i64 (getI x 0 3), .int .i64 (getI x 3 2), .int .i64 (getI x 5 6), .int .i64 (getI x 11 13), .int .u64 (getI x 24 8)] by unfold decV; rw [if_pos h], h] at this
theorem dec_no_ti (x : Int) (w : World) (hw : Lw w) (h0 : 0 ≤ x) (h1 : x < 18446744073709551616) (h : decB_ti x = false) :
 Calls Tryz.prog 86 #[.int .u64 x] w fun e w' => e = .returned (.tuple #[.agg #[.int .i64 0, .int .i64 0, .int .i64 0, .int .i64 0, .int .u64 0], .bool false]) ∧ Below w.heap.size w w' := by
 have := decode_any x w hw h0 h1
 rwa [show decV x = .agg #[.int .i64 0, .int .i64 0, .int .i64 0, .int .i64 0, .int .u64 0] by unfold decV; rw [if_neg (by simp [h])], h] at this
theorem word_parts (k c l m b : Int) (k0 : 0 ≤ k) (k1 : k < 8) (c0 : 0 ≤ c) (c1 : c < 4) (l0 : 0 ≤ l) (l1 : l < 64) (m0 : 0 ≤ m) (m1 : m < 8192) (b0 : 0 ≤ b) (b1 : b < 256) :
 getI (wordI k c l m b) 0 3 = k ∧ getI (wordI k c l m b) 3 2 = c ∧ getI (wordI k c l m b) 5 6 = l ∧ getI (wordI k c l m b) 11 13 = m ∧ getI (wordI k c l m b) 24 8 = b ∧ 0 ≤ wordI k c l m b ∧ wordI k c l m b < 4294967296 := by
 have hx : 0 ≤ wordI k c l m b ∧ wordI k c l m b < 4294967296 := by unfold wordI; omega
 obtain ⟨g0, g1, g2, g3, g4⟩ := gets (wordI k c l m b) hx.1
 rw [g0, g1, g2, g3, g4]
 refine ⟨?_, ?_, ?_, ?_, ?_, hx.1, hx.2⟩ <;> (unfold wordI; omega)
theorem right_bd {k c l m b : Int} (h : rightB_ti k c l m b = true) (b0 : 0 ≤ b) : 0 ≤ k ∧ k < 8 ∧ 0 ≤ c ∧ c < 4 ∧ 0 ≤ l ∧ l < 64 ∧ 0 ≤ m ∧ m < 8192 ∧ b < 256 := by
 have hr := rightB_t_ti h
 unfold RightP at hr; omega
end Go.Proofs.YtkdhdibjbabgfaaGreatDoor
end
section
namespace Go.Proofs.YtkdhdibjbabgfaaGreatDoor
open Go.RowKit Go.ChangeShapes Go.WideShapes Go.Deep
def eC (x : Nat) : List Value := [.int .i64 (kN x : Nat), .int .i64 (cN x : Nat), .int .i64 (lnN x : Nat), .int .i64 (mN x : Nat), .int .u64 (bN x : Nat)]
theorem eC_len (x : Nat) : (eC x).length = 5 := rfl
theorem infoC : (Tryz.prog.info? 96).map (fun i => (i.zero, i.size, i.bytes)) = some (some (.agg #[.int .i64 0, .int .i64 0, .int .i64 0, .int .i64 0, .int .u64 0]), 5, 40) := by kernel_rfl
theorem cT : ElT Tryz.prog 109 96 5 40 eC :=
 ⟨Tryz.underlying109, by obtain ⟨i0, h1, h2, h3, h4⟩ := info_parts infoC; exact ⟨i0, _, h1, h2, h3, h4, rfl⟩, eC_len, fun x u hu => by simp only [eC, List.mem_cons, List.not_mem_nil, or_false] at hu; rcases hu with rfl | rfl | rfl | rfl | rfl <;> rfl, by decide, by decide⟩
def eB (b : Bl) : List Value := [.int .i64 (b.1 : Nat), .int .i64 (b.2.1 : Nat), .int .i64 (b.2.2 : Nat)]
abbrev CKL (w : World) (v : Value) (l : List Nat) : Prop := EL 5 eC w v l
abbrev CKO (w : World) (base : Nat) (v : Value) (l : List Nat) : Prop := OwnE 96 5 eC w base v l
theorem gN_ti (x : Nat) : getI (x : Int) 0 3 = (kN x : Nat) ∧ getI (x : Int) 3 2 = (cN x : Nat) ∧ getI (x : Int) 5 6 = (lnN x : Nat) ∧ getI (x : Int) 11 13 = (mN x : Nat) ∧ getI (x : Int) 24 8 = (bN x : Nat) := by
 obtain ⟨h0, h1, h2, h3, h4⟩ := gets (x : Int) (by omega)
 rw [h0, h1, h2, h3, h4]
 clear h0 h1 h2 h3 h4
 unfold kN cN lnN mN bN
 refine ⟨?_, ?_, ?_, ?_, ?_⟩ <;> simp only [Int.natCast_emod, Int.natCast_ediv] <;> rfl
theorem rightN_B (x : Nat) : RightN x ↔ (x < 4294967296 ∧ RightP (kN x : Nat) (cN x : Nat) (lnN x : Nat) (mN x : Nat) (bN x : Nat)) := by
 unfold RightN RightP
 generalize kN x = k
 generalize cN x = c
 generalize lnN x = l
 generalize mN x = m
 generalize bN x = b
 constructor
 ·rintro ⟨h0, h | h | h | h⟩
  ·exact ⟨h0, .inl (by omega)⟩
  ·exact ⟨h0, .inr (.inl (by omega))⟩
  ·exact ⟨h0, .inr (.inr (.inl (by omega)))⟩
  ·exact ⟨h0, .inr (.inr (.inr (by omega)))⟩
 ·rintro ⟨h0, h | h | h | h⟩
  ·exact ⟨h0, .inl (by omega)⟩
  ·exact ⟨h0, .inr (.inl (by omega))⟩
  ·exact ⟨h0, .inr (.inr (.inl (by omega)))⟩
  ·exact ⟨h0, .inr (.inr (.inr (by omega)))⟩
theorem okN_dec (x : Nat) : decB_ti (x : Int) = okN x := by
 obtain ⟨h0, h1, h2, h3, h4⟩ := gN_ti x
 unfold decB_ti rightB_ti okN
 rw [h0, h1, h2, h3, h4, Bool.eq_iff_iff, Bool.and_eq_true, decide_eq_true_iff, decide_eq_true_iff, decide_eq_true_iff, rightN_B]
 constructor
 ·rintro ⟨a, b⟩; exact ⟨by omega, a⟩
 ·rintro ⟨a, b⟩; exact ⟨b, by omega⟩
theorem dcY (x : Nat) (w : World) (hw : Lw w) (h1 : x < 18446744073709551616) (h : okN x = true) :
 Calls Tryz.prog 86 #[.int .u64 (x : Nat)] w fun e w' => e = .returned (.tuple #[.agg #[.int .i64 (kN x : Nat), .int .i64 (cN x : Nat), .int .i64 (lnN x : Nat), .int .i64 (mN x : Nat), .int .u64 (bN x : Nat)], .bool true]) ∧ Below w.heap.size w w' := by
 have := dec_yes_ti (x : Int) w hw (by omega) (by omega) ((okN_dec x).trans h)
 obtain ⟨h0, h1, h2, h3, h4⟩ := gN_ti x
 rwa [h0, h1, h2, h3, h4] at this
theorem dcN (x : Nat) (w : World) (hw : Lw w) (h1 : x < 18446744073709551616) (h : okN x = false) :
 Calls Tryz.prog 86 #[.int .u64 (x : Nat)] w fun e w' => e = .returned (.tuple #[.agg #[.int .i64 0, .int .i64 0, .int .i64 0, .int .i64 0, .int .u64 0], .bool false]) ∧ Below w.heap.size w w' :=
 dec_no_ti (x : Int) w hw (by omega) (by omega) ((okN_dec x).trans h)
theorem rdcY (x : Nat) (w : World) (hw : Lw w) (h1 : x < 18446744073709551616) (h : okN x = true) :
 Calls Tryz.prog 54 #[.int .u64 (x : Nat)] w fun e w' => e = .returned (.tuple #[.agg #[.int .i64 (kN x : Nat), .int .i64 (cN x : Nat), .int .i64 (lnN x : Nat), .int .i64 (mN x : Nat), .int .u64 (bN x : Nat)], .bool true]) ∧ Below w.heap.size w w' := by
 have := refDecode_any_ti (x : Int) w hw (by omega) (by omega)
 obtain ⟨h0, h1, h2, h3, h4⟩ := gN_ti x
 unfold decV at this
 rw [okN_dec, h, if_pos rfl] at this
 rwa [h0, h1, h2, h3, h4] at this
theorem rdcN (x : Nat) (w : World) (hw : Lw w) (h1 : x < 18446744073709551616) (h : okN x = false) :
 Calls Tryz.prog 54 #[.int .u64 (x : Nat)] w fun e w' => e = .returned (.tuple #[.agg #[.int .i64 0, .int .i64 0, .int .i64 0, .int .i64 0, .int .u64 0], .bool false]) ∧ Below w.heap.size w w' := by
 have := refDecode_any_ti (x : Int) w hw (by omega) (by omega)
 unfold decV at this
 rw [okN_dec, h, if_neg (by simp)] at this
 exact this
theorem CKL.form {w : World} {v : Value} {l : List Nat} {n : Nat} (h : CKL w v l) (hn : l.length = n) : ∃ A cap, v = .slice A n cap ∧
 ∀ w1 i, Below w.heap.size w w1 → i < n → ∃ g off, A = some ⟨g, off, none⟩ ∧ n ≤ cap ∧ g < w.heap.size ∧ g < w1.heap.size ∧ w1.cell? ⟨g, off + i * 5, none⟩ = some (.int .i64 (kN (l.getD i 0) : Nat)) ∧ w1.cell? ⟨g, off + i * 5 + 1, none⟩ = some (.int .i64 (cN (l.getD i 0) : Nat)) ∧ w1.cell? ⟨g, off + i * 5 + 2, none⟩ = some (.int .i64 (lnN (l.getD i 0) : Nat)) ∧ w1.cell? ⟨g, off + i * 5 + 3, none⟩ = some (.int .i64 (mN (l.getD i 0) : Nat)) ∧ w1.cell? ⟨g, off + i * 5 + 4, none⟩ = some (.int .u64 (bN (l.getD i 0) : Nat)) := by
 obtain ⟨A, cap, hv, h⟩ := EL.form h hn
 refine ⟨A, cap, hv, fun w1 i hb hi => ?_⟩
 obtain ⟨g, off, hA, h1, h2, h3, hc⟩ := h w1 i hb hi
 exact ⟨g, off, hA, h1, h2, h3, hc 0 (by omega), hc 1 (by omega), hc 2 (by omega), hc 3 (by omega), hc 4 (by omega)⟩
def HL (l : List Nat) : Prop := ∀ x ∈ l, x < 65536
end Go.Proofs.YtkdhdibjbabgfaaGreatDoor
end
section
namespace Go.Proofs.YtkdhdibjbabgfaaGreatDoor
open Go.RowKit Go.ChangeShapes Go.WideShapes Go.Deep
theorem eC_new (w : World) (x : Nat) (t : TypeId) : CKL (w.alloc (.cells #[.int .i64 (kN x : Nat), .int .i64 (cN x : Nat), .int .i64 (lnN x : Nat), .int .i64 (mN x : Nat), .int .u64 (bN x : Nat)] t)) (.slice (some ⟨w.heap.size, 0, none⟩) 1 1) [x] := by
 refine ⟨_, _, rfl, fun _ => ⟨w.heap.size, 0, rfl, by simp, by simp, fun i hi j hj => ?_⟩⟩
 have hi0 : i = 0 := by simp at hi; omega
 subst hi0
 have h5 : j = 0 ∨ j = 1 ∨ j = 2 ∨ j = 3 ∨ j = 4 := by omega
 rcases h5 with rfl | rfl | rfl | rfl | rfl <;> simp [go_sem, eC]
theorem take_all {l : List Nat} {n : Nat} (h : l.length = n) : l.take n = l := List.take_of_length_le (by omega)
theorem take_snoc {l : List Nat} {k : Nat} (h : k < l.length) : l.take (k + 1) = l.take k ++ [l.getD k 0] := by
 rw [List.take_succ_eq_append_getElem h, List.getD_eq_getElem?_getD, List.getElem?_eq_getElem h]; rfl
theorem snoc_all {l : List Nat} {k n : Nat} (hn : l.length = n) (hk : k < n) (h1 : (l.take k).all okN = true) (h2 : okN (l.getD k 0) = true) : (l.take (k + 1)).all okN = true := by
 rw [take_snoc (by omega), List.all_append, h1]; simp only [List.all_cons, List.all_nil, h2, Bool.and_self]
theorem not_all {l : List Nat} {k n : Nat} (hn : l.length = n) (hk : k < n) (h2 : okN (l.getD k 0) = false) : l.all okN = false := by
 cases h : l.all okN with
 | false => rfl
 | true => rw [all_at h (by omega)] at h2; cases h2
def ChunksP (w : World) (t : List Nat) (e : Ending) (w' : World) : Prop :=
 (t.all okN = true ∧ ∃ v', e = .returned (.tuple #[v', .bool true]) ∧ CKO w' w.heap.size v' t) ∨ (t.all okN = false ∧ e = .returned (.tuple #[.slice none 0 0, .bool false]))
theorem chunks_any (v : Value) (t : List Nat) (w : World) (hw : Lw w) (hv : KL .u64 w v t) (hW : WL t) (hl : t.length ≤ 100000) :
 Calls Tryz.prog 65 #[v] w fun e w' => ChunksP w t e w' ∧ Below w.heap.size w w' := by
 obtain ⟨n, hn⟩ : ∃ n, t.length = n := ⟨_, rfl⟩
 obtain ⟨A, cap, rfl, hC⟩ := hv.form hn
 replace hC := lh hC
 have hWx := lh (fun k (hk : k < n) => show t.getD k 0 < 18446744073709551616 from hW.at k (by omega))
 have hSn := lh (fun k (hk : k < n) => snoc_all hn hk)
 have hNo := lh (fun k (hk : k < n) => not_all hn hk)
 have hTs := lh (fun k (hk : k < n) => take_snoc (l := t) (k := k) (by omega))
 have hTa := lh (take_all hn)
 have hTl := lh (fun k (hk : k ≤ n) => show (t.take k).length = k from by rw [List.length_take]; omega)
 have hn9 : n ≤ 100000 := by omega
 replace hn := lh hn
 have hwh := lh hw
 clear hv hW hl hw
 obtain ⟨i0, hi, hz0, hz1, hz2⟩ := info_parts infoC
 go_enter Tryz.func65, Tryz.ntmps65
 go_wp2_with (at_make; refine wpList_make_own _ rfl _ _ 109 rfl w.heap.size 96 i0 (.agg #[.int .i64 0, .int .i64 0, .int .i64 0, .int .i64 0, .int .u64 0]) 5 Tryz.underlying109 hi hz0 hz1 .i64 .i64 _ n rfl rfl rfl (by rw [hz2]; omega) (by unfold maxLen; omega) (Nat.le_refl _) ?_; intro w1 hown0 hgr; have hB0 : Below w.heap.size w w1 := (Below.refl _ _).grown hgr (Nat.le_refl _) (by simp); have hO0 : CKO w1 w.heap.size (.slice (some ⟨w.heap.size, 0, none⟩) 0 n) [] := hown0; clear hown0 hgr)
 go_loopw [14, 4] (fun i l wr => ∃ (j : Nat) (J : List Nat), j ≤ n ∧ i = .int .i64 j ∧ Hid (J = t.take j ∧ J.all okN = true) ∧ CKO wr w.heap.size l J ∧ Below w.heap.size w wr) (fun i _ _ => n + 1 - (intOf i).toNat)
 case atStart => exact ⟨0, [], Nat.zero_le _, rfl, ⟨by simp, by simp⟩, hO0, hB0⟩
 case round =>
  obtain ⟨j, J, hj, rfl, hJ, hown, hB⟩ := hrel
  by_cases hlt : j < n
  ·obtain ⟨g, off, rfl, hcap, hg, c0⟩ := hC.out wr j hB hlt
   have hlt' : (j : Int) < (n : Int) := by omega
   have hx := hWx.out j hlt
   have hJl : J.length = j := by rw [hJ.out.1]; exact hTl.out j hj
   have hsn := hSn.out j hlt
   have hno := hNo.out j hlt
   have hts := hTs.out j hlt
   rw [← hJ.out.1] at hts hsn
   generalize t.getD j 0 = x at *
   replace hts := lh hts
   have hlw := hwh.out.keep hB
   cases hok : okN x with
   | true =>
     have hsn2 := lh (hsn hJ.out.2 hok)
     have hD := dcY x wr hlw hx hok
     clear hsn hno hok hlw
     go_wp2_with fail
     refine hD.mono ?_
     rintro e w1 ⟨rfl, hb⟩
     have hB1 := hB.trans (hb.mono hB.size)
     have ho1 := hown.keep hb
     -- the chunk's own block, and the literal's
     have hA1 := bZ w1 (.cells #[.int .i64 (kN x : Nat), .int .i64 (cN x : Nat), .int .i64 (lnN x : Nat), .int .i64 (mN x : Nat), .int .u64 (bN x : Nat)] 96)
     generalize hw2 : w1.alloc (.cells #[.int .i64 (kN x : Nat), .int .i64 (cN x : Nat), .int .i64 (lnN x : Nat), .int .i64 (mN x : Nat), .int .u64 (bN x : Nat)] 96) = w2 at *
     obtain ⟨v', w4, hrun, ho4, hg4, _, _⟩ := appE cT ((ho1.keep hA1).alloc (.cells #[.int .i64 (kN x : Nat), .int .i64 (cN x : Nat), .int .i64 (lnN x : Nat), .int .i64 (mN x : Nat), .int .u64 (bN x : Nat)] (96 : Nat))) (eC_new w2 x (96 : Nat)) (by have := hB1.size; have := hA1.size; simp; omega) (by omega) (by simp)
     have hs2 : w2.heap.size = w1.heap.size + 1 := by rw [← hw2]; simp
     have hc5 := C5.new w1 (kN x : Nat) (cN x : Nat) (lnN x : Nat) (mN x : Nat) (bN x : Nat) 96
     rw [hw2] at hc5
     have hB4 : Below w.heap.size w w4 := ((hB1.trans (hA1.mono hB1.size)).alloc (by have := hB1.size; omega) _).trans (grown_below hg4 (by have := hB1.size; simp; omega) (fun k hk => (ho1.lt k hk).1))
     clear hA1 hg4 hD hb
     subst hw2
     simp only [World.size_alloc] at hrun
     go_wp2_with (at_builtin; refine wpList_append_run rfl _ _ 109 rfl _ _ _ rfl rfl hrun ?_)
     go_roundw
     case rel => exact ⟨j + 1, J ++ [x], by omega, by go_num, ⟨hts.out.symm, by rw [← hts.out]; exact hsn2.out⟩, ho4, hB4⟩
     case measure => first | (simp [intOf]; done) | (simp [intOf]; omega)
   | false =>
     have hno2 := lh (hno hok)
     have hD := dcN x wr hlw hx hok
     clear hsn hno hok hlw
     go_wp2_with fail
     refine hD.mono ?_
     rintro e w1 ⟨rfl, hb⟩
     have hB1 := hB.trans (hb.mono hB.size)
     go_wp2_with fail
     go_ret2
     exact ⟨.inr ⟨hno2.out, rfl⟩, hB1.alloc hB1.size _⟩
  ·obtain rfl : j = n := by omega
   have hJt := hTa.out
   rw [← hJ.out.1] at hJt
   subst hJt
   go_wp2_with fail
   go_ret2
   exact ⟨.inl ⟨hJ.out.2, _, rfl, hown⟩, hB⟩
theorem refChunks_any (v : Value) (t : List Nat) (w : World) (hw : Lw w) (hv : KL .u64 w v t) (hW : WL t) (hl : t.length ≤ 100000) :
 Calls Tryz.prog 72 #[v] w fun e w' => ChunksP w t e w' ∧ Below w.heap.size w w' := by
 obtain ⟨n, hn⟩ : ∃ n, t.length = n := ⟨_, rfl⟩
 obtain ⟨A, cap, rfl, hC⟩ := hv.form hn
 replace hC := lh hC
 have hWx := lh (fun k (hk : k < n) => show t.getD k 0 < 18446744073709551616 from hW.at k (by omega))
 have hSn := lh (fun k (hk : k < n) => snoc_all hn hk)
 have hNo := lh (fun k (hk : k < n) => not_all hn hk)
 have hTs := lh (fun k (hk : k < n) => take_snoc (l := t) (k := k) (by omega))
 have hTa := lh (take_all hn)
 have hTl := lh (fun k (hk : k ≤ n) => show (t.take k).length = k from by rw [List.length_take]; omega)
 have hn9 : n ≤ 100000 := by omega
 replace hn := lh hn
 have hwh := lh hw
 clear hv hW hl hw
 go_enter Tryz.func72, Tryz.ntmps72
 go_wp2_with fail
 go_loopw [5, 4] (fun i l wr => ∃ (j : Nat) (J : List Nat), j ≤ n ∧ i = .int .i64 j ∧ Hid (J = t.take j ∧ J.all okN = true) ∧ CKO wr w.heap.size l J ∧ Below w.heap.size w wr) (fun i _ _ => n + 1 - (intOf i).toNat)
 case atStart => exact ⟨0, [], Nat.zero_le _, rfl, ⟨by simp, by simp⟩, OwnE.nil _ _ _ _ _, Below.refl _ _⟩
 case round =>
  obtain ⟨j, J, hj, rfl, hJ, hown, hB⟩ := hrel
  by_cases hlt : j < n
  ·obtain ⟨g, off, rfl, hcap, hg, c0⟩ := hC.out wr j hB hlt
   have hlt' : (j : Int) < (n : Int) := by omega
   have hx := hWx.out j hlt
   have hJl : J.length = j := by rw [hJ.out.1]; exact hTl.out j hj
   have hsn := hSn.out j hlt
   have hno := hNo.out j hlt
   have hts := hTs.out j hlt
   rw [← hJ.out.1] at hts hsn
   generalize t.getD j 0 = x at *
   replace hts := lh hts
   have hlw := hwh.out.keep hB
   cases hok : okN x with
   | true =>
     have hsn2 := lh (hsn hJ.out.2 hok)
     have hD := rdcY x wr hlw hx hok
     clear hsn hno hok hlw
     go_wp2_with fail
     refine hD.mono ?_
     rintro e w1 ⟨rfl, hb⟩
     have hB1 := hB.trans (hb.mono hB.size)
     have ho1 := hown.keep hb
     -- the chunk's own block, and the literal's
     have hA1 := bZ w1 (.cells #[.int .i64 (kN x : Nat), .int .i64 (cN x : Nat), .int .i64 (lnN x : Nat), .int .i64 (mN x : Nat), .int .u64 (bN x : Nat)] 96)
     generalize hw2 : w1.alloc (.cells #[.int .i64 (kN x : Nat), .int .i64 (cN x : Nat), .int .i64 (lnN x : Nat), .int .i64 (mN x : Nat), .int .u64 (bN x : Nat)] 96) = w2 at *
     obtain ⟨v', w4, hrun, ho4, hg4, _, _⟩ := appE cT ((ho1.keep hA1).alloc (.cells #[.int .i64 (kN x : Nat), .int .i64 (cN x : Nat), .int .i64 (lnN x : Nat), .int .i64 (mN x : Nat), .int .u64 (bN x : Nat)] (96 : Nat))) (eC_new w2 x (96 : Nat)) (by have := hB1.size; have := hA1.size; simp; omega) (by omega) (by simp)
     have hs2 : w2.heap.size = w1.heap.size + 1 := by rw [← hw2]; simp
     have hc5 := C5.new w1 (kN x : Nat) (cN x : Nat) (lnN x : Nat) (mN x : Nat) (bN x : Nat) 96
     rw [hw2] at hc5
     have hB4 : Below w.heap.size w w4 := ((hB1.trans (hA1.mono hB1.size)).alloc (by have := hB1.size; omega) _).trans (grown_below hg4 (by have := hB1.size; simp; omega) (fun k hk => (ho1.lt k hk).1))
     clear hA1 hg4 hD hb
     subst hw2
     simp only [World.size_alloc] at hrun
     go_wp2_with (at_builtin; refine wpList_append_run rfl _ _ 109 rfl _ _ _ rfl rfl hrun ?_)
     go_roundw
     case rel => exact ⟨j + 1, J ++ [x], by omega, by go_num, ⟨hts.out.symm, by rw [← hts.out]; exact hsn2.out⟩, ho4, hB4⟩
     case measure => first | (simp [intOf]; done) | (simp [intOf]; omega)
   | false =>
     have hno2 := lh (hno hok)
     have hD := rdcN x wr hlw hx hok
     clear hsn hno hok hlw
     go_wp2_with fail
     refine hD.mono ?_
     rintro e w1 ⟨rfl, hb⟩
     have hB1 := hB.trans (hb.mono hB.size)
     go_wp2_with fail
     go_ret2
     exact ⟨.inr ⟨hno2.out, rfl⟩, hB1.alloc hB1.size _⟩
  ·obtain rfl : j = n := by omega
   have hJt := hTa.out
   rw [← hJ.out.1] at hJt
   subst hJt
   go_wp2_with fail
   go_ret2
   exact ⟨.inl ⟨hJ.out.2, _, rfl, hown⟩, hB⟩
end Go.Proofs.YtkdhdibjbabgfaaGreatDoor
end
section
namespace Go.Proofs.YtkdhdibjbabgfaaGreatDoor
open Go.RowKit Go.ChangeShapes Go.WideShapes Go.Deep Go.Shelf
attribute [local go_sem] Oper.semAt_some
theorem ChunksP.some {w w1 : World} {t : List Nat} {e : Ending} (h : ChunksP w t e w1) : ∃ v1 b t1, e = .returned (.tuple #[v1, .bool b]) ∧ CKL w1 v1 t1 ∧ t1.all okN = true ∧ blksT t = blksFrom 0 t1 ∧ t1.length ≤ t.length ∧ (t.all okN = true → t1 = t) ∧ (t.all okN = false → t1 = []) := by
 rcases h with ⟨hok, v', rfl, ho⟩ | ⟨hok, rfl⟩
 ·exact ⟨v', true, t, rfl, ho.el eC_len, hok, by unfold blksT; rw [if_pos hok], Nat.le_refl _, fun _ => rfl, (fun h => by rw [hok] at h; cases h)⟩
 ·exact ⟨_, false, [], rfl, EL.nil _ _ _ _ _, rfl, by unfold blksT; rw [if_neg (by rw [hok]; simp)]; rfl, by simp, (fun h => by rw [hok] at h; cases h), fun _ => rfl⟩
end Go.Proofs.YtkdhdibjbabgfaaGreatDoor
end
