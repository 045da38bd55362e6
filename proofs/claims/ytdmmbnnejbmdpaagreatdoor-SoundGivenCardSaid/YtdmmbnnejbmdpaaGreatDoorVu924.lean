/-
  Part of the proof of SoundTells,SoundGiven.
-/
import Derived.Test.YtdmmbnnejbmdpaaGreatDoorVu922
import Derived.Test.YtdmmbnnejbmdpaaGreatDoorVu923
import Derived.Test.YtdmmbnnejbmdpaaGreatDoorVu90
set_option maxRecDepth 20000
set_option maxHeartbeats 2000000
set_option linter.unusedVariables false
set_option linter.unusedSimpArgs false
namespace Go.Proofs.YtdmmbnnejbmdpaaGreatDoor
open Go.RowKit
theorem refEnc_yes (k c l m b : Int) (w : World) (hw : Lw w) (b0 : 0 ≤ b) (h : rightB_ti k c l m b = true) :
 Calls Tryz.prog 88 #[.agg #[.int .i64 k, .int .i64 c, .int .i64 l, .int .i64 m, .int .u64 b]] w fun e w' => e = .returned (.tuple #[.int .u64 (wordI k c l m b), .int .i64 0]) ∧ Below w.heap.size w w' := by
 have hr := rightB_t_ti h
 have hbd : 0 ≤ k ∧ k < 8 ∧ 0 ≤ c ∧ c < 4 ∧ 0 ≤ l ∧ l < 64 ∧ 0 ≤ m ∧ m < 8192 ∧ b < 256 := by unfold RightP at hr; omega
 obtain ⟨k0, k1, c0, c1, l0, l1, m0, m1, b1⟩ := hbd
 have H := lh h
 clear h hr
 have hw1 := lh (hw.alloc (.cells #[.int .i64 k, .int .i64 c, .int .i64 l, .int .i64 m, .int .u64 b] 121))
 have f1 : IntKind.u64.wrap k = k := by rw [IntKind.wrap_u64]; omega
 have f2 : IntKind.u64.wrap c = c := by rw [IntKind.wrap_u64]; omega
 have f3 : IntKind.u64.wrap l = l := by rw [IntKind.wrap_u64]; omega
 have f4 : IntKind.u64.wrap m = m := by rw [IntKind.wrap_u64]; omega
 have g1 : IntKind.u64.wrap (8 * c) = 8 * c := by rw [IntKind.wrap_u64]; omega
 have g2 : IntKind.u64.wrap (32 * l) = 32 * l := by rw [IntKind.wrap_u64]; omega
 have g3 : IntKind.u64.wrap (2048 * m) = 2048 * m := by rw [IntKind.wrap_u64]; omega
 have g4 : IntKind.u64.wrap (16777216 * b) = 16777216 * b := by rw [IntKind.wrap_u64]; omega
 have s1 : IntKind.u64.wrap (k + 8 * c) = k + 8 * c := by rw [IntKind.wrap_u64]; omega
 have s2 : IntKind.u64.wrap (k + 8 * c + 32 * l) = k + 8 * c + 32 * l := by rw [IntKind.wrap_u64]; omega
 have s3 : IntKind.u64.wrap (k + 8 * c + 32 * l + 2048 * m) = k + 8 * c + 32 * l + 2048 * m := by rw [IntKind.wrap_u64]; omega
 have s4 : IntKind.u64.wrap (k + 8 * c + 32 * l + 2048 * m + 16777216 * b) = k + 8 * c + 32 * l + 2048 * m + 16777216 * b := by rw [IntKind.wrap_u64]; omega
 go_enter Tryz.func88, Tryz.ntmps88
 go_wp2_with fail
 refine (refRight_any_ti k c l m b _ hw1.out.2.2.1 hw1.out.2.2.2.1 b0).mono ?_
 rw [H.out]
 rintro e w1 ⟨rfl, hb1⟩
 have kb := (C5.new w k c l m b 121).keep hb1
 have hB1 : Below w.heap.size w w1 := (bZ w _).trans (hb1.mono (by simp))
 obtain ⟨v0, v1, v2, v3, v4⟩ := kb
 go_wp2_with fail
 go_ret2
 exact ⟨by first | rfl | (rw [s4]; rfl) | (simp only [f1, f2, f3, f4, g1, g2, g3, g4, s1, s2, s3, s4]; rfl), hB1⟩
theorem pwI_bd (i : Nat) (h : i ≤ 7) : 0 ≤ pwI i ∧ pwI i ≤ 128 := by
 have : i = 0 ∨ i = 1 ∨ i = 2 ∨ i = 3 ∨ i = 4 ∨ i = 5 ∨ i = 6 ∨ i = 7 := by omega
 rcases this with h | h | h | h | h | h | h | h <;> subst h <;> decide +kernel
open Go.RowKit
theorem gets (x : Int) (h0 : 0 ≤ x) : getI x 0 3 = x % 8 ∧ getI x 3 2 = x / 8 % 4 ∧ getI x 5 6 = x / 32 % 64 ∧ getI x 11 13 = x / 2048 % 8192 ∧ getI x 24 8 = x / 16777216 % 256 := by
 obtain ⟨n, rfl⟩ := Int.eq_ofNat_of_zero_le h0
 unfold getI getN
 simp only [Int.toNat_natCast]
 have a1 : (0 : Int).toNat = 0 := rfl
 have a2 : (3 : Int).toNat = 3 := rfl
 have a3 : (2 : Int).toNat = 2 := rfl
 have a4 : (5 : Int).toNat = 5 := rfl
 have a5 : (6 : Int).toNat = 6 := rfl
 have a6 : (11 : Int).toNat = 11 := rfl
 have a7 : (13 : Int).toNat = 13 := rfl
 have a8 : (24 : Int).toNat = 24 := rfl
 have a9 : (8 : Int).toNat = 8 := rfl
 simp only [a1, a2, a3, a4, a5, a6, a7, a8, a9]
 omega
theorem refDecode_any_ti (x : Int) (w : World) (hw : Lw w) (h0 : 0 ≤ x) (h1 : x < 18446744073709551616) :
 Calls Tryz.prog 95 #[.int .u64 x] w fun e w' => e = .returned (.tuple #[decV x, .bool (decB_ti x)]) ∧ Below w.heap.size w w' := by
 obtain ⟨E0, E1, E2, E3, E4⟩ := gets x h0
 have hL0 := lh ((hw.alloc (.cells #[.int .i64 0, .int .i64 0, .int .i64 0, .int .i64 0, .int .u64 0] 121)).alloc (.cells #[.int .i64 (x % 8), .int .i64 (x / 8 % 4), .int .i64 (x / 32 % 64), .int .i64 (x / 2048 % 8192), .int .u64 (x / 16777216 % 256)] 121))
 have hA : Below w.heap.size w ((w.alloc (.cells #[.int .i64 0, .int .i64 0, .int .i64 0, .int .i64 0, .int .u64 0] 121)).alloc (.cells #[.int .i64 (x % 8), .int .i64 (x / 8 % 4), .int .i64 (x / 32 % 64), .int .i64 (x / 2048 % 8192), .int .u64 (x / 16777216 % 256)] 121)) := (bZ _ _).alloc (by simp) _
 have hC0 := C5.new (w.alloc (.cells #[.int .i64 0, .int .i64 0, .int .i64 0, .int .i64 0, .int .u64 0] 121)) (x % 8) (x / 8 % 4) (x / 32 % 64) (x / 2048 % 8192) (x / 16777216 % 256) 121
 rw [show (w.alloc (.cells #[.int .i64 0, .int .i64 0, .int .i64 0, .int .i64 0, .int .u64 0] 121)).heap.size = w.heap.size + 1 by simp] at hC0
 have hR0 := (Bx.new (B := w.heap.size) w 121 (Nat.le_refl _)).keep (bZ _ (.cells #[.int .i64 (x % 8), .int .i64 (x / 8 % 4), .int .i64 (x / 32 % 64), .int .i64 (x / 2048 % 8192), .int .u64 (x / 16777216 % 256)] 121))
 clear hw
 by_cases hr : rightB_ti (x % 8) (x / 8 % 4) (x / 32 % 64) (x / 2048 % 8192) (x / 16777216 % 256) = true
 ·have HR := lh hr
  clear hr
  by_cases hx : x < 4294967296
  ·have hv : decB_ti x = true := by unfold decB_ti; rw [E0, E1, E2, E3, E4, HR.out]; simpa using hx
   have hV : decV x = .agg #[.int .i64 (x % 8), .int .i64 (x / 8 % 4), .int .i64 (x / 32 % 64), .int .i64 (x / 2048 % 8192), .int .u64 (x / 16777216 % 256)] := by unfold decV; rw [if_pos hv, E0, E1, E2, E3, E4]
   have hq : x / 4294967296 = 0 := by omega
   clear E0 E1 E2 E3 E4
   go_enter Tryz.func95, Tryz.ntmps95
   go_wp2_with fail
   refine (refRight_any_ti (x % 8) (x / 8 % 4) (x / 32 % 64) (x / 2048 % 8192) (x / 16777216 % 256) _ hL0.out.2.2.1 hL0.out.2.2.2.1 (by omega)).mono ?_
   rw [HR.out]
   rintro e w1 ⟨rfl, hb⟩
   have hR1 := hR0.keep hb
   have hC1 := hC0.keep hb
   have hB1 : Below w.heap.size w w1 := hA.trans (hb.mono (by simp; omega))
   clear hR0 hC0 hA hb
   obtain ⟨c0, c1, c2, c3, c4⟩ := hC1
   have qR := hR1
   obtain ⟨⟨r0, r1, r2, r3, r4⟩, ⟨m0, m1, m2, m3, m4⟩, _⟩ := hR1
   go_wp2_with fail
   (try simp only [Exit.inBlock, Exit.then])
   obtain ⟨w7, hw7, hC7, hb7⟩ := st5_ex qR (x % 8) (x / 8 % 4) (x / 32 % 64) (x / 2048 % 8192) (x / 16777216 % 256)
   rw [← hw7]
   obtain ⟨t0, t1, t2, t3, t4⟩ := hC7
   refine bodyPost_ret (v := .tuple #[decV x, .bool (decB_ti x)]) ?_ rfl ⟨rfl, hB1.trans hb7⟩
   rw [results_cell_tmp rfl, hV, hv]
   clear hw7 hb7 qR c0 c1 c2 c3 c4 r0 r1 r2 r3 r4 m0 m1 m2 m3 m4
   go_simp
  ·have hv : decB_ti x = false := by unfold decB_ti; simp [hx]
   have hV : decV x = .agg #[.int .i64 0, .int .i64 0, .int .i64 0, .int .i64 0, .int .u64 0] := by unfold decV; rw [if_neg (by simp [hv])]
   have hq : ¬ x / 4294967296 = 0 := by omega
   clear E0 E1 E2 E3 E4
   go_enter Tryz.func95, Tryz.ntmps95
   go_wp2_with fail
   refine (refRight_any_ti (x % 8) (x / 8 % 4) (x / 32 % 64) (x / 2048 % 8192) (x / 16777216 % 256) _ hL0.out.2.2.1 hL0.out.2.2.2.1 (by omega)).mono ?_
   rw [HR.out]
   rintro e w1 ⟨rfl, hb⟩
   have hR1 := hR0.keep hb
   have hC1 := hC0.keep hb
   have hB1 : Below w.heap.size w w1 := hA.trans (hb.mono (by simp; omega))
   clear hR0 hC0 hA hb
   obtain ⟨c0, c1, c2, c3, c4⟩ := hC1
   have qR := hR1
   obtain ⟨⟨r0, r1, r2, r3, r4⟩, ⟨m0, m1, m2, m3, m4⟩, _⟩ := hR1
   go_wp2_with fail
   (try simp only [Exit.inBlock, Exit.then])
   obtain ⟨w7, hw7, hC7, hb7⟩ := st5_ex qR 0 0 0 0 0
   rw [← hw7]
   obtain ⟨t0, t1, t2, t3, t4⟩ := hC7
   refine bodyPost_ret (v := .tuple #[decV x, .bool (decB_ti x)]) ?_ rfl ⟨rfl, hB1.trans hb7⟩
   rw [results_cell_tmp rfl, hV, hv]
   clear hw7 hb7 qR c0 c1 c2 c3 c4 r0 r1 r2 r3 r4 m0 m1 m2 m3 m4
   go_simp
 ·have HR := lh (show rightB_ti (x % 8) (x / 8 % 4) (x / 32 % 64) (x / 2048 % 8192) (x / 16777216 % 256) = false by simpa using hr)
  clear hr
  have hv : decB_ti x = false := by unfold decB_ti; rw [E0, E1, E2, E3, E4, HR.out]; rfl
  have hV : decV x = .agg #[.int .i64 0, .int .i64 0, .int .i64 0, .int .i64 0, .int .u64 0] := by unfold decV; rw [if_neg (by simp [hv])]
  clear E0 E1 E2 E3 E4
  go_enter Tryz.func95, Tryz.ntmps95
  go_wp2_with fail
  refine (refRight_any_ti (x % 8) (x / 8 % 4) (x / 32 % 64) (x / 2048 % 8192) (x / 16777216 % 256) _ hL0.out.2.2.1 hL0.out.2.2.2.1 (by omega)).mono ?_
  rw [HR.out]
  rintro e w1 ⟨rfl, hb⟩
  have hR1 := hR0.keep hb
  have hC1 := hC0.keep hb
  have hB1 : Below w.heap.size w w1 := hA.trans (hb.mono (by simp; omega))
  clear hR0 hC0 hA hb
  obtain ⟨c0, c1, c2, c3, c4⟩ := hC1
  have qR := hR1
  obtain ⟨⟨r0, r1, r2, r3, r4⟩, ⟨m0, m1, m2, m3, m4⟩, _⟩ := hR1
  go_wp2_with fail
  (try simp only [Exit.inBlock, Exit.then])
  obtain ⟨w7, hw7, hC7, hb7⟩ := st5_ex qR 0 0 0 0 0
  rw [← hw7]
  obtain ⟨t0, t1, t2, t3, t4⟩ := hC7
  refine bodyPost_ret (v := .tuple #[decV x, .bool (decB_ti x)]) ?_ rfl ⟨rfl, hB1.trans hb7⟩
  rw [results_cell_tmp rfl, hV, hv]
  clear hw7 hb7 qR c0 c1 c2 c3 c4 r0 r1 r2 r3 r4 m0 m1 m2 m3 m4
  go_simp
def liveB (b : Nat) (i : Nat) : Bool := b.testBit i
theorem refLive_any (k c l m : Int) (b i : Nat) (w : World) (hi : i ≤ 7) (b0 : b < 18446744073709551616) :
 Calls Tryz.prog 62 #[.agg #[.int .i64 k, .int .i64 c, .int .i64 l, .int .i64 m, .int .u64 b], .int .i64 i] w fun e w' => e = .returned (.bool (liveB b i)) ∧ Below w.heap.size w w' := by
 have hR := lh (fun w => refPower10 i w (by omega))
 have hbd := pwI_bd i hi
 obtain ⟨hq0, hq1⟩ := hbd
 have hq2 : 1 ≤ pwI i := by unfold pwI; have := Nat.one_le_two_pow (n := i); omega
 have hq3 : ¬ pwI i = 0 := by omega
 have hq4 : (pwI i == 0) = false := by simpa using hq3
 go_enter Tryz.func62, Tryz.ntmps62
 go_wp2_with fail
 go_region_held3 (fun w' => w'.cell? ⟨w.heap.size, 4, none⟩ = some (.int .u64 b) ∧ Below w.heap.size w w')
  (((try go_split_ands); refine ⟨?_, ?_⟩ <;> first | assumption | (exact (bZ w _).drew) | (go_keep; done) | (go_grown; done)))
  ((first | (go_at_call 96; (with_reducible refine (hR.out _).mono ?_); rintro e w8 ⟨rfl, rfl⟩)))
 rename_i hHeld
 go_wp2_with fail
 go_ret
 refine ⟨ret_b ?_, hHeld.2⟩
 have e1 : (b : Int) / pwI i = ((b / 2 ^ i : Nat) : Int) := by unfold pwI; simp
 have e2 : b / 2 ^ i ≤ b := Nat.div_le_self _ _
 rw [e1, liveB, Nat.testBit_eq_decide_div_mod_eq]
 clear e1
 generalize b / 2 ^ i = q at *
 have e3 : IntKind.u64.wrap (q : Int) = (q : Int) := by rw [IntKind.wrap_u64]; omega
 rw [e3, Int.tmod_eq_emod_of_nonneg (by omega), Bool.eq_iff_iff]
 simp
 omega
open Go.RowKit
open Go.RowKit
theorem dec_yes_ti (x : Int) (w : World) (hw : Lw w) (h0 : 0 ≤ x) (h1 : x < 18446744073709551616) (h : decB_ti x = true) :
 Calls Tryz.prog 104 #[.int .u64 x] w fun e w' => e = .returned (.tuple #[.agg #[.int .i64 (getI x 0 3), .int .i64 (getI x 3 2), .int .i64 (getI x 5 6), .int .i64 (getI x 11 13), .int .u64 (getI x 24 8)], .bool true]) ∧ Below w.heap.size w w' := by
 have := decode_any x w hw h0 h1
 rwa [show decV x = .agg #[.int .i64 (getI x 0 3), .int .i64 (getI x 3 2), .int .i64 (getI x 5 6), .int .i64 (getI x 11 13), .int .u64 (getI x 24 8)] by unfold decV; rw [if_pos h], h] at this
theorem dec_no_ti (x : Int) (w : World) (hw : Lw w) (h0 : 0 ≤ x) (h1 : x < 18446744073709551616) (h : decB_ti x = false) :
 Calls Tryz.prog 104 #[.int .u64 x] w fun e w' => e = .returned (.tuple #[.agg #[.int .i64 0, .int .i64 0, .int .i64 0, .int .i64 0, .int .u64 0], .bool false]) ∧ Below w.heap.size w w' := by
 have := decode_any x w hw h0 h1
 rwa [show decV x = .agg #[.int .i64 0, .int .i64 0, .int .i64 0, .int .i64 0, .int .u64 0] by unfold decV; rw [if_neg (by simp [h])], h] at this
theorem word_parts (k c l m b : Int) (k0 : 0 ≤ k) (k1 : k < 8) (c0 : 0 ≤ c) (c1 : c < 4) (l0 : 0 ≤ l) (l1 : l < 64) (m0 : 0 ≤ m) (m1 : m < 8192) (b0 : 0 ≤ b) (b1 : b < 256) :
 getI (wordI k c l m b) 0 3 = k ∧ getI (wordI k c l m b) 3 2 = c ∧ getI (wordI k c l m b) 5 6 = l ∧ getI (wordI k c l m b) 11 13 = m ∧ getI (wordI k c l m b) 24 8 = b ∧ 0 ≤ wordI k c l m b ∧ wordI k c l m b < 4294967296 := by
 have hx : 0 ≤ wordI k c l m b ∧ wordI k c l m b < 4294967296 := by unfold wordI; omega
 obtain ⟨g0, g1, g2, g3, g4⟩ := gets (wordI k c l m b) hx.1
 rw [g0, g1, g2, g3, g4]
 refine ⟨?_, ?_, ?_, ?_, ?_, hx.1, hx.2⟩ <;> (unfold wordI; omega)
theorem right_bd {k c l m b : Int} (h : rightB_ti k c l m b = true) (b0 : 0 ≤ b) : 0 ≤ k ∧ k < 8 ∧ 0 ≤ c ∧ c < 4 ∧ 0 ≤ l ∧ l < 64 ∧ 0 ≤ m ∧ m < 8192 ∧ b < 256 := by
 have hr := rightB_t_ti h
 unfold RightP at hr; omega
end Go.Proofs.YtdmmbnnejbmdpaaGreatDoor
