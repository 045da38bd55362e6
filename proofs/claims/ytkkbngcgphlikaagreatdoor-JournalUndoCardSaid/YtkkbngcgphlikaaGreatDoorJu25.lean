/-
  Part of the proof of JournalUndo.
-/
import Derived.Test.YtkkbngcgphlikaaGreatDoorJu23
import Derived.Test.YtkkbngcgphlikaaGreatDoorJu24
import Derived.Test.YtkkbngcgphlikaaGreatDoorJu0
set_option maxRecDepth 100000
set_option maxHeartbeats 2000000
set_option linter.unusedVariables false
set_option linter.unusedSimpArgs false
section
namespace Go.Proofs.YtkkbngcgphlikaaGreatDoor
open Go.RowKit
theorem refEnc_yes (k c l m b : Int) (w : World) (hw : Lw w) (b0 : 0 ≤ b) (h : rightB_ti k c l m b = true) :
 Calls Tryz.prog 134 #[.agg #[.int .i64 k, .int .i64 c, .int .i64 l, .int .i64 m, .int .u64 b]] w fun e w' => e = .returned (.tuple #[.int .u64 (wordI k c l m b), .int .i64 0]) ∧ Below w.heap.size w w' := by
 have hr := rightB_t_ti h
 have hbd : 0 ≤ k ∧ k < 8 ∧ 0 ≤ c ∧ c < 4 ∧ 0 ≤ l ∧ l < 64 ∧ 0 ≤ m ∧ m < 8192 ∧ b < 256 := by unfold RightP at hr; omega
 obtain ⟨k0, k1, c0, c1, l0, l1, m0, m1, b1⟩ := hbd
 have H := lh h
 clear h hr
 have hw1 := lh (hw.alloc (.cells #[.int .i64 k, .int .i64 c, .int .i64 l, .int .i64 m, .int .u64 b] 109))
 have f1 : IntKind.u64.wrap k = k := by rw [IntKind.wrap_u64]; omega
 have f2 : IntKind.u64.wrap c = c := by rw [IntKind.wrap_u64]; omega
 have f3 : IntKind.u64.wrap l = l := by rw [IntKind.wrap_u64]; omega
 have f4 : IntKind.u64.wrap m = m := by rw [IntKind.wrap_u64]; omega
 have g1 : IntKind.u64.wrap (8 * c) = 8 * c := by rw [IntKind.wrap_u64]; omega
 have g2 : IntKind.u64.wrap (32 * l) = 32 * l := by rw [IntKind.wrap_u64]; omega
 have g3 : IntKind.u64.wrap (2048 * m) = 2048 * m := by rw [IntKind.wrap_u64]; omega
 have g4 : IntKind.u64.wrap (16777216 * b) = 16777216 * b := by rw [IntKind.wrap_u64]; omega
 have s1 : IntKind.u64.wrap (k + 8 * c) = k + 8 * c := by rw [IntKind.wrap_u64]; omega
 have s2 : IntKind.u64.wrap (k + 8 * c + 32 * l) = k + 8 * c + 32 * l := by rw [IntKind.wrap_u64]; omega
 have s3 : IntKind.u64.wrap (k + 8 * c + 32 * l + 2048 * m) = k + 8 * c + 32 * l + 2048 * m := by rw [IntKind.wrap_u64]; omega
 have s4 : IntKind.u64.wrap (k + 8 * c + 32 * l + 2048 * m + 16777216 * b) = k + 8 * c + 32 * l + 2048 * m + 16777216 * b := by rw [IntKind.wrap_u64]; omega
 go_enter Tryz.func134, Tryz.ntmps134
 go_wp2_with fail
 refine (refRight_any_ti k c l m b _ hw1.out.2.2.1 hw1.out.2.2.2.1 b0).mono ?_
 rw [H.out]
 rintro e w1 ⟨rfl, hb1⟩
 have kb := (C5.new w k c l m b 109).keep hb1
 have hB1 : Below w.heap.size w w1 := (bZ w _).trans (hb1.mono (by simp))
 obtain ⟨v0, v1, v2, v3, v4⟩ := kb
 go_wp2_with fail
 go_ret2
 exact ⟨by first | rfl | (rw [s4]; rfl) | (simp only [f1, f2, f3, f4, g1, g2, g3, g4, s1, s2, s3, s4]; rfl), hB1⟩
theorem pwI_bd (i : Nat) (h : i ≤ 7) : 0 ≤ pwI i ∧ pwI i ≤ 128 := by
 have : i = 0 ∨ i = 1 ∨ i = 2 ∨ i = 3 ∨ i = 4 ∨ i = 5 ∨ i = 6 ∨ i = 7 := by omega
 rcases this with h | h | h | h | h | h | h | h <;> subst h <;> decide +kernel
open Go.RowKit
theorem gets (x : Int) (h0 : 0 ≤ x) : getI x 0 3 = x % 8 ∧ getI x 3 2 = x / 8 % 4 ∧ getI x 5 6 = x / 32 % 64 ∧ getI x 11 13 = x / 2048 % 8192 ∧ getI x 24 8 = x / 16777216 % 256 := by
 obtain ⟨n, rfl⟩ := Int.eq_ofNat_of_zero_le h0
 unfold getI getN
 simp only [Int.toNat_natCast]
 have a1 : (0 : Int).toNat = 0 := rfl
 have a2 : (3 : Int).toNat = 3 := rfl
 have a3 : (2 : Int).toNat = 2 := rfl
 have a4 : (5 : Int).toNat = 5 := rfl
 have a5 : (6 : Int).toNat = 6 := rfl
 have a6 : (11 : Int).toNat = 11 := rfl
 have a7 : (13 : Int).toNat = 13 := rfl
 have a8 : (24 : Int).toNat = 24 := rfl
 have a9 : (8 : Int).toNat = 8 := rfl
 simp only [a1, a2, a3, a4, a5, a6, a7, a8, a9]
 omega
theorem refDecode_any_ti (x : Int) (w : World) (hw : Lw w) (h0 : 0 ≤ x) (h1 : x < 18446744073709551616) :
 Calls Tryz.prog 58 #[.int .u64 x] w fun e w' => e = .returned (.tuple #[decV x, .bool (decB_ti x)]) ∧ Below w.heap.size w w' := by
 obtain ⟨E0, E1, E2, E3, E4⟩ := gets x h0
 have hL0 := lh ((hw.alloc (.cells #[.int .i64 0, .int .i64 0, .int .i64 0, .int .i64 0, .int .u64 0] 109)).alloc (.cells #[.int .i64 (x % 8), .int .i64 (x / 8 % 4), .int .i64 (x / 32 % 64), .int .i64 (x / 2048 % 8192), .int .u64 (x / 16777216 % 256)] 109))
 have hA : Below w.heap.size w ((w.alloc (.cells #[.int .i64 0, .int .i64 0, .int .i64 0, .int .i64 0, .int .u64 0] 109)).alloc (.cells #[.int .i64 (x % 8), .int .i64 (x / 8 % 4), .int .i64 (x / 32 % 64), .int .i64 (x / 2048 % 8192), .int .u64 (x / 16777216 % 256)] 109)) := (bZ _ _).alloc (by simp) _
 have hC0 := C5.new (w.alloc (.cells #[.int .i64 0, .int .i64 0, .int .i64 0, .int .i64 0, .int .u64 0] 109)) (x % 8) (x / 8 % 4) (x / 32 % 64) (x / 2048 % 8192) (x / 16777216 % 256) 109
 rw [show (w.alloc (.cells #[.int .i64 0, .int .i64 0, .int .i64 0, .int .i64 0, .int .u64 0] 109)).heap.size = w.heap.size + 1 by simp] at hC0
 have hR0 := (Bx.new (B := w.heap.size) w 109 (Nat.le_refl _)).keep (bZ _ (.cells #[.int .i64 (x % 8), .int .i64 (x / 8 % 4), .int .i64 (x / 32 % 64), .int .i64 (x / 2048 % 8192), .int .u64 (x / 16777216 % 256)] 109))
 clear hw
 by_cases hr : rightB_ti (x % 8) (x / 8 % 4) (x / 32 % 64) (x / 2048 % 8192) (x / 16777216 % 256) = true
 rotate_left
 ·have HR := lh (show rightB_ti (x % 8) (x / 8 % 4) (x / 32 % 64) (x / 2048 % 8192) (x / 16777216 % 256) = false by simpa using hr)
  clear hr
  have hv : decB_ti x = false := by unfold decB_ti; rw [E0, E1, E2, E3, E4, HR.out]; rfl
  have hV : decV x = .agg #[.int .i64 0, .int .i64 0, .int .i64 0, .int .i64 0, .int .u64 0] := by unfold decV; rw [if_neg (by simp [hv])]
  clear E0 E1 E2 E3 E4
  go_enter Tryz.func58, Tryz.ntmps58
  go_wp2_with fail
  refine (refRight_any_ti (x % 8) (x / 8 % 4) (x / 32 % 64) (x / 2048 % 8192) (x / 16777216 % 256) _ hL0.out.2.2.1 hL0.out.2.2.2.1 (by omega)).mono ?_
  rw [HR.out]
  rintro e w1 ⟨rfl, hb⟩
  have hR1 := hR0.keep hb
  have hC1 := hC0.keep hb
  have hB1 : Below w.heap.size w w1 := hA.trans (hb.mono (by simp; omega))
  clear hR0 hC0 hA hb
  obtain ⟨c0, c1, c2, c3, c4⟩ := hC1
  have qR := hR1
  obtain ⟨⟨r0, r1, r2, r3, r4⟩, ⟨m0, m1, m2, m3, m4⟩, _⟩ := hR1
  go_wp2_with fail
  (try simp only [Exit.inBlock, Exit.then])
  obtain ⟨w7, hw7, hC7, hb7⟩ := st5_ex qR 0 0 0 0 0
  rw [← hw7]
  obtain ⟨t0, t1, t2, t3, t4⟩ := hC7
  refine bodyPost_ret (v := .tuple #[decV x, .bool (decB_ti x)]) ?_ rfl ⟨rfl, hB1.trans hb7⟩
  rw [results_cell_tmp rfl, hV, hv]
  clear hw7 hb7 qR c0 c1 c2 c3 c4 r0 r1 r2 r3 r4 m0 m1 m2 m3 m4
  go_simp
 have HR := lh hr
 clear hr
 by_cases hx : x < 4294967296
 ·have hv : decB_ti x = true := by unfold decB_ti; rw [E0, E1, E2, E3, E4, HR.out]; simpa using hx
  have hV : decV x = .agg #[.int .i64 (x % 8), .int .i64 (x / 8 % 4), .int .i64 (x / 32 % 64), .int .i64 (x / 2048 % 8192), .int .u64 (x / 16777216 % 256)] := by unfold decV; rw [if_pos hv, E0, E1, E2, E3, E4]
  have hq : x / 4294967296 = 0 := by omega
  clear E0 E1 E2 E3 E4
  go_enter Tryz.func58, Tryz.ntmps58
  go_wp2_with fail
  refine (refRight_any_ti (x % 8) (x / 8 % 4) (x / 32 % 64) (x / 2048 % 8192) (x / 16777216 % 256) _ hL0.out.2.2.1 hL0.out.2.2.2.1 (by omega)).mono ?_
  rw [HR.out]
  rintro e w1 ⟨rfl, hb⟩
  have hR1 := hR0.keep hb
  have hC1 := hC0.keep hb
  have hB1 : Below w.heap.size w w1 := hA.trans (hb.mono (by simp; omega))
  clear hR0 hC0 hA hb
  obtain ⟨c0, c1, c2, c3, c4⟩ := hC1
  have qR := hR1
  obtain ⟨⟨r0, r1, r2, r3, r4⟩, ⟨m0, m1, m2, m3, m4⟩, _⟩ := hR1
  go_wp2_with fail
  (try simp only [Exit.inBlock, Exit.then])
  obtain ⟨w7, hw7, hC7, hb7⟩ := st5_ex qR (x % 8) (x / 8 % 4) (x / 32 % 64) (x / 2048 % 8192) (x / 16777216 % 256)
  rw [← hw7]
  obtain ⟨t0, t1, t2, t3, t4⟩ := hC7
  refine bodyPost_ret (v := .tuple #[decV x, .bool (decB_ti x)]) ?_ rfl ⟨rfl, hB1.trans hb7⟩
  rw [results_cell_tmp rfl, hV, hv]
  clear hw7 hb7 qR c0 c1 c2 c3 c4 r0 r1 r2 r3 r4 m0 m1 m2 m3 m4
  go_simp
 have hv : decB_ti x = false := by unfold decB_ti; simp [hx]
 have hV : decV x = .agg #[.int .i64 0, .int .i64 0, .int .i64 0, .int .i64 0, .int .u64 0] := by unfold decV; rw [if_neg (by simp [hv])]
 have hq : ¬ x / 4294967296 = 0 := by omega
 clear E0 E1 E2 E3 E4
 go_enter Tryz.func58, Tryz.ntmps58
 go_wp2_with fail
 refine (refRight_any_ti (x % 8) (x / 8 % 4) (x / 32 % 64) (x / 2048 % 8192) (x / 16777216 % 256) _ hL0.out.2.2.1 hL0.out.2.2.2.1 (by omega)).mono ?_
 rw [HR.out]
 rintro e w1 ⟨rfl, hb⟩
 have hR1 := hR0.keep hb
 have hC1 := hC0.keep hb
 have hB1 : Below w.heap.size w w1 := hA.trans (hb.mono (by simp; omega))
 clear hR0 hC0 hA hb
 obtain ⟨c0, c1, c2, c3, c4⟩ := hC1
 have qR := hR1
 obtain ⟨⟨r0, r1, r2, r3, r4⟩, ⟨m0, m1, m2, m3, m4⟩, _⟩ := hR1
 go_wp2_with fail
 (try simp only [Exit.inBlock, Exit.then])
 obtain ⟨w7, hw7, hC7, hb7⟩ := st5_ex qR 0 0 0 0 0
 rw [← hw7]
 obtain ⟨t0, t1, t2, t3, t4⟩ := hC7
 refine bodyPost_ret (v := .tuple #[decV x, .bool (decB_ti x)]) ?_ rfl ⟨rfl, hB1.trans hb7⟩
 rw [results_cell_tmp rfl, hV, hv]
 clear hw7 hb7 qR c0 c1 c2 c3 c4 r0 r1 r2 r3 r4 m0 m1 m2 m3 m4
 go_simp
def liveB (b : Nat) (i : Nat) : Bool := b.testBit i
theorem refLive_any (k c l m : Int) (b i : Nat) (w : World) (hi : i ≤ 7) (b0 : b < 18446744073709551616) :
 Calls Tryz.prog 107 #[.agg #[.int .i64 k, .int .i64 c, .int .i64 l, .int .i64 m, .int .u64 b], .int .i64 i] w fun e w' => e = .returned (.bool (liveB b i)) ∧ Below w.heap.size w w' := by
 have hR := lh (fun w => refPower10 i w (by omega))
 have hbd := pwI_bd i hi
 obtain ⟨hq0, hq1⟩ := hbd
 have hq2 : 1 ≤ pwI i := by unfold pwI; have := Nat.one_le_two_pow (n := i); omega
 have hq3 : ¬ pwI i = 0 := by omega
 have hq4 : (pwI i == 0) = false := by simpa using hq3
 go_enter Tryz.func107, Tryz.ntmps107
 go_wp2_with fail
 go_region_held3 (fun w' => w'.cell? ⟨w.heap.size, 4, none⟩ = some (.int .u64 b) ∧ Below w.heap.size w w')
  (((try go_split_ands); refine ⟨?_, ?_⟩ <;> first | assumption | (exact (bZ w _).drew) | (go_keep; done) | (go_grown; done)))
  ((first | (go_at_call 115; (with_reducible refine (hR.out _).mono ?_); rintro e w8 ⟨rfl, rfl⟩)))
 rename_i hHeld
 go_wp2_with fail
 go_ret
 refine ⟨ret_b ?_, hHeld.2⟩
 have e1 : (b : Int) / pwI i = ((b / 2 ^ i : Nat) : Int) := by unfold pwI; simp
 have e2 : b / 2 ^ i ≤ b := Nat.div_le_self _ _
 rw [e1, liveB, Nat.testBit_eq_decide_div_mod_eq]
 clear e1
 generalize b / 2 ^ i = q at *
 have e3 : IntKind.u64.wrap (q : Int) = (q : Int) := by rw [IntKind.wrap_u64]; omega
 rw [e3, Int.tmod_eq_emod_of_nonneg (by omega), Bool.eq_iff_iff]
 simp
 omega
open Go.RowKit
open Go.RowKit
theorem dec_yes_ti (x : Int) (w : World) (hw : Lw w) (h0 : 0 ≤ x) (h1 : x < 18446744073709551616) (h : decB_ti x = true) :
 Calls Tryz.prog 125 #[.int .u64 x] w fun e w' => e = .returned (.tuple #[.agg #[.int .i64 (getI x 0 3), .int .i64 (getI x 3 2), .int .i64 (getI x 5 6), .int .i64 (getI x 11 13), .int .u64 (getI x 24 8)], .bool true]) ∧ Below w.heap.size w w' := by
 have := decode_any x w hw h0 h1
 rwa [show decV x = .agg #[.int .i64 (getI x 0 3), .int .i64 (getI x 3 2), .int .i64 (getI x 5 6), .int .i64 (getI x 11 13), .int .u64 (getI x 24 8)] by unfold decV; rw [if_pos h], h] at this
theorem dec_no_ti (x : Int) (w : World) (hw : Lw w) (h0 : 0 ≤ x) (h1 : x < 18446744073709551616) (h : decB_ti x = false) :
 Calls Tryz.prog 125 #[.int .u64 x] w fun e w' => e = .returned (.tuple #[.agg #[.int .i64 0, .int .i64 0, .int .i64 0, .int .i64 0, .int .u64 0], .bool false]) ∧ Below w.heap.size w w' := by
 have := decode_any x w hw h0 h1
 rwa [show decV x = .agg #[.int .i64 0, .int .i64 0, .int .i64 0, .int .i64 0, .int .u64 0] by unfold decV; rw [if_neg (by simp [h])], h] at this
theorem word_parts (k c l m b : Int) (k0 : 0 ≤ k) (k1 : k < 8) (c0 : 0 ≤ c) (c1 : c < 4) (l0 : 0 ≤ l) (l1 : l < 64) (m0 : 0 ≤ m) (m1 : m < 8192) (b0 : 0 ≤ b) (b1 : b < 256) :
 getI (wordI k c l m b) 0 3 = k ∧ getI (wordI k c l m b) 3 2 = c ∧ getI (wordI k c l m b) 5 6 = l ∧ getI (wordI k c l m b) 11 13 = m ∧ getI (wordI k c l m b) 24 8 = b ∧ 0 ≤ wordI k c l m b ∧ wordI k c l m b < 4294967296 := by
 have hx : 0 ≤ wordI k c l m b ∧ wordI k c l m b < 4294967296 := by unfold wordI; omega
 obtain ⟨g0, g1, g2, g3, g4⟩ := gets (wordI k c l m b) hx.1
 rw [g0, g1, g2, g3, g4]
 refine ⟨?_, ?_, ?_, ?_, ?_, hx.1, hx.2⟩ <;> (unfold wordI; omega)
theorem right_bd {k c l m b : Int} (h : rightB_ti k c l m b = true) (b0 : 0 ≤ b) : 0 ≤ k ∧ k < 8 ∧ 0 ≤ c ∧ c < 4 ∧ 0 ≤ l ∧ l < 64 ∧ 0 ≤ m ∧ m < 8192 ∧ b < 256 := by
 have hr := rightB_t_ti h
 unfold RightP at hr; omega
end Go.Proofs.YtkkbngcgphlikaaGreatDoor
end
section
namespace Go.Proofs.YtkkbngcgphlikaaGreatDoor
open Go.RowKit Go.ChangeShapes Go.WideShapes Go.Deep
def eC (x : Nat) : List Value := [.int .i64 (kN x : Nat), .int .i64 (cN x : Nat), .int .i64 (lnN x : Nat), .int .i64 (mN x : Nat), .int .u64 (bN x : Nat)]
theorem eC_len (x : Nat) : (eC x).length = 5 := rfl
theorem infoC : (Tryz.prog.info? 109).map (fun i => (i.zero, i.size, i.bytes)) = some (some (.agg #[.int .i64 0, .int .i64 0, .int .i64 0, .int .i64 0, .int .u64 0]), 5, 40) := by kernel_rfl
theorem cT : ElT Tryz.prog 157 109 5 40 eC :=
 ⟨Tryz.underlying157, by obtain ⟨i0, h1, h2, h3, h4⟩ := info_parts infoC; exact ⟨i0, _, h1, h2, h3, h4, rfl⟩, eC_len, fun x u hu => by simp only [eC, List.mem_cons, List.not_mem_nil, or_false] at hu; rcases hu with rfl | rfl | rfl | rfl | rfl <;> rfl, by decide, by decide⟩
def eB (b : Bl) : List Value := [.int .i64 (b.1 : Nat), .int .i64 (b.2.1 : Nat), .int .i64 (b.2.2 : Nat)]
theorem eB_len (x : Bl) : (eB x).length = 3 := rfl
theorem infoB : (Tryz.prog.info? 93).map (fun i => (i.zero, i.size, i.bytes)) = some (some (.agg #[.int .i64 0, .int .i64 0, .int .i64 0]), 3, 24) := by kernel_rfl
theorem bT : ElT Tryz.prog 89 93 3 24 eB :=
 ⟨Tryz.underlying89, by obtain ⟨i0, h1, h2, h3, h4⟩ := info_parts infoB; exact ⟨i0, _, h1, h2, h3, h4, rfl⟩, eB_len, fun x u hu => by simp only [eB, List.mem_cons, List.not_mem_nil, or_false] at hu; rcases hu with rfl | rfl | rfl <;> rfl, by decide, by decide⟩
abbrev CKL (w : World) (v : Value) (l : List Nat) : Prop := EL 5 eC w v l
abbrev CKO (w : World) (base : Nat) (v : Value) (l : List Nat) : Prop := OwnE 109 5 eC w base v l
abbrev BKL (w : World) (v : Value) (l : List Bl) : Prop := EL 3 eB w v l
abbrev BKO (w : World) (base : Nat) (v : Value) (l : List Bl) : Prop := OwnE 93 3 eB w base v l
theorem gN_ti (x : Nat) : getI (x : Int) 0 3 = (kN x : Nat) ∧ getI (x : Int) 3 2 = (cN x : Nat) ∧ getI (x : Int) 5 6 = (lnN x : Nat) ∧ getI (x : Int) 11 13 = (mN x : Nat) ∧ getI (x : Int) 24 8 = (bN x : Nat) := by
 obtain ⟨h0, h1, h2, h3, h4⟩ := gets (x : Int) (by omega)
 rw [h0, h1, h2, h3, h4]
 clear h0 h1 h2 h3 h4
 unfold kN cN lnN mN bN
 refine ⟨?_, ?_, ?_, ?_, ?_⟩ <;> simp only [Int.natCast_emod, Int.natCast_ediv] <;> rfl
theorem rightN_B (x : Nat) : RightN x ↔ (x < 4294967296 ∧ RightP (kN x : Nat) (cN x : Nat) (lnN x : Nat) (mN x : Nat) (bN x : Nat)) := by
 unfold RightN RightP
 generalize kN x = k
 generalize cN x = c
 generalize lnN x = l
 generalize mN x = m
 generalize bN x = b
 constructor
 ·rintro ⟨h0, h | h | h | h⟩
  ·exact ⟨h0, .inl (by omega)⟩
  ·exact ⟨h0, .inr (.inl (by omega))⟩
  ·exact ⟨h0, .inr (.inr (.inl (by omega)))⟩
  exact ⟨h0, .inr (.inr (.inr (by omega)))⟩
 rintro ⟨h0, h | h | h | h⟩
 ·exact ⟨h0, .inl (by omega)⟩
 ·exact ⟨h0, .inr (.inl (by omega))⟩
 ·exact ⟨h0, .inr (.inr (.inl (by omega)))⟩
 exact ⟨h0, .inr (.inr (.inr (by omega)))⟩
theorem okN_dec (x : Nat) : decB_ti (x : Int) = okN x := by
 obtain ⟨h0, h1, h2, h3, h4⟩ := gN_ti x
 unfold decB_ti rightB_ti okN
 rw [h0, h1, h2, h3, h4, Bool.eq_iff_iff, Bool.and_eq_true, decide_eq_true_iff, decide_eq_true_iff, decide_eq_true_iff, rightN_B]
 constructor
 ·rintro ⟨a, b⟩; exact ⟨by omega, a⟩
 rintro ⟨a, b⟩; exact ⟨b, by omega⟩
theorem dcY (x : Nat) (w : World) (hw : Lw w) (h1 : x < 18446744073709551616) (h : okN x = true) :
 Calls Tryz.prog 125 #[.int .u64 (x : Nat)] w fun e w' => e = .returned (.tuple #[.agg #[.int .i64 (kN x : Nat), .int .i64 (cN x : Nat), .int .i64 (lnN x : Nat), .int .i64 (mN x : Nat), .int .u64 (bN x : Nat)], .bool true]) ∧ Below w.heap.size w w' := by
 have := dec_yes_ti (x : Int) w hw (by omega) (by omega) ((okN_dec x).trans h)
 obtain ⟨h0, h1, h2, h3, h4⟩ := gN_ti x
 rwa [h0, h1, h2, h3, h4] at this
theorem dcN (x : Nat) (w : World) (hw : Lw w) (h1 : x < 18446744073709551616) (h : okN x = false) :
 Calls Tryz.prog 125 #[.int .u64 (x : Nat)] w fun e w' => e = .returned (.tuple #[.agg #[.int .i64 0, .int .i64 0, .int .i64 0, .int .i64 0, .int .u64 0], .bool false]) ∧ Below w.heap.size w w' :=
 dec_no_ti (x : Int) w hw (by omega) (by omega) ((okN_dec x).trans h)
theorem rdcY (x : Nat) (w : World) (hw : Lw w) (h1 : x < 18446744073709551616) (h : okN x = true) :
 Calls Tryz.prog 58 #[.int .u64 (x : Nat)] w fun e w' => e = .returned (.tuple #[.agg #[.int .i64 (kN x : Nat), .int .i64 (cN x : Nat), .int .i64 (lnN x : Nat), .int .i64 (mN x : Nat), .int .u64 (bN x : Nat)], .bool true]) ∧ Below w.heap.size w w' := by
 have := refDecode_any_ti (x : Int) w hw (by omega) (by omega)
 obtain ⟨h0, h1, h2, h3, h4⟩ := gN_ti x
 unfold decV at this
 rw [okN_dec, h, if_pos rfl] at this
 rwa [h0, h1, h2, h3, h4] at this
theorem rdcN (x : Nat) (w : World) (hw : Lw w) (h1 : x < 18446744073709551616) (h : okN x = false) :
 Calls Tryz.prog 58 #[.int .u64 (x : Nat)] w fun e w' => e = .returned (.tuple #[.agg #[.int .i64 0, .int .i64 0, .int .i64 0, .int .i64 0, .int .u64 0], .bool false]) ∧ Below w.heap.size w w' := by
 have := refDecode_any_ti (x : Int) w hw (by omega) (by omega)
 unfold decV at this
 rw [okN_dec, h, if_neg (by simp)] at this
 exact this
theorem CKL.form {w : World} {v : Value} {l : List Nat} {n : Nat} (h : CKL w v l) (hn : l.length = n) : ∃ A cap, v = .slice A n cap ∧
 ∀ w1 i, Below w.heap.size w w1 → i < n → ∃ g off, A = some ⟨g, off, none⟩ ∧ n ≤ cap ∧ g < w.heap.size ∧ g < w1.heap.size ∧ w1.cell? ⟨g, off + i * 5, none⟩ = some (.int .i64 (kN (l.getD i 0) : Nat)) ∧ w1.cell? ⟨g, off + i * 5 + 1, none⟩ = some (.int .i64 (cN (l.getD i 0) : Nat)) ∧ w1.cell? ⟨g, off + i * 5 + 2, none⟩ = some (.int .i64 (lnN (l.getD i 0) : Nat)) ∧ w1.cell? ⟨g, off + i * 5 + 3, none⟩ = some (.int .i64 (mN (l.getD i 0) : Nat)) ∧ w1.cell? ⟨g, off + i * 5 + 4, none⟩ = some (.int .u64 (bN (l.getD i 0) : Nat)) := by
 obtain ⟨A, cap, hv, h⟩ := EL.form h hn
 refine ⟨A, cap, hv, fun w1 i hb hi => ?_⟩
 obtain ⟨g, off, hA, h1, h2, h3, hc⟩ := h w1 i hb hi
 exact ⟨g, off, hA, h1, h2, h3, hc 0 (by omega), hc 1 (by omega), hc 2 (by omega), hc 3 (by omega), hc 4 (by omega)⟩
def HL (l : List Nat) : Prop := ∀ x ∈ l, x < 65536
theorem halves_open {H : Type} {enc : TypeId × Value → H} {P : Program} {W : World} {t e : TypeId} (ht : P.underlying t = some (.slice e)) (he : P.underlying e = some (.int .u16)) (hc : P.cellsOf e = 1) {ad : Option Addr} {len cap : Nat} {d : DataW H} {p : List MemPlace}
 (h : DataW.Trod enc P W 0 (fun _ => true) true t (.slice ad len cap) d p) : ∃ l : List Nat, HL l ∧ KL .u16 W (.slice ad len cap) l := by
 obtain ⟨fuel, hf⟩ := h
 rcases open_ints ht he hc hf with ⟨hcs, _⟩ | ⟨a, len', cap', zs, hcs, _, hl, hm, hz, _, hcell, hwz⟩
 ·simp [Value.cells] at hcs
  obtain ⟨rfl, rfl, rfl⟩ := hcs
  exact ⟨[], fun x hx => by simp at hx, none, 0, rfl, fun h => by simp at h⟩
 simp [Value.cells] at hcs
 obtain ⟨rfl, rfl, rfl⟩ := hcs
 simp only [if_true] at hz
 have hb : ∀ z ∈ zs, 0 ≤ z ∧ z ≤ 65535 := fun z hz => bounds_u16 (hwz z hz)
 have hlen : ((zs.take len).map Int.toNat).length = len := by simp; omega
 refine ⟨(zs.take len).map Int.toNat, fun x hx => ?_, some a, cap, by rw [hlen], fun h0 => ?_⟩
 ·obtain ⟨z, hz1, rfl⟩ := List.mem_map.1 hx
  have := hb z (List.mem_of_mem_take hz1)
  omega
 rw [hlen] at h0 ⊢
 have hc0 := hcell 0 (by omega)
 have hsp : a.spot = none := by
  have := spot_none hc0
  unfold Addr.add at this
  simpa using this
 obtain ⟨g, off, sp⟩ := a
 simp only at hsp
 subst hsp
 refine ⟨g, off, rfl, ?_, by omega, fun i hil => ?_⟩
 ·have := World.block_lt_of_cell? _ _ hc0
  simpa [add_plain] using this
 have := hcell i (by omega)
 rw [add_plain] at this
 rw [this]
 have hzi : i < zs.length := by omega
 have e1 : ((zs.take len).map Int.toNat).getD i 0 = (zs[i]).toNat := by
  rw [List.getD_eq_getElem?_getD, List.getElem?_map, List.getElem?_take, if_pos hil, List.getElem?_eq_getElem hzi]
  rfl
 have e2 : zs.getD i 0 = zs[i] := by rw [List.getD_eq_getElem?_getD, List.getElem?_eq_getElem hzi]; rfl
 rw [e1, e2, Int.toNat_of_nonneg (hb _ (List.getElem_mem hzi)).1]
end Go.Proofs.YtkkbngcgphlikaaGreatDoor
end
section
namespace Go.Proofs.YtkkbngcgphlikaaGreatDoor
open Go.RowKit Go.ChangeShapes Go.WideShapes Go.Deep
theorem eC_new (w : World) (x : Nat) (t : TypeId) : CKL (w.alloc (.cells #[.int .i64 (kN x : Nat), .int .i64 (cN x : Nat), .int .i64 (lnN x : Nat), .int .i64 (mN x : Nat), .int .u64 (bN x : Nat)] t)) (.slice (some ⟨w.heap.size, 0, none⟩) 1 1) [x] := by
 refine ⟨_, _, rfl, fun _ => ⟨w.heap.size, 0, rfl, by simp, by simp, fun i hi j hj => ?_⟩⟩
 have hi0 : i = 0 := by simp at hi; omega
 subst hi0
 have h5 : j = 0 ∨ j = 1 ∨ j = 2 ∨ j = 3 ∨ j = 4 := by omega
 rcases h5 with rfl | rfl | rfl | rfl | rfl <;> simp [go_sem, eC]
theorem take_all {l : List Nat} {n : Nat} (h : l.length = n) : l.take n = l := List.take_of_length_le (by omega)
theorem take_snoc {l : List Nat} {k : Nat} (h : k < l.length) : l.take (k + 1) = l.take k ++ [l.getD k 0] := by
 rw [List.take_succ_eq_append_getElem h, List.getD_eq_getElem?_getD, List.getElem?_eq_getElem h]; rfl
theorem snoc_all {l : List Nat} {k n : Nat} (hn : l.length = n) (hk : k < n) (h1 : (l.take k).all okN = true) (h2 : okN (l.getD k 0) = true) : (l.take (k + 1)).all okN = true := by
 rw [take_snoc (by omega), List.all_append, h1]; simp only [List.all_cons, List.all_nil, h2, Bool.and_self]
theorem not_all {l : List Nat} {k n : Nat} (hn : l.length = n) (hk : k < n) (h2 : okN (l.getD k 0) = false) : l.all okN = false := by
 cases h : l.all okN with
 | false => rfl
 | true => rw [all_at h (by omega)] at h2; cases h2
def ChunksP (w : World) (t : List Nat) (e : Ending) (w' : World) : Prop :=
 (t.all okN = true ∧ ∃ v', e = .returned (.tuple #[v', .bool true]) ∧ CKO w' w.heap.size v' t) ∨ (t.all okN = false ∧ e = .returned (.tuple #[.slice none 0 0, .bool false]))
theorem chunks_any (v : Value) (t : List Nat) (w : World) (hw : Lw w) (hv : KL .u64 w v t) (hW : WL t) (hl : t.length ≤ 100000) :
 Calls Tryz.prog 118 #[v] w fun e w' => ChunksP w t e w' ∧ Below w.heap.size w w' := by
 obtain ⟨n, hn⟩ : ∃ n, t.length = n := ⟨_, rfl⟩
 obtain ⟨A, cap, rfl, hC⟩ := hv.form hn
 replace hC := lh hC
 have hWx := lh (fun k (hk : k < n) => show t.getD k 0 < 18446744073709551616 from hW.at k (by omega))
 have hSn := lh (fun k (hk : k < n) => snoc_all hn hk)
 have hNo := lh (fun k (hk : k < n) => not_all hn hk)
 have hTs := lh (fun k (hk : k < n) => take_snoc (l := t) (k := k) (by omega))
 have hTa := lh (take_all hn)
 have hTl := lh (fun k (hk : k ≤ n) => show (t.take k).length = k from by rw [List.length_take]; omega)
 have hn9 : n ≤ 100000 := by omega
 replace hn := lh hn
 have hwh := lh hw
 clear hv hW hl hw
 obtain ⟨i0, hi, hz0, hz1, hz2⟩ := info_parts infoC
 go_enter Tryz.func118, Tryz.ntmps118
 go_wp2_with (at_make; refine wpList_make_own _ rfl _ _ 157 rfl w.heap.size 109 i0 (.agg #[.int .i64 0, .int .i64 0, .int .i64 0, .int .i64 0, .int .u64 0]) 5 Tryz.underlying157 hi hz0 hz1 .i64 .i64 _ n rfl rfl rfl (by rw [hz2]; omega) (by unfold maxLen; omega) (Nat.le_refl _) ?_; intro w1 hown0 hgr; have hB0 : Below w.heap.size w w1 := (Below.refl _ _).grown hgr (Nat.le_refl _) (by simp); have hO0 : CKO w1 w.heap.size (.slice (some ⟨w.heap.size, 0, none⟩) 0 n) [] := hown0; clear hown0 hgr)
 go_loopw [14, 4] (fun i l wr => ∃ (j : Nat) (J : List Nat), j ≤ n ∧ i = .int .i64 j ∧ Hid (J = t.take j ∧ J.all okN = true) ∧ CKO wr w.heap.size l J ∧ Below w.heap.size w wr) (fun i _ _ => n + 1 - (intOf i).toNat)
 case atStart => exact ⟨0, [], Nat.zero_le _, rfl, ⟨by simp, by simp⟩, hO0, hB0⟩
 obtain ⟨j, J, hj, rfl, hJ, hown, hB⟩ := hrel
 by_cases hlt : j < n
 rotate_left
 ·obtain rfl : j = n := by omega
  have hJt := hTa.out
  rw [← hJ.out.1] at hJt
  subst hJt
  go_wp2_with fail
  go_ret2
  exact ⟨.inl ⟨hJ.out.2, _, rfl, hown⟩, hB⟩
 obtain ⟨g, off, rfl, hcap, hg, c0⟩ := hC.out wr j hB hlt
 have hlt' : (j : Int) < (n : Int) := by omega
 have hx := hWx.out j hlt
 have hJl : J.length = j := by rw [hJ.out.1]; exact hTl.out j hj
 have hsn := hSn.out j hlt
 have hno := hNo.out j hlt
 have hts := hTs.out j hlt
 rw [← hJ.out.1] at hts hsn
 generalize t.getD j 0 = x at *
 replace hts := lh hts
 have hlw := hwh.out.keep hB
 cases hok : okN x with
 | true =>
   have hsn2 := lh (hsn hJ.out.2 hok)
   have hD := dcY x wr hlw hx hok
   clear hsn hno hok hlw
   go_wp2_with fail
   refine hD.mono ?_
   rintro e w1 ⟨rfl, hb⟩
   have hB1 := hB.trans (hb.mono hB.size)
   have ho1 := hown.keep hb
   -- the chunk's own block, and the literal's
   have hA1 := bZ w1 (.cells #[.int .i64 (kN x : Nat), .int .i64 (cN x : Nat), .int .i64 (lnN x : Nat), .int .i64 (mN x : Nat), .int .u64 (bN x : Nat)] 109)
   generalize hw2 : w1.alloc (.cells #[.int .i64 (kN x : Nat), .int .i64 (cN x : Nat), .int .i64 (lnN x : Nat), .int .i64 (mN x : Nat), .int .u64 (bN x : Nat)] 109) = w2 at *
   obtain ⟨v', w4, hrun, ho4, hg4, _, _⟩ := appE cT ((ho1.keep hA1).alloc (.cells #[.int .i64 (kN x : Nat), .int .i64 (cN x : Nat), .int .i64 (lnN x : Nat), .int .i64 (mN x : Nat), .int .u64 (bN x : Nat)] (109 : Nat))) (eC_new w2 x (109 : Nat)) (by have := hB1.size; have := hA1.size; simp; omega) (by omega) (by simp)
   have hs2 : w2.heap.size = w1.heap.size + 1 := by rw [← hw2]; simp
   have hc5 := C5.new w1 (kN x : Nat) (cN x : Nat) (lnN x : Nat) (mN x : Nat) (bN x : Nat) 109
   rw [hw2] at hc5
   have hB4 : Below w.heap.size w w4 := ((hB1.trans (hA1.mono hB1.size)).alloc (by have := hB1.size; omega) _).trans (grown_below hg4 (by have := hB1.size; simp; omega) (fun k hk => (ho1.lt k hk).1))
   clear hA1 hg4 hD hb
   subst hw2
   simp only [World.size_alloc] at hrun
   go_wp2_with (at_builtin; refine wpList_append_run rfl _ _ 157 rfl _ _ _ rfl rfl hrun ?_)
   go_roundw
   case rel => exact ⟨j + 1, J ++ [x], by omega, by go_num, ⟨hts.out.symm, by rw [← hts.out]; exact hsn2.out⟩, ho4, hB4⟩
   first | (simp [intOf]; done) | (simp [intOf]; omega)
 | false =>
   have hno2 := lh (hno hok)
   have hD := dcN x wr hlw hx hok
   clear hsn hno hok hlw
   go_wp2_with fail
   refine hD.mono ?_
   rintro e w1 ⟨rfl, hb⟩
   have hB1 := hB.trans (hb.mono hB.size)
   go_wp2_with fail
   go_ret2
   exact ⟨.inr ⟨hno2.out, rfl⟩, hB1.alloc hB1.size _⟩
theorem refChunks_any (v : Value) (t : List Nat) (w : World) (hw : Lw w) (hv : KL .u64 w v t) (hW : WL t) (hl : t.length ≤ 100000) :
 Calls Tryz.prog 103 #[v] w fun e w' => ChunksP w t e w' ∧ Below w.heap.size w w' := by
 obtain ⟨n, hn⟩ : ∃ n, t.length = n := ⟨_, rfl⟩
 obtain ⟨A, cap, rfl, hC⟩ := hv.form hn
 replace hC := lh hC
 have hWx := lh (fun k (hk : k < n) => show t.getD k 0 < 18446744073709551616 from hW.at k (by omega))
 have hSn := lh (fun k (hk : k < n) => snoc_all hn hk)
 have hNo := lh (fun k (hk : k < n) => not_all hn hk)
 have hTs := lh (fun k (hk : k < n) => take_snoc (l := t) (k := k) (by omega))
 have hTa := lh (take_all hn)
 have hTl := lh (fun k (hk : k ≤ n) => show (t.take k).length = k from by rw [List.length_take]; omega)
 have hn9 : n ≤ 100000 := by omega
 replace hn := lh hn
 have hwh := lh hw
 clear hv hW hl hw
 go_enter Tryz.func103, Tryz.ntmps103
 go_wp2_with fail
 go_loopw [5, 4] (fun i l wr => ∃ (j : Nat) (J : List Nat), j ≤ n ∧ i = .int .i64 j ∧ Hid (J = t.take j ∧ J.all okN = true) ∧ CKO wr w.heap.size l J ∧ Below w.heap.size w wr) (fun i _ _ => n + 1 - (intOf i).toNat)
 case atStart => exact ⟨0, [], Nat.zero_le _, rfl, ⟨by simp, by simp⟩, OwnE.nil _ _ _ _ _, Below.refl _ _⟩
 obtain ⟨j, J, hj, rfl, hJ, hown, hB⟩ := hrel
 by_cases hlt : j < n
 rotate_left
 ·obtain rfl : j = n := by omega
  have hJt := hTa.out
  rw [← hJ.out.1] at hJt
  subst hJt
  go_wp2_with fail
  go_ret2
  exact ⟨.inl ⟨hJ.out.2, _, rfl, hown⟩, hB⟩
 obtain ⟨g, off, rfl, hcap, hg, c0⟩ := hC.out wr j hB hlt
 have hlt' : (j : Int) < (n : Int) := by omega
 have hx := hWx.out j hlt
 have hJl : J.length = j := by rw [hJ.out.1]; exact hTl.out j hj
 have hsn := hSn.out j hlt
 have hno := hNo.out j hlt
 have hts := hTs.out j hlt
 rw [← hJ.out.1] at hts hsn
 generalize t.getD j 0 = x at *
 replace hts := lh hts
 have hlw := hwh.out.keep hB
 cases hok : okN x with
 | true =>
   have hsn2 := lh (hsn hJ.out.2 hok)
   have hD := rdcY x wr hlw hx hok
   clear hsn hno hok hlw
   go_wp2_with fail
   refine hD.mono ?_
   rintro e w1 ⟨rfl, hb⟩
   have hB1 := hB.trans (hb.mono hB.size)
   have ho1 := hown.keep hb
   -- the chunk's own block, and the literal's
   have hA1 := bZ w1 (.cells #[.int .i64 (kN x : Nat), .int .i64 (cN x : Nat), .int .i64 (lnN x : Nat), .int .i64 (mN x : Nat), .int .u64 (bN x : Nat)] 109)
   generalize hw2 : w1.alloc (.cells #[.int .i64 (kN x : Nat), .int .i64 (cN x : Nat), .int .i64 (lnN x : Nat), .int .i64 (mN x : Nat), .int .u64 (bN x : Nat)] 109) = w2 at *
   obtain ⟨v', w4, hrun, ho4, hg4, _, _⟩ := appE cT ((ho1.keep hA1).alloc (.cells #[.int .i64 (kN x : Nat), .int .i64 (cN x : Nat), .int .i64 (lnN x : Nat), .int .i64 (mN x : Nat), .int .u64 (bN x : Nat)] (109 : Nat))) (eC_new w2 x (109 : Nat)) (by have := hB1.size; have := hA1.size; simp; omega) (by omega) (by simp)
   have hs2 : w2.heap.size = w1.heap.size + 1 := by rw [← hw2]; simp
   have hc5 := C5.new w1 (kN x : Nat) (cN x : Nat) (lnN x : Nat) (mN x : Nat) (bN x : Nat) 109
   rw [hw2] at hc5
   have hB4 : Below w.heap.size w w4 := ((hB1.trans (hA1.mono hB1.size)).alloc (by have := hB1.size; omega) _).trans (grown_below hg4 (by have := hB1.size; simp; omega) (fun k hk => (ho1.lt k hk).1))
   clear hA1 hg4 hD hb
   subst hw2
   simp only [World.size_alloc] at hrun
   go_wp2_with (at_builtin; refine wpList_append_run rfl _ _ 157 rfl _ _ _ rfl rfl hrun ?_)
   go_roundw
   case rel => exact ⟨j + 1, J ++ [x], by omega, by go_num, ⟨hts.out.symm, by rw [← hts.out]; exact hsn2.out⟩, ho4, hB4⟩
   first | (simp [intOf]; done) | (simp [intOf]; omega)
 | false =>
   have hno2 := lh (hno hok)
   have hD := rdcN x wr hlw hx hok
   clear hsn hno hok hlw
   go_wp2_with fail
   refine hD.mono ?_
   rintro e w1 ⟨rfl, hb⟩
   have hB1 := hB.trans (hb.mono hB.size)
   go_wp2_with fail
   go_ret2
   exact ⟨.inr ⟨hno2.out, rfl⟩, hB1.alloc hB1.size _⟩
end Go.Proofs.YtkkbngcgphlikaaGreatDoor
end
section
namespace Go.Proofs.YtkkbngcgphlikaaGreatDoor
open Go.RowKit Go.ChangeShapes Go.WideShapes Go.Deep Go.Shelf
attribute [local go_sem] Oper.semAt_some
theorem mny_N (c : Nat) : mnyI (c : Nat) = (mnN c : Nat) := by
 unfold mnyI mnN
 by_cases h0 : c = 0
 ·subst h0; rfl
 by_cases h1 : c = 1
 ·subst h1; rfl
 by_cases h2 : c = 2
 ·subst h2; rfl
 rw [if_neg (by omega), if_neg (by omega), if_neg (by omega), if_neg h0, if_neg h1, if_neg h2]; rfl
theorem blk_N (c : Nat) : blkI (c : Nat) = (blN c : Nat) := by
 unfold blkI blN
 by_cases h0 : c = 0
 ·subst h0; rfl
 by_cases h1 : c = 1
 ·subst h1; rfl
 by_cases h2 : c = 2
 ·subst h2; rfl
 rw [if_neg (by omega), if_neg (by omega), if_neg (by omega), if_neg h0, if_neg h1, if_neg h2]; rfl
end Go.Proofs.YtkkbngcgphlikaaGreatDoor
end
section
namespace Go.Proofs.YtkkbngcgphlikaaGreatDoor
open Go.RowKit Go.ChangeShapes Go.WideShapes Go.Deep Go.Shelf
attribute [local go_sem] Oper.semAt_some
theorem eB_new (w : World) (y : Bl) (t : TypeId) : BKL (w.alloc (.cells #[.int .i64 (y.1 : Nat), .int .i64 (y.2.1 : Nat), .int .i64 (y.2.2 : Nat)] t)) (.slice (some ⟨w.heap.size, 0, none⟩) 1 1) [y] := by
 refine ⟨_, _, rfl, fun _ => ⟨w.heap.size, 0, rfl, by simp, by simp, fun i hi j hj => ?_⟩⟩
 have hi0 : i = 0 := by simp at hi; omega
 subst hi0
 have h5 : j = 0 ∨ j = 1 ∨ j = 2 := by omega
 rcases h5 with rfl | rfl | rfl <;> simp [go_sem, eB]
theorem ChunksP.some {w w1 : World} {t : List Nat} {e : Ending} (h : ChunksP w t e w1) : ∃ v1 b t1, e = .returned (.tuple #[v1, .bool b]) ∧ CKL w1 v1 t1 ∧ t1.all okN = true ∧ blksT t = blksFrom 0 t1 ∧ t1.length ≤ t.length ∧ (t.all okN = true → t1 = t) ∧ (t.all okN = false → t1 = []) := by
 rcases h with ⟨hok, v', rfl, ho⟩ | ⟨hok, rfl⟩
 ·exact ⟨v', true, t, rfl, ho.el eC_len, hok, by unfold blksT; rw [if_pos hok], Nat.le_refl _, fun _ => rfl, (fun h => by rw [hok] at h; cases h)⟩
 exact ⟨_, false, [], rfl, EL.nil _ _ _ _ _, rfl, by unfold blksT; rw [if_neg (by rw [hok]; simp)]; rfl, by simp, (fun h => by rw [hok] at h; cases h), fun _ => rfl⟩
end Go.Proofs.YtkkbngcgphlikaaGreatDoor
end
section
namespace Go.Proofs.YtkkbngcgphlikaaGreatDoor
open Go.RowKit Go.ChangeShapes Go.WideShapes Go.Deep
def eI (x : Nat) : List Value := [.int .i64 (x : Nat)]
theorem eI_len (x : Nat) : (eI x).length = 1 := rfl
abbrev IKO (w : World) (base : Nat) (v : Value) (l : List Nat) : Prop := OwnE 3 1 eI w base v l
theorem insertion_nil (A : Option Addr) (cap : Nat) (F : Value) (w : World) :
 Calls Tryz.prog 216 #[.slice A 0 cap, .int .i64 0, .int .i64 0, F] w fun e w' => e = .returned (.tuple #[]) ∧ w' = w := by
 go_enter Tryz.func216, Tryz.ntmps216
 go_wp2_with fail
 go_loopw [8] (fun u wr => u = .int .i64 1 ∧ wr = w) (fun _ _ => 0)
 case atStart => exact ⟨rfl, rfl⟩
 obtain ⟨rfl, rfl⟩ := hrel
 go_wp2_with fail
 (first | go_end0 | go_ret)
 exact ⟨rfl, rfl⟩
theorem stable_nil (A : Option Addr) (cap : Nat) (F : Value) (w : World) :
 Calls Tryz.prog 201 #[.slice A 0 cap, .int .i64 0, F] w fun e w' => e = .returned (.tuple #[]) ∧ w' = w := by
 go_enter Tryz.func201, Tryz.ntmps201
 go_wp2_with fail
 go_loopw [7, 8] (fun u v wr => u = .int .i64 0 ∧ v = .int .i64 20 ∧ wr = w) (fun _ _ _ => 0)
 case atStart => exact ⟨rfl, rfl, rfl⟩
 obtain ⟨rfl, rfl, rfl⟩ := hrel
 go_wp2_with fail
 refine (insertion_nil A cap F _).mono ?_
 rintro e w1 ⟨rfl, rfl⟩
 go_wp2_with fail
 go_loopw [6] (fun u wr => u = .int .i64 20 ∧ wr = w1) (fun _ _ => 0)
 case atStart => exact ⟨rfl, rfl⟩
 obtain ⟨rfl, rfl⟩ := hrel
 go_wp2_with fail
 (first | go_end0 | go_ret)
 exact ⟨rfl, rfl⟩
theorem sortStable_nil (A : Option Addr) (cap : Nat) (F : Value) (w : World) :
 Calls Tryz.prog 192 #[.slice A 0 cap, F] w fun e w' => e = .returned (.tuple #[]) ∧ w' = w := by
 go_enter Tryz.func192, Tryz.ntmps192
 go_wp2_with fail
 refine (stable_nil A cap F _).mono ?_
 rintro e w1 ⟨rfl, rfl⟩
 go_wp2_with fail
 (first | go_end0 | go_ret)
 exact ⟨rfl, rfl⟩
def CalmW (t : List Nat) : Prop := ∀ i, i < t.length → ¬ kN (t.getD i 0) = 4
theorem calm_logs {t : List Nat} (hc : CalmW t) (ln : Int) : logsT t ln = [] := by
 unfold logsT
 split
 rotate_left
 ·rfl
 unfold logsR
 refine List.flatMap_eq_nil_iff.2 (fun n hn => ?_)
 unfold logsN
 refine List.filter_eq_nil_iff.2 (fun i hi => ?_)
 intro h
 unfold isLog at h
 simp only [Bool.and_eq_true, decide_eq_true_eq] at h
 have hi2 := List.mem_range.1 hi
 have hx := hc i hi2
 exact hx h.1.1
theorem CalmW.sub {t t1 : List Nat} (h : CalmW t) (h1 : t.all okN = true → t1 = t) (h2 : t.all okN = false → t1 = []) : CalmW t1 := by
 cases e : t.all okN with
 | true => rw [h1 e]; exact h
 | false => rw [h2 e]; exact fun i hi => absurd hi (Nat.not_lt_zero _)
theorem logs_any (v : Value) (t : List Nat) (lane : Int) (w : World) (hw : Lw w) (hv : KL .u64 w v t) (hW : WL t) (hl : t.length ≤ 1000) (hcm : CalmW t) (hl1 : -9223372036854775808 ≤ lane) (hl2 : lane < 9223372036854775808) :
 Calls Tryz.prog 176 #[v, .int .i64 lane] w fun e W' => ∃ v', e = .returned v' ∧ IKO W' w.heap.size v' (logsT t lane) ∧ Below w.heap.size w W' := by
 have hCh := chunks_any v t w hw hv hW (by omega)
 rw [calm_logs hcm lane]
 obtain ⟨nn, hnn⟩ : ∃ n, t.length = n := ⟨_, rfl⟩
 obtain ⟨A, cap, rfl, _⟩ := hv.form hnn
 go_enter Tryz.func176, Tryz.ntmps176
 go_wp2_with fail
 refine hCh.mono ?_
 rintro e w1 ⟨hP, hb1⟩
 obtain ⟨v1, bb, t1, rfl, hk1, hok1, _, hl3, q1, q2⟩ := hP.some
 have hcm1 := hcm.sub q1 q2
 obtain ⟨n, hn⟩ : ∃ n, t1.length = n := ⟨_, rfl⟩
 have hn9 : n ≤ 1000 := by omega
 have hkn := lh (fun k (hk : k < n) => hcm1 k (by omega))
 have hBx := bZ w1 (.cells #[v1] 157)
 have hcx : (w1.alloc (.cells #[v1] 157)).cell? ⟨w1.heap.size, 0, none⟩ = some v1 := cell_new1 _ _ _
 have hkx := hk1.keep hBx
 have hb0 : Below w.heap.size w (w1.alloc (.cells #[v1] 157)) := hb1.trans (hBx.mono hb1.size)
 obtain ⟨w0, hw0⟩ : ∃ w0, w1.alloc (.cells #[v1] 157) = w0 := ⟨_, rfl⟩
 rw [hw0] at hcx hkx hb0
 obtain ⟨A1, c1, rfl, hC⟩ := CKL.form hkx hn
 replace hC := lh hC
 obtain ⟨B, hB⟩ : ∃ B, w1.heap.size = B := ⟨_, rfl⟩
 rw [hB] at hcx
 have hcx' := lh (fun (w' : World) (hb : Below w0.heap.size w0 w') => show w'.cell? ⟨B, 0, none⟩ = some (.slice A1 n c1) from by rw [(bcell hb).1 _ _ (World.block_lt_of_cell? _ _ hcx)]; exact hcx)
 replace hb0 := lh hb0
 replace hn := lh hn
 replace hw0 := lh hw0
 replace hB := lh hB
 clear hCh hP hv hW hnn hk1 hok1 q1 q2 hl3 hl hkx hBx hb1 hcx hcm hcm1
 go_wp2_with fail
 try rw [hw0.out]
 try rw [hB.out]
 go_loopw [17, 7] (fun i vr wr => ∃ (j : Nat), j ≤ n ∧ i = .int .i64 j ∧ vr = .slice none 0 0 ∧ Below w0.heap.size w0 wr) (fun i _ _ => n + 1 - (intOf i).toNat)
 case atStart => exact ⟨0, Nat.zero_le _, rfl, rfl, Below.refl _ _⟩
 obtain ⟨j, hj, rfl, rfl, hB⟩ := hrel
 by_cases hlt : j < n
 ·obtain ⟨g, off, rfl, hcap, hg, hg2, c0, c1, c2, c3, c4⟩ := hC.out wr j hB hlt
  have hlt' : (j : Int) < (n : Int) := by omega
  have hx := hkn.out j hlt
  generalize t1.getD j 0 = x at *
  have hx1 : ¬ ((kN x : Nat) : Int) = 4 := by omega
  have hx2 : (((kN x : Nat) : Int) == 4) = false := by simp [hx1]
  obtain ⟨d0, d1, d2, d3, d4⟩ := C5.new wr (kN x : Nat) (cN x : Nat) (lnN x : Nat) (mN x : Nat) (bN x : Nat) 109
  have hB4 := hB.alloc hB.size (.cells #[.int .i64 (kN x : Nat), .int .i64 (cN x : Nat), .int .i64 (lnN x : Nat), .int .i64 (mN x : Nat), .int .u64 (bN x : Nat)] 109)
  clear hx
  go_wp2_with fail
  go_roundw
  case rel => exact ⟨j + 1, by omega, by go_num, rfl, hB4⟩
  first | (simp [intOf]; done) | (simp [intOf]; omega)
 obtain rfl : j = n := by omega
 have hs := lh (fun (w : World) F => sortStable_nil none 0 F w)
 have hfin := lh (hb0.out.trans (hB.mono hb0.out.size))
 clear hB
 go_wp2_with fail
 refine (hs.out _ _).mono ?_
 rintro e w5 ⟨rfl, rfl⟩
 go_wp2_with fail
 go_ret
 exact ⟨_, rfl, OwnE.nil _ _ _ _ _, hfin.out⟩
end Go.Proofs.YtkkbngcgphlikaaGreatDoor
end
