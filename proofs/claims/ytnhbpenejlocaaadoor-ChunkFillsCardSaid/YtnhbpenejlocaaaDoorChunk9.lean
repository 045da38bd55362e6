/-
  What the document's answers for chunk answer: Decode, Live.
-/
import Derived.Test.YtnhbpenejlocaaaDoorChunk8
import Derived.Test.YtnhbpenejlocaaaDoorChunk5
set_option linter.unusedVariables false
namespace Go.Proofs.YtnhbpenejlocaaaDoor
open Go.RowKit

theorem gets (x : Int) (h0 : 0 ≤ x) : getI x 0 3 = x % 8 ∧ getI x 3 2 = x / 8 % 4 ∧ getI x 5 6 = x / 32 % 64 ∧ getI x 11 13 = x / 2048 % 8192 ∧ getI x 24 8 = x / 16777216 % 256 := by
  obtain ⟨n, rfl⟩ := Int.eq_ofNat_of_zero_le h0
  unfold getI getN
  simp only [Int.toNat_natCast]
  have a1 : (0 : Int).toNat = 0 := rfl
  have a2 : (3 : Int).toNat = 3 := rfl
  have a3 : (2 : Int).toNat = 2 := rfl
  have a4 : (5 : Int).toNat = 5 := rfl
  have a5 : (6 : Int).toNat = 6 := rfl
  have a6 : (11 : Int).toNat = 11 := rfl
  have a7 : (13 : Int).toNat = 13 := rfl
  have a8 : (24 : Int).toNat = 24 := rfl
  have a9 : (8 : Int).toNat = 8 := rfl
  simp only [a1, a2, a3, a4, a5, a6, a7, a8, a9]
  omega

set_option maxRecDepth 20000 in
set_option maxHeartbeats 2000000 in
theorem refDecode_any (x : Int) (w : World) (hw : Lw w) (h0 : 0 ≤ x) (h1 : x < 18446744073709551616) :
    Calls Tryd.prog 34 #[.int .u64 x] w fun e w' => e = .returned (.tuple #[decV x, .bool (decB x)]) ∧ Below w.heap.size w w' := by
  obtain ⟨E0, E1, E2, E3, E4⟩ := gets x h0
  have hL0 := Lib.hid ((hw.alloc (.cells #[.int .i64 0, .int .i64 0, .int .i64 0, .int .i64 0, .int .u64 0] 47)).alloc (.cells #[.int .i64 (x % 8), .int .i64 (x / 8 % 4), .int .i64 (x / 32 % 64), .int .i64 (x / 2048 % 8192), .int .u64 (x / 16777216 % 256)] 47))
  have hA : Below w.heap.size w ((w.alloc (.cells #[.int .i64 0, .int .i64 0, .int .i64 0, .int .i64 0, .int .u64 0] 47)).alloc (.cells #[.int .i64 (x % 8), .int .i64 (x / 8 % 4), .int .i64 (x / 32 % 64), .int .i64 (x / 2048 % 8192), .int .u64 (x / 16777216 % 256)] 47)) := ((Below.refl _ _).alloc (Nat.le_refl _) _).alloc (by simp) _
  have hC0 := C5.new (w.alloc (.cells #[.int .i64 0, .int .i64 0, .int .i64 0, .int .i64 0, .int .u64 0] 47)) (x % 8) (x / 8 % 4) (x / 32 % 64) (x / 2048 % 8192) (x / 16777216 % 256) 47
  rw [show (w.alloc (.cells #[.int .i64 0, .int .i64 0, .int .i64 0, .int .i64 0, .int .u64 0] 47)).heap.size = w.heap.size + 1 by simp] at hC0
  have hR0 := (Bx.new (B := w.heap.size) w 47 (Nat.le_refl _)).keep ((Below.refl _ _).alloc (Nat.le_refl _) (.cells #[.int .i64 (x % 8), .int .i64 (x / 8 % 4), .int .i64 (x / 32 % 64), .int .i64 (x / 2048 % 8192), .int .u64 (x / 16777216 % 256)] 47))
  clear hw
  by_cases hr : rightB (x % 8) (x / 8 % 4) (x / 32 % 64) (x / 2048 % 8192) (x / 16777216 % 256) = true
  · have HR := Lib.hid hr
    clear hr
    by_cases hx : x < 4294967296
    · have hv : decB x = true := by unfold decB; rw [E0, E1, E2, E3, E4, HR.out]; simpa using hx
      have hV : decV x = .agg #[.int .i64 (x % 8), .int .i64 (x / 8 % 4), .int .i64 (x / 32 % 64), .int .i64 (x / 2048 % 8192), .int .u64 (x / 16777216 % 256)] := by unfold decV; rw [if_pos hv, E0, E1, E2, E3, E4]
      have hq : x / 4294967296 = 0 := by omega
      clear E0 E1 E2 E3 E4
      go_enter Tryd.func34, Tryd.ntmps34
      go_wp2_with fail
      refine (refRight_any (x % 8) (x / 8 % 4) (x / 32 % 64) (x / 2048 % 8192) (x / 16777216 % 256) _ hL0.out.2.2.1 hL0.out.2.2.2.1 (by omega)).mono ?_
      rw [HR.out]
      rintro e w1 ⟨rfl, hb⟩
      have hR1 := hR0.keep hb
      have hC1 := hC0.keep hb
      have hB1 : Below w.heap.size w w1 := hA.trans (hb.mono (by simp; omega))
      clear hR0 hC0 hA hb
      obtain ⟨c0, c1, c2, c3, c4⟩ := hC1
      have qR := hR1
      obtain ⟨⟨r0, r1, r2, r3, r4⟩, ⟨m0, m1, m2, m3, m4⟩, _⟩ := hR1
      go_wp2_with fail
      (try simp only [Exit.inBlock, Exit.then])
      obtain ⟨w7, hw7, hC7, hb7⟩ := st5_ex qR (x % 8) (x / 8 % 4) (x / 32 % 64) (x / 2048 % 8192) (x / 16777216 % 256)
      rw [← hw7]
      obtain ⟨t0, t1, t2, t3, t4⟩ := hC7
      refine bodyPost_ret (v := .tuple #[decV x, .bool (decB x)]) ?_ rfl ⟨rfl, hB1.trans hb7⟩
      rw [results_cell_tmp rfl, hV, hv]
      clear hw7 hb7 qR c0 c1 c2 c3 c4 r0 r1 r2 r3 r4 m0 m1 m2 m3 m4
      go_simp
    · have hv : decB x = false := by unfold decB; simp [hx]
      have hV : decV x = .agg #[.int .i64 0, .int .i64 0, .int .i64 0, .int .i64 0, .int .u64 0] := by unfold decV; rw [if_neg (by simp [hv])]
      have hq : ¬ x / 4294967296 = 0 := by omega
      clear E0 E1 E2 E3 E4
      go_enter Tryd.func34, Tryd.ntmps34
      go_wp2_with fail
      refine (refRight_any (x % 8) (x / 8 % 4) (x / 32 % 64) (x / 2048 % 8192) (x / 16777216 % 256) _ hL0.out.2.2.1 hL0.out.2.2.2.1 (by omega)).mono ?_
      rw [HR.out]
      rintro e w1 ⟨rfl, hb⟩
      have hR1 := hR0.keep hb
      have hC1 := hC0.keep hb
      have hB1 : Below w.heap.size w w1 := hA.trans (hb.mono (by simp; omega))
      clear hR0 hC0 hA hb
      obtain ⟨c0, c1, c2, c3, c4⟩ := hC1
      have qR := hR1
      obtain ⟨⟨r0, r1, r2, r3, r4⟩, ⟨m0, m1, m2, m3, m4⟩, _⟩ := hR1
      go_wp2_with fail
      (try simp only [Exit.inBlock, Exit.then])
      obtain ⟨w7, hw7, hC7, hb7⟩ := st5_ex qR 0 0 0 0 0
      rw [← hw7]
      obtain ⟨t0, t1, t2, t3, t4⟩ := hC7
      refine bodyPost_ret (v := .tuple #[decV x, .bool (decB x)]) ?_ rfl ⟨rfl, hB1.trans hb7⟩
      rw [results_cell_tmp rfl, hV, hv]
      clear hw7 hb7 qR c0 c1 c2 c3 c4 r0 r1 r2 r3 r4 m0 m1 m2 m3 m4
      go_simp
  · have HR := Lib.hid (show rightB (x % 8) (x / 8 % 4) (x / 32 % 64) (x / 2048 % 8192) (x / 16777216 % 256) = false by simpa using hr)
    clear hr
    have hv : decB x = false := by unfold decB; rw [E0, E1, E2, E3, E4, HR.out]; rfl
    have hV : decV x = .agg #[.int .i64 0, .int .i64 0, .int .i64 0, .int .i64 0, .int .u64 0] := by unfold decV; rw [if_neg (by simp [hv])]
    clear E0 E1 E2 E3 E4
    go_enter Tryd.func34, Tryd.ntmps34
    go_wp2_with fail
    refine (refRight_any (x % 8) (x / 8 % 4) (x / 32 % 64) (x / 2048 % 8192) (x / 16777216 % 256) _ hL0.out.2.2.1 hL0.out.2.2.2.1 (by omega)).mono ?_
    rw [HR.out]
    rintro e w1 ⟨rfl, hb⟩
    have hR1 := hR0.keep hb
    have hC1 := hC0.keep hb
    have hB1 : Below w.heap.size w w1 := hA.trans (hb.mono (by simp; omega))
    clear hR0 hC0 hA hb
    obtain ⟨c0, c1, c2, c3, c4⟩ := hC1
    have qR := hR1
    obtain ⟨⟨r0, r1, r2, r3, r4⟩, ⟨m0, m1, m2, m3, m4⟩, _⟩ := hR1
    go_wp2_with fail
    (try simp only [Exit.inBlock, Exit.then])
    obtain ⟨w7, hw7, hC7, hb7⟩ := st5_ex qR 0 0 0 0 0
    rw [← hw7]
    obtain ⟨t0, t1, t2, t3, t4⟩ := hC7
    refine bodyPost_ret (v := .tuple #[decV x, .bool (decB x)]) ?_ rfl ⟨rfl, hB1.trans hb7⟩
    rw [results_cell_tmp rfl, hV, hv]
    clear hw7 hb7 qR c0 c1 c2 c3 c4 r0 r1 r2 r3 r4 m0 m1 m2 m3 m4
    go_simp

def liveB (b : Nat) (i : Nat) : Bool := b.testBit i
set_option maxHeartbeats 400000 in
theorem refLive_any (k c l m : Int) (b i : Nat) (w : World) (hi : i ≤ 7) (b0 : b < 18446744073709551616) :
    Calls Tryd.prog 58 #[.agg #[.int .i64 k, .int .i64 c, .int .i64 l, .int .i64 m, .int .u64 b], .int .i64 i] w fun e w' => e = .returned (.bool (liveB b i)) ∧ Below w.heap.size w w' := by
  have hR := Lib.hid (fun w => refPower10 i w (by omega))
  have hbd := pwI_bd i hi
  obtain ⟨hq0, hq1⟩ := hbd
  have hq2 : 1 ≤ pwI i := by unfold pwI; have := Nat.one_le_two_pow (n := i); omega
  have hq3 : ¬ pwI i = 0 := by omega
  have hq4 : (pwI i == 0) = false := by simpa using hq3
  go_enter Tryd.func58, Tryd.ntmps58
  go_wp2_with fail
  go_region_held3 (fun w' => w'.cell? ⟨w.heap.size, 4, none⟩ = some (.int .u64 b) ∧ Below w.heap.size w w')
    (((try go_split_ands); refine ⟨?_, ?_⟩ <;> first | assumption | (exact ((Below.refl _ w).alloc (Nat.le_refl _) _).drew) | (go_keep; done) | (go_grown; done)))
    ((first | (go_at_call 53; (with_reducible refine (hR.out _).mono ?_); rintro e w8 ⟨rfl, rfl⟩)))
  rename_i hHeld
  go_wp2_with fail
  go_ret
  refine ⟨ret_b ?_, hHeld.2⟩
  have e1 : (b : Int) / pwI i = ((b / 2 ^ i : Nat) : Int) := by unfold pwI; simp
  have e2 : b / 2 ^ i ≤ b := Nat.div_le_self _ _
  rw [e1, liveB, Nat.testBit_eq_decide_div_mod_eq]
  clear e1
  generalize b / 2 ^ i = q at *
  have e3 : IntKind.u64.wrap (q : Int) = (q : Int) := by rw [IntKind.wrap_u64]; omega
  rw [e3, Int.tmod_eq_emod_of_nonneg (by omega), Bool.eq_iff_iff]
  simp
  omega
end Go.Proofs.YtnhbpenejlocaaaDoor
