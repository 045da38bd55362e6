/-
  Part of the proof of JournalSteps.
-/
import Derived.Test.YtkkbngcgphlikaaGreatDoorJt14
import Derived.Test.YtkkbngcgphlikaaGreatDoorJt0
set_option maxRecDepth 20000
set_option maxHeartbeats 4000000
set_option linter.unusedVariables false
set_option linter.unusedSimpArgs false
namespace Go.Proofs.YtkkbngcgphlikaaGreatDoor
open Go.RowKit
theorem part_any (x a m : Int) (w : World) (g : Nat) (hx : w.cell? ⟨g, 0, none⟩ = some (.int .u64 x)) (h0 : 0 ≤ x) (h1 : x < 18446744073709551616) (ha : 0 ≤ a) (hm : 1 ≤ m) (h2 : m ≤ 64) (h3 : a ≤ 64 - m) (hv : getI x a m ≤ 9223372036854775807) :
 Calls Tryz.prog 167 #[.func (.func 168) #[.agg #[.int .i64 a, .int .i64 m]] #[], .pointer (some ⟨g, 0, none⟩)] w fun e w' => e = .returned (.int .i64 (getI x a m)) ∧ Below w.heap.size w w' := by
 have hg := getI_bd x a m h0 h1
 go_enter Tryz.func167, Tryz.ntmps167
 go_wp2_with fail
 refine (pin_any x a m _ h0 h1 ha hm h2 h3).mono ?_
 rintro e w1 ⟨rfl, hb⟩
 have hc : IntKind.i64.wrap (getI x a m) = getI x a m := IntWalk.i64_in _ ⟨by omega, hv⟩
 go_wp2_with fail
 go_ret
 exact ⟨by first | rfl | (rw [hc]; done) | (simp [hc]; done), hb⟩
def gK (x : Int) : Int := getI x 0 3
def gC (x : Int) : Int := getI x 3 2
def gM (x : Int) : Int := getI x 11 13
def gB (x : Int) : Int := getI x 24 8
theorem get_small (x a m : Int) : 0 ≤ getI x a m ∧ getI x a m < 2 ^ m.toNat := by
 unfold getI
 have := getN_lt x.toNat a.toNat m.toNat
 refine ⟨Int.natCast_nonneg _, ?_⟩
 rw [pow_cast]
 exact Int.ofNat_lt.2 this
def Bx (B : Nat) (w : World) (g : Nat) : Prop :=
 C5 w g 0 0 0 0 0 ∧ (w.frozen? ⟨g, 0, none⟩ = false ∧ w.frozen? ⟨g, 1, none⟩ = false ∧ w.frozen? ⟨g, 2, none⟩ = false ∧ w.frozen? ⟨g, 3, none⟩ = false ∧ w.frozen? ⟨g, 4, none⟩ = false) ∧ B ≤ g
theorem Bx.new {B : Nat} (w : World) (t : TypeId) (h : B ≤ w.heap.size) : Bx B (w.alloc (.cells #[.int .i64 0, .int .i64 0, .int .i64 0, .int .i64 0, .int .u64 0] t)) w.heap.size := by
 refine ⟨C5.new w 0 0 0 0 0 t, ⟨?_, ?_, ?_, ?_, ?_⟩, h⟩ <;> simp [go_sem]
theorem Bx.sz {B : Nat} {w : World} {g : Nat} (h : Bx B w g) : g < w.heap.size := h.1.lt
theorem Bx.keep {B : Nat} {w w1 : World} {g : Nat} (h : Bx B w g) (hb : Below w.heap.size w w1) : Bx B w1 g := by
 obtain ⟨h5, ⟨z0, z1, z2, z3, z4⟩, hB⟩ := id h
 have hl := h.sz
 refine ⟨h5.keep hb, ⟨?_, ?_, ?_, ?_, ?_⟩, hB⟩ <;> (rw [(bcell hb).2 _ _ hl]; assumption)
theorem cellG {w w1 : World} {b o g : Nat} {v : Value} (h : w.cell? ⟨b, o, none⟩ = some v) (hb : Below g w w1) (hl : b < g) : w1.cell? ⟨b, o, none⟩ = some v := by
 rw [hb.cell (p := ⟨b, o, none⟩) hl]; exact h
theorem Bx.keepG {B : Nat} {w w1 : World} {g g' : Nat} (h : Bx B w g) (hb : Below g' w w1) (hl : g < g') : Bx B w1 g := by
 obtain ⟨⟨h0, h1, h2, h3, h4⟩, ⟨z0, z1, z2, z3, z4⟩, hB⟩ := id h
 have hz (o : Nat) : w1.frozen? ⟨g, o, none⟩ = w.frozen? ⟨g, o, none⟩ := hb.frozen (p := ⟨g, o, none⟩) hl
 refine ⟨⟨cellG h0 hb hl, cellG h1 hb hl, cellG h2 hb hl, cellG h3 hb hl, cellG h4 hb hl⟩, ⟨?_, ?_, ?_, ?_, ?_⟩, hB⟩ <;> (rw [hz]; assumption)
theorem al5_ex (W : World) (k c l m b : Int) (t : TypeId) : ∃ w9, w9 = W.alloc (.cells #[.int .i64 k, .int .i64 c, .int .i64 l, .int .i64 m, .int .u64 b] t) ∧ C5 w9 W.heap.size k c l m b ∧ Below W.heap.size W w9 :=
 ⟨_, rfl, C5.new W k c l m b t, bZ _ _⟩
theorem st5_ex {B : Nat} {W : World} {g : Nat} (h : Bx B W g) (k c l m b : Int) : ∃ w9, w9 = (((((W.setCell ⟨g, 0, none⟩ (.int .i64 k)).setCell ⟨g, 1, none⟩ (.int .i64 c)).setCell ⟨g, 2, none⟩ (.int .i64 l)).setCell ⟨g, 3, none⟩ (.int .i64 m)).setCell ⟨g, 4, none⟩ (.int .u64 b)) ∧ C5 w9 g k c l m b ∧ Below g W w9 := by
 obtain ⟨⟨h0, h1, h2, h3, h4⟩, _, _⟩ := h
 refine ⟨_, rfl, ?_, ((((Below.refl _ _).setCell (by simp) _).setCell (by simp) _).setCell (by simp) _ |>.setCell (by simp) _).setCell (by simp) _⟩
 refine ⟨?_, ?_, ?_, ?_, ?_⟩ <;> simp [go_sem, *]
theorem word_get (x : Int) (h0 : 0 ≤ x) (h1 : x < 18446744073709551616) : wordI (getI x 0 3) (getI x 3 2) (getI x 5 6) (getI x 11 13) (getI x 24 8) = x % 4294967296 := by
 obtain ⟨n, rfl⟩ := Int.eq_ofNat_of_zero_le h0
 unfold wordI getI getN
 simp only [Int.toNat_natCast]
 have a1 : (0 : Int).toNat = 0 := rfl
 have a2 : (3 : Int).toNat = 3 := rfl
 have a3 : (2 : Int).toNat = 2 := rfl
 have a4 : (5 : Int).toNat = 5 := rfl
 have a5 : (6 : Int).toNat = 6 := rfl
 have a6 : (11 : Int).toNat = 11 := rfl
 have a7 : (13 : Int).toNat = 13 := rfl
 have a8 : (24 : Int).toNat = 24 := rfl
 have a9 : (8 : Int).toNat = 8 := rfl
 simp only [a1, a2, a3, a4, a5, a6, a7, a8, a9]
 omega
def decB_ti (x : Int) : Bool := rightB_ti (getI x 0 3) (getI x 3 2) (getI x 5 6) (getI x 11 13) (getI x 24 8) && decide (x < 4294967296)
def decV (x : Int) : Value := if decB_ti x then .agg #[.int .i64 (getI x 0 3), .int .i64 (getI x 3 2), .int .i64 (getI x 5 6), .int .i64 (getI x 11 13), .int .u64 (getI x 24 8)] else .agg #[.int .i64 0, .int .i64 0, .int .i64 0, .int .i64 0, .int .u64 0]
theorem decode_any (x : Int) (w : World) (hw : Lw w) (h0 : 0 ≤ x) (h1 : x < 18446744073709551616)  :
 Calls Tryz.prog 125 #[.int .u64 x] w fun e w' => e = .returned (.tuple #[decV x, .bool (decB_ti x)]) ∧ Below w.heap.size w w' := by
 have y0 : getI x 0 3 ≤ 9223372036854775807 := by have h := (get_small x 0 3).2; rw [show (2 : Int) ^ (3 : Int).toNat = 8 by decide +kernel] at h; omega
 have y1 : getI x 3 2 ≤ 9223372036854775807 := by have h := (get_small x 3 2).2; rw [show (2 : Int) ^ (2 : Int).toNat = 4 by decide +kernel] at h; omega
 have y2 : getI x 5 6 ≤ 9223372036854775807 := by have h := (get_small x 5 6).2; rw [show (2 : Int) ^ (6 : Int).toNat = 64 by decide +kernel] at h; omega
 have y3 : getI x 11 13 ≤ 9223372036854775807 := by have h := (get_small x 11 13).2; rw [show (2 : Int) ^ (13 : Int).toNat = 8192 by decide +kernel] at h; omega
 have hl := hw.2.2.2.2
 have hStart : (fun w' => w'.cell? ⟨w.heap.size, 0, none⟩ = some (.int .u64 x) ∧ w'.cell? ⟨0, 0, none⟩ = some (.int .i64 0) ∧ w'.cell? ⟨0, 1, none⟩ = some (.int .i64 3) ∧ w'.cell? ⟨1, 0, none⟩ = some (.int .i64 3) ∧ w'.cell? ⟨1, 1, none⟩ = some (.int .i64 2) ∧ w'.cell? ⟨2, 0, none⟩ = some (.int .i64 5) ∧ w'.cell? ⟨2, 1, none⟩ = some (.int .i64 6) ∧ w'.cell? ⟨3, 0, none⟩ = some (.int .i64 11) ∧ w'.cell? ⟨3, 1, none⟩ = some (.int .i64 13) ∧ w'.cell? ⟨4, 0, none⟩ = some (.int .i64 24) ∧ w'.cell? ⟨4, 1, none⟩ = some (.int .i64 8) ∧ Below w.heap.size w w' ∧ w.heap.size + 1 < w'.heap.size) (((w.alloc (.cells #[.int .u64 x] 40)).alloc (.cells #[.int .i64 0, .int .i64 0, .int .i64 0, .int .i64 0, .int .u64 0] 109)).drew) := by
  have hA : Below w.heap.size w (((w.alloc (.cells #[.int .u64 x] 40)).alloc (.cells #[.int .i64 0, .int .i64 0, .int .i64 0, .int .i64 0, .int .u64 0] 109)).drew) := ((bZ _ _).alloc (by simp) _).drew
  obtain ⟨⟨p00, p01⟩, ⟨p10, p11⟩, ⟨p20, p21⟩, ⟨p30, p31⟩, ⟨p40, p41⟩⟩ := id hl
  exact ⟨by simp [go_sem], cellK p00 hA, cellK p01 hA, cellK p10 hA, cellK p11 hA, cellK p20 hA, cellK p21 hA, cellK p30 hA, cellK p31 hA, cellK p40 hA, cellK p41 hA, hA, by simp [go_sem]⟩
 have hRx : Bx w.heap.size (((w.alloc (.cells #[.int .u64 x] 40)).alloc (.cells #[.int .i64 0, .int .i64 0, .int .i64 0, .int .i64 0, .int .u64 0] 109)).drew) (w.heap.size + 1) := by
  have := (Bx.new (B := w.heap.size) (w.alloc (.cells #[.int .u64 x] 40)) 109 (by simp)).keep ((Below.refl _ _).drew)
  rwa [show (w.alloc (.cells #[.int .u64 x] 40)).heap.size = w.heap.size + 1 by simp] at this
 obtain ⟨z4, z0, z1, z2, z3⟩ : 4 < w.heap.size ∧ 0 < w.heap.size ∧ 1 < w.heap.size ∧ 2 < w.heap.size ∧ 3 < w.heap.size := ⟨hl.2.2.2.2.lt, hl.1.lt, hl.2.1.lt, hl.2.2.1.lt, hl.2.2.2.1.lt⟩
 clear hl
 go_enter Tryz.func125, Tryz.ntmps125
 go_wp2_with fail
 rename_i Q1 K1 hK1
 have hRest : ∀ (g : Nat) (w9 : World), C5 w9 g (getI x 0 3) (getI x 3 2) (getI x 5 6) (getI x 11 13) (getI x 24 8) → (fun w' => w'.cell? ⟨w.heap.size, 0, none⟩ = some (.int .u64 x) ∧ w'.cell? ⟨0, 0, none⟩ = some (.int .i64 0) ∧ w'.cell? ⟨0, 1, none⟩ = some (.int .i64 3) ∧ w'.cell? ⟨1, 0, none⟩ = some (.int .i64 3) ∧ w'.cell? ⟨1, 1, none⟩ = some (.int .i64 2) ∧ w'.cell? ⟨2, 0, none⟩ = some (.int .i64 5) ∧ w'.cell? ⟨2, 1, none⟩ = some (.int .i64 6) ∧ w'.cell? ⟨3, 0, none⟩ = some (.int .i64 11) ∧ w'.cell? ⟨3, 1, none⟩ = some (.int .i64 13) ∧ w'.cell? ⟨4, 0, none⟩ = some (.int .i64 24) ∧ w'.cell? ⟨4, 1, none⟩ = some (.int .i64 8) ∧ Below w.heap.size w w' ∧ w.heap.size + 1 < w'.heap.size) w9 → Bx w.heap.size w9 (w.heap.size + 1) → w.heap.size + 2 ≤ g → K1 (⟨#[.int .u64 x, .pointer (some ⟨w.heap.size, 0, none⟩), .pointer (some ⟨(w.heap.size + 1), 0, none⟩), .bool false, .func (.func 167) #[] #[.pointer (some ⟨w.heap.size, 0, none⟩)], .pointer (some ⟨g, 0, none⟩), .func (.func 167) #[] #[.pointer (some ⟨w.heap.size, 0, none⟩)], .func (.func 167) #[] #[.pointer (some ⟨w.heap.size, 0, none⟩)], .agg #[.int .i64 0, .int .i64 3], .func (.func 168) #[.agg #[.int .i64 0, .int .i64 3]] #[], .int .i64 (getI x 0 3), .func (.func 167) #[] #[.pointer (some ⟨w.heap.size, 0, none⟩)], .agg #[.int .i64 3, .int .i64 2], .func (.func 168) #[.agg #[.int .i64 3, .int .i64 2]] #[], .int .i64 (getI x 3 2), .func (.func 167) #[] #[.pointer (some ⟨w.heap.size, 0, none⟩)], .agg #[.int .i64 5, .int .i64 6], .func (.func 168) #[.agg #[.int .i64 5, .int .i64 6]] #[], .int .i64 (getI x 5 6), .func (.func 167) #[] #[.pointer (some ⟨w.heap.size, 0, none⟩)], .agg #[.int .i64 11, .int .i64 13], .func (.func 168) #[.agg #[.int .i64 11, .int .i64 13]] #[], .int .i64 (getI x 11 13), .agg #[.int .i64 24, .int .i64 8], .int .u64 x, .int .u64 (getI x 24 8), .agg #[.int .i64 (getI x 0 3), .int .i64 (getI x 3 2), .int .i64 (getI x 5 6), .int .i64 (getI x 11 13), .int .u64 (getI x 24 8)], undef, undef, undef, undef, undef, undef, undef, undef, undef, undef, undef], []⟩ : Act) w9 := by
  clear hStart hRx
  intro g w9 hC hS hR hg
  obtain ⟨b0, b1, b2, b3, b4⟩ := id hC
  have hB : Below w.heap.size w w9 := hS.2.2.2.2.2.2.2.2.2.2.2.1
  have hZ : w.heap.size + 1 < w9.heap.size := hS.2.2.2.2.2.2.2.2.2.2.2.2
  have hL9 : Lw w9 := hw.keep hB
  have hx9 : w9.cell? ⟨w.heap.size, 0, none⟩ = some (.int .u64 x) := hS.1
  have hS3 : (fun w' => w'.cell? ⟨w.heap.size, 0, none⟩ = some (.int .u64 x) ∧ w'.cell? ⟨g, 0, none⟩ = some (.int .i64 (getI x 0 3)) ∧ w'.cell? ⟨g, 1, none⟩ = some (.int .i64 (getI x 3 2)) ∧ w'.cell? ⟨g, 2, none⟩ = some (.int .i64 (getI x 5 6)) ∧ w'.cell? ⟨g, 3, none⟩ = some (.int .i64 (getI x 11 13)) ∧ w'.cell? ⟨g, 4, none⟩ = some (.int .u64 (getI x 24 8)) ∧ Lw w' ∧ Below w.heap.size w w' ∧ w.heap.size + 1 < w'.heap.size ∧ Bx w.heap.size w' (w.heap.size + 1)) w9.drew := ⟨hx9, b0, b1, b2, b3, b4, hL9, hB.drew, hZ, hR⟩
  have yB0 : 0 ≤ getI x 24 8 := (get_small x 24 8).1
  have k0 : 0 ≤ getI x 0 3 ∧ getI x 0 3 < 8 := ⟨(get_small x 0 3).1, by have h := (get_small x 0 3).2; rw [show (2 : Int) ^ (3 : Int).toNat = 8 by decide +kernel] at h; exact h⟩
  have k1 : 0 ≤ getI x 3 2 ∧ getI x 3 2 < 4 := ⟨(get_small x 3 2).1, by have h := (get_small x 3 2).2; rw [show (2 : Int) ^ (2 : Int).toNat = 4 by decide +kernel] at h; exact h⟩
  have k2 : 0 ≤ getI x 5 6 ∧ getI x 5 6 < 64 := ⟨(get_small x 5 6).1, by have h := (get_small x 5 6).2; rw [show (2 : Int) ^ (6 : Int).toNat = 64 by decide +kernel] at h; exact h⟩
  have k3 : 0 ≤ getI x 11 13 ∧ getI x 11 13 < 8192 := ⟨(get_small x 11 13).1, by have h := (get_small x 11 13).2; rw [show (2 : Int) ^ (13 : Int).toNat = 8192 by decide +kernel] at h; exact h⟩
  have k4 : 0 ≤ getI x 24 8 ∧ getI x 24 8 < 256 := ⟨(get_small x 24 8).1, by have h := (get_small x 24 8).2; rw [show (2 : Int) ^ (8 : Int).toNat = 256 by decide +kernel] at h; exact h⟩
  have HW := lh (word_get x h0 h1)
  clear hS hC hw
  refine hK1 _ _ ?_
  clear hK1
  by_cases hr : rightB_ti (getI x 0 3) (getI x 3 2) (getI x 5 6) (getI x 11 13) (getI x 24 8) = true
  rotate_left
  ·have HR := lh (show rightB_ti (getI x 0 3) (getI x 3 2) (getI x 5 6) (getI x 11 13) (getI x 24 8) = false by simpa using hr)
   clear hr
   have hv : decB_ti x = false := by unfold decB_ti; rw [HR.out]; rfl
   have hV : decV x = .agg #[.int .i64 0, .int .i64 0, .int .i64 0, .int .i64 0, .int .u64 0] := by unfold decV; rw [if_neg (by simp [hv])]
   go_wp2_with fail
   refine wp_region_held_drew (S := (fun w' => w'.cell? ⟨w.heap.size, 0, none⟩ = some (.int .u64 x) ∧ w'.cell? ⟨g, 0, none⟩ = some (.int .i64 (getI x 0 3)) ∧ w'.cell? ⟨g, 1, none⟩ = some (.int .i64 (getI x 3 2)) ∧ w'.cell? ⟨g, 2, none⟩ = some (.int .i64 (getI x 5 6)) ∧ w'.cell? ⟨g, 3, none⟩ = some (.int .i64 (getI x 11 13)) ∧ w'.cell? ⟨g, 4, none⟩ = some (.int .u64 (getI x 24 8)) ∧ Lw w' ∧ Below w.heap.size w w' ∧ w.heap.size + 1 < w'.heap.size ∧ Bx w.heap.size w' (w.heap.size + 1))) (by kernel_rfl) ?_ (fun hHeld => ?_)
   ·(try dsimp only)
    first | exact hS3 | (obtain ⟨q0, q1, q2, q3, q4, q5, qL, qB, qS, qR⟩ := hHeld; exact ⟨cellK q0 hb, cellK q1 hb, cellK q2 hb, cellK q3 hb, cellK q4 hb, cellK q5 hb, qL.keep hb, qB.trans (hb.mono (by omega)), Nat.lt_of_lt_of_le qS hb.size, qR.keep hb⟩)
   refine takeQ 0 ?_
   refine oneL 1 rfl (by kernel_rfl) (fun K hK => ?_)
   go_simp
   (go_at_call 142; have hT7 := hHeld.2.2.2.2.2.2.1.2.2.1; have hG7 := hHeld.2.2.2.2.2.2.1.2.2.2.1; (with_reducible refine (right_any_ti (getI x 0 3) (getI x 3 2) (getI x 5 6) (getI x 11 13) (getI x 24 8) _ hT7 hG7 yB0).mono ?_); rw [HR.out]; rintro e w8 ⟨rfl, hb⟩)
   refine hK.out _ _ ?_ (fun hHeld2 => ?_)
   ·(try dsimp only)
    first | exact hS3 | (obtain ⟨q0, q1, q2, q3, q4, q5, qL, qB, qS, qR⟩ := hHeld; exact ⟨cellK q0 hb, cellK q1 hb, cellK q2 hb, cellK q3 hb, cellK q4 hb, cellK q5 hb, qL.keep hb, qB.trans (hb.mono (by omega)), Nat.lt_of_lt_of_le qS hb.size, qR.keep hb⟩)
   clear hK K hHeld
   have hHeld := hHeld2
   clear hHeld2
   try simp only [Act.put,sA,sB,sC]
   refine takeQ 2 ?_
   refine takeQ 3 ?_
   refine idleQ 4 ?_
   refine idleQ 5 ?_
   refine idleQ 6 ?_
   refine idleQ 7 ?_
   refine takeQ 8 ?_
   refine wpAnyH_done (by kernel_rfl) ?_ _
   have qR := hHeld.2.2.2.2.2.2.2.2.2
   obtain ⟨e0, e1, e2, e3, e4, e5, eL, eB, eS, ⟨⟨r0, r1, r2, r3, r4⟩, ⟨m0, m1, m2, m3, m4⟩, _⟩⟩ := hHeld
   go_wp2_with fail
   (try simp only [Exit.inBlock, Exit.then])
   obtain ⟨w7, hw7, hC7, hb7⟩ := st5_ex qR 0 0 0 0 0
   rw [← hw7]
   obtain ⟨t0, t1, t2, t3, t4⟩ := hC7
   refine bodyPost_ret (v := .tuple #[decV x, .bool (decB_ti x)]) ?_ rfl ⟨rfl, eB.trans (hb7.mono (by omega))⟩
   rw [results_cell_tmp rfl, hV, hv]
   clear hw7 hb7 qR e0 e1 e2 e3 e4 e5 r0 r1 r2 r3 r4 m0 m1 m2 m3 m4
   go_simp
  have HR := lh hr
  clear hr
  by_cases hx : x < 4294967296
  ·have he : x % 4294967296 = x := by omega
   rw [he] at HW
   have hv : decB_ti x = true := by unfold decB_ti; rw [HR.out]; simpa using hx
   have hV : decV x = .agg #[.int .i64 (getI x 0 3), .int .i64 (getI x 3 2), .int .i64 (getI x 5 6), .int .i64 (getI x 11 13), .int .u64 (getI x 24 8)] := by unfold decV; rw [if_pos hv]
   go_wp2_with fail
   refine wp_region_held_drew (S := (fun w' => w'.cell? ⟨w.heap.size, 0, none⟩ = some (.int .u64 x) ∧ w'.cell? ⟨g, 0, none⟩ = some (.int .i64 (getI x 0 3)) ∧ w'.cell? ⟨g, 1, none⟩ = some (.int .i64 (getI x 3 2)) ∧ w'.cell? ⟨g, 2, none⟩ = some (.int .i64 (getI x 5 6)) ∧ w'.cell? ⟨g, 3, none⟩ = some (.int .i64 (getI x 11 13)) ∧ w'.cell? ⟨g, 4, none⟩ = some (.int .u64 (getI x 24 8)) ∧ Lw w' ∧ Below w.heap.size w w' ∧ w.heap.size + 1 < w'.heap.size ∧ Bx w.heap.size w' (w.heap.size + 1))) (by kernel_rfl) ?_ (fun hHeld => ?_)
   ·(try dsimp only)
    first | exact hS3 | (obtain ⟨q0, q1, q2, q3, q4, q5, qL, qB, qS, qR⟩ := hHeld; exact ⟨cellK q0 hb, cellK q1 hb, cellK q2 hb, cellK q3 hb, cellK q4 hb, cellK q5 hb, qL.keep hb, qB.trans (hb.mono (by omega)), Nat.lt_of_lt_of_le qS hb.size, qR.keep hb⟩)
   refine takeQ 0 ?_
   refine oneL 1 rfl (by kernel_rfl) (fun K hK => ?_)
   go_simp
   (go_at_call 142; have hT7 := hHeld.2.2.2.2.2.2.1.2.2.1; have hG7 := hHeld.2.2.2.2.2.2.1.2.2.2.1; (with_reducible refine (right_any_ti (getI x 0 3) (getI x 3 2) (getI x 5 6) (getI x 11 13) (getI x 24 8) _ hT7 hG7 yB0).mono ?_); rw [HR.out]; rintro e w8 ⟨rfl, hb⟩)
   refine hK.out _ _ ?_ (fun hHeld2 => ?_)
   ·(try dsimp only)
    first | exact hS3 | (obtain ⟨q0, q1, q2, q3, q4, q5, qL, qB, qS, qR⟩ := hHeld; exact ⟨cellK q0 hb, cellK q1 hb, cellK q2 hb, cellK q3 hb, cellK q4 hb, cellK q5 hb, qL.keep hb, qB.trans (hb.mono (by omega)), Nat.lt_of_lt_of_le qS hb.size, qR.keep hb⟩)
   clear hK K hHeld
   have hHeld := hHeld2
   clear hHeld2
   try simp only [Act.put,sA,sB,sC]
   refine takeQ 2 ?_
   refine takeQ 3 ?_
   refine takeQ 4 ?_
   refine takeQ 6 ?_
   refine oneL 5 rfl (by kernel_rfl) (fun K hK => ?_)
   go_simp
   (go_at_call 143; have hP7 := hHeld.2.2.2.2.2.2.1.2.2.2.2; (with_reducible refine (word_any (getI x 0 3) (getI x 3 2) (getI x 5 6) (getI x 11 13) (getI x 24 8) _ hP7 k0.1 k0.2 k1.1 k1.2 k2.1 k2.2 k3.1 k3.2 k4.1 k4.2).mono ?_); rw [HW.out]; rintro e w8 ⟨rfl, hb⟩)
   refine hK.out _ _ ?_ (fun hHeld2 => ?_)
   ·(try dsimp only)
    first | exact hS3 | (obtain ⟨q0, q1, q2, q3, q4, q5, qL, qB, qS, qR⟩ := hHeld; exact ⟨cellK q0 hb, cellK q1 hb, cellK q2 hb, cellK q3 hb, cellK q4 hb, cellK q5 hb, qL.keep hb, qB.trans (hb.mono (by omega)), Nat.lt_of_lt_of_le qS hb.size, qR.keep hb⟩)
   clear hK K hHeld
   have hHeld := hHeld2
   clear hHeld2
   try simp only [Act.put,sA,sB,sC]
   refine takeQ 7 ?_
   refine takeQ 8 ?_
   refine wpAnyH_done (by kernel_rfl) ?_ _
   have qR := hHeld.2.2.2.2.2.2.2.2.2
   obtain ⟨e0, e1, e2, e3, e4, e5, eL, eB, eS, ⟨⟨r0, r1, r2, r3, r4⟩, ⟨m0, m1, m2, m3, m4⟩, _⟩⟩ := hHeld
   go_wp2_with fail
   (try simp only [Exit.inBlock, Exit.then])
   obtain ⟨w7, hw7, hC7, hb7⟩ := st5_ex qR (getI x 0 3) (getI x 3 2) (getI x 5 6) (getI x 11 13) (getI x 24 8)
   rw [← hw7]
   obtain ⟨t0, t1, t2, t3, t4⟩ := hC7
   refine bodyPost_ret (v := .tuple #[decV x, .bool (decB_ti x)]) ?_ rfl ⟨rfl, eB.trans (hb7.mono (by omega))⟩
   rw [results_cell_tmp rfl, hV, hv]
   clear hw7 hb7 qR e0 e1 e2 e3 e4 e5 r0 r1 r2 r3 r4 m0 m1 m2 m3 m4
   go_simp
  have he : ¬ x % 4294967296 = x := by omega
  have hv : decB_ti x = false := by unfold decB_ti; simp [hx]
  have hV : decV x = .agg #[.int .i64 0, .int .i64 0, .int .i64 0, .int .i64 0, .int .u64 0] := by unfold decV; rw [if_neg (by simp [hv])]
  go_wp2_with fail
  refine wp_region_held_drew (S := (fun w' => w'.cell? ⟨w.heap.size, 0, none⟩ = some (.int .u64 x) ∧ w'.cell? ⟨g, 0, none⟩ = some (.int .i64 (getI x 0 3)) ∧ w'.cell? ⟨g, 1, none⟩ = some (.int .i64 (getI x 3 2)) ∧ w'.cell? ⟨g, 2, none⟩ = some (.int .i64 (getI x 5 6)) ∧ w'.cell? ⟨g, 3, none⟩ = some (.int .i64 (getI x 11 13)) ∧ w'.cell? ⟨g, 4, none⟩ = some (.int .u64 (getI x 24 8)) ∧ Lw w' ∧ Below w.heap.size w w' ∧ w.heap.size + 1 < w'.heap.size ∧ Bx w.heap.size w' (w.heap.size + 1))) (by kernel_rfl) ?_ (fun hHeld => ?_)
  ·(try dsimp only)
   first | exact hS3 | (obtain ⟨q0, q1, q2, q3, q4, q5, qL, qB, qS, qR⟩ := hHeld; exact ⟨cellK q0 hb, cellK q1 hb, cellK q2 hb, cellK q3 hb, cellK q4 hb, cellK q5 hb, qL.keep hb, qB.trans (hb.mono (by omega)), Nat.lt_of_lt_of_le qS hb.size, qR.keep hb⟩)
  refine takeQ 0 ?_
  refine oneL 1 rfl (by kernel_rfl) (fun K hK => ?_)
  go_simp
  (go_at_call 142; have hT7 := hHeld.2.2.2.2.2.2.1.2.2.1; have hG7 := hHeld.2.2.2.2.2.2.1.2.2.2.1; (with_reducible refine (right_any_ti (getI x 0 3) (getI x 3 2) (getI x 5 6) (getI x 11 13) (getI x 24 8) _ hT7 hG7 yB0).mono ?_); rw [HR.out]; rintro e w8 ⟨rfl, hb⟩)
  refine hK.out _ _ ?_ (fun hHeld2 => ?_)
  ·(try dsimp only)
   first | exact hS3 | (obtain ⟨q0, q1, q2, q3, q4, q5, qL, qB, qS, qR⟩ := hHeld; exact ⟨cellK q0 hb, cellK q1 hb, cellK q2 hb, cellK q3 hb, cellK q4 hb, cellK q5 hb, qL.keep hb, qB.trans (hb.mono (by omega)), Nat.lt_of_lt_of_le qS hb.size, qR.keep hb⟩)
  clear hK K hHeld
  have hHeld := hHeld2
  clear hHeld2
  try simp only [Act.put,sA,sB,sC]
  refine takeQ 2 ?_
  refine takeQ 3 ?_
  refine takeQ 4 ?_
  refine takeQ 6 ?_
  refine oneL 5 rfl (by kernel_rfl) (fun K hK => ?_)
  go_simp
  (go_at_call 143; have hP7 := hHeld.2.2.2.2.2.2.1.2.2.2.2; (with_reducible refine (word_any (getI x 0 3) (getI x 3 2) (getI x 5 6) (getI x 11 13) (getI x 24 8) _ hP7 k0.1 k0.2 k1.1 k1.2 k2.1 k2.2 k3.1 k3.2 k4.1 k4.2).mono ?_); rw [HW.out]; rintro e w8 ⟨rfl, hb⟩)
  refine hK.out _ _ ?_ (fun hHeld2 => ?_)
  ·(try dsimp only)
   first | exact hS3 | (obtain ⟨q0, q1, q2, q3, q4, q5, qL, qB, qS, qR⟩ := hHeld; exact ⟨cellK q0 hb, cellK q1 hb, cellK q2 hb, cellK q3 hb, cellK q4 hb, cellK q5 hb, qL.keep hb, qB.trans (hb.mono (by omega)), Nat.lt_of_lt_of_le qS hb.size, qR.keep hb⟩)
  clear hK K hHeld
  have hHeld := hHeld2
  clear hHeld2
  try simp only [Act.put,sA,sB,sC]
  refine takeQ 7 ?_
  refine takeQ 8 ?_
  refine wpAnyH_done (by kernel_rfl) ?_ _
  have qR := hHeld.2.2.2.2.2.2.2.2.2
  obtain ⟨e0, e1, e2, e3, e4, e5, eL, eB, eS, ⟨⟨r0, r1, r2, r3, r4⟩, ⟨m0, m1, m2, m3, m4⟩, _⟩⟩ := hHeld
  go_wp2_with fail
  (try simp only [Exit.inBlock, Exit.then])
  obtain ⟨w7, hw7, hC7, hb7⟩ := st5_ex qR 0 0 0 0 0
  rw [← hw7]
  obtain ⟨t0, t1, t2, t3, t4⟩ := hC7
  refine bodyPost_ret (v := .tuple #[decV x, .bool (decB_ti x)]) ?_ rfl ⟨rfl, eB.trans (hb7.mono (by omega))⟩
  rw [results_cell_tmp rfl, hV, hv]
  clear hw7 hb7 qR e0 e1 e2 e3 e4 e5 r0 r1 r2 r3 r4 m0 m1 m2 m3 m4
  go_simp
 clear hK1 hw
 refine wp_region_held_drew (S := (fun w' => w'.cell? ⟨w.heap.size, 0, none⟩ = some (.int .u64 x) ∧ w'.cell? ⟨0, 0, none⟩ = some (.int .i64 0) ∧ w'.cell? ⟨0, 1, none⟩ = some (.int .i64 3) ∧ w'.cell? ⟨1, 0, none⟩ = some (.int .i64 3) ∧ w'.cell? ⟨1, 1, none⟩ = some (.int .i64 2) ∧ w'.cell? ⟨2, 0, none⟩ = some (.int .i64 5) ∧ w'.cell? ⟨2, 1, none⟩ = some (.int .i64 6) ∧ w'.cell? ⟨3, 0, none⟩ = some (.int .i64 11) ∧ w'.cell? ⟨3, 1, none⟩ = some (.int .i64 13) ∧ w'.cell? ⟨4, 0, none⟩ = some (.int .i64 24) ∧ w'.cell? ⟨4, 1, none⟩ = some (.int .i64 8) ∧ Below w.heap.size w w' ∧ w.heap.size + 1 < w'.heap.size)) (by kernel_rfl) ?_ (fun hHeld => ?_)
 ·(try dsimp only)
  exact hStart
 obtain ⟨w8, hw8⟩ : ∃ v, v = (((w.alloc (.cells #[.int .u64 x] 40)).alloc (.cells #[.int .i64 0, .int .i64 0, .int .i64 0, .int .i64 0, .int .u64 0] 109)).drew) := ⟨_, rfl⟩
 rw [← hw8] at hHeld hRx ⊢
 clear hStart
 clear hw8
 refine takeQ 0 ?_
 refine takeQ 1 ?_
 refine takeQ 2 ?_
 refine takeQ 4 ?_
 refine takeQ 5 ?_
 refine takeQ 6 ?_
 refine takeQ 8 ?_
 refine takeQ 9 ?_
 refine takeQ 10 ?_
 refine takeQ 12 ?_
 refine takeQ 13 ?_
 refine takeQ 14 ?_
 refine takeQ 16 ?_
 refine takeQ 17 ?_
 refine twoL 3 20 rfl rfl (by kernel_rfl) (fun K hK => ?_) (fun K hK => ?_)
 rotate_left
 ·go_simp
  have hHeld8 := hHeld
  have hR8 := hRx
  have hBx := Bx.new (B := w.heap.size + 2) _ 109 (hHeld.2.2.2.2.2.2.2.2.2.2.2.2)
  replace hRx := hRx.keep (bZ _ (.cells #[.int .i64 0, .int .i64 0, .int .i64 0, .int .i64 0, .int .u64 0] 109))
  refine hK.out _ _ ?_ (fun hHeld2 => ?_)
  ·(try dsimp only)
   (obtain ⟨q0, q1, q2, q3, q4, q5, q6, q7, q8, q9, q10, qB, qS⟩ := hHeld; exact ⟨cellK q0 (bZ _ _), cellK q1 (bZ _ _), cellK q2 (bZ _ _), cellK q3 (bZ _ _), cellK q4 (bZ _ _), cellK q5 (bZ _ _), cellK q6 (bZ _ _), cellK q7 (bZ _ _), cellK q8 (bZ _ _), cellK q9 (bZ _ _), cellK q10 (bZ _ _), qB.trans (((bZ _ _)).mono (Nat.le_of_lt (Nat.lt_of_succ_lt qS))), Nat.lt_of_lt_of_le qS ((bZ _ _)).size⟩)
  clear hK K hHeld
  have hHeld := hHeld2
  clear hHeld2
  try simp only [Act.put,sA,sB,sC]
  clear hHeld8 hR8
  generalize hgb : w8.heap.size = gb at hBx ⊢
  clear hgb
  refine oneL 3 rfl (by kernel_rfl) (fun K hK => ?_)
  go_simp
  (go_at_call 167; (with_reducible refine (part_any x 0 3 _ _ hHeld.1 h0 h1 (by omega) (by omega) (by omega) (by omega) y0).mono ?_); rintro e w8 ⟨rfl, hb⟩)
  replace hRx := hRx.keep hb
  replace hBx := hBx.keep hb
  refine hK.out _ _ ?_ (fun hHeld2 => ?_)
  ·(try dsimp only)
   (obtain ⟨q0, q1, q2, q3, q4, q5, q6, q7, q8, q9, q10, qB, qS⟩ := hHeld; exact ⟨cellK q0 hb, cellK q1 hb, cellK q2 hb, cellK q3 hb, cellK q4 hb, cellK q5 hb, cellK q6 hb, cellK q7 hb, cellK q8 hb, cellK q9 hb, cellK q10 hb, qB.trans ((hb).mono (Nat.le_of_lt (Nat.lt_of_succ_lt qS))), Nat.lt_of_lt_of_le qS (hb).size⟩)
  clear hK K hHeld
  have hHeld := hHeld2
  clear hHeld2
  try simp only [Act.put,sA,sB,sC]
  clear hb
  refine oneL 7 rfl (by kernel_rfl) (fun K hK => ?_)
  go_simp
  (go_at_call 167; (with_reducible refine (part_any x 3 2 _ _ hHeld.1 h0 h1 (by omega) (by omega) (by omega) (by omega) y1).mono ?_); rintro e w8 ⟨rfl, hb⟩)
  replace hRx := hRx.keep hb
  replace hBx := hBx.keep hb
  refine hK.out _ _ ?_ (fun hHeld2 => ?_)
  ·(try dsimp only)
   (obtain ⟨q0, q1, q2, q3, q4, q5, q6, q7, q8, q9, q10, qB, qS⟩ := hHeld; exact ⟨cellK q0 hb, cellK q1 hb, cellK q2 hb, cellK q3 hb, cellK q4 hb, cellK q5 hb, cellK q6 hb, cellK q7 hb, cellK q8 hb, cellK q9 hb, cellK q10 hb, qB.trans ((hb).mono (Nat.le_of_lt (Nat.lt_of_succ_lt qS))), Nat.lt_of_lt_of_le qS (hb).size⟩)
  clear hK K hHeld
  have hHeld := hHeld2
  clear hHeld2
  try simp only [Act.put,sA,sB,sC]
  clear hb
  refine oneL 11 rfl (by kernel_rfl) (fun K hK => ?_)
  go_simp
  (go_at_call 167; (with_reducible refine (part_any x 5 6 _ _ hHeld.1 h0 h1 (by omega) (by omega) (by omega) (by omega) y2).mono ?_); rintro e w8 ⟨rfl, hb⟩)
  replace hRx := hRx.keep hb
  replace hBx := hBx.keep hb
  refine hK.out _ _ ?_ (fun hHeld2 => ?_)
  ·(try dsimp only)
   (obtain ⟨q0, q1, q2, q3, q4, q5, q6, q7, q8, q9, q10, qB, qS⟩ := hHeld; exact ⟨cellK q0 hb, cellK q1 hb, cellK q2 hb, cellK q3 hb, cellK q4 hb, cellK q5 hb, cellK q6 hb, cellK q7 hb, cellK q8 hb, cellK q9 hb, cellK q10 hb, qB.trans ((hb).mono (Nat.le_of_lt (Nat.lt_of_succ_lt qS))), Nat.lt_of_lt_of_le qS (hb).size⟩)
  clear hK K hHeld
  have hHeld := hHeld2
  clear hHeld2
  try simp only [Act.put,sA,sB,sC]
  clear hb
  refine oneL 15 rfl (by kernel_rfl) (fun K hK => ?_)
  go_simp
  (go_at_call 167; (with_reducible refine (part_any x 11 13 _ _ hHeld.1 h0 h1 (by omega) (by omega) (by omega) (by omega) y3).mono ?_); rintro e w8 ⟨rfl, hb⟩)
  replace hRx := hRx.keep hb
  replace hBx := hBx.keep hb
  refine hK.out _ _ ?_ (fun hHeld2 => ?_)
  ·(try dsimp only)
   (obtain ⟨q0, q1, q2, q3, q4, q5, q6, q7, q8, q9, q10, qB, qS⟩ := hHeld; exact ⟨cellK q0 hb, cellK q1 hb, cellK q2 hb, cellK q3 hb, cellK q4 hb, cellK q5 hb, cellK q6 hb, cellK q7 hb, cellK q8 hb, cellK q9 hb, cellK q10 hb, qB.trans ((hb).mono (Nat.le_of_lt (Nat.lt_of_succ_lt qS))), Nat.lt_of_lt_of_le qS (hb).size⟩)
  clear hK K hHeld
  have hHeld := hHeld2
  clear hHeld2
  try simp only [Act.put,sA,sB,sC]
  clear hb
  refine oneL 18 rfl (by kernel_rfl) (fun K hK => ?_)
  go_simp
  (go_at_call 168; (with_reducible refine (pin_any x 24 8 _ h0 h1 (by omega) (by omega) (by omega) (by omega)).mono ?_); rintro e w8 ⟨rfl, hb⟩)
  replace hRx := hRx.keep hb
  replace hBx := hBx.keep hb
  refine hK.out _ _ ?_ (fun hHeld2 => ?_)
  ·(try dsimp only)
   (obtain ⟨q0, q1, q2, q3, q4, q5, q6, q7, q8, q9, q10, qB, qS⟩ := hHeld; exact ⟨cellK q0 hb, cellK q1 hb, cellK q2 hb, cellK q3 hb, cellK q4 hb, cellK q5 hb, cellK q6 hb, cellK q7 hb, cellK q8 hb, cellK q9 hb, cellK q10 hb, qB.trans ((hb).mono (Nat.le_of_lt (Nat.lt_of_succ_lt qS))), Nat.lt_of_lt_of_le qS (hb).size⟩)
  clear hK K hHeld
  have hHeld := hHeld2
  clear hHeld2
  try simp only [Act.put,sA,sB,sC]
  clear hb
  refine takeQ 19 ?_
  refine oneL 21 rfl (by kernel_rfl) (fun K hK => ?_)
  have hz := hBx.sz
  obtain ⟨⟨b0, b1, b2, b3, b4⟩, ⟨n0, n1, n2, n3, n4⟩, hlow⟩ := id hBx
  go_simp
  clear b0 b1 b2 b3 b4
  obtain ⟨w9, hw9, hC9, hb9⟩ := st5_ex hBx (getI x 0 3) (getI x 3 2) (getI x 5 6) (getI x 11 13) (getI x 24 8)
  rw [← hw9]
  clear hw9 hBx hz
  have hS9 : (fun w' => w'.cell? ⟨w.heap.size, 0, none⟩ = some (.int .u64 x) ∧ w'.cell? ⟨0, 0, none⟩ = some (.int .i64 0) ∧ w'.cell? ⟨0, 1, none⟩ = some (.int .i64 3) ∧ w'.cell? ⟨1, 0, none⟩ = some (.int .i64 3) ∧ w'.cell? ⟨1, 1, none⟩ = some (.int .i64 2) ∧ w'.cell? ⟨2, 0, none⟩ = some (.int .i64 5) ∧ w'.cell? ⟨2, 1, none⟩ = some (.int .i64 6) ∧ w'.cell? ⟨3, 0, none⟩ = some (.int .i64 11) ∧ w'.cell? ⟨3, 1, none⟩ = some (.int .i64 13) ∧ w'.cell? ⟨4, 0, none⟩ = some (.int .i64 24) ∧ w'.cell? ⟨4, 1, none⟩ = some (.int .i64 8) ∧ Below w.heap.size w w' ∧ w.heap.size + 1 < w'.heap.size) w9 := by
   obtain ⟨q0, q1, q2, q3, q4, q5, q6, q7, q8, q9, q10, qB, qS⟩ := hHeld
   exact ⟨cellG q0 hb9 (by omega), cellG q1 hb9 (by omega), cellG q2 hb9 (by omega), cellG q3 hb9 (by omega), cellG q4 hb9 (by omega), cellG q5 hb9 (by omega), cellG q6 hb9 (by omega), cellG q7 hb9 (by omega), cellG q8 hb9 (by omega), cellG q9 hb9 (by omega), cellG q10 hb9 (by omega), qB.trans (hb9.mono (by omega)), Nat.lt_of_lt_of_le qS hb9.size⟩
  have hR9 := hRx.keepG hb9 (by omega)
  refine hK.out _ _ hS9 (fun _ => ?_)
  clear hK K hRx hHeld
  clear hb9
  try simp only [Act.put,sA,sB,sC]
  refine wpAnyH_done (by kernel_rfl) ?_ _
  exact hRest _ w9 hC9 hS9 hR9 (by omega)
 go_simp
 (go_at_call 167; (with_reducible refine (part_any x 0 3 _ _ hHeld.1 h0 h1 (by omega) (by omega) (by omega) (by omega) y0).mono ?_); rintro e w8 ⟨rfl, hb⟩)
 replace hRx := hRx.keep hb
 refine hK.out _ _ ?_ (fun hHeld2 => ?_)
 ·(try dsimp only)
  (obtain ⟨q0, q1, q2, q3, q4, q5, q6, q7, q8, q9, q10, qB, qS⟩ := hHeld; exact ⟨cellK q0 hb, cellK q1 hb, cellK q2 hb, cellK q3 hb, cellK q4 hb, cellK q5 hb, cellK q6 hb, cellK q7 hb, cellK q8 hb, cellK q9 hb, cellK q10 hb, qB.trans ((hb).mono (Nat.le_of_lt (Nat.lt_of_succ_lt qS))), Nat.lt_of_lt_of_le qS (hb).size⟩)
 clear hK K hHeld
 have hHeld := hHeld2
 clear hHeld2
 try simp only [Act.put,sA,sB,sC]
 clear hb
 refine twoL 7 20 rfl rfl (by kernel_rfl) (fun K hK => ?_) (fun K hK => ?_)
 rotate_left
 ·go_simp
  have hHeld8 := hHeld
  have hR8 := hRx
  have hBx := Bx.new (B := w.heap.size + 2) _ 109 (hHeld.2.2.2.2.2.2.2.2.2.2.2.2)
  replace hRx := hRx.keep (bZ _ (.cells #[.int .i64 0, .int .i64 0, .int .i64 0, .int .i64 0, .int .u64 0] 109))
  refine hK.out _ _ ?_ (fun hHeld2 => ?_)
  ·(try dsimp only)
   (obtain ⟨q0, q1, q2, q3, q4, q5, q6, q7, q8, q9, q10, qB, qS⟩ := hHeld; exact ⟨cellK q0 (bZ _ _), cellK q1 (bZ _ _), cellK q2 (bZ _ _), cellK q3 (bZ _ _), cellK q4 (bZ _ _), cellK q5 (bZ _ _), cellK q6 (bZ _ _), cellK q7 (bZ _ _), cellK q8 (bZ _ _), cellK q9 (bZ _ _), cellK q10 (bZ _ _), qB.trans (((bZ _ _)).mono (Nat.le_of_lt (Nat.lt_of_succ_lt qS))), Nat.lt_of_lt_of_le qS ((bZ _ _)).size⟩)
  clear hK K hHeld
  have hHeld := hHeld2
  clear hHeld2
  try simp only [Act.put,sA,sB,sC]
  clear hHeld8 hR8
  generalize hgb : w8.heap.size = gb at hBx ⊢
  clear hgb
  refine oneL 7 rfl (by kernel_rfl) (fun K hK => ?_)
  go_simp
  (go_at_call 167; (with_reducible refine (part_any x 3 2 _ _ hHeld.1 h0 h1 (by omega) (by omega) (by omega) (by omega) y1).mono ?_); rintro e w8 ⟨rfl, hb⟩)
  replace hRx := hRx.keep hb
  replace hBx := hBx.keep hb
  refine hK.out _ _ ?_ (fun hHeld2 => ?_)
  ·(try dsimp only)
   (obtain ⟨q0, q1, q2, q3, q4, q5, q6, q7, q8, q9, q10, qB, qS⟩ := hHeld; exact ⟨cellK q0 hb, cellK q1 hb, cellK q2 hb, cellK q3 hb, cellK q4 hb, cellK q5 hb, cellK q6 hb, cellK q7 hb, cellK q8 hb, cellK q9 hb, cellK q10 hb, qB.trans ((hb).mono (Nat.le_of_lt (Nat.lt_of_succ_lt qS))), Nat.lt_of_lt_of_le qS (hb).size⟩)
  clear hK K hHeld
  have hHeld := hHeld2
  clear hHeld2
  try simp only [Act.put,sA,sB,sC]
  clear hb
  refine oneL 11 rfl (by kernel_rfl) (fun K hK => ?_)
  go_simp
  (go_at_call 167; (with_reducible refine (part_any x 5 6 _ _ hHeld.1 h0 h1 (by omega) (by omega) (by omega) (by omega) y2).mono ?_); rintro e w8 ⟨rfl, hb⟩)
  replace hRx := hRx.keep hb
  replace hBx := hBx.keep hb
  refine hK.out _ _ ?_ (fun hHeld2 => ?_)
  ·(try dsimp only)
   (obtain ⟨q0, q1, q2, q3, q4, q5, q6, q7, q8, q9, q10, qB, qS⟩ := hHeld; exact ⟨cellK q0 hb, cellK q1 hb, cellK q2 hb, cellK q3 hb, cellK q4 hb, cellK q5 hb, cellK q6 hb, cellK q7 hb, cellK q8 hb, cellK q9 hb, cellK q10 hb, qB.trans ((hb).mono (Nat.le_of_lt (Nat.lt_of_succ_lt qS))), Nat.lt_of_lt_of_le qS (hb).size⟩)
  clear hK K hHeld
  have hHeld := hHeld2
  clear hHeld2
  try simp only [Act.put,sA,sB,sC]
  clear hb
  refine oneL 15 rfl (by kernel_rfl) (fun K hK => ?_)
  go_simp
  (go_at_call 167; (with_reducible refine (part_any x 11 13 _ _ hHeld.1 h0 h1 (by omega) (by omega) (by omega) (by omega) y3).mono ?_); rintro e w8 ⟨rfl, hb⟩)
  replace hRx := hRx.keep hb
  replace hBx := hBx.keep hb
  refine hK.out _ _ ?_ (fun hHeld2 => ?_)
  ·(try dsimp only)
   (obtain ⟨q0, q1, q2, q3, q4, q5, q6, q7, q8, q9, q10, qB, qS⟩ := hHeld; exact ⟨cellK q0 hb, cellK q1 hb, cellK q2 hb, cellK q3 hb, cellK q4 hb, cellK q5 hb, cellK q6 hb, cellK q7 hb, cellK q8 hb, cellK q9 hb, cellK q10 hb, qB.trans ((hb).mono (Nat.le_of_lt (Nat.lt_of_succ_lt qS))), Nat.lt_of_lt_of_le qS (hb).size⟩)
  clear hK K hHeld
  have hHeld := hHeld2
  clear hHeld2
  try simp only [Act.put,sA,sB,sC]
  clear hb
  refine oneL 18 rfl (by kernel_rfl) (fun K hK => ?_)
  go_simp
  (go_at_call 168; (with_reducible refine (pin_any x 24 8 _ h0 h1 (by omega) (by omega) (by omega) (by omega)).mono ?_); rintro e w8 ⟨rfl, hb⟩)
  replace hRx := hRx.keep hb
  replace hBx := hBx.keep hb
  refine hK.out _ _ ?_ (fun hHeld2 => ?_)
  ·(try dsimp only)
   (obtain ⟨q0, q1, q2, q3, q4, q5, q6, q7, q8, q9, q10, qB, qS⟩ := hHeld; exact ⟨cellK q0 hb, cellK q1 hb, cellK q2 hb, cellK q3 hb, cellK q4 hb, cellK q5 hb, cellK q6 hb, cellK q7 hb, cellK q8 hb, cellK q9 hb, cellK q10 hb, qB.trans ((hb).mono (Nat.le_of_lt (Nat.lt_of_succ_lt qS))), Nat.lt_of_lt_of_le qS (hb).size⟩)
  clear hK K hHeld
  have hHeld := hHeld2
  clear hHeld2
  try simp only [Act.put,sA,sB,sC]
  clear hb
  refine takeQ 19 ?_
  refine oneL 21 rfl (by kernel_rfl) (fun K hK => ?_)
  have hz := hBx.sz
  obtain ⟨⟨b0, b1, b2, b3, b4⟩, ⟨n0, n1, n2, n3, n4⟩, hlow⟩ := id hBx
  go_simp
  clear b0 b1 b2 b3 b4
  obtain ⟨w9, hw9, hC9, hb9⟩ := st5_ex hBx (getI x 0 3) (getI x 3 2) (getI x 5 6) (getI x 11 13) (getI x 24 8)
  rw [← hw9]
  clear hw9 hBx hz
  have hS9 : (fun w' => w'.cell? ⟨w.heap.size, 0, none⟩ = some (.int .u64 x) ∧ w'.cell? ⟨0, 0, none⟩ = some (.int .i64 0) ∧ w'.cell? ⟨0, 1, none⟩ = some (.int .i64 3) ∧ w'.cell? ⟨1, 0, none⟩ = some (.int .i64 3) ∧ w'.cell? ⟨1, 1, none⟩ = some (.int .i64 2) ∧ w'.cell? ⟨2, 0, none⟩ = some (.int .i64 5) ∧ w'.cell? ⟨2, 1, none⟩ = some (.int .i64 6) ∧ w'.cell? ⟨3, 0, none⟩ = some (.int .i64 11) ∧ w'.cell? ⟨3, 1, none⟩ = some (.int .i64 13) ∧ w'.cell? ⟨4, 0, none⟩ = some (.int .i64 24) ∧ w'.cell? ⟨4, 1, none⟩ = some (.int .i64 8) ∧ Below w.heap.size w w' ∧ w.heap.size + 1 < w'.heap.size) w9 := by
   obtain ⟨q0, q1, q2, q3, q4, q5, q6, q7, q8, q9, q10, qB, qS⟩ := hHeld
   exact ⟨cellG q0 hb9 (by omega), cellG q1 hb9 (by omega), cellG q2 hb9 (by omega), cellG q3 hb9 (by omega), cellG q4 hb9 (by omega), cellG q5 hb9 (by omega), cellG q6 hb9 (by omega), cellG q7 hb9 (by omega), cellG q8 hb9 (by omega), cellG q9 hb9 (by omega), cellG q10 hb9 (by omega), qB.trans (hb9.mono (by omega)), Nat.lt_of_lt_of_le qS hb9.size⟩
  have hR9 := hRx.keepG hb9 (by omega)
  refine hK.out _ _ hS9 (fun _ => ?_)
  clear hK K hRx hHeld
  clear hb9
  try simp only [Act.put,sA,sB,sC]
  refine wpAnyH_done (by kernel_rfl) ?_ _
  exact hRest _ w9 hC9 hS9 hR9 (by omega)
 go_simp
 (go_at_call 167; (with_reducible refine (part_any x 3 2 _ _ hHeld.1 h0 h1 (by omega) (by omega) (by omega) (by omega) y1).mono ?_); rintro e w8 ⟨rfl, hb⟩)
 replace hRx := hRx.keep hb
 refine hK.out _ _ ?_ (fun hHeld2 => ?_)
 ·(try dsimp only)
  (obtain ⟨q0, q1, q2, q3, q4, q5, q6, q7, q8, q9, q10, qB, qS⟩ := hHeld; exact ⟨cellK q0 hb, cellK q1 hb, cellK q2 hb, cellK q3 hb, cellK q4 hb, cellK q5 hb, cellK q6 hb, cellK q7 hb, cellK q8 hb, cellK q9 hb, cellK q10 hb, qB.trans ((hb).mono (Nat.le_of_lt (Nat.lt_of_succ_lt qS))), Nat.lt_of_lt_of_le qS (hb).size⟩)
 clear hK K hHeld
 have hHeld := hHeld2
 clear hHeld2
 try simp only [Act.put,sA,sB,sC]
 clear hb
 refine twoL 11 20 rfl rfl (by kernel_rfl) (fun K hK => ?_) (fun K hK => ?_)
 rotate_left
 ·go_simp
  have hHeld8 := hHeld
  have hR8 := hRx
  have hBx := Bx.new (B := w.heap.size + 2) _ 109 (hHeld.2.2.2.2.2.2.2.2.2.2.2.2)
  replace hRx := hRx.keep (bZ _ (.cells #[.int .i64 0, .int .i64 0, .int .i64 0, .int .i64 0, .int .u64 0] 109))
  refine hK.out _ _ ?_ (fun hHeld2 => ?_)
  ·(try dsimp only)
   (obtain ⟨q0, q1, q2, q3, q4, q5, q6, q7, q8, q9, q10, qB, qS⟩ := hHeld; exact ⟨cellK q0 (bZ _ _), cellK q1 (bZ _ _), cellK q2 (bZ _ _), cellK q3 (bZ _ _), cellK q4 (bZ _ _), cellK q5 (bZ _ _), cellK q6 (bZ _ _), cellK q7 (bZ _ _), cellK q8 (bZ _ _), cellK q9 (bZ _ _), cellK q10 (bZ _ _), qB.trans (((bZ _ _)).mono (Nat.le_of_lt (Nat.lt_of_succ_lt qS))), Nat.lt_of_lt_of_le qS ((bZ _ _)).size⟩)
  clear hK K hHeld
  have hHeld := hHeld2
  clear hHeld2
  try simp only [Act.put,sA,sB,sC]
  clear hHeld8 hR8
  generalize hgb : w8.heap.size = gb at hBx ⊢
  clear hgb
  refine oneL 11 rfl (by kernel_rfl) (fun K hK => ?_)
  go_simp
  (go_at_call 167; (with_reducible refine (part_any x 5 6 _ _ hHeld.1 h0 h1 (by omega) (by omega) (by omega) (by omega) y2).mono ?_); rintro e w8 ⟨rfl, hb⟩)
  replace hRx := hRx.keep hb
  replace hBx := hBx.keep hb
  refine hK.out _ _ ?_ (fun hHeld2 => ?_)
  ·(try dsimp only)
   (obtain ⟨q0, q1, q2, q3, q4, q5, q6, q7, q8, q9, q10, qB, qS⟩ := hHeld; exact ⟨cellK q0 hb, cellK q1 hb, cellK q2 hb, cellK q3 hb, cellK q4 hb, cellK q5 hb, cellK q6 hb, cellK q7 hb, cellK q8 hb, cellK q9 hb, cellK q10 hb, qB.trans ((hb).mono (Nat.le_of_lt (Nat.lt_of_succ_lt qS))), Nat.lt_of_lt_of_le qS (hb).size⟩)
  clear hK K hHeld
  have hHeld := hHeld2
  clear hHeld2
  try simp only [Act.put,sA,sB,sC]
  clear hb
  refine oneL 15 rfl (by kernel_rfl) (fun K hK => ?_)
  go_simp
  (go_at_call 167; (with_reducible refine (part_any x 11 13 _ _ hHeld.1 h0 h1 (by omega) (by omega) (by omega) (by omega) y3).mono ?_); rintro e w8 ⟨rfl, hb⟩)
  replace hRx := hRx.keep hb
  replace hBx := hBx.keep hb
  refine hK.out _ _ ?_ (fun hHeld2 => ?_)
  ·(try dsimp only)
   (obtain ⟨q0, q1, q2, q3, q4, q5, q6, q7, q8, q9, q10, qB, qS⟩ := hHeld; exact ⟨cellK q0 hb, cellK q1 hb, cellK q2 hb, cellK q3 hb, cellK q4 hb, cellK q5 hb, cellK q6 hb, cellK q7 hb, cellK q8 hb, cellK q9 hb, cellK q10 hb, qB.trans ((hb).mono (Nat.le_of_lt (Nat.lt_of_succ_lt qS))), Nat.lt_of_lt_of_le qS (hb).size⟩)
  clear hK K hHeld
  have hHeld := hHeld2
  clear hHeld2
  try simp only [Act.put,sA,sB,sC]
  clear hb
  refine oneL 18 rfl (by kernel_rfl) (fun K hK => ?_)
  go_simp
  (go_at_call 168; (with_reducible refine (pin_any x 24 8 _ h0 h1 (by omega) (by omega) (by omega) (by omega)).mono ?_); rintro e w8 ⟨rfl, hb⟩)
  replace hRx := hRx.keep hb
  replace hBx := hBx.keep hb
  refine hK.out _ _ ?_ (fun hHeld2 => ?_)
  ·(try dsimp only)
   (obtain ⟨q0, q1, q2, q3, q4, q5, q6, q7, q8, q9, q10, qB, qS⟩ := hHeld; exact ⟨cellK q0 hb, cellK q1 hb, cellK q2 hb, cellK q3 hb, cellK q4 hb, cellK q5 hb, cellK q6 hb, cellK q7 hb, cellK q8 hb, cellK q9 hb, cellK q10 hb, qB.trans ((hb).mono (Nat.le_of_lt (Nat.lt_of_succ_lt qS))), Nat.lt_of_lt_of_le qS (hb).size⟩)
  clear hK K hHeld
  have hHeld := hHeld2
  clear hHeld2
  try simp only [Act.put,sA,sB,sC]
  clear hb
  refine takeQ 19 ?_
  refine oneL 21 rfl (by kernel_rfl) (fun K hK => ?_)
  have hz := hBx.sz
  obtain ⟨⟨b0, b1, b2, b3, b4⟩, ⟨n0, n1, n2, n3, n4⟩, hlow⟩ := id hBx
  go_simp
  clear b0 b1 b2 b3 b4
  obtain ⟨w9, hw9, hC9, hb9⟩ := st5_ex hBx (getI x 0 3) (getI x 3 2) (getI x 5 6) (getI x 11 13) (getI x 24 8)
  rw [← hw9]
  clear hw9 hBx hz
  have hS9 : (fun w' => w'.cell? ⟨w.heap.size, 0, none⟩ = some (.int .u64 x) ∧ w'.cell? ⟨0, 0, none⟩ = some (.int .i64 0) ∧ w'.cell? ⟨0, 1, none⟩ = some (.int .i64 3) ∧ w'.cell? ⟨1, 0, none⟩ = some (.int .i64 3) ∧ w'.cell? ⟨1, 1, none⟩ = some (.int .i64 2) ∧ w'.cell? ⟨2, 0, none⟩ = some (.int .i64 5) ∧ w'.cell? ⟨2, 1, none⟩ = some (.int .i64 6) ∧ w'.cell? ⟨3, 0, none⟩ = some (.int .i64 11) ∧ w'.cell? ⟨3, 1, none⟩ = some (.int .i64 13) ∧ w'.cell? ⟨4, 0, none⟩ = some (.int .i64 24) ∧ w'.cell? ⟨4, 1, none⟩ = some (.int .i64 8) ∧ Below w.heap.size w w' ∧ w.heap.size + 1 < w'.heap.size) w9 := by
   obtain ⟨q0, q1, q2, q3, q4, q5, q6, q7, q8, q9, q10, qB, qS⟩ := hHeld
   exact ⟨cellG q0 hb9 (by omega), cellG q1 hb9 (by omega), cellG q2 hb9 (by omega), cellG q3 hb9 (by omega), cellG q4 hb9 (by omega), cellG q5 hb9 (by omega), cellG q6 hb9 (by omega), cellG q7 hb9 (by omega), cellG q8 hb9 (by omega), cellG q9 hb9 (by omega), cellG q10 hb9 (by omega), qB.trans (hb9.mono (by omega)), Nat.lt_of_lt_of_le qS hb9.size⟩
  have hR9 := hRx.keepG hb9 (by omega)
  refine hK.out _ _ hS9 (fun _ => ?_)
  clear hK K hRx hHeld
  clear hb9
  try simp only [Act.put,sA,sB,sC]
  refine wpAnyH_done (by kernel_rfl) ?_ _
  exact hRest _ w9 hC9 hS9 hR9 (by omega)
 go_simp
 (go_at_call 167; (with_reducible refine (part_any x 5 6 _ _ hHeld.1 h0 h1 (by omega) (by omega) (by omega) (by omega) y2).mono ?_); rintro e w8 ⟨rfl, hb⟩)
 replace hRx := hRx.keep hb
 refine hK.out _ _ ?_ (fun hHeld2 => ?_)
 ·(try dsimp only)
  (obtain ⟨q0, q1, q2, q3, q4, q5, q6, q7, q8, q9, q10, qB, qS⟩ := hHeld; exact ⟨cellK q0 hb, cellK q1 hb, cellK q2 hb, cellK q3 hb, cellK q4 hb, cellK q5 hb, cellK q6 hb, cellK q7 hb, cellK q8 hb, cellK q9 hb, cellK q10 hb, qB.trans ((hb).mono (Nat.le_of_lt (Nat.lt_of_succ_lt qS))), Nat.lt_of_lt_of_le qS (hb).size⟩)
 clear hK K hHeld
 have hHeld := hHeld2
 clear hHeld2
 try simp only [Act.put,sA,sB,sC]
 clear hb
 refine twoL 15 20 rfl rfl (by kernel_rfl) (fun K hK => ?_) (fun K hK => ?_)
 rotate_left
 ·go_simp
  have hHeld8 := hHeld
  have hR8 := hRx
  have hBx := Bx.new (B := w.heap.size + 2) _ 109 (hHeld.2.2.2.2.2.2.2.2.2.2.2.2)
  replace hRx := hRx.keep (bZ _ (.cells #[.int .i64 0, .int .i64 0, .int .i64 0, .int .i64 0, .int .u64 0] 109))
  refine hK.out _ _ ?_ (fun hHeld2 => ?_)
  ·(try dsimp only)
   (obtain ⟨q0, q1, q2, q3, q4, q5, q6, q7, q8, q9, q10, qB, qS⟩ := hHeld; exact ⟨cellK q0 (bZ _ _), cellK q1 (bZ _ _), cellK q2 (bZ _ _), cellK q3 (bZ _ _), cellK q4 (bZ _ _), cellK q5 (bZ _ _), cellK q6 (bZ _ _), cellK q7 (bZ _ _), cellK q8 (bZ _ _), cellK q9 (bZ _ _), cellK q10 (bZ _ _), qB.trans (((bZ _ _)).mono (Nat.le_of_lt (Nat.lt_of_succ_lt qS))), Nat.lt_of_lt_of_le qS ((bZ _ _)).size⟩)
  clear hK K hHeld
  have hHeld := hHeld2
  clear hHeld2
  try simp only [Act.put,sA,sB,sC]
  clear hHeld8 hR8
  generalize hgb : w8.heap.size = gb at hBx ⊢
  clear hgb
  refine oneL 15 rfl (by kernel_rfl) (fun K hK => ?_)
  go_simp
  (go_at_call 167; (with_reducible refine (part_any x 11 13 _ _ hHeld.1 h0 h1 (by omega) (by omega) (by omega) (by omega) y3).mono ?_); rintro e w8 ⟨rfl, hb⟩)
  replace hRx := hRx.keep hb
  replace hBx := hBx.keep hb
  refine hK.out _ _ ?_ (fun hHeld2 => ?_)
  ·(try dsimp only)
   (obtain ⟨q0, q1, q2, q3, q4, q5, q6, q7, q8, q9, q10, qB, qS⟩ := hHeld; exact ⟨cellK q0 hb, cellK q1 hb, cellK q2 hb, cellK q3 hb, cellK q4 hb, cellK q5 hb, cellK q6 hb, cellK q7 hb, cellK q8 hb, cellK q9 hb, cellK q10 hb, qB.trans ((hb).mono (Nat.le_of_lt (Nat.lt_of_succ_lt qS))), Nat.lt_of_lt_of_le qS (hb).size⟩)
  clear hK K hHeld
  have hHeld := hHeld2
  clear hHeld2
  try simp only [Act.put,sA,sB,sC]
  clear hb
  refine oneL 18 rfl (by kernel_rfl) (fun K hK => ?_)
  go_simp
  (go_at_call 168; (with_reducible refine (pin_any x 24 8 _ h0 h1 (by omega) (by omega) (by omega) (by omega)).mono ?_); rintro e w8 ⟨rfl, hb⟩)
  replace hRx := hRx.keep hb
  replace hBx := hBx.keep hb
  refine hK.out _ _ ?_ (fun hHeld2 => ?_)
  ·(try dsimp only)
   (obtain ⟨q0, q1, q2, q3, q4, q5, q6, q7, q8, q9, q10, qB, qS⟩ := hHeld; exact ⟨cellK q0 hb, cellK q1 hb, cellK q2 hb, cellK q3 hb, cellK q4 hb, cellK q5 hb, cellK q6 hb, cellK q7 hb, cellK q8 hb, cellK q9 hb, cellK q10 hb, qB.trans ((hb).mono (Nat.le_of_lt (Nat.lt_of_succ_lt qS))), Nat.lt_of_lt_of_le qS (hb).size⟩)
  clear hK K hHeld
  have hHeld := hHeld2
  clear hHeld2
  try simp only [Act.put,sA,sB,sC]
  clear hb
  refine takeQ 19 ?_
  refine oneL 21 rfl (by kernel_rfl) (fun K hK => ?_)
  have hz := hBx.sz
  obtain ⟨⟨b0, b1, b2, b3, b4⟩, ⟨n0, n1, n2, n3, n4⟩, hlow⟩ := id hBx
  go_simp
  clear b0 b1 b2 b3 b4
  obtain ⟨w9, hw9, hC9, hb9⟩ := st5_ex hBx (getI x 0 3) (getI x 3 2) (getI x 5 6) (getI x 11 13) (getI x 24 8)
  rw [← hw9]
  clear hw9 hBx hz
  have hS9 : (fun w' => w'.cell? ⟨w.heap.size, 0, none⟩ = some (.int .u64 x) ∧ w'.cell? ⟨0, 0, none⟩ = some (.int .i64 0) ∧ w'.cell? ⟨0, 1, none⟩ = some (.int .i64 3) ∧ w'.cell? ⟨1, 0, none⟩ = some (.int .i64 3) ∧ w'.cell? ⟨1, 1, none⟩ = some (.int .i64 2) ∧ w'.cell? ⟨2, 0, none⟩ = some (.int .i64 5) ∧ w'.cell? ⟨2, 1, none⟩ = some (.int .i64 6) ∧ w'.cell? ⟨3, 0, none⟩ = some (.int .i64 11) ∧ w'.cell? ⟨3, 1, none⟩ = some (.int .i64 13) ∧ w'.cell? ⟨4, 0, none⟩ = some (.int .i64 24) ∧ w'.cell? ⟨4, 1, none⟩ = some (.int .i64 8) ∧ Below w.heap.size w w' ∧ w.heap.size + 1 < w'.heap.size) w9 := by
   obtain ⟨q0, q1, q2, q3, q4, q5, q6, q7, q8, q9, q10, qB, qS⟩ := hHeld
   exact ⟨cellG q0 hb9 (by omega), cellG q1 hb9 (by omega), cellG q2 hb9 (by omega), cellG q3 hb9 (by omega), cellG q4 hb9 (by omega), cellG q5 hb9 (by omega), cellG q6 hb9 (by omega), cellG q7 hb9 (by omega), cellG q8 hb9 (by omega), cellG q9 hb9 (by omega), cellG q10 hb9 (by omega), qB.trans (hb9.mono (by omega)), Nat.lt_of_lt_of_le qS hb9.size⟩
  have hR9 := hRx.keepG hb9 (by omega)
  refine hK.out _ _ hS9 (fun _ => ?_)
  clear hK K hRx hHeld
  clear hb9
  try simp only [Act.put,sA,sB,sC]
  refine wpAnyH_done (by kernel_rfl) ?_ _
  exact hRest _ w9 hC9 hS9 hR9 (by omega)
 go_simp
 (go_at_call 167; (with_reducible refine (part_any x 11 13 _ _ hHeld.1 h0 h1 (by omega) (by omega) (by omega) (by omega) y3).mono ?_); rintro e w8 ⟨rfl, hb⟩)
 replace hRx := hRx.keep hb
 refine hK.out _ _ ?_ (fun hHeld2 => ?_)
 ·(try dsimp only)
  (obtain ⟨q0, q1, q2, q3, q4, q5, q6, q7, q8, q9, q10, qB, qS⟩ := hHeld; exact ⟨cellK q0 hb, cellK q1 hb, cellK q2 hb, cellK q3 hb, cellK q4 hb, cellK q5 hb, cellK q6 hb, cellK q7 hb, cellK q8 hb, cellK q9 hb, cellK q10 hb, qB.trans ((hb).mono (Nat.le_of_lt (Nat.lt_of_succ_lt qS))), Nat.lt_of_lt_of_le qS (hb).size⟩)
 clear hK K hHeld
 have hHeld := hHeld2
 clear hHeld2
 try simp only [Act.put,sA,sB,sC]
 clear hb
 refine twoL 18 20 rfl rfl (by kernel_rfl) (fun K hK => ?_) (fun K hK => ?_)
 ·go_simp
  (go_at_call 168; (with_reducible refine (pin_any x 24 8 _ h0 h1 (by omega) (by omega) (by omega) (by omega)).mono ?_); rintro e w8 ⟨rfl, hb⟩)
  replace hRx := hRx.keep hb
  refine hK.out _ _ ?_ (fun hHeld2 => ?_)
  ·(try dsimp only)
   (obtain ⟨q0, q1, q2, q3, q4, q5, q6, q7, q8, q9, q10, qB, qS⟩ := hHeld; exact ⟨cellK q0 hb, cellK q1 hb, cellK q2 hb, cellK q3 hb, cellK q4 hb, cellK q5 hb, cellK q6 hb, cellK q7 hb, cellK q8 hb, cellK q9 hb, cellK q10 hb, qB.trans ((hb).mono (Nat.le_of_lt (Nat.lt_of_succ_lt qS))), Nat.lt_of_lt_of_le qS (hb).size⟩)
  clear hK K hHeld
  have hHeld := hHeld2
  clear hHeld2
  try simp only [Act.put,sA,sB,sC]
  clear hb
  refine takeQ 19 ?_
  refine oneL 20 rfl (by kernel_rfl) (fun K hK => ?_)
  go_simp
  have hHeld8 := hHeld
  have hR8 := hRx
  have hBx := Bx.new (B := w.heap.size + 2) _ 109 (hHeld.2.2.2.2.2.2.2.2.2.2.2.2)
  replace hRx := hRx.keep (bZ _ (.cells #[.int .i64 0, .int .i64 0, .int .i64 0, .int .i64 0, .int .u64 0] 109))
  refine hK.out _ _ ?_ (fun hHeld2 => ?_)
  ·(try dsimp only)
   (obtain ⟨q0, q1, q2, q3, q4, q5, q6, q7, q8, q9, q10, qB, qS⟩ := hHeld; exact ⟨cellK q0 (bZ _ _), cellK q1 (bZ _ _), cellK q2 (bZ _ _), cellK q3 (bZ _ _), cellK q4 (bZ _ _), cellK q5 (bZ _ _), cellK q6 (bZ _ _), cellK q7 (bZ _ _), cellK q8 (bZ _ _), cellK q9 (bZ _ _), cellK q10 (bZ _ _), qB.trans (((bZ _ _)).mono (Nat.le_of_lt (Nat.lt_of_succ_lt qS))), Nat.lt_of_lt_of_le qS ((bZ _ _)).size⟩)
  clear hK K hHeld
  have hHeld := hHeld2
  clear hHeld2
  try simp only [Act.put,sA,sB,sC]
  refine oneL 21 rfl (by kernel_rfl) (fun K hK => ?_)
  have hz := hBx.sz
  obtain ⟨⟨b0, b1, b2, b3, b4⟩, ⟨n0, n1, n2, n3, n4⟩, hlow⟩ := id hBx
  go_simp
  clear b0 b1 b2 b3 b4 hHeld
  have hlow : w.heap.size + 2 ≤ w8.heap.size := hHeld8.2.2.2.2.2.2.2.2.2.2.2.2
  clear hBx hz hRx
  obtain ⟨w9, hw9, hC9, hb9⟩ := al5_ex w8 (getI x 0 3) (getI x 3 2) (getI x 5 6) (getI x 11 13) (getI x 24 8) 109
  rw [← hw9]
  clear hw9
  have hHeld := hHeld8
  have hRx := hR8
  clear hHeld8 hR8
  generalize hgb : w8.heap.size = gb at hC9 hb9 hlow ⊢
  clear hgb
  have hS9 : (fun w' => w'.cell? ⟨w.heap.size, 0, none⟩ = some (.int .u64 x) ∧ w'.cell? ⟨0, 0, none⟩ = some (.int .i64 0) ∧ w'.cell? ⟨0, 1, none⟩ = some (.int .i64 3) ∧ w'.cell? ⟨1, 0, none⟩ = some (.int .i64 3) ∧ w'.cell? ⟨1, 1, none⟩ = some (.int .i64 2) ∧ w'.cell? ⟨2, 0, none⟩ = some (.int .i64 5) ∧ w'.cell? ⟨2, 1, none⟩ = some (.int .i64 6) ∧ w'.cell? ⟨3, 0, none⟩ = some (.int .i64 11) ∧ w'.cell? ⟨3, 1, none⟩ = some (.int .i64 13) ∧ w'.cell? ⟨4, 0, none⟩ = some (.int .i64 24) ∧ w'.cell? ⟨4, 1, none⟩ = some (.int .i64 8) ∧ Below w.heap.size w w' ∧ w.heap.size + 1 < w'.heap.size) w9 := by
   obtain ⟨q0, q1, q2, q3, q4, q5, q6, q7, q8, q9, q10, qB, qS⟩ := hHeld
   exact ⟨cellG q0 hb9 (by omega), cellG q1 hb9 (by omega), cellG q2 hb9 (by omega), cellG q3 hb9 (by omega), cellG q4 hb9 (by omega), cellG q5 hb9 (by omega), cellG q6 hb9 (by omega), cellG q7 hb9 (by omega), cellG q8 hb9 (by omega), cellG q9 hb9 (by omega), cellG q10 hb9 (by omega), qB.trans (hb9.mono (by omega)), Nat.lt_of_lt_of_le qS hb9.size⟩
  have hR9 := hRx.keepG hb9 (by omega)
  refine hK.out _ _ hS9 (fun _ => ?_)
  clear hK K hRx hHeld
  clear hb9
  try simp only [Act.put,sA,sB,sC]
  refine wpAnyH_done (by kernel_rfl) ?_ _
  exact hRest _ w9 hC9 hS9 hR9 (by omega)
 go_simp
 have hHeld8 := hHeld
 have hR8 := hRx
 have hBx := Bx.new (B := w.heap.size + 2) _ 109 (hHeld.2.2.2.2.2.2.2.2.2.2.2.2)
 replace hRx := hRx.keep (bZ _ (.cells #[.int .i64 0, .int .i64 0, .int .i64 0, .int .i64 0, .int .u64 0] 109))
 refine hK.out _ _ ?_ (fun hHeld2 => ?_)
 ·(try dsimp only)
  (obtain ⟨q0, q1, q2, q3, q4, q5, q6, q7, q8, q9, q10, qB, qS⟩ := hHeld; exact ⟨cellK q0 (bZ _ _), cellK q1 (bZ _ _), cellK q2 (bZ _ _), cellK q3 (bZ _ _), cellK q4 (bZ _ _), cellK q5 (bZ _ _), cellK q6 (bZ _ _), cellK q7 (bZ _ _), cellK q8 (bZ _ _), cellK q9 (bZ _ _), cellK q10 (bZ _ _), qB.trans (((bZ _ _)).mono (Nat.le_of_lt (Nat.lt_of_succ_lt qS))), Nat.lt_of_lt_of_le qS ((bZ _ _)).size⟩)
 clear hK K hHeld
 have hHeld := hHeld2
 clear hHeld2
 try simp only [Act.put,sA,sB,sC]
 clear hHeld8 hR8
 generalize hgb : w8.heap.size = gb at hBx ⊢
 clear hgb
 refine oneL 18 rfl (by kernel_rfl) (fun K hK => ?_)
 go_simp
 (go_at_call 168; (with_reducible refine (pin_any x 24 8 _ h0 h1 (by omega) (by omega) (by omega) (by omega)).mono ?_); rintro e w8 ⟨rfl, hb⟩)
 replace hRx := hRx.keep hb
 replace hBx := hBx.keep hb
 refine hK.out _ _ ?_ (fun hHeld2 => ?_)
 ·(try dsimp only)
  (obtain ⟨q0, q1, q2, q3, q4, q5, q6, q7, q8, q9, q10, qB, qS⟩ := hHeld; exact ⟨cellK q0 hb, cellK q1 hb, cellK q2 hb, cellK q3 hb, cellK q4 hb, cellK q5 hb, cellK q6 hb, cellK q7 hb, cellK q8 hb, cellK q9 hb, cellK q10 hb, qB.trans ((hb).mono (Nat.le_of_lt (Nat.lt_of_succ_lt qS))), Nat.lt_of_lt_of_le qS (hb).size⟩)
 clear hK K hHeld
 have hHeld := hHeld2
 clear hHeld2
 try simp only [Act.put,sA,sB,sC]
 clear hb
 refine takeQ 19 ?_
 refine oneL 21 rfl (by kernel_rfl) (fun K hK => ?_)
 have hz := hBx.sz
 obtain ⟨⟨b0, b1, b2, b3, b4⟩, ⟨n0, n1, n2, n3, n4⟩, hlow⟩ := id hBx
 go_simp
 clear b0 b1 b2 b3 b4
 obtain ⟨w9, hw9, hC9, hb9⟩ := st5_ex hBx (getI x 0 3) (getI x 3 2) (getI x 5 6) (getI x 11 13) (getI x 24 8)
 rw [← hw9]
 clear hw9 hBx hz
 have hS9 : (fun w' => w'.cell? ⟨w.heap.size, 0, none⟩ = some (.int .u64 x) ∧ w'.cell? ⟨0, 0, none⟩ = some (.int .i64 0) ∧ w'.cell? ⟨0, 1, none⟩ = some (.int .i64 3) ∧ w'.cell? ⟨1, 0, none⟩ = some (.int .i64 3) ∧ w'.cell? ⟨1, 1, none⟩ = some (.int .i64 2) ∧ w'.cell? ⟨2, 0, none⟩ = some (.int .i64 5) ∧ w'.cell? ⟨2, 1, none⟩ = some (.int .i64 6) ∧ w'.cell? ⟨3, 0, none⟩ = some (.int .i64 11) ∧ w'.cell? ⟨3, 1, none⟩ = some (.int .i64 13) ∧ w'.cell? ⟨4, 0, none⟩ = some (.int .i64 24) ∧ w'.cell? ⟨4, 1, none⟩ = some (.int .i64 8) ∧ Below w.heap.size w w' ∧ w.heap.size + 1 < w'.heap.size) w9 := by
  obtain ⟨q0, q1, q2, q3, q4, q5, q6, q7, q8, q9, q10, qB, qS⟩ := hHeld
  exact ⟨cellG q0 hb9 (by omega), cellG q1 hb9 (by omega), cellG q2 hb9 (by omega), cellG q3 hb9 (by omega), cellG q4 hb9 (by omega), cellG q5 hb9 (by omega), cellG q6 hb9 (by omega), cellG q7 hb9 (by omega), cellG q8 hb9 (by omega), cellG q9 hb9 (by omega), cellG q10 hb9 (by omega), qB.trans (hb9.mono (by omega)), Nat.lt_of_lt_of_le qS hb9.size⟩
 have hR9 := hRx.keepG hb9 (by omega)
 refine hK.out _ _ hS9 (fun _ => ?_)
 clear hK K hRx hHeld
 clear hb9
 try simp only [Act.put,sA,sB,sC]
 refine wpAnyH_done (by kernel_rfl) ?_ _
 exact hRest _ w9 hC9 hS9 hR9 (by omega)
end Go.Proofs.YtkkbngcgphlikaaGreatDoor