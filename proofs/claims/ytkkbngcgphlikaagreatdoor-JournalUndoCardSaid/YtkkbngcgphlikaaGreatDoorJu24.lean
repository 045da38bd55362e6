/-
  Part of the proof of JournalUndo.
-/
import Derived.Test.YtkkbngcgphlikaaGreatDoorJu14
import Derived.Test.YtkkbngcgphlikaaGreatDoorJu19
import Derived.Deep.CutBlock
import Derived.Test.YtkkbngcgphlikaaGreatDoorJu0
set_option maxRecDepth 20000
set_option maxHeartbeats 4000000
set_option linter.unusedVariables false
set_option linter.unusedSimpArgs false
namespace Go.Proofs.YtkkbngcgphlikaaGreatDoor
open Go.RowKit
theorem part_any (x a m : Int) (w : World) (g : Nat) (hx : w.cell? ⟨g, 0, none⟩ = some (.int .u64 x)) (h0 : 0 ≤ x) (h1 : x < 18446744073709551616) (ha : 0 ≤ a) (hm : 1 ≤ m) (h2 : m ≤ 64) (h3 : a ≤ 64 - m) (hv : getI x a m ≤ 9223372036854775807) :
 Calls Tryz.prog 167 #[.func (.func 168) #[.agg #[.int .i64 a, .int .i64 m]] #[], .pointer (some ⟨g, 0, none⟩)] w fun e w' => e = .returned (.int .i64 (getI x a m)) ∧ Below w.heap.size w w' := by
 have hg := getI_bd x a m h0 h1
 go_enter Tryz.func167, Tryz.ntmps167
 go_wp2_with fail
 refine (pin_any x a m _ h0 h1 ha hm h2 h3).mono ?_
 rintro e w1 ⟨rfl, hb⟩
 have hc : IntKind.i64.wrap (getI x a m) = getI x a m := IntWalk.i64_in _ ⟨by omega, hv⟩
 go_wp2_with fail
 go_ret
 exact ⟨by first | rfl | (rw [hc]; done) | (simp [hc]; done), hb⟩
def gK (x : Int) : Int := getI x 0 3
def gC (x : Int) : Int := getI x 3 2
def gM (x : Int) : Int := getI x 11 13
def gB (x : Int) : Int := getI x 24 8
theorem get_small (x a m : Int) : 0 ≤ getI x a m ∧ getI x a m < 2 ^ m.toNat := by
 unfold getI
 have := getN_lt x.toNat a.toNat m.toNat
 refine ⟨Int.natCast_nonneg _, ?_⟩
 rw [pow_cast]
 exact Int.ofNat_lt.2 this
def Bx (B : Nat) (w : World) (g : Nat) : Prop :=
 C5 w g 0 0 0 0 0 ∧ (w.frozen? ⟨g, 0, none⟩ = false ∧ w.frozen? ⟨g, 1, none⟩ = false ∧ w.frozen? ⟨g, 2, none⟩ = false ∧ w.frozen? ⟨g, 3, none⟩ = false ∧ w.frozen? ⟨g, 4, none⟩ = false) ∧ B ≤ g
theorem Bx.new {B : Nat} (w : World) (t : TypeId) (h : B ≤ w.heap.size) : Bx B (w.alloc (.cells #[.int .i64 0, .int .i64 0, .int .i64 0, .int .i64 0, .int .u64 0] t)) w.heap.size := by
 refine ⟨C5.new w 0 0 0 0 0 t, ⟨?_, ?_, ?_, ?_, ?_⟩, h⟩ <;> simp [go_sem]
theorem Bx.sz {B : Nat} {w : World} {g : Nat} (h : Bx B w g) : g < w.heap.size := h.1.lt
theorem Bx.keep {B : Nat} {w w1 : World} {g : Nat} (h : Bx B w g) (hb : Below w.heap.size w w1) : Bx B w1 g := by
 obtain ⟨h5, ⟨z0, z1, z2, z3, z4⟩, hB⟩ := id h
 have hl := h.sz
 refine ⟨h5.keep hb, ⟨?_, ?_, ?_, ?_, ?_⟩, hB⟩ <;> (rw [(bcell hb).2 _ _ hl]; assumption)
theorem cellG {w w1 : World} {b o g : Nat} {v : Value} (h : w.cell? ⟨b, o, none⟩ = some v) (hb : Below g w w1) (hl : b < g) : w1.cell? ⟨b, o, none⟩ = some v := by
 rw [hb.cell (p := ⟨b, o, none⟩) hl]; exact h
theorem Bx.keepG {B : Nat} {w w1 : World} {g g' : Nat} (h : Bx B w g) (hb : Below g' w w1) (hl : g < g') : Bx B w1 g := by
 obtain ⟨⟨h0, h1, h2, h3, h4⟩, ⟨z0, z1, z2, z3, z4⟩, hB⟩ := id h
 have hz (o : Nat) : w1.frozen? ⟨g, o, none⟩ = w.frozen? ⟨g, o, none⟩ := hb.frozen (p := ⟨g, o, none⟩) hl
 refine ⟨⟨cellG h0 hb hl, cellG h1 hb hl, cellG h2 hb hl, cellG h3 hb hl, cellG h4 hb hl⟩, ⟨?_, ?_, ?_, ?_, ?_⟩, hB⟩ <;> (rw [hz]; assumption)
theorem al5_ex (W : World) (k c l m b : Int) (t : TypeId) : ∃ w9, w9 = W.alloc (.cells #[.int .i64 k, .int .i64 c, .int .i64 l, .int .i64 m, .int .u64 b] t) ∧ C5 w9 W.heap.size k c l m b ∧ Below W.heap.size W w9 :=
 ⟨_, rfl, C5.new W k c l m b t, bZ _ _⟩
theorem st5_ex {B : Nat} {W : World} {g : Nat} (h : Bx B W g) (k c l m b : Int) : ∃ w9, w9 = (((((W.setCell ⟨g, 0, none⟩ (.int .i64 k)).setCell ⟨g, 1, none⟩ (.int .i64 c)).setCell ⟨g, 2, none⟩ (.int .i64 l)).setCell ⟨g, 3, none⟩ (.int .i64 m)).setCell ⟨g, 4, none⟩ (.int .u64 b)) ∧ C5 w9 g k c l m b ∧ Below g W w9 := by
 obtain ⟨⟨h0, h1, h2, h3, h4⟩, _, _⟩ := h
 refine ⟨_, rfl, ?_, ((((Below.refl _ _).setCell (by simp) _).setCell (by simp) _).setCell (by simp) _ |>.setCell (by simp) _).setCell (by simp) _⟩
 refine ⟨?_, ?_, ?_, ?_, ?_⟩ <;> simp [go_sem, *]
theorem word_get (x : Int) (h0 : 0 ≤ x) (h1 : x < 18446744073709551616) : wordI (getI x 0 3) (getI x 3 2) (getI x 5 6) (getI x 11 13) (getI x 24 8) = x % 4294967296 := by
 obtain ⟨n, rfl⟩ := Int.eq_ofNat_of_zero_le h0
 unfold wordI getI getN
 simp only [Int.toNat_natCast]
 have a1 : (0 : Int).toNat = 0 := rfl
 have a2 : (3 : Int).toNat = 3 := rfl
 have a3 : (2 : Int).toNat = 2 := rfl
 have a4 : (5 : Int).toNat = 5 := rfl
 have a5 : (6 : Int).toNat = 6 := rfl
 have a6 : (11 : Int).toNat = 11 := rfl
 have a7 : (13 : Int).toNat = 13 := rfl
 have a8 : (24 : Int).toNat = 24 := rfl
 have a9 : (8 : Int).toNat = 8 := rfl
 simp only [a1, a2, a3, a4, a5, a6, a7, a8, a9]
 omega
def decB_ti (x : Int) : Bool := rightB_ti (getI x 0 3) (getI x 3 2) (getI x 5 6) (getI x 11 13) (getI x 24 8) && decide (x < 4294967296)
def decV (x : Int) : Value := if decB_ti x then .agg #[.int .i64 (getI x 0 3), .int .i64 (getI x 3 2), .int .i64 (getI x 5 6), .int .i64 (getI x 11 13), .int .u64 (getI x 24 8)] else .agg #[.int .i64 0, .int .i64 0, .int .i64 0, .int .i64 0, .int .u64 0]
theorem decode_any (x : Int) (w : World) (hw : Lw w) (h0 : 0 ≤ x) (h1 : x < 18446744073709551616)  :
 Calls Tryz.prog 125 #[.int .u64 x] w fun e w' => e = .returned (.tuple #[decV x, .bool (decB_ti x)]) ∧ Below w.heap.size w w' := by
 have y0 : getI x 0 3 ≤ 9223372036854775807 := by have h := (get_small x 0 3).2; rw [show (2 : Int) ^ (3 : Int).toNat = 8 by decide +kernel] at h; omega
 have y1 : getI x 3 2 ≤ 9223372036854775807 := by have h := (get_small x 3 2).2; rw [show (2 : Int) ^ (2 : Int).toNat = 4 by decide +kernel] at h; omega
 have y2 : getI x 5 6 ≤ 9223372036854775807 := by have h := (get_small x 5 6).2; rw [show (2 : Int) ^ (6 : Int).toNat = 64 by decide +kernel] at h; omega
 have y3 : getI x 11 13 ≤ 9223372036854775807 := by have h := (get_small x 11 13).2; rw [show (2 : Int) ^ (13 : Int).toNat = 8192 by decide +kernel] at h; omega
 have hl := hw.2.2.2.2
 obtain ⟨W1, hW1⟩ : ∃ z, (w.alloc (.cells #[.int .u64 x] 40)).alloc (.cells #[.int .i64 0, .int .i64 0, .int .i64 0, .int .i64 0, .int .u64 0] 109) = z := ⟨_, rfl⟩
 have hA : Below w.heap.size w W1 := by rw [← hW1]; exact (bZ _ _).alloc (by simp) _
 have hs1 : W1.heap.size = w.heap.size + 2 := by rw [← hW1]; simp
 have hx1 : W1.cell? ⟨w.heap.size, 0, none⟩ = some (.int .u64 x) := by rw [← hW1]; simp [go_sem]
 have hR1 : Bx w.heap.size W1 (w.heap.size + 1) := by
  have := Bx.new (B := w.heap.size) (w.alloc (.cells #[.int .u64 x] 40)) 109 (by simp)
  rw [hW1] at this
  rwa [show (w.alloc (.cells #[.int .u64 x] 40)).heap.size = w.heap.size + 1 by simp] at this
 have hCF := lh (fun w' (hb : Below W1.heap.size W1 w') => show w'.cell? ⟨w.heap.size, 0, none⟩ = some (.int .u64 x) ∧ w'.cell? ⟨0, 0, none⟩ = some (.int .i64 0) ∧ w'.cell? ⟨0, 1, none⟩ = some (.int .i64 3) ∧ w'.cell? ⟨1, 0, none⟩ = some (.int .i64 3) ∧ w'.cell? ⟨1, 1, none⟩ = some (.int .i64 2) ∧ w'.cell? ⟨2, 0, none⟩ = some (.int .i64 5) ∧ w'.cell? ⟨2, 1, none⟩ = some (.int .i64 6) ∧ w'.cell? ⟨3, 0, none⟩ = some (.int .i64 11) ∧ w'.cell? ⟨3, 1, none⟩ = some (.int .i64 13) ∧ w'.cell? ⟨4, 0, none⟩ = some (.int .i64 24) ∧ w'.cell? ⟨4, 1, none⟩ = some (.int .i64 8) from by
  obtain ⟨⟨p00, p01⟩, ⟨p10, p11⟩, ⟨p20, p21⟩, ⟨p30, p31⟩, ⟨p40, p41⟩⟩ := id hl
  have hA' := hA.trans (hb.mono (by omega))
  exact ⟨cellK hx1 hb, cellK p00 hA', cellK p01 hA', cellK p10 hA', cellK p11 hA', cellK p20 hA', cellK p21 hA', cellK p30 hA', cellK p31 hA', cellK p40 hA', cellK p41 hA'⟩)
 have hP0 := lh (fun w' (hb : Below W1.heap.size W1 w') => part_any x 0 3 w' w.heap.size (hCF.out w' hb).1 h0 h1 (by omega) (by omega) (by omega) (by omega) y0)
 have hP1 := lh (fun w' (hb : Below W1.heap.size W1 w') => part_any x 3 2 w' w.heap.size (hCF.out w' hb).1 h0 h1 (by omega) (by omega) (by omega) (by omega) y1)
 have hP2 := lh (fun w' (hb : Below W1.heap.size W1 w') => part_any x 5 6 w' w.heap.size (hCF.out w' hb).1 h0 h1 (by omega) (by omega) (by omega) (by omega) y2)
 have hP3 := lh (fun w' (hb : Below W1.heap.size W1 w') => part_any x 11 13 w' w.heap.size (hCF.out w' hb).1 h0 h1 (by omega) (by omega) (by omega) (by omega) y3)
 have hP4 := lh (fun w' (hb : Below W1.heap.size W1 w') => pin_any x 24 8 w' h0 h1 (by omega) (by omega) (by omega) (by omega))
 clear hl hx1
 go_enter Tryz.func125, Tryz.ntmps125
 go_upto_region 2 with fail
 try rw [hW1]
 go_cut [5] from 6 to 37 (fun s5 wx => ∃ g, s5 = .pointer (some ⟨g, 0, none⟩) ∧ C5 wx g (getI x 0 3) (getI x 3 2) (getI x 5 6) (getI x 11 13) (getI x 24 8) ∧ W1.heap.size ≤ g ∧ Below W1.heap.size W1 wx)
 case first =>
  clear hW1 hR1 hA hw
  refine wp_region_held_drew (S := (fun w' => Below W1.heap.size W1 w')) (by kernel_rfl) (Below.refl _ _).drew (fun hHeld => ?_)
  refine takeH 0 ?_
  refine takeH 1 ?_
  refine takeH 2 ?_
  refine takeH 4 ?_
  refine takeH 5 ?_
  refine takeH 6 ?_
  refine takeH 8 ?_
  refine takeH 9 ?_
  refine takeH 10 ?_
  refine takeH 12 ?_
  refine takeH 13 ?_
  refine takeH 14 ?_
  refine takeH 16 ?_
  refine takeH 17 ?_
  have hHeld0 := hHeld
  refine twoC 3 20 (.cells #[.int .i64 0, .int .i64 0, .int .i64 0, .int .i64 0, .int .u64 0] 109) hP0.out hHeld (fun w8 hb hHeld => ?_) (fun hHeld => ?_)
  rotate_left
  ·have hBx := Bx.new (B := W1.heap.size) (W1.drew) 109 hHeld0.size
   obtain ⟨wn, hwn⟩ : ∃ z, (W1.drew).alloc (.cells #[.int .i64 0, .int .i64 0, .int .i64 0, .int .i64 0, .int .u64 0] 109) = z := ⟨_, rfl⟩
   rw [hwn] at hBx hHeld ⊢
   clear hwn hHeld0
   generalize (W1.drew).heap.size = gb at hBx ⊢
   refine callC 3 hP0.out hHeld (fun w8 hb hHeld => ?_)
   replace hBx := hBx.keep hb
   refine callC 7 hP1.out hHeld (fun w8 hb hHeld => ?_)
   replace hBx := hBx.keep hb
   refine callC 11 hP2.out hHeld (fun w8 hb hHeld => ?_)
   replace hBx := hBx.keep hb
   refine callC 15 hP3.out hHeld (fun w8 hb hHeld => ?_)
   replace hBx := hBx.keep hb
   refine callC 18 hP4.out hHeld (fun w8 hb hHeld => ?_)
   replace hBx := hBx.keep hb
   refine takeH 19 ?_
   refine oneL 21 rfl (by kernel_rfl) (fun K hK => ?_)
   obtain ⟨⟨b0, b1, b2, b3, b4⟩, ⟨n0, n1, n2, n3, n4⟩, hlow⟩ := id hBx
   go_simp
   obtain ⟨w9, hw9, hC9, hb9⟩ := st5_ex hBx (getI x 0 3) (getI x 3 2) (getI x 5 6) (getI x 11 13) (getI x 24 8)
   rw [← hw9]
   refine hK.out _ _ (hHeld.trans (hb9.mono hlow)) (fun hHeld2 => ?_)
   clear hK K hw9 b0 b1 b2 b3 b4
   try simp only [Act.put,sA,sB,sC]
   refine wpAnyH_done (by kernel_rfl) ?_ _
   go_wp2_with fail
   go_meet
   exact ⟨_, rfl, hC9, hlow, hHeld2⟩
  clear hb hHeld0
  have hHeld0 := hHeld
  refine twoC 7 20 (.cells #[.int .i64 0, .int .i64 0, .int .i64 0, .int .i64 0, .int .u64 0] 109) hP1.out hHeld (fun w8 hb hHeld => ?_) (fun hHeld => ?_)
  rotate_left
  ·have hBx := Bx.new (B := W1.heap.size) (w8) 109 hHeld0.size
   obtain ⟨wn, hwn⟩ : ∃ z, (w8).alloc (.cells #[.int .i64 0, .int .i64 0, .int .i64 0, .int .i64 0, .int .u64 0] 109) = z := ⟨_, rfl⟩
   rw [hwn] at hBx hHeld ⊢
   clear hwn hHeld0
   generalize (w8).heap.size = gb at hBx ⊢
   refine callC 7 hP1.out hHeld (fun w8 hb hHeld => ?_)
   replace hBx := hBx.keep hb
   refine callC 11 hP2.out hHeld (fun w8 hb hHeld => ?_)
   replace hBx := hBx.keep hb
   refine callC 15 hP3.out hHeld (fun w8 hb hHeld => ?_)
   replace hBx := hBx.keep hb
   refine callC 18 hP4.out hHeld (fun w8 hb hHeld => ?_)
   replace hBx := hBx.keep hb
   refine takeH 19 ?_
   refine oneL 21 rfl (by kernel_rfl) (fun K hK => ?_)
   obtain ⟨⟨b0, b1, b2, b3, b4⟩, ⟨n0, n1, n2, n3, n4⟩, hlow⟩ := id hBx
   go_simp
   obtain ⟨w9, hw9, hC9, hb9⟩ := st5_ex hBx (getI x 0 3) (getI x 3 2) (getI x 5 6) (getI x 11 13) (getI x 24 8)
   rw [← hw9]
   refine hK.out _ _ (hHeld.trans (hb9.mono hlow)) (fun hHeld2 => ?_)
   clear hK K hw9 b0 b1 b2 b3 b4
   try simp only [Act.put,sA,sB,sC]
   refine wpAnyH_done (by kernel_rfl) ?_ _
   go_wp2_with fail
   go_meet
   exact ⟨_, rfl, hC9, hlow, hHeld2⟩
  clear hb hHeld0
  have hHeld0 := hHeld
  refine twoC 11 20 (.cells #[.int .i64 0, .int .i64 0, .int .i64 0, .int .i64 0, .int .u64 0] 109) hP2.out hHeld (fun w8 hb hHeld => ?_) (fun hHeld => ?_)
  rotate_left
  ·have hBx := Bx.new (B := W1.heap.size) (w8) 109 hHeld0.size
   obtain ⟨wn, hwn⟩ : ∃ z, (w8).alloc (.cells #[.int .i64 0, .int .i64 0, .int .i64 0, .int .i64 0, .int .u64 0] 109) = z := ⟨_, rfl⟩
   rw [hwn] at hBx hHeld ⊢
   clear hwn hHeld0
   generalize (w8).heap.size = gb at hBx ⊢
   refine callC 11 hP2.out hHeld (fun w8 hb hHeld => ?_)
   replace hBx := hBx.keep hb
   refine callC 15 hP3.out hHeld (fun w8 hb hHeld => ?_)
   replace hBx := hBx.keep hb
   refine callC 18 hP4.out hHeld (fun w8 hb hHeld => ?_)
   replace hBx := hBx.keep hb
   refine takeH 19 ?_
   refine oneL 21 rfl (by kernel_rfl) (fun K hK => ?_)
   obtain ⟨⟨b0, b1, b2, b3, b4⟩, ⟨n0, n1, n2, n3, n4⟩, hlow⟩ := id hBx
   go_simp
   obtain ⟨w9, hw9, hC9, hb9⟩ := st5_ex hBx (getI x 0 3) (getI x 3 2) (getI x 5 6) (getI x 11 13) (getI x 24 8)
   rw [← hw9]
   refine hK.out _ _ (hHeld.trans (hb9.mono hlow)) (fun hHeld2 => ?_)
   clear hK K hw9 b0 b1 b2 b3 b4
   try simp only [Act.put,sA,sB,sC]
   refine wpAnyH_done (by kernel_rfl) ?_ _
   go_wp2_with fail
   go_meet
   exact ⟨_, rfl, hC9, hlow, hHeld2⟩
  clear hb hHeld0
  have hHeld0 := hHeld
  refine twoC 15 20 (.cells #[.int .i64 0, .int .i64 0, .int .i64 0, .int .i64 0, .int .u64 0] 109) hP3.out hHeld (fun w8 hb hHeld => ?_) (fun hHeld => ?_)
  rotate_left
  ·have hBx := Bx.new (B := W1.heap.size) (w8) 109 hHeld0.size
   obtain ⟨wn, hwn⟩ : ∃ z, (w8).alloc (.cells #[.int .i64 0, .int .i64 0, .int .i64 0, .int .i64 0, .int .u64 0] 109) = z := ⟨_, rfl⟩
   rw [hwn] at hBx hHeld ⊢
   clear hwn hHeld0
   generalize (w8).heap.size = gb at hBx ⊢
   refine callC 15 hP3.out hHeld (fun w8 hb hHeld => ?_)
   replace hBx := hBx.keep hb
   refine callC 18 hP4.out hHeld (fun w8 hb hHeld => ?_)
   replace hBx := hBx.keep hb
   refine takeH 19 ?_
   refine oneL 21 rfl (by kernel_rfl) (fun K hK => ?_)
   obtain ⟨⟨b0, b1, b2, b3, b4⟩, ⟨n0, n1, n2, n3, n4⟩, hlow⟩ := id hBx
   go_simp
   obtain ⟨w9, hw9, hC9, hb9⟩ := st5_ex hBx (getI x 0 3) (getI x 3 2) (getI x 5 6) (getI x 11 13) (getI x 24 8)
   rw [← hw9]
   refine hK.out _ _ (hHeld.trans (hb9.mono hlow)) (fun hHeld2 => ?_)
   clear hK K hw9 b0 b1 b2 b3 b4
   try simp only [Act.put,sA,sB,sC]
   refine wpAnyH_done (by kernel_rfl) ?_ _
   go_wp2_with fail
   go_meet
   exact ⟨_, rfl, hC9, hlow, hHeld2⟩
  clear hb hHeld0
  have hHeld0 := hHeld
  refine twoC 18 20 (.cells #[.int .i64 0, .int .i64 0, .int .i64 0, .int .i64 0, .int .u64 0] 109) hP4.out hHeld (fun w8 hb hHeld => ?_) (fun hHeld => ?_)
  ·clear hb hHeld0
   refine takeH 19 ?_
   have hHeld0 := hHeld
   refine allocC 20 (.cells #[.int .i64 0, .int .i64 0, .int .i64 0, .int .i64 0, .int .u64 0] 109) hHeld (fun hHeld => ?_)
   have hBx := Bx.new (B := W1.heap.size) (w8) 109 hHeld0.size
   obtain ⟨wn, hwn⟩ : ∃ z, (w8).alloc (.cells #[.int .i64 0, .int .i64 0, .int .i64 0, .int .i64 0, .int .u64 0] 109) = z := ⟨_, rfl⟩
   rw [hwn] at hBx hHeld ⊢
   clear hwn hHeld0
   generalize (w8).heap.size = gb at hBx ⊢
   refine oneL 21 rfl (by kernel_rfl) (fun K hK => ?_)
   obtain ⟨⟨b0, b1, b2, b3, b4⟩, ⟨n0, n1, n2, n3, n4⟩, hlow⟩ := id hBx
   go_simp
   obtain ⟨w9, hw9, hC9, hb9⟩ := st5_ex hBx (getI x 0 3) (getI x 3 2) (getI x 5 6) (getI x 11 13) (getI x 24 8)
   rw [← hw9]
   refine hK.out _ _ (hHeld.trans (hb9.mono hlow)) (fun hHeld2 => ?_)
   clear hK K hw9 b0 b1 b2 b3 b4
   try simp only [Act.put,sA,sB,sC]
   refine wpAnyH_done (by kernel_rfl) ?_ _
   go_wp2_with fail
   go_meet
   exact ⟨_, rfl, hC9, hlow, hHeld2⟩
  have hBx := Bx.new (B := W1.heap.size) (w8) 109 hHeld0.size
  obtain ⟨wn, hwn⟩ : ∃ z, (w8).alloc (.cells #[.int .i64 0, .int .i64 0, .int .i64 0, .int .i64 0, .int .u64 0] 109) = z := ⟨_, rfl⟩
  rw [hwn] at hBx hHeld ⊢
  clear hwn hHeld0
  generalize (w8).heap.size = gb at hBx ⊢
  refine callC 18 hP4.out hHeld (fun w8 hb hHeld => ?_)
  replace hBx := hBx.keep hb
  refine takeH 19 ?_
  refine oneL 21 rfl (by kernel_rfl) (fun K hK => ?_)
  obtain ⟨⟨b0, b1, b2, b3, b4⟩, ⟨n0, n1, n2, n3, n4⟩, hlow⟩ := id hBx
  go_simp
  obtain ⟨w9, hw9, hC9, hb9⟩ := st5_ex hBx (getI x 0 3) (getI x 3 2) (getI x 5 6) (getI x 11 13) (getI x 24 8)
  rw [← hw9]
  refine hK.out _ _ (hHeld.trans (hb9.mono hlow)) (fun hHeld2 => ?_)
  clear hK K hw9 b0 b1 b2 b3 b4
  try simp only [Act.put,sA,sB,sC]
  refine wpAnyH_done (by kernel_rfl) ?_ _
  go_wp2_with fail
  go_meet
  exact ⟨_, rfl, hC9, hlow, hHeld2⟩
 clear hP0 hP1 hP2 hP3 hP4 hW1
 obtain ⟨g, rfl, hC, hg, hB1⟩ := hcut
 obtain ⟨w2, rfl⟩ : ∃ z, z = wc := ⟨_, rfl⟩
 have hB2 := hA.trans (hB1.mono (by omega))
 have hL2 := hw.keep hB2
 have hR2 := hR1.keep hB1
 have hx2 := (hCF.out _ hB1).1
 clear hCF hB1 hR1 hA hw
 have hCF := lh (fun w' (hb : Below w2.heap.size w2 w') => show w'.cell? ⟨w.heap.size, 0, none⟩ = some (.int .u64 x) ∧ w'.cell? ⟨g, 0, none⟩ = some (.int .i64 (getI x 0 3)) ∧ w'.cell? ⟨g, 1, none⟩ = some (.int .i64 (getI x 3 2)) ∧ w'.cell? ⟨g, 2, none⟩ = some (.int .i64 (getI x 5 6)) ∧ w'.cell? ⟨g, 3, none⟩ = some (.int .i64 (getI x 11 13)) ∧ w'.cell? ⟨g, 4, none⟩ = some (.int .u64 (getI x 24 8)) from ⟨cellK hx2 hb, hC.keep hb⟩)
 have hk := fun a m => get_small x a m
 have hRt := lh (fun w' (hb : Below w2.heap.size w2 w') => right_any_ti (getI x 0 3) (getI x 3 2) (getI x 5 6) (getI x 11 13) (getI x 24 8) w' (hL2.keep hb).2.2.1 (hL2.keep hb).2.2.2.1 (hk 24 8).1)
 have hWd := lh (fun w' (hb : Below w2.heap.size w2 w') => word_any (getI x 0 3) (getI x 3 2) (getI x 5 6) (getI x 11 13) (getI x 24 8) w' (hL2.keep hb).2.2.2.2 (hk 0 3).1 (by have h := (hk 0 3).2; rw [show (2 : Int) ^ (3 : Int).toNat = 8 by decide +kernel] at h; exact h) (hk 3 2).1 (by have h := (hk 3 2).2; rw [show (2 : Int) ^ (2 : Int).toNat = 4 by decide +kernel] at h; exact h) (hk 5 6).1 (by have h := (hk 5 6).2; rw [show (2 : Int) ^ (6 : Int).toNat = 64 by decide +kernel] at h; exact h) (hk 11 13).1 (by have h := (hk 11 13).2; rw [show (2 : Int) ^ (13 : Int).toNat = 8192 by decide +kernel] at h; exact h) (hk 24 8).1 (by have h := (hk 24 8).2; rw [show (2 : Int) ^ (8 : Int).toNat = 256 by decide +kernel] at h; exact h))
 rw [word_get x h0 h1] at hWd
 obtain ⟨rb, hrb⟩ : ∃ b, rightB_ti (getI x 0 3) (getI x 3 2) (getI x 5 6) (getI x 11 13) (getI x 24 8) = b := ⟨_, rfl⟩
 rw [hrb] at hRt
 clear hk hL2 hx2
 go_upto_region 3 with fail
 go_cut [35] from 6 to 37 (fun s35 wx => s35 = .bool (!decB_ti x) ∧ Below w2.heap.size w2 wx)
 case first =>
  cases rb with
  | false =>
    have hv : decB_ti x = false := by unfold decB_ti; rw [hrb]; rfl
    replace hv := lh hv
    go_wp2_with fail
    refine wp_region_held_drew (S := (fun w' => Below w2.heap.size w2 w')) (by kernel_rfl) (Below.refl _ _).drew (fun hHeld => ?_)
    refine takeH 0 ?_
    refine callC 1 hRt.out hHeld (fun w8 hb hHeld => ?_)
    refine takeH 2 ?_
    refine takeH 3 ?_
    refine idleQ 4 ?_
    refine idleQ 5 ?_
    refine idleQ 6 ?_
    refine idleQ 7 ?_
    refine takeH 8 ?_
    refine wpAnyH_done (by kernel_rfl) ?_ _
    go_wp2_with fail
    go_meet
    exact ⟨by rw [hv.out]; rfl, hHeld⟩
  | true =>
    have hv : decB_ti x = decide (x < 4294967296) := by unfold decB_ti; rw [hrb]; rfl
    have he : (x % 4294967296 != x) = !decide (x < 4294967296) := by
     by_cases h : x < 4294967296
     ·rw [decide_eq_true h, show x % 4294967296 = x from by omega]; simp
     rw [decide_eq_false h, bne_iff_ne.2 (show x % 4294967296 ≠ x from by omega)]; rfl
    have he2 := lh (show (!decB_ti x) = (x % 4294967296 != x) from by rw [hv, he])
    clear he hv
    go_wp2_with fail
    refine wp_region_held_drew (S := (fun w' => Below w2.heap.size w2 w')) (by kernel_rfl) (Below.refl _ _).drew (fun hHeld => ?_)
    refine takeH 0 ?_
    refine callC 1 hRt.out hHeld (fun w8 hb hHeld => ?_)
    refine takeH 2 ?_
    refine takeH 3 ?_
    refine takeH 4 ?_
    refine takeH 6 ?_
    refine callC 5 hWd.out hHeld (fun w8 hb hHeld => ?_)
    refine takeH 7 ?_
    refine takeH 8 ?_
    refine wpAnyH_done (by kernel_rfl) ?_ _
    go_wp2_with fail
    go_meet
    exact ⟨by rw [he2.out], hHeld⟩
 obtain ⟨rfl, hB3'⟩ := hcut
 have hB3 := hB2.trans (hB3'.mono hB2.size)
 have hR3 := hR2.keep hB3'
 obtain ⟨q0, q1, q2, q3, q4⟩ := (hCF.out _ hB3').2
 clear hB2 hR2 hB3' hCF hRt hWd hC hrb
 cases hv : decB_ti x with
 | true =>
   have hV : decV x = .agg #[.int .i64 (getI x 0 3), .int .i64 (getI x 3 2), .int .i64 (getI x 5 6), .int .i64 (getI x 11 13), .int .u64 (getI x 24 8)] := by unfold decV; rw [if_pos hv]
   obtain ⟨⟨r0, r1, r2, r3, r4⟩, ⟨m0, m1, m2, m3, m4⟩, _⟩ := id hR3
   go_wp2_with fail
   (try simp only [Exit.inBlock, Exit.then])
   obtain ⟨w7, hw7, hC7, hb7⟩ := st5_ex hR3 (getI x 0 3) (getI x 3 2) (getI x 5 6) (getI x 11 13) (getI x 24 8)
   rw [← hw7]
   obtain ⟨t0, t1, t2, t3, t4⟩ := hC7
   refine bodyPost_ret (v := .tuple #[decV x, .bool (decB_ti x)]) ?_ rfl ⟨rfl, hB3.trans (hb7.mono (by omega))⟩
   rw [results_cell_tmp rfl, hV, hv]
   clear hw7 hb7 hR3 q0 q1 q2 q3 q4 r0 r1 r2 r3 r4 m0 m1 m2 m3 m4
   go_simp
 | false =>
   have hV : decV x = .agg #[.int .i64 0, .int .i64 0, .int .i64 0, .int .i64 0, .int .u64 0] := by unfold decV; rw [if_neg (by simp [hv])]
   obtain ⟨⟨r0, r1, r2, r3, r4⟩, ⟨m0, m1, m2, m3, m4⟩, _⟩ := id hR3
   go_wp2_with fail
   (try simp only [Exit.inBlock, Exit.then])
   obtain ⟨w7, hw7, hC7, hb7⟩ := st5_ex hR3 0 0 0 0 0
   rw [← hw7]
   obtain ⟨t0, t1, t2, t3, t4⟩ := hC7
   refine bodyPost_ret (v := .tuple #[decV x, .bool (decB_ti x)]) ?_ rfl ⟨rfl, hB3.trans (hb7.mono (by omega))⟩
   rw [results_cell_tmp rfl, hV, hv]
   clear hw7 hb7 hR3 q0 q1 q2 q3 q4 r0 r1 r2 r3 r4 m0 m1 m2 m3 m4
   go_simp
end Go.Proofs.YtkkbngcgphlikaaGreatDoor