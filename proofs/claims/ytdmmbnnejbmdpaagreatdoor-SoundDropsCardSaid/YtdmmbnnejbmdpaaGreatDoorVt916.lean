/-
  Part of the proof of SoundApart,SoundTwins,SoundWords.
-/
import Derived.Test.YtdmmbnnejbmdpaaGreatDoorVt91
import Derived.Test.YtdmmbnnejbmdpaaGreatDoorRows
import Derived.WalkLawsBesides
import Derived.WalkSpells
import Derived.Test.YtdmmbnnejbmdpaaGreatDoorVt90
set_option maxRecDepth 10000
set_option maxHeartbeats 4000000
set_option linter.unusedVariables false
set_option linter.unusedSimpArgs false
section
namespace Go.Proofs.YtdmmbnnejbmdpaaGreatDoor
open Go.RowKit
def Deb (w : World) : Prop := ∀ i, i < 64 → w.cell? ⟨6, i, none⟩ = some (.int .u8 (debTab.getD i 0))
theorem Deb.keep {W w1 : World} {n : Nat} (h : Deb W) (hb : Below n W w1) (hn : 6 < n) : Deb w1 := fun i hi => by
 rw [hb.cell (p := ⟨6, i, none⟩) hn]; exact h i hi
theorem tz_idx (x a : Nat) (hx : x < 18446744073709551616) (hx0 : x ≠ 0) (hlow : x &&& (2 ^ 64 - x) = a) :
 IntKind.u64.wrap (bits BinOp.and IntKind.u64 (x : Int) (IntKind.u64.wrap (-(x : Int))) * 285870213051353865) / 288230376151711744 = ((a * 285870213051353865 % 18446744073709551616 / 288230376151711744 : Nat) : Int) := by
 have e1 : IntKind.u64.wrap (-(x : Int)) = ((2 ^ 64 - x : Nat) : Int) := by rw [IntKind.wrap_u64]; omega
 rw [e1, u64_and_nat x _ hx (by omega), hlow, IntKind.wrap_u64]
 omega
theorem tz_walk (x k idx : Nat) (w : World) (hx0 : ((x : Int) == 0) = false)
 (key : IntKind.u64.wrap (bits BinOp.and IntKind.u64 (x : Int) (IntKind.u64.wrap (-(x : Int))) * 285870213051353865) / 288230376151711744 = (idx : Int))
 (hi : idx < 64) (hk : k < 64) (hcell : w.cell? ⟨6, idx, none⟩ = some (.int .u8 k)) :
 Calls Tryz.prog 139 #[.int .u64 x] w fun e w' => e = .returned (.int .i64 k) ∧ w = w' := by
 go_enter Tryz.func139, Tryz.ntmps139
 go_wp2_with (simp only [key])
 go_ret
 exact ⟨rfl, rfl⟩
theorem tz_any (t m : Nat) (w : World) (h : 2 ^ t * (2 * m + 1) < 2 ^ 64) (hd : Deb w) :
 Calls Tryz.prog 139 #[.int .u64 (((2 ^ t * (2 * m + 1) : Nat) : Int))] w fun e w' => e = .returned (.int .i64 t) ∧ w = w' := by
 have ht := tz_lt t m h
 have hp := Nat.pow_pos (n := t) (a := 2) (by omega)
 have h0 : 0 < 2 ^ t * (2 * m + 1) := Nat.mul_pos hp (by omega)
 have hlt : 2 ^ t * 285870213051353865 % 18446744073709551616 / 288230376151711744 < 64 := Nat.div_lt_of_lt_mul (Nat.lt_of_lt_of_le (Nat.mod_lt _ (by decide)) (by decide))
 have hc := hd _ hlt
 rw [show debTab.getD (2 ^ t * 285870213051353865 % 18446744073709551616 / 288230376151711744) 0 = t from deb_all ⟨t, ht⟩] at hc
 have hna := neg_and t m h
 generalize 2 ^ t * (2 * m + 1) = x at *
 exact tz_walk x t _ w (by simp; omega) (tz_idx x (2 ^ t) (by omega) (by omega) hna) hlt ht hc
end Go.Proofs.YtdmmbnnejbmdpaaGreatDoor
end
section
namespace Go.Proofs.YtdmmbnnejbmdpaaGreatDoor
open Go.RowKit
def CC (w : World) (b : Nat) (x y : Int) : Prop := w.cell? ⟨b, 0, none⟩ = some (.int .i64 x) ∧ w.cell? ⟨b, 1, none⟩ = some (.int .i64 y)
theorem CC.lt {w : World} {b : Nat} {x y : Int} (h : CC w b x y) : b < w.heap.size := World.block_lt_of_cell? w _ h.1
theorem CC.keep {W w1 : World} {b : Nat} {x y : Int} (h : CC W b x y) (hb : Below W.heap.size W w1) : CC w1 b x y :=
 ⟨by rw [(bcell hb).1 _ _ h.lt]; exact h.1, by rw [(bcell hb).1 _ _ h.lt]; exact h.2⟩
def Pl (w : World) : Prop :=
 CC w 0 0 3 ∧ CC w 1 3 2 ∧ CC w 2 5 6 ∧ CC w 3 11 13 ∧ CC w 4 24 8
theorem Pl.keep {W w1 : World} (h : Pl W) (hb : Below W.heap.size W w1) : Pl w1 :=
 ⟨h.1.keep hb, h.2.1.keep hb, h.2.2.1.keep hb, h.2.2.2.1.keep hb, h.2.2.2.2.keep hb⟩
theorem or_add (k : Nat) (y x : Nat) (hy : y < 2 ^ k) (h : y + 2 ^ k * x < 18446744073709551616) : bits .or .u64 (y : Int) ((2 ^ k * x : Nat) : Int) = ((y + 2 ^ k * x : Nat) : Int) := by
 rw [u64_or_nat y (2 ^ k * x) (by omega) (by omega)]
 congr 1
 rw [Nat.or_comm, ← Nat.two_pow_add_eq_or_of_lt hy, Nat.add_comm]
theorem putI_zero (a m v : Nat) (hv : v < 2 ^ m) : putI 0 a m v = ((2 ^ a * v : Nat) : Int) := by
 unfold putI putN
 simp only [Int.toNat_natCast, Int.toNat_zero, Nat.zero_mod, Nat.zero_div, Nat.zero_mul, Nat.zero_add, Nat.add_zero, Nat.mod_eq_of_lt hv, Nat.mul_comm]
theorem pin_any (x : Int) (a m : Int) (w : World) (h0 : 0 ≤ x) (h1 : x < 18446744073709551616) (ha : 0 ≤ a) (hm : 1 ≤ m) (h2 : m ≤ 64) (h3 : a ≤ 64 - m) :
 Calls Tryz.prog 123 #[.agg #[.int .i64 a, .int .i64 m], .int .u64 x] w fun e w' => e = .returned (.int .u64 (getI x a m)) ∧ Below w.heap.size w w' := by
 go_enter Tryz.func123, Tryz.ntmps123
 go_wp2_with fail
 refine (get_yes x a m _ h0 h1 ha hm h2 h3).mono ?_
 rintro e w' ⟨rfl, rfl⟩
 go_wp2_with fail
 go_ret
 exact ⟨rfl, bZ _ _⟩
theorem pof_any (a m v : Int) (w : World) (ha : 0 ≤ a) (hm : 1 ≤ m) (h2 : m ≤ 64) (h3 : a ≤ 64 - m) (hv0 : 0 ≤ v) (hv1 : v < 18446744073709551616) :
 Calls Tryz.prog 135 #[.agg #[.int .i64 a, .int .i64 m], .int .u64 v] w fun e w' => e = .returned (.int .u64 (putI 0 a m v)) ∧ Below w.heap.size w w' := by
 go_enter Tryz.func135, Tryz.ntmps135
 go_wp2_with fail
 refine (put_yes 0 a m v _ (by omega) (by omega) ha hm h2 h3 hv0 hv1).mono ?_
 rintro e w' ⟨rfl, rfl⟩
 go_wp2_with fail
 go_ret
 exact ⟨rfl, bZ _ _⟩
theorem of_kind (v : Int) (w : World) (h0 : 0 ≤ v) (h1 : v < 8) :
 Calls Tryz.prog 135 #[.agg #[.int .i64 0, .int .i64 3], .int .u64 v] w fun e w' => e = .returned (.int .u64 v) ∧ Below w.heap.size w w' := by
 obtain ⟨n, rfl⟩ := Int.eq_ofNat_of_zero_le h0
 have := pof_any 0 3 n w (by omega) (by omega) (by omega) (by omega) (by omega) (by omega)
 rwa [show putI 0 0 3 (n : Int) = (n : Int) by have := putI_zero 0 3 n (by omega); simpa using this] at this
theorem of_class (v : Int) (w : World) (h0 : 0 ≤ v) (h1 : v < 4) :
 Calls Tryz.prog 135 #[.agg #[.int .i64 3, .int .i64 2], .int .u64 v] w fun e w' => e = .returned (.int .u64 (8 * v)) ∧ Below w.heap.size w w' := by
 obtain ⟨n, rfl⟩ := Int.eq_ofNat_of_zero_le h0
 have := pof_any 3 2 n w (by omega) (by omega) (by omega) (by omega) (by omega) (by omega)
 rwa [show putI 0 3 2 (n : Int) = 8 * (n : Int) by have := putI_zero 3 2 n (by omega); simpa using this] at this
theorem of_lane (v : Int) (w : World) (h0 : 0 ≤ v) (h1 : v < 64) :
 Calls Tryz.prog 135 #[.agg #[.int .i64 5, .int .i64 6], .int .u64 v] w fun e w' => e = .returned (.int .u64 (32 * v)) ∧ Below w.heap.size w w' := by
 obtain ⟨n, rfl⟩ := Int.eq_ofNat_of_zero_le h0
 have := pof_any 5 6 n w (by omega) (by omega) (by omega) (by omega) (by omega) (by omega)
 rwa [show putI 0 5 6 (n : Int) = 32 * (n : Int) by have := putI_zero 5 6 n (by omega); simpa using this] at this
theorem of_many (v : Int) (w : World) (h0 : 0 ≤ v) (h1 : v < 8192) :
 Calls Tryz.prog 135 #[.agg #[.int .i64 11, .int .i64 13], .int .u64 v] w fun e w' => e = .returned (.int .u64 (2048 * v)) ∧ Below w.heap.size w w' := by
 obtain ⟨n, rfl⟩ := Int.eq_ofNat_of_zero_le h0
 have := pof_any 11 13 n w (by omega) (by omega) (by omega) (by omega) (by omega) (by omega)
 rwa [show putI 0 11 13 (n : Int) = 2048 * (n : Int) by have := putI_zero 11 13 n (by omega); simpa using this] at this
theorem of_bits (v : Int) (w : World) (h0 : 0 ≤ v) (h1 : v < 256) :
 Calls Tryz.prog 135 #[.agg #[.int .i64 24, .int .i64 8], .int .u64 v] w fun e w' => e = .returned (.int .u64 (16777216 * v)) ∧ Below w.heap.size w w' := by
 obtain ⟨n, rfl⟩ := Int.eq_ofNat_of_zero_le h0
 have := pof_any 24 8 n w (by omega) (by omega) (by omega) (by omega) (by omega) (by omega)
 rwa [show putI 0 24 8 (n : Int) = 16777216 * (n : Int) by have := putI_zero 24 8 n (by omega); simpa using this] at this
theorem or_class (k c : Int) (k0 : 0 ≤ k) (k1 : k < 8) (c0 : 0 ≤ c) (c1 : c < 4) : bits .or .u64 k (8 * c) = k + 8 * c := by
 obtain ⟨k, rfl⟩ := Int.eq_ofNat_of_zero_le k0
 obtain ⟨c, rfl⟩ := Int.eq_ofNat_of_zero_le c0
 simpa using or_add 3 k c (by omega) (by omega)
theorem or_lane (y l : Int) (k0 : 0 ≤ y) (k1 : y < 32) (c0 : 0 ≤ l) (c1 : l < 64) : bits .or .u64 y (32 * l) = y + 32 * l := by
 obtain ⟨k, rfl⟩ := Int.eq_ofNat_of_zero_le k0
 obtain ⟨c, rfl⟩ := Int.eq_ofNat_of_zero_le c0
 simpa using or_add 5 k c (by omega) (by omega)
theorem or_many (y l : Int) (k0 : 0 ≤ y) (k1 : y < 2048) (c0 : 0 ≤ l) (c1 : l < 8192) : bits .or .u64 y (2048 * l) = y + 2048 * l := by
 obtain ⟨k, rfl⟩ := Int.eq_ofNat_of_zero_le k0
 obtain ⟨c, rfl⟩ := Int.eq_ofNat_of_zero_le c0
 simpa using or_add 11 k c (by omega) (by omega)
theorem or_bits (y l : Int) (k0 : 0 ≤ y) (k1 : y < 16777216) (c0 : 0 ≤ l) (c1 : l < 256) : bits .or .u64 y (16777216 * l) = y + 16777216 * l := by
 obtain ⟨k, rfl⟩ := Int.eq_ofNat_of_zero_le k0
 obtain ⟨c, rfl⟩ := Int.eq_ofNat_of_zero_le c0
 simpa using or_add 24 k c (by omega) (by omega)
def C5 (w : World) (g : Nat) (k c l m b : Int) : Prop :=
 w.cell? ⟨g, 0, none⟩ = some (.int .i64 k) ∧ w.cell? ⟨g, 1, none⟩ = some (.int .i64 c) ∧ w.cell? ⟨g, 2, none⟩ = some (.int .i64 l) ∧ w.cell? ⟨g, 3, none⟩ = some (.int .i64 m) ∧ w.cell? ⟨g, 4, none⟩ = some (.int .u64 b)
theorem C5.lt {w : World} {g : Nat} {k c l m b : Int} (h : C5 w g k c l m b) : g < w.heap.size := World.block_lt_of_cell? w _ h.1
theorem C5.keep {W w1 : World} {g : Nat} {k c l m b : Int} (h : C5 W g k c l m b) (hb : Below W.heap.size W w1) : C5 w1 g k c l m b := by
 obtain ⟨h0, h1, h2, h3, h4⟩ := id h
 have hl := h.lt
 refine ⟨?_, ?_, ?_, ?_, ?_⟩ <;> (rw [(bcell hb).1 _ _ hl]; assumption)
theorem C5.new (w : World) (k c l m b : Int) (t : TypeId) : C5 (w.alloc (.cells #[.int .i64 k, .int .i64 c, .int .i64 l, .int .i64 m, .int .u64 b] t)) w.heap.size k c l m b := by
 refine ⟨?_, ?_, ?_, ?_, ?_⟩ <;> simp [go_sem]
def wordI (k c l m b : Int) : Int := k + 8 * c + 32 * l + 2048 * m + 16777216 * b
theorem word_any (k c l m b : Int) (w : World) (hp : Pl w) (k0 : 0 ≤ k) (k1 : k < 8) (c0 : 0 ≤ c) (c1 : c < 4) (l0 : 0 ≤ l) (l1 : l < 64) (m0 : 0 ≤ m) (m1 : m < 8192) (b0 : 0 ≤ b) (b1 : b < 256) :
 Calls Tryz.prog 125 #[.agg #[.int .i64 k, .int .i64 c, .int .i64 l, .int .i64 m, .int .u64 b]] w fun e w' => e = .returned (.int .u64 (wordI k c l m b)) ∧ Below w.heap.size w w' := by
 have e1 := or_class k c k0 k1 c0 c1
 have e2 := or_lane (k + 8 * c) l (by omega) (by omega) l0 l1
 have e3 := or_many (k + 8 * c + 32 * l) m (by omega) (by omega) m0 m1
 have e4 := or_bits (k + 8 * c + 32 * l + 2048 * m) b (by omega) (by omega) b0 b1
 have f1 : IntKind.u64.wrap k = k := by rw [IntKind.wrap_u64]; omega
 have f2 : IntKind.u64.wrap c = c := by rw [IntKind.wrap_u64]; omega
 have f3 : IntKind.u64.wrap l = l := by rw [IntKind.wrap_u64]; omega
 have f4 : IntKind.u64.wrap m = m := by rw [IntKind.wrap_u64]; omega
 have hp1 := hp.keep (bZ w (.cells #[.int .i64 k, .int .i64 c, .int .i64 l, .int .i64 m, .int .u64 b] 121))
 obtain ⟨⟨p00, p01⟩, ⟨p10, p11⟩, ⟨p20, p21⟩, ⟨p30, p31⟩, ⟨p40, p41⟩⟩ := id hp1
 have hsz : 4 < w.heap.size ∧ 0 < w.heap.size ∧ 1 < w.heap.size ∧ 2 < w.heap.size ∧ 3 < w.heap.size := ⟨hp.2.2.2.2.lt, hp.1.lt, hp.2.1.lt, hp.2.2.1.lt, hp.2.2.2.1.lt⟩
 obtain ⟨z4, z0, z1, z2, z3⟩ := hsz
 clear hp
 go_enter Tryz.func125, Tryz.ntmps125
 go_wp2_with fail
 go_region_held3 (fun w' => w'.cell? ⟨w.heap.size, 0, none⟩ = some (.int .i64 k) ∧ w'.cell? ⟨w.heap.size, 1, none⟩ = some (.int .i64 c) ∧ w'.cell? ⟨w.heap.size, 2, none⟩ = some (.int .i64 l) ∧ w'.cell? ⟨w.heap.size, 3, none⟩ = some (.int .i64 m) ∧ w'.cell? ⟨w.heap.size, 4, none⟩ = some (.int .u64 b) ∧ w.heap.size < w'.heap.size ∧ Below w.heap.size w w' ∧ Pl w' ∧ w'.cell? ⟨0, 0, none⟩ = some (.int .i64 0) ∧ w'.cell? ⟨0, 1, none⟩ = some (.int .i64 3) ∧ w'.cell? ⟨1, 0, none⟩ = some (.int .i64 3) ∧ w'.cell? ⟨1, 1, none⟩ = some (.int .i64 2) ∧ w'.cell? ⟨2, 0, none⟩ = some (.int .i64 5) ∧ w'.cell? ⟨2, 1, none⟩ = some (.int .i64 6))
  (((try go_split_ands); refine ⟨?_, ?_, ?_, ?_, ?_, ?_, ?_, ?_, ?_, ?_, ?_, ?_, ?_, ?_⟩ <;> first | assumption | (exact hp1) | (rw [hb.cell (by assumption)]; assumption) | (rw [hb.cell (Nat.lt_trans z0 (by assumption))]; assumption) | (rw [hb.cell (Nat.lt_trans z1 (by assumption))]; assumption) | (rw [hb.cell (Nat.lt_trans z2 (by assumption))]; assumption) | (exact Pl.keep (by assumption) hb) | (have := hb.size; omega) | (exact Below.trans (by assumption) (hb.mono (Nat.le_of_lt (by assumption)))) | (go_keep; done) | (go_grown; done)))
  ((first | (go_at_call 135; (with_reducible refine (of_kind k _ k0 k1).mono ?_); rintro e w8 ⟨rfl, hb⟩) | (go_at_call 135; (with_reducible refine (of_class c _ c0 c1).mono ?_); rintro e w8 ⟨rfl, hb⟩) | (go_at_call 135; (with_reducible refine (of_lane l _ l0 l1).mono ?_); rintro e w8 ⟨rfl, hb⟩)))
 go_wp2_with fail
 go_split_ands
 clear hp1 p00 p01 p10 p11 p20 p21 p30 p31 p40 p41
 have hp2 := ‹Pl _›
 obtain ⟨_, _, _, ⟨p30, p31⟩, ⟨p40, p41⟩⟩ := id hp2
 go_region_held3 (fun w' => w'.cell? ⟨w.heap.size, 3, none⟩ = some (.int .i64 m) ∧ w'.cell? ⟨w.heap.size, 4, none⟩ = some (.int .u64 b) ∧ w.heap.size < w'.heap.size ∧ Below w.heap.size w w' ∧ w'.cell? ⟨3, 0, none⟩ = some (.int .i64 11) ∧ w'.cell? ⟨3, 1, none⟩ = some (.int .i64 13) ∧ w'.cell? ⟨4, 0, none⟩ = some (.int .i64 24) ∧ w'.cell? ⟨4, 1, none⟩ = some (.int .i64 8))
  (((try go_split_ands); refine ⟨?_, ?_, ?_, ?_, ?_, ?_, ?_, ?_⟩ <;> first | assumption | (rw [hb.cell (by assumption)]; assumption) | (rw [hb.cell (Nat.lt_trans z3 (by assumption))]; assumption) | (rw [hb.cell (Nat.lt_trans z4 (by assumption))]; assumption) | (have := hb.size; omega) | (exact Below.trans (by assumption) (hb.mono (Nat.le_of_lt (by assumption)))) | (go_keep; done) | (go_grown; done)))
  ((first | (go_at_call 135; (with_reducible refine (of_many m _ m0 m1).mono ?_); rintro e w8 ⟨rfl, hb⟩) | (go_at_call 135; (with_reducible refine (of_bits b _ b0 b1).mono ?_); rintro e w8 ⟨rfl, hb⟩)))
 go_wp2_with fail
 go_ret
 go_split_ands
 exact ⟨ret_i (by first | rfl | (unfold wordI; omega)), by assumption⟩
end Go.Proofs.YtdmmbnnejbmdpaaGreatDoor
end
