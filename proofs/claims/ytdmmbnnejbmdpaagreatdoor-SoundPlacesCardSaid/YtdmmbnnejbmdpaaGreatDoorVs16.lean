/-
  Part of the proof of SoundPlaces.
-/
import Derived.Test.YtdmmbnnejbmdpaaGreatDoorVs1
import Derived.Test.YtdmmbnnejbmdpaaGreatDoorVs11
import Derived.Test.YtdmmbnnejbmdpaaGreatDoorVs2
import Derived.Test.YtdmmbnnejbmdpaaGreatDoorVs25
import Derived.Test.YtdmmbnnejbmdpaaGreatDoorVs26
import Derived.Test.YtdmmbnnejbmdpaaGreatDoorVs3
import Derived.Test.YtdmmbnnejbmdpaaGreatDoorVs7
import Derived.Test.YtdmmbnnejbmdpaaGreatDoorVs8
import Derived.Test.YtdmmbnnejbmdpaaGreatDoorRows
import Derived.ArgAppend
import Derived.WalkLawsBesides
import Derived.WalkSpells
import Derived.Deep.RegionHeld3
import Derived.Handy
import Derived.Laws.BitsAllLaws
import Derived.Laws.ShiftsVarLaws
import Derived.Lib.Hide
import Derived.Lib.LaidTab
import Derived.Lib.SmallJoins
import Derived.OpenShut
import Derived.ProofKit
import Derived.Test.YtdmmbnnejbmdpaaGreatDoorVs0
set_option maxRecDepth 10000
set_option maxHeartbeats 4000000
set_option linter.unusedVariables false
set_option linter.unusedSimpArgs false
section
namespace Go.Proofs.YtdmmbnnejbmdpaaGreatDoor
open Go.RowKit
theorem append_sum {w5 : World} {base gx n cx gb m : Nat} {xs : List Nat} (hown : w5.ownsRow base 33 1 (.slice (some ⟨gx, 0, none⟩) n cx) n (wv xs)) (hn : xs.length = n) (hcell : w5.cell? ⟨gb, 0, none⟩ = some (.int .u64 (m : Nat))) (hbase : base ≤ w5.heap.size) (hsm : n ≤ 40) (hpos : 0 < n) :
 ∃ v3 w6, (Builtin.append_ #[25, 25] 25 #[.slice (some ⟨gx, 0, none⟩) n cx, .slice (some ⟨gb, 0, none⟩) 1 1]).run Tryz.prog w5 = .ok v3 w6 ∧ SL w6 v3 (xs ++ [m]) ∧ SL w6 (.slice (some ⟨gx, 0, none⟩) n cx) xs ∧ Below base w5 w6 := by
 obtain ⟨i0, hi, hz0, hz1, hz2⟩ := info_parts infoU64
 have hnews : ∀ j u, [Value.int .u64 (m : Int)][j]? = some u → w5.cell? ((⟨gb, 0, none⟩ : Addr).add j) = some u := fun j u hj => by
  have h0 : j = 0 := by
   have := (List.getElem?_eq_some_iff.1 hj).1
   simp at this
   omega
  subst h0
  simp only [List.getElem?_cons_zero] at hj
  rw [← hj]
  simpa [Addr.add] using hcell
 have h1 : ∀ u ∈ [Value.int .u64 (m : Int)], u.oneCell' = true := fun u hu => by simp at hu; subst hu; rfl
 have hlx : (xs ++ [m]).length = n + 1 := by simp [hn]
 have hge := own_ge hown gx rfl
 by_cases hroom : n + 1 ≤ cx
 ·obtain ⟨w6, hrun, ho6, hg6⟩ := run_append_fits (P := Tryz.prog) w5 base 25 25 33 i0 1 Tryz.underlying25 hi hz1 gx n cx (wv xs) hown ⟨gb, 0, none⟩ 1 1 [.int .u64 (m : Int)] rfl hnews h1 hroom
  rw [← wv_succ, ← hlx] at ho6
  have hS := SL.of_owns ho6
  refine ⟨_, w6, hrun, by rw [← hlx]; exact hS, ?_, (Below.refl _ _).grown hg6 hbase (fun k hk => by simp at hk; omega)⟩
  obtain ⟨g3, o3, c3, hv3, hg3, hc3, hcells⟩ := hS.pos hlx
  rw [hlx] at hv3
  simp only [Value.slice.injEq, Option.some.injEq, Addr.mk.injEq, and_true, true_and] at hv3
  obtain ⟨⟨rfl, rfl⟩, rfl⟩ := hv3
  refine .inr ⟨gx, 0, cx, by rw [hn], hg3, by omega, fun i hi => ?_⟩
  have := hcells i (by omega)
  rw [this, List.getD_eq_getElem?_getD, List.getD_eq_getElem?_getD, List.getElem?_append_left hi]
 ·have hold := hown.cells (g := gx) rfl
  obtain ⟨v3, w6, hrun, ho6, hg6⟩ := run_append_arg_grows (P := Tryz.prog) w5 25 25 33 i0 (.int .u64 0) 1 8 Tryz.underlying25 hi hz0 hz1 hz2 rfl (by decide) ⟨gx, 0, none⟩ n cx (wv xs) (by rw [wv_len]; omega) hold ⟨gb, 0, none⟩ 1 1 [.int .u64 (m : Int)] rfl hnews (by omega) (by unfold maxLen; omega) (by omega)
  rw [← wv_succ, ← hlx] at ho6
  have hB6 : Below w5.heap.size w5 w6 := (Below.refl _ _).grown hg6 (Nat.le_refl _) (by simp)
  have hX : SL w5 (.slice (some ⟨gx, 0, none⟩) xs.length cx) xs := SL.of_owns (by rw [hn]; exact hown)
  rw [hn] at hX
  exact ⟨v3, w6, hrun, SL.of_owns ho6, hX.keep hB6, hB6.mono hbase⟩
end Go.Proofs.YtdmmbnnejbmdpaaGreatDoor
end
section
namespace Go.Proofs.YtdmmbnnejbmdpaaGreatDoor
open Go.RowKit
def CC (w : World) (b : Nat) (x y : Int) : Prop := w.cell? ⟨b, 0, none⟩ = some (.int .i64 x) ∧ w.cell? ⟨b, 1, none⟩ = some (.int .i64 y)
theorem CC.lt {w : World} {b : Nat} {x y : Int} (h : CC w b x y) : b < w.heap.size := World.block_lt_of_cell? w _ h.1
theorem CC.keep {W w1 : World} {b : Nat} {x y : Int} (h : CC W b x y) (hb : Below W.heap.size W w1) : CC w1 b x y :=
 ⟨by rw [(bcell hb).1 _ _ h.lt]; exact h.1, by rw [(bcell hb).1 _ _ h.lt]; exact h.2⟩
def Pl (w : World) : Prop :=
 CC w 0 0 3 ∧ CC w 1 3 2 ∧ CC w 2 5 6 ∧ CC w 3 11 13 ∧ CC w 4 24 8
theorem Pl.keep {W w1 : World} (h : Pl W) (hb : Below W.heap.size W w1) : Pl w1 :=
 ⟨h.1.keep hb, h.2.1.keep hb, h.2.2.1.keep hb, h.2.2.2.1.keep hb, h.2.2.2.2.keep hb⟩
theorem or_add (k : Nat) (y x : Nat) (hy : y < 2 ^ k) (h : y + 2 ^ k * x < 18446744073709551616) : bits .or .u64 (y : Int) ((2 ^ k * x : Nat) : Int) = ((y + 2 ^ k * x : Nat) : Int) := by
 rw [u64_or_nat y (2 ^ k * x) (by omega) (by omega)]
 congr 1
 rw [Nat.or_comm, ← Nat.two_pow_add_eq_or_of_lt hy, Nat.add_comm]
theorem putI_zero (a m v : Nat) (hv : v < 2 ^ m) : putI 0 a m v = ((2 ^ a * v : Nat) : Int) := by
 unfold putI putN
 simp only [Int.toNat_natCast, Int.toNat_zero, Nat.zero_mod, Nat.zero_div, Nat.zero_mul, Nat.zero_add, Nat.add_zero, Nat.mod_eq_of_lt hv, Nat.mul_comm]
theorem pin_any (x : Int) (a m : Int) (w : World) (h0 : 0 ≤ x) (h1 : x < 18446744073709551616) (ha : 0 ≤ a) (hm : 1 ≤ m) (h2 : m ≤ 64) (h3 : a ≤ 64 - m) :
 Calls Tryz.prog 123 #[.agg #[.int .i64 a, .int .i64 m], .int .u64 x] w fun e w' => e = .returned (.int .u64 (getI x a m)) ∧ Below w.heap.size w w' := by
 go_enter Tryz.func123, Tryz.ntmps123
 go_wp2_with fail
 refine (get_yes x a m _ h0 h1 ha hm h2 h3).mono ?_
 rintro e w' ⟨rfl, rfl⟩
 go_wp2_with fail
 go_ret
 exact ⟨rfl, bZ _ _⟩
theorem pof_any (a m v : Int) (w : World) (ha : 0 ≤ a) (hm : 1 ≤ m) (h2 : m ≤ 64) (h3 : a ≤ 64 - m) (hv0 : 0 ≤ v) (hv1 : v < 18446744073709551616) :
 Calls Tryz.prog 135 #[.agg #[.int .i64 a, .int .i64 m], .int .u64 v] w fun e w' => e = .returned (.int .u64 (putI 0 a m v)) ∧ Below w.heap.size w w' := by
 go_enter Tryz.func135, Tryz.ntmps135
 go_wp2_with fail
 refine (put_yes 0 a m v _ (by omega) (by omega) ha hm h2 h3 hv0 hv1).mono ?_
 rintro e w' ⟨rfl, rfl⟩
 go_wp2_with fail
 go_ret
 exact ⟨rfl, bZ _ _⟩
theorem of_kind (v : Int) (w : World) (h0 : 0 ≤ v) (h1 : v < 8) :
 Calls Tryz.prog 135 #[.agg #[.int .i64 0, .int .i64 3], .int .u64 v] w fun e w' => e = .returned (.int .u64 v) ∧ Below w.heap.size w w' := by
 obtain ⟨n, rfl⟩ := Int.eq_ofNat_of_zero_le h0
 have := pof_any 0 3 n w (by omega) (by omega) (by omega) (by omega) (by omega) (by omega)
 rwa [show putI 0 0 3 (n : Int) = (n : Int) by have := putI_zero 0 3 n (by omega); simpa using this] at this
theorem of_class (v : Int) (w : World) (h0 : 0 ≤ v) (h1 : v < 4) :
 Calls Tryz.prog 135 #[.agg #[.int .i64 3, .int .i64 2], .int .u64 v] w fun e w' => e = .returned (.int .u64 (8 * v)) ∧ Below w.heap.size w w' := by
 obtain ⟨n, rfl⟩ := Int.eq_ofNat_of_zero_le h0
 have := pof_any 3 2 n w (by omega) (by omega) (by omega) (by omega) (by omega) (by omega)
 rwa [show putI 0 3 2 (n : Int) = 8 * (n : Int) by have := putI_zero 3 2 n (by omega); simpa using this] at this
theorem of_lane (v : Int) (w : World) (h0 : 0 ≤ v) (h1 : v < 64) :
 Calls Tryz.prog 135 #[.agg #[.int .i64 5, .int .i64 6], .int .u64 v] w fun e w' => e = .returned (.int .u64 (32 * v)) ∧ Below w.heap.size w w' := by
 obtain ⟨n, rfl⟩ := Int.eq_ofNat_of_zero_le h0
 have := pof_any 5 6 n w (by omega) (by omega) (by omega) (by omega) (by omega) (by omega)
 rwa [show putI 0 5 6 (n : Int) = 32 * (n : Int) by have := putI_zero 5 6 n (by omega); simpa using this] at this
theorem of_many (v : Int) (w : World) (h0 : 0 ≤ v) (h1 : v < 8192) :
 Calls Tryz.prog 135 #[.agg #[.int .i64 11, .int .i64 13], .int .u64 v] w fun e w' => e = .returned (.int .u64 (2048 * v)) ∧ Below w.heap.size w w' := by
 obtain ⟨n, rfl⟩ := Int.eq_ofNat_of_zero_le h0
 have := pof_any 11 13 n w (by omega) (by omega) (by omega) (by omega) (by omega) (by omega)
 rwa [show putI 0 11 13 (n : Int) = 2048 * (n : Int) by have := putI_zero 11 13 n (by omega); simpa using this] at this
theorem of_bits (v : Int) (w : World) (h0 : 0 ≤ v) (h1 : v < 256) :
 Calls Tryz.prog 135 #[.agg #[.int .i64 24, .int .i64 8], .int .u64 v] w fun e w' => e = .returned (.int .u64 (16777216 * v)) ∧ Below w.heap.size w w' := by
 obtain ⟨n, rfl⟩ := Int.eq_ofNat_of_zero_le h0
 have := pof_any 24 8 n w (by omega) (by omega) (by omega) (by omega) (by omega) (by omega)
 rwa [show putI 0 24 8 (n : Int) = 16777216 * (n : Int) by have := putI_zero 24 8 n (by omega); simpa using this] at this
theorem or_class (k c : Int) (k0 : 0 ≤ k) (k1 : k < 8) (c0 : 0 ≤ c) (c1 : c < 4) : bits .or .u64 k (8 * c) = k + 8 * c := by
 obtain ⟨k, rfl⟩ := Int.eq_ofNat_of_zero_le k0
 obtain ⟨c, rfl⟩ := Int.eq_ofNat_of_zero_le c0
 simpa using or_add 3 k c (by omega) (by omega)
theorem or_lane (y l : Int) (k0 : 0 ≤ y) (k1 : y < 32) (c0 : 0 ≤ l) (c1 : l < 64) : bits .or .u64 y (32 * l) = y + 32 * l := by
 obtain ⟨k, rfl⟩ := Int.eq_ofNat_of_zero_le k0
 obtain ⟨c, rfl⟩ := Int.eq_ofNat_of_zero_le c0
 simpa using or_add 5 k c (by omega) (by omega)
theorem or_many (y l : Int) (k0 : 0 ≤ y) (k1 : y < 2048) (c0 : 0 ≤ l) (c1 : l < 8192) : bits .or .u64 y (2048 * l) = y + 2048 * l := by
 obtain ⟨k, rfl⟩ := Int.eq_ofNat_of_zero_le k0
 obtain ⟨c, rfl⟩ := Int.eq_ofNat_of_zero_le c0
 simpa using or_add 11 k c (by omega) (by omega)
theorem or_bits (y l : Int) (k0 : 0 ≤ y) (k1 : y < 16777216) (c0 : 0 ≤ l) (c1 : l < 256) : bits .or .u64 y (16777216 * l) = y + 16777216 * l := by
 obtain ⟨k, rfl⟩ := Int.eq_ofNat_of_zero_le k0
 obtain ⟨c, rfl⟩ := Int.eq_ofNat_of_zero_le c0
 simpa using or_add 24 k c (by omega) (by omega)
def C5 (w : World) (g : Nat) (k c l m b : Int) : Prop :=
 w.cell? ⟨g, 0, none⟩ = some (.int .i64 k) ∧ w.cell? ⟨g, 1, none⟩ = some (.int .i64 c) ∧ w.cell? ⟨g, 2, none⟩ = some (.int .i64 l) ∧ w.cell? ⟨g, 3, none⟩ = some (.int .i64 m) ∧ w.cell? ⟨g, 4, none⟩ = some (.int .u64 b)
theorem C5.lt {w : World} {g : Nat} {k c l m b : Int} (h : C5 w g k c l m b) : g < w.heap.size := World.block_lt_of_cell? w _ h.1
theorem C5.keep {W w1 : World} {g : Nat} {k c l m b : Int} (h : C5 W g k c l m b) (hb : Below W.heap.size W w1) : C5 w1 g k c l m b := by
 obtain ⟨h0, h1, h2, h3, h4⟩ := id h
 have hl := h.lt
 refine ⟨?_, ?_, ?_, ?_, ?_⟩ <;> (rw [(bcell hb).1 _ _ hl]; assumption)
theorem C5.new (w : World) (k c l m b : Int) (t : TypeId) : C5 (w.alloc (.cells #[.int .i64 k, .int .i64 c, .int .i64 l, .int .i64 m, .int .u64 b] t)) w.heap.size k c l m b := by
 refine ⟨?_, ?_, ?_, ?_, ?_⟩ <;> simp [go_sem]
def wordI (k c l m b : Int) : Int := k + 8 * c + 32 * l + 2048 * m + 16777216 * b
theorem word_any (k c l m b : Int) (w : World) (hp : Pl w) (k0 : 0 ≤ k) (k1 : k < 8) (c0 : 0 ≤ c) (c1 : c < 4) (l0 : 0 ≤ l) (l1 : l < 64) (m0 : 0 ≤ m) (m1 : m < 8192) (b0 : 0 ≤ b) (b1 : b < 256) :
 Calls Tryz.prog 125 #[.agg #[.int .i64 k, .int .i64 c, .int .i64 l, .int .i64 m, .int .u64 b]] w fun e w' => e = .returned (.int .u64 (wordI k c l m b)) ∧ Below w.heap.size w w' := by
 have e1 := or_class k c k0 k1 c0 c1
 have e2 := or_lane (k + 8 * c) l (by omega) (by omega) l0 l1
 have e3 := or_many (k + 8 * c + 32 * l) m (by omega) (by omega) m0 m1
 have e4 := or_bits (k + 8 * c + 32 * l + 2048 * m) b (by omega) (by omega) b0 b1
 have f1 : IntKind.u64.wrap k = k := by rw [IntKind.wrap_u64]; omega
 have f2 : IntKind.u64.wrap c = c := by rw [IntKind.wrap_u64]; omega
 have f3 : IntKind.u64.wrap l = l := by rw [IntKind.wrap_u64]; omega
 have f4 : IntKind.u64.wrap m = m := by rw [IntKind.wrap_u64]; omega
 have hp1 := hp.keep (bZ w (.cells #[.int .i64 k, .int .i64 c, .int .i64 l, .int .i64 m, .int .u64 b] 121))
 obtain ⟨⟨p00, p01⟩, ⟨p10, p11⟩, ⟨p20, p21⟩, ⟨p30, p31⟩, ⟨p40, p41⟩⟩ := id hp1
 have hsz : 4 < w.heap.size ∧ 0 < w.heap.size ∧ 1 < w.heap.size ∧ 2 < w.heap.size ∧ 3 < w.heap.size := ⟨hp.2.2.2.2.lt, hp.1.lt, hp.2.1.lt, hp.2.2.1.lt, hp.2.2.2.1.lt⟩
 obtain ⟨z4, z0, z1, z2, z3⟩ := hsz
 clear hp
 go_enter Tryz.func125, Tryz.ntmps125
 go_wp2_with fail
 go_region_held3 (fun w' => w'.cell? ⟨w.heap.size, 0, none⟩ = some (.int .i64 k) ∧ w'.cell? ⟨w.heap.size, 1, none⟩ = some (.int .i64 c) ∧ w'.cell? ⟨w.heap.size, 2, none⟩ = some (.int .i64 l) ∧ w'.cell? ⟨w.heap.size, 3, none⟩ = some (.int .i64 m) ∧ w'.cell? ⟨w.heap.size, 4, none⟩ = some (.int .u64 b) ∧ w.heap.size < w'.heap.size ∧ Below w.heap.size w w' ∧ Pl w' ∧ w'.cell? ⟨0, 0, none⟩ = some (.int .i64 0) ∧ w'.cell? ⟨0, 1, none⟩ = some (.int .i64 3) ∧ w'.cell? ⟨1, 0, none⟩ = some (.int .i64 3) ∧ w'.cell? ⟨1, 1, none⟩ = some (.int .i64 2) ∧ w'.cell? ⟨2, 0, none⟩ = some (.int .i64 5) ∧ w'.cell? ⟨2, 1, none⟩ = some (.int .i64 6))
  (((try go_split_ands); refine ⟨?_, ?_, ?_, ?_, ?_, ?_, ?_, ?_, ?_, ?_, ?_, ?_, ?_, ?_⟩ <;> first | assumption | (exact hp1) | (rw [hb.cell (by assumption)]; assumption) | (rw [hb.cell (Nat.lt_trans z0 (by assumption))]; assumption) | (rw [hb.cell (Nat.lt_trans z1 (by assumption))]; assumption) | (rw [hb.cell (Nat.lt_trans z2 (by assumption))]; assumption) | (exact Pl.keep (by assumption) hb) | (have := hb.size; omega) | (exact Below.trans (by assumption) (hb.mono (Nat.le_of_lt (by assumption)))) | (go_keep; done) | (go_grown; done)))
  ((first | (go_at_call 135; (with_reducible refine (of_kind k _ k0 k1).mono ?_); rintro e w8 ⟨rfl, hb⟩) | (go_at_call 135; (with_reducible refine (of_class c _ c0 c1).mono ?_); rintro e w8 ⟨rfl, hb⟩) | (go_at_call 135; (with_reducible refine (of_lane l _ l0 l1).mono ?_); rintro e w8 ⟨rfl, hb⟩)))
 go_wp2_with fail
 go_split_ands
 clear hp1 p00 p01 p10 p11 p20 p21 p30 p31 p40 p41
 have hp2 := ‹Pl _›
 obtain ⟨_, _, _, ⟨p30, p31⟩, ⟨p40, p41⟩⟩ := id hp2
 go_region_held3 (fun w' => w'.cell? ⟨w.heap.size, 3, none⟩ = some (.int .i64 m) ∧ w'.cell? ⟨w.heap.size, 4, none⟩ = some (.int .u64 b) ∧ w.heap.size < w'.heap.size ∧ Below w.heap.size w w' ∧ w'.cell? ⟨3, 0, none⟩ = some (.int .i64 11) ∧ w'.cell? ⟨3, 1, none⟩ = some (.int .i64 13) ∧ w'.cell? ⟨4, 0, none⟩ = some (.int .i64 24) ∧ w'.cell? ⟨4, 1, none⟩ = some (.int .i64 8))
  (((try go_split_ands); refine ⟨?_, ?_, ?_, ?_, ?_, ?_, ?_, ?_⟩ <;> first | assumption | (rw [hb.cell (by assumption)]; assumption) | (rw [hb.cell (Nat.lt_trans z3 (by assumption))]; assumption) | (rw [hb.cell (Nat.lt_trans z4 (by assumption))]; assumption) | (have := hb.size; omega) | (exact Below.trans (by assumption) (hb.mono (Nat.le_of_lt (by assumption)))) | (go_keep; done) | (go_grown; done)))
  ((first | (go_at_call 135; (with_reducible refine (of_many m _ m0 m1).mono ?_); rintro e w8 ⟨rfl, hb⟩) | (go_at_call 135; (with_reducible refine (of_bits b _ b0 b1).mono ?_); rintro e w8 ⟨rfl, hb⟩)))
 go_wp2_with fail
 go_ret
 go_split_ands
 exact ⟨ret_i (by first | rfl | (unfold wordI; omega)), by assumption⟩
end Go.Proofs.YtdmmbnnejbmdpaaGreatDoor
end
section
namespace Go.Proofs.YtdmmbnnejbmdpaaGreatDoor
open Go.RowKit
def RightP (k c l m b : Int) : Prop :=
 ((k = 0 ∨ k = 3) ∧ c = 0 ∧ l = 0 ∧ m = 0 ∧ b = 0) ∨ (k = 1 ∧ l = 0 ∧ m = 0 ∧ ((c = 0 ∧ b < 256) ∨ (c = 1 ∧ b < 16) ∨ (c = 2 ∧ b < 4))) ∨
 (k = 2 ∧ c = 0 ∧ l = 0 ∧ b = 0 ∧ 1 ≤ m ∧ m ≤ 8191) ∨ (k = 4 ∧ c = 0 ∧ b = 0 ∧ 0 ≤ l ∧ l < 64 ∧ 0 ≤ m ∧ m ≤ 7)
instance (k c l m b : Int) : Decidable (RightP k c l m b) := by unfold RightP; infer_instance
def rightB_ti (k c l m b : Int) : Bool := decide (RightP k c l m b)
theorem rightB_t_ti {k c l m b : Int} (h : rightB_ti k c l m b = true) : RightP k c l m b := of_decide_eq_true h
theorem right_yes {k c l m b : Int} (h : RightP k c l m b) : rightB_ti k c l m b = true := decide_eq_true h
theorem right_no {k c l m b : Int} (h : ¬ RightP k c l m b) : rightB_ti k c l m b = false := decide_eq_false h
theorem right_0 (k c l m b : Int) (w : World) (hk : k = 0) :
 Calls Tryz.prog 124 #[.agg #[.int .i64 k, .int .i64 c, .int .i64 l, .int .i64 m, .int .u64 b]] w fun e w' => e = .returned (.bool (rightB_ti k c l m b)) ∧ Below w.heap.size w w' := by
 go_enter Tryz.func124, Tryz.ntmps124
 go_wp2_with fail
 all_goals
  go_ret
  refine ⟨ret_b ?_, bZ _ _⟩
  first | (exact (right_yes (by unfold RightP; omega)).symm) | (exact (right_no (by unfold RightP; omega)).symm) | (simp [rightB_ti, RightP]; done) | (simp [rightB_ti, RightP, *]; done) | (simp [rightB_ti, RightP]; omega)
theorem right_3 (k c l m b : Int) (w : World) (hk : k = 3) :
 Calls Tryz.prog 124 #[.agg #[.int .i64 k, .int .i64 c, .int .i64 l, .int .i64 m, .int .u64 b]] w fun e w' => e = .returned (.bool (rightB_ti k c l m b)) ∧ Below w.heap.size w w' := by
 go_enter Tryz.func124, Tryz.ntmps124
 go_wp2_with fail
 all_goals
  go_ret
  refine ⟨ret_b ?_, bZ _ _⟩
  first | (exact (right_yes (by unfold RightP; omega)).symm) | (exact (right_no (by unfold RightP; omega)).symm) | (simp [rightB_ti, RightP]; done) | (simp [rightB_ti, RightP, *]; done) | (simp [rightB_ti, RightP]; omega)
theorem right_2 (k c l m b : Int) (w : World) (hk : k = 2) :
 Calls Tryz.prog 124 #[.agg #[.int .i64 k, .int .i64 c, .int .i64 l, .int .i64 m, .int .u64 b]] w fun e w' => e = .returned (.bool (rightB_ti k c l m b)) ∧ Below w.heap.size w w' := by
 go_enter Tryz.func124, Tryz.ntmps124
 go_wp2_with fail
 all_goals
  go_ret
  refine ⟨ret_b ?_, bZ _ _⟩
  first | (exact (right_yes (by unfold RightP; omega)).symm) | (exact (right_no (by unfold RightP; omega)).symm) | (simp [rightB_ti, RightP]; done) | (simp [rightB_ti, RightP, *]; done) | (simp [rightB_ti, RightP]; omega)
theorem right_4 (k c l m b : Int) (w : World) (hk : k = 4) :
 Calls Tryz.prog 124 #[.agg #[.int .i64 k, .int .i64 c, .int .i64 l, .int .i64 m, .int .u64 b]] w fun e w' => e = .returned (.bool (rightB_ti k c l m b)) ∧ Below w.heap.size w w' := by
 go_enter Tryz.func124, Tryz.ntmps124
 go_wp2_with fail
 all_goals
  go_ret
  refine ⟨ret_b ?_, bZ _ _⟩
  first | (exact (right_yes (by unfold RightP; omega)).symm) | (exact (right_no (by unfold RightP; omega)).symm) | (simp [rightB_ti, RightP]; done) | (simp [rightB_ti, RightP, *]; done) | (simp [rightB_ti, RightP]; omega)
theorem right_x (k c l m b : Int) (w : World) (q0 : ¬ k = 0) (q1 : ¬ k = 1) (q2 : ¬ k = 2) (q3 : ¬ k = 3) (q4 : ¬ k = 4) :
 Calls Tryz.prog 124 #[.agg #[.int .i64 k, .int .i64 c, .int .i64 l, .int .i64 m, .int .u64 b]] w fun e w' => e = .returned (.bool (rightB_ti k c l m b)) ∧ Below w.heap.size w w' := by
 go_enter Tryz.func124, Tryz.ntmps124
 go_wp2_with fail
 all_goals
  go_ret
  refine ⟨ret_b ?_, bZ _ _⟩
  first | (exact (right_yes (by unfold RightP; omega)).symm) | (exact (right_no (by unfold RightP; omega)).symm) | (simp [rightB_ti, RightP]; done) | (simp [rightB_ti, RightP, *]; done) | (simp [rightB_ti, RightP]; omega)
theorem right_1l (c l m b : Int) (w : World) (ht : Tab w) (hs : 5 < w.heap.size) (hl : ¬ l = 0) :
 Calls Tryz.prog 124 #[.agg #[.int .i64 1, .int .i64 c, .int .i64 l, .int .i64 m, .int .u64 b]] w fun e w' => e = .returned (.bool (rightB_ti 1 c l m b)) ∧ Below w.heap.size w w' := by
 have ht1 : Tab (w.alloc (.cells #[.int .i64 1, .int .i64 c, .int .i64 l, .int .i64 m, .int .u64 b] 121)).drew := tab_keep ht hs (bZ _ _).drew
 go_enter Tryz.func124, Tryz.ntmps124
 go_wp2_with fail
 refine wp_region_held_drew (S := (fun w' => w'.cell? ⟨w.heap.size, 0, none⟩ = some (.int .i64 1) ∧ w'.cell? ⟨w.heap.size, 1, none⟩ = some (.int .i64 c) ∧ w'.cell? ⟨w.heap.size, 2, none⟩ = some (.int .i64 l) ∧ w'.cell? ⟨w.heap.size, 3, none⟩ = some (.int .i64 m) ∧ w'.cell? ⟨w.heap.size, 4, none⟩ = some (.int .u64 b))) (by kernel_rfl) ?_ (fun hHeld => ?_)
 ·(try dsimp only)
  first | exact hHeld | (refine ⟨?_, ?_, ?_, ?_, ?_⟩ <;> simp [go_sem])
 refine takeQ 0 ?_
 refine takeQ 1 ?_
 refine takeQ 2 ?_
 refine takeQ 3 ?_
 refine takeQ 4 ?_
 refine takeQ 5 ?_
 refine takeQ 6 ?_
 refine takeQ 7 ?_
 refine idleQ 8 ?_
 refine idleQ 9 ?_
 refine idleQ 10 ?_
 refine idleQ 11 ?_
 refine takeQ 12 ?_
 refine takeQ 13 ?_
 refine idleQ 14 ?_
 refine idleQ 15 ?_
 refine idleQ 16 ?_
 refine idleQ 17 ?_
 refine idleQ 18 ?_
 refine idleQ 19 ?_
 refine idleQ 20 ?_
 refine idleQ 21 ?_
 refine takeQ 22 ?_
 refine takeQ 23 ?_
 refine wpAnyH_done (by kernel_rfl) ?_ _
 go_wp2_with fail
 go_ret
 refine ⟨ret_b ?_, (bZ _ _).drew⟩
 first | (exact (right_yes (by unfold RightP; omega)).symm) | (exact (right_no (by unfold RightP; omega)).symm) | (rw [right_yes (by unfold RightP; omega)]; first | (simp; done) | (simp [*]; done) | (simp; omega)) | (rw [right_no (by unfold RightP; omega)]; first | (simp; done) | (simp [*]; done) | (simp; omega))
theorem right_1m (c l m b : Int) (w : World) (ht : Tab w) (hs : 5 < w.heap.size) (hm : ¬ m = 0) :
 Calls Tryz.prog 124 #[.agg #[.int .i64 1, .int .i64 c, .int .i64 0, .int .i64 m, .int .u64 b]] w fun e w' => e = .returned (.bool (rightB_ti 1 c 0 m b)) ∧ Below w.heap.size w w' := by
 have ht1 : Tab (w.alloc (.cells #[.int .i64 1, .int .i64 c, .int .i64 0, .int .i64 m, .int .u64 b] 121)).drew := tab_keep ht hs (bZ _ _).drew
 go_enter Tryz.func124, Tryz.ntmps124
 go_wp2_with fail
 refine wp_region_held_drew (S := (fun w' => w'.cell? ⟨w.heap.size, 0, none⟩ = some (.int .i64 1) ∧ w'.cell? ⟨w.heap.size, 1, none⟩ = some (.int .i64 c) ∧ w'.cell? ⟨w.heap.size, 2, none⟩ = some (.int .i64 0) ∧ w'.cell? ⟨w.heap.size, 3, none⟩ = some (.int .i64 m) ∧ w'.cell? ⟨w.heap.size, 4, none⟩ = some (.int .u64 b))) (by kernel_rfl) ?_ (fun hHeld => ?_)
 ·(try dsimp only)
  first | exact hHeld | (refine ⟨?_, ?_, ?_, ?_, ?_⟩ <;> simp [go_sem])
 refine takeQ 0 ?_
 refine takeQ 1 ?_
 refine takeQ 2 ?_
 refine takeQ 3 ?_
 refine takeQ 4 ?_
 refine takeQ 5 ?_
 refine takeQ 6 ?_
 refine takeQ 7 ?_
 refine idleQ 8 ?_
 refine idleQ 9 ?_
 refine idleQ 10 ?_
 refine idleQ 11 ?_
 refine takeQ 12 ?_
 refine takeQ 13 ?_
 refine idleQ 14 ?_
 refine idleQ 15 ?_
 refine idleQ 16 ?_
 refine idleQ 17 ?_
 refine idleQ 18 ?_
 refine idleQ 19 ?_
 refine idleQ 20 ?_
 refine idleQ 21 ?_
 refine takeQ 22 ?_
 refine takeQ 23 ?_
 refine wpAnyH_done (by kernel_rfl) ?_ _
 go_wp2_with fail
 go_ret
 refine ⟨ret_b ?_, (bZ _ _).drew⟩
 first | (exact (right_yes (by unfold RightP; omega)).symm) | (exact (right_no (by unfold RightP; omega)).symm) | (rw [right_yes (by unfold RightP; omega)]; first | (simp; done) | (simp [*]; done) | (simp; omega)) | (rw [right_no (by unfold RightP; omega)]; first | (simp; done) | (simp [*]; done) | (simp; omega))
theorem right_1b (c l m b : Int) (w : World) (ht : Tab w) (hs : 5 < w.heap.size) (hc : 3 ≤ c) :
 Calls Tryz.prog 124 #[.agg #[.int .i64 1, .int .i64 c, .int .i64 0, .int .i64 0, .int .u64 b]] w fun e w' => e = .returned (.bool (rightB_ti 1 c 0 0 b)) ∧ Below w.heap.size w w' := by
 have ht1 : Tab (w.alloc (.cells #[.int .i64 1, .int .i64 c, .int .i64 0, .int .i64 0, .int .u64 b] 121)).drew := tab_keep ht hs (bZ _ _).drew
 go_enter Tryz.func124, Tryz.ntmps124
 go_wp2_with fail
 refine wp_region_held_drew (S := (fun w' => w'.cell? ⟨w.heap.size, 0, none⟩ = some (.int .i64 1) ∧ w'.cell? ⟨w.heap.size, 1, none⟩ = some (.int .i64 c) ∧ w'.cell? ⟨w.heap.size, 2, none⟩ = some (.int .i64 0) ∧ w'.cell? ⟨w.heap.size, 3, none⟩ = some (.int .i64 0) ∧ w'.cell? ⟨w.heap.size, 4, none⟩ = some (.int .u64 b))) (by kernel_rfl) ?_ (fun hHeld => ?_)
 ·(try dsimp only)
  first | exact hHeld | (refine ⟨?_, ?_, ?_, ?_, ?_⟩ <;> simp [go_sem])
 refine takeQ 0 ?_
 refine takeQ 1 ?_
 refine takeQ 2 ?_
 refine takeQ 3 ?_
 refine takeQ 4 ?_
 refine takeQ 5 ?_
 refine takeQ 6 ?_
 refine takeQ 7 ?_
 refine takeQ 8 ?_
 refine takeQ 9 ?_
 refine oneL 10 rfl (by kernel_rfl) (fun K hK => ?_)
 go_simp
 (go_at_call 112; (with_reducible refine (blk_3 c _ ht1 hc).mono ?_); rintro e w8 ⟨rfl, rfl⟩)
 refine hK.out _ _ ?_ (fun hHeld2 => ?_)
 ·(try dsimp only)
  first | exact hHeld | (refine ⟨?_, ?_, ?_, ?_, ?_⟩ <;> simp [go_sem])
 clear hK K hHeld
 have hHeld := hHeld2
 clear hHeld2
 try simp only [Act.put,sA,sB,sC]
 refine takeQ 11 ?_
 refine takeQ 12 ?_
 refine takeQ 13 ?_
 refine idleQ 14 ?_
 refine idleQ 15 ?_
 refine idleQ 16 ?_
 refine idleQ 17 ?_
 refine idleQ 18 ?_
 refine idleQ 19 ?_
 refine idleQ 20 ?_
 refine idleQ 21 ?_
 refine takeQ 22 ?_
 refine takeQ 23 ?_
 refine wpAnyH_done (by kernel_rfl) ?_ _
 go_wp2_with fail
 go_ret
 refine ⟨ret_b ?_, (bZ _ _).drew⟩
 first | (exact (right_yes (by unfold RightP; omega)).symm) | (exact (right_no (by unfold RightP; omega)).symm) | (rw [right_yes (by unfold RightP; omega)]; first | (simp; done) | (simp [*]; done) | (simp; omega)) | (rw [right_no (by unfold RightP; omega)]; first | (simp; done) | (simp [*]; done) | (simp; omega))
theorem right_1s (c l m b : Int) (w : World) (ht : Tab w) (hs : 5 < w.heap.size) (hc : c ≤ -1) :
 Calls Tryz.prog 124 #[.agg #[.int .i64 1, .int .i64 c, .int .i64 0, .int .i64 0, .int .u64 b]] w fun e w' => e = .returned (.bool (rightB_ti 1 c 0 0 b)) ∧ Below w.heap.size w w' := by
 have ht1 : Tab (w.alloc (.cells #[.int .i64 1, .int .i64 c, .int .i64 0, .int .i64 0, .int .u64 b] 121)).drew := tab_keep ht hs (bZ _ _).drew
 go_enter Tryz.func124, Tryz.ntmps124
 go_wp2_with fail
 refine wp_region_held_drew (S := (fun w' => w'.cell? ⟨w.heap.size, 0, none⟩ = some (.int .i64 1) ∧ w'.cell? ⟨w.heap.size, 1, none⟩ = some (.int .i64 c) ∧ w'.cell? ⟨w.heap.size, 2, none⟩ = some (.int .i64 0) ∧ w'.cell? ⟨w.heap.size, 3, none⟩ = some (.int .i64 0) ∧ w'.cell? ⟨w.heap.size, 4, none⟩ = some (.int .u64 b))) (by kernel_rfl) ?_ (fun hHeld => ?_)
 ·(try dsimp only)
  first | exact hHeld | (refine ⟨?_, ?_, ?_, ?_, ?_⟩ <;> simp [go_sem])
 refine takeQ 0 ?_
 refine takeQ 1 ?_
 refine takeQ 2 ?_
 refine takeQ 3 ?_
 refine takeQ 4 ?_
 refine takeQ 5 ?_
 refine takeQ 6 ?_
 refine takeQ 7 ?_
 refine takeQ 8 ?_
 refine takeQ 9 ?_
 refine oneL 10 rfl (by kernel_rfl) (fun K hK => ?_)
 go_simp
 (go_at_call 112; (with_reducible refine (blk_4 c _ ht1 hc).mono ?_); rintro e w8 ⟨rfl, rfl⟩)
 refine hK.out _ _ ?_ (fun hHeld2 => ?_)
 ·(try dsimp only)
  first | exact hHeld | (refine ⟨?_, ?_, ?_, ?_, ?_⟩ <;> simp [go_sem])
 clear hK K hHeld
 have hHeld := hHeld2
 clear hHeld2
 try simp only [Act.put,sA,sB,sC]
 refine takeQ 11 ?_
 refine takeQ 12 ?_
 refine takeQ 13 ?_
 refine idleQ 14 ?_
 refine idleQ 15 ?_
 refine idleQ 16 ?_
 refine idleQ 17 ?_
 refine idleQ 18 ?_
 refine idleQ 19 ?_
 refine idleQ 20 ?_
 refine idleQ 21 ?_
 refine takeQ 22 ?_
 refine takeQ 23 ?_
 refine wpAnyH_done (by kernel_rfl) ?_ _
 go_wp2_with fail
 go_ret
 refine ⟨ret_b ?_, (bZ _ _).drew⟩
 first | (exact (right_yes (by unfold RightP; omega)).symm) | (exact (right_no (by unfold RightP; omega)).symm) | (rw [right_yes (by unfold RightP; omega)]; first | (simp; done) | (simp [*]; done) | (simp; omega)) | (rw [right_no (by unfold RightP; omega)]; first | (simp; done) | (simp [*]; done) | (simp; omega))
theorem right_10y (c l m b : Int) (w : World) (ht : Tab w) (hs : 5 < w.heap.size) (hb0 : 0 ≤ b) (hb : b < 256) :
 Calls Tryz.prog 124 #[.agg #[.int .i64 1, .int .i64 0, .int .i64 0, .int .i64 0, .int .u64 b]] w fun e w' => e = .returned (.bool (rightB_ti 1 0 0 0 b)) ∧ Below w.heap.size w w' := by
 have ht1 : Tab (w.alloc (.cells #[.int .i64 1, .int .i64 0, .int .i64 0, .int .i64 0, .int .u64 b] 121)).drew := tab_keep ht hs (bZ _ _).drew
 have hq : b / 256 = 0 := by omega
 go_enter Tryz.func124, Tryz.ntmps124
 go_wp2_with fail
 refine wp_region_held_drew (S := (fun w' => w'.cell? ⟨w.heap.size, 0, none⟩ = some (.int .i64 1) ∧ w'.cell? ⟨w.heap.size, 1, none⟩ = some (.int .i64 0) ∧ w'.cell? ⟨w.heap.size, 2, none⟩ = some (.int .i64 0) ∧ w'.cell? ⟨w.heap.size, 3, none⟩ = some (.int .i64 0) ∧ w'.cell? ⟨w.heap.size, 4, none⟩ = some (.int .u64 b))) (by kernel_rfl) ?_ (fun hHeld => ?_)
 ·(try dsimp only)
  first | exact hHeld | (refine ⟨?_, ?_, ?_, ?_, ?_⟩ <;> simp [go_sem])
 refine takeQ 0 ?_
 refine takeQ 1 ?_
 refine takeQ 2 ?_
 refine takeQ 3 ?_
 refine takeQ 4 ?_
 refine takeQ 5 ?_
 refine takeQ 6 ?_
 refine takeQ 7 ?_
 refine takeQ 8 ?_
 refine takeQ 9 ?_
 refine oneL 10 rfl (by kernel_rfl) (fun K hK => ?_)
 go_simp
 (go_at_call 112; (with_reducible refine (blk_0 0 _ ht1 rfl).mono ?_); rintro e w8 ⟨rfl, rfl⟩)
 refine hK.out _ _ ?_ (fun hHeld2 => ?_)
 ·(try dsimp only)
  first | exact hHeld | (refine ⟨?_, ?_, ?_, ?_, ?_⟩ <;> simp [go_sem])
 clear hK K hHeld
 have hHeld := hHeld2
 clear hHeld2
 try simp only [Act.put,sA,sB,sC]
 refine takeQ 11 ?_
 refine takeQ 12 ?_
 refine takeQ 13 ?_
 refine takeQ 14 ?_
 refine takeQ 15 ?_
 refine takeQ 16 ?_
 refine takeQ 17 ?_
 refine oneL 18 rfl (by kernel_rfl) (fun K hK => ?_)
 go_simp
 (go_at_call 128; (with_reducible refine (mny_0 0 _ ht1 rfl).mono ?_); rintro e w8 ⟨rfl, rfl⟩)
 refine hK.out _ _ ?_ (fun hHeld2 => ?_)
 ·(try dsimp only)
  first | exact hHeld | (refine ⟨?_, ?_, ?_, ?_, ?_⟩ <;> simp [go_sem])
 clear hK K hHeld
 have hHeld := hHeld2
 clear hHeld2
 try simp only [Act.put,sA,sB,sC]
 refine takeQ 19 ?_
 refine takeQ 20 ?_
 refine takeQ 21 ?_
 refine takeQ 22 ?_
 refine takeQ 23 ?_
 refine wpAnyH_done (by kernel_rfl) ?_ _
 go_wp2_with fail
 go_ret
 refine ⟨ret_b ?_, (bZ _ _).drew⟩
 rw [show (2 : Int) ^ min (IntKind.u64.wrap 8).toNat 64 = 256 by decide +kernel]
 first | (exact (right_yes (by unfold RightP; omega)).symm) | (exact (right_no (by unfold RightP; omega)).symm) | (rw [right_yes (by unfold RightP; omega)]; first | (simp; done) | (simp [*]; done) | (simp; omega)) | (rw [right_no (by unfold RightP; omega)]; first | (simp; done) | (simp [*]; done) | (simp; omega))
theorem right_10n (c l m b : Int) (w : World) (ht : Tab w) (hs : 5 < w.heap.size) (hb0 : 0 ≤ b) (hb : 256 ≤ b) :
 Calls Tryz.prog 124 #[.agg #[.int .i64 1, .int .i64 0, .int .i64 0, .int .i64 0, .int .u64 b]] w fun e w' => e = .returned (.bool (rightB_ti 1 0 0 0 b)) ∧ Below w.heap.size w w' := by
 have ht1 : Tab (w.alloc (.cells #[.int .i64 1, .int .i64 0, .int .i64 0, .int .i64 0, .int .u64 b] 121)).drew := tab_keep ht hs (bZ _ _).drew
 have hq : ¬ b / 256 = 0 := by omega
 go_enter Tryz.func124, Tryz.ntmps124
 go_wp2_with fail
 refine wp_region_held_drew (S := (fun w' => w'.cell? ⟨w.heap.size, 0, none⟩ = some (.int .i64 1) ∧ w'.cell? ⟨w.heap.size, 1, none⟩ = some (.int .i64 0) ∧ w'.cell? ⟨w.heap.size, 2, none⟩ = some (.int .i64 0) ∧ w'.cell? ⟨w.heap.size, 3, none⟩ = some (.int .i64 0) ∧ w'.cell? ⟨w.heap.size, 4, none⟩ = some (.int .u64 b))) (by kernel_rfl) ?_ (fun hHeld => ?_)
 ·(try dsimp only)
  first | exact hHeld | (refine ⟨?_, ?_, ?_, ?_, ?_⟩ <;> simp [go_sem])
 refine takeQ 0 ?_
 refine takeQ 1 ?_
 refine takeQ 2 ?_
 refine takeQ 3 ?_
 refine takeQ 4 ?_
 refine takeQ 5 ?_
 refine takeQ 6 ?_
 refine takeQ 7 ?_
 refine takeQ 8 ?_
 refine takeQ 9 ?_
 refine oneL 10 rfl (by kernel_rfl) (fun K hK => ?_)
 go_simp
 (go_at_call 112; (with_reducible refine (blk_0 0 _ ht1 rfl).mono ?_); rintro e w8 ⟨rfl, rfl⟩)
 refine hK.out _ _ ?_ (fun hHeld2 => ?_)
 ·(try dsimp only)
  first | exact hHeld | (refine ⟨?_, ?_, ?_, ?_, ?_⟩ <;> simp [go_sem])
 clear hK K hHeld
 have hHeld := hHeld2
 clear hHeld2
 try simp only [Act.put,sA,sB,sC]
 refine takeQ 11 ?_
 refine takeQ 12 ?_
 refine takeQ 13 ?_
 refine takeQ 14 ?_
 refine takeQ 15 ?_
 refine takeQ 16 ?_
 refine takeQ 17 ?_
 refine oneL 18 rfl (by kernel_rfl) (fun K hK => ?_)
 go_simp
 (go_at_call 128; (with_reducible refine (mny_0 0 _ ht1 rfl).mono ?_); rintro e w8 ⟨rfl, rfl⟩)
 refine hK.out _ _ ?_ (fun hHeld2 => ?_)
 ·(try dsimp only)
  first | exact hHeld | (refine ⟨?_, ?_, ?_, ?_, ?_⟩ <;> simp [go_sem])
 clear hK K hHeld
 have hHeld := hHeld2
 clear hHeld2
 try simp only [Act.put,sA,sB,sC]
 refine takeQ 19 ?_
 refine takeQ 20 ?_
 refine takeQ 21 ?_
 refine takeQ 22 ?_
 refine takeQ 23 ?_
 refine wpAnyH_done (by kernel_rfl) ?_ _
 go_wp2_with fail
 go_ret
 refine ⟨ret_b ?_, (bZ _ _).drew⟩
 rw [show (2 : Int) ^ min (IntKind.u64.wrap 8).toNat 64 = 256 by decide +kernel]
 first | (exact (right_yes (by unfold RightP; omega)).symm) | (exact (right_no (by unfold RightP; omega)).symm) | (rw [right_yes (by unfold RightP; omega)]; first | (simp; done) | (simp [*]; done) | (simp; omega)) | (rw [right_no (by unfold RightP; omega)]; first | (simp; done) | (simp [*]; done) | (simp; omega))
theorem right_11y (c l m b : Int) (w : World) (ht : Tab w) (hs : 5 < w.heap.size) (hb0 : 0 ≤ b) (hb : b < 16) :
 Calls Tryz.prog 124 #[.agg #[.int .i64 1, .int .i64 1, .int .i64 0, .int .i64 0, .int .u64 b]] w fun e w' => e = .returned (.bool (rightB_ti 1 1 0 0 b)) ∧ Below w.heap.size w w' := by
 have ht1 : Tab (w.alloc (.cells #[.int .i64 1, .int .i64 1, .int .i64 0, .int .i64 0, .int .u64 b] 121)).drew := tab_keep ht hs (bZ _ _).drew
 have hq : b / 16 = 0 := by omega
 go_enter Tryz.func124, Tryz.ntmps124
 go_wp2_with fail
 refine wp_region_held_drew (S := (fun w' => w'.cell? ⟨w.heap.size, 0, none⟩ = some (.int .i64 1) ∧ w'.cell? ⟨w.heap.size, 1, none⟩ = some (.int .i64 1) ∧ w'.cell? ⟨w.heap.size, 2, none⟩ = some (.int .i64 0) ∧ w'.cell? ⟨w.heap.size, 3, none⟩ = some (.int .i64 0) ∧ w'.cell? ⟨w.heap.size, 4, none⟩ = some (.int .u64 b))) (by kernel_rfl) ?_ (fun hHeld => ?_)
 ·(try dsimp only)
  first | exact hHeld | (refine ⟨?_, ?_, ?_, ?_, ?_⟩ <;> simp [go_sem])
 refine takeQ 0 ?_
 refine takeQ 1 ?_
 refine takeQ 2 ?_
 refine takeQ 3 ?_
 refine takeQ 4 ?_
 refine takeQ 5 ?_
 refine takeQ 6 ?_
 refine takeQ 7 ?_
 refine takeQ 8 ?_
 refine takeQ 9 ?_
 refine oneL 10 rfl (by kernel_rfl) (fun K hK => ?_)
 go_simp
 (go_at_call 112; (with_reducible refine (blk_1 1 _ ht1 rfl).mono ?_); rintro e w8 ⟨rfl, rfl⟩)
 refine hK.out _ _ ?_ (fun hHeld2 => ?_)
 ·(try dsimp only)
  first | exact hHeld | (refine ⟨?_, ?_, ?_, ?_, ?_⟩ <;> simp [go_sem])
 clear hK K hHeld
 have hHeld := hHeld2
 clear hHeld2
 try simp only [Act.put,sA,sB,sC]
 refine takeQ 11 ?_
 refine takeQ 12 ?_
 refine takeQ 13 ?_
 refine takeQ 14 ?_
 refine takeQ 15 ?_
 refine takeQ 16 ?_
 refine takeQ 17 ?_
 refine oneL 18 rfl (by kernel_rfl) (fun K hK => ?_)
 go_simp
 (go_at_call 128; (with_reducible refine (mny_1 1 _ ht1 rfl).mono ?_); rintro e w8 ⟨rfl, rfl⟩)
 refine hK.out _ _ ?_ (fun hHeld2 => ?_)
 ·(try dsimp only)
  first | exact hHeld | (refine ⟨?_, ?_, ?_, ?_, ?_⟩ <;> simp [go_sem])
 clear hK K hHeld
 have hHeld := hHeld2
 clear hHeld2
 try simp only [Act.put,sA,sB,sC]
 refine takeQ 19 ?_
 refine takeQ 20 ?_
 refine takeQ 21 ?_
 refine takeQ 22 ?_
 refine takeQ 23 ?_
 refine wpAnyH_done (by kernel_rfl) ?_ _
 go_wp2_with fail
 go_ret
 refine ⟨ret_b ?_, (bZ _ _).drew⟩
 rw [show (2 : Int) ^ min (IntKind.u64.wrap 4).toNat 64 = 16 by decide +kernel]
 first | (exact (right_yes (by unfold RightP; omega)).symm) | (exact (right_no (by unfold RightP; omega)).symm) | (rw [right_yes (by unfold RightP; omega)]; first | (simp; done) | (simp [*]; done) | (simp; omega)) | (rw [right_no (by unfold RightP; omega)]; first | (simp; done) | (simp [*]; done) | (simp; omega))
theorem right_11n (c l m b : Int) (w : World) (ht : Tab w) (hs : 5 < w.heap.size) (hb0 : 0 ≤ b) (hb : 16 ≤ b) :
 Calls Tryz.prog 124 #[.agg #[.int .i64 1, .int .i64 1, .int .i64 0, .int .i64 0, .int .u64 b]] w fun e w' => e = .returned (.bool (rightB_ti 1 1 0 0 b)) ∧ Below w.heap.size w w' := by
 have ht1 : Tab (w.alloc (.cells #[.int .i64 1, .int .i64 1, .int .i64 0, .int .i64 0, .int .u64 b] 121)).drew := tab_keep ht hs (bZ _ _).drew
 have hq : ¬ b / 16 = 0 := by omega
 go_enter Tryz.func124, Tryz.ntmps124
 go_wp2_with fail
 refine wp_region_held_drew (S := (fun w' => w'.cell? ⟨w.heap.size, 0, none⟩ = some (.int .i64 1) ∧ w'.cell? ⟨w.heap.size, 1, none⟩ = some (.int .i64 1) ∧ w'.cell? ⟨w.heap.size, 2, none⟩ = some (.int .i64 0) ∧ w'.cell? ⟨w.heap.size, 3, none⟩ = some (.int .i64 0) ∧ w'.cell? ⟨w.heap.size, 4, none⟩ = some (.int .u64 b))) (by kernel_rfl) ?_ (fun hHeld => ?_)
 ·(try dsimp only)
  first | exact hHeld | (refine ⟨?_, ?_, ?_, ?_, ?_⟩ <;> simp [go_sem])
 refine takeQ 0 ?_
 refine takeQ 1 ?_
 refine takeQ 2 ?_
 refine takeQ 3 ?_
 refine takeQ 4 ?_
 refine takeQ 5 ?_
 refine takeQ 6 ?_
 refine takeQ 7 ?_
 refine takeQ 8 ?_
 refine takeQ 9 ?_
 refine oneL 10 rfl (by kernel_rfl) (fun K hK => ?_)
 go_simp
 (go_at_call 112; (with_reducible refine (blk_1 1 _ ht1 rfl).mono ?_); rintro e w8 ⟨rfl, rfl⟩)
 refine hK.out _ _ ?_ (fun hHeld2 => ?_)
 ·(try dsimp only)
  first | exact hHeld | (refine ⟨?_, ?_, ?_, ?_, ?_⟩ <;> simp [go_sem])
 clear hK K hHeld
 have hHeld := hHeld2
 clear hHeld2
 try simp only [Act.put,sA,sB,sC]
 refine takeQ 11 ?_
 refine takeQ 12 ?_
 refine takeQ 13 ?_
 refine takeQ 14 ?_
 refine takeQ 15 ?_
 refine takeQ 16 ?_
 refine takeQ 17 ?_
 refine oneL 18 rfl (by kernel_rfl) (fun K hK => ?_)
 go_simp
 (go_at_call 128; (with_reducible refine (mny_1 1 _ ht1 rfl).mono ?_); rintro e w8 ⟨rfl, rfl⟩)
 refine hK.out _ _ ?_ (fun hHeld2 => ?_)
 ·(try dsimp only)
  first | exact hHeld | (refine ⟨?_, ?_, ?_, ?_, ?_⟩ <;> simp [go_sem])
 clear hK K hHeld
 have hHeld := hHeld2
 clear hHeld2
 try simp only [Act.put,sA,sB,sC]
 refine takeQ 19 ?_
 refine takeQ 20 ?_
 refine takeQ 21 ?_
 refine takeQ 22 ?_
 refine takeQ 23 ?_
 refine wpAnyH_done (by kernel_rfl) ?_ _
 go_wp2_with fail
 go_ret
 refine ⟨ret_b ?_, (bZ _ _).drew⟩
 rw [show (2 : Int) ^ min (IntKind.u64.wrap 4).toNat 64 = 16 by decide +kernel]
 first | (exact (right_yes (by unfold RightP; omega)).symm) | (exact (right_no (by unfold RightP; omega)).symm) | (rw [right_yes (by unfold RightP; omega)]; first | (simp; done) | (simp [*]; done) | (simp; omega)) | (rw [right_no (by unfold RightP; omega)]; first | (simp; done) | (simp [*]; done) | (simp; omega))
theorem right_12y (c l m b : Int) (w : World) (ht : Tab w) (hs : 5 < w.heap.size) (hb0 : 0 ≤ b) (hb : b < 4) :
 Calls Tryz.prog 124 #[.agg #[.int .i64 1, .int .i64 2, .int .i64 0, .int .i64 0, .int .u64 b]] w fun e w' => e = .returned (.bool (rightB_ti 1 2 0 0 b)) ∧ Below w.heap.size w w' := by
 have ht1 : Tab (w.alloc (.cells #[.int .i64 1, .int .i64 2, .int .i64 0, .int .i64 0, .int .u64 b] 121)).drew := tab_keep ht hs (bZ _ _).drew
 have hq : b / 4 = 0 := by omega
 go_enter Tryz.func124, Tryz.ntmps124
 go_wp2_with fail
 refine wp_region_held_drew (S := (fun w' => w'.cell? ⟨w.heap.size, 0, none⟩ = some (.int .i64 1) ∧ w'.cell? ⟨w.heap.size, 1, none⟩ = some (.int .i64 2) ∧ w'.cell? ⟨w.heap.size, 2, none⟩ = some (.int .i64 0) ∧ w'.cell? ⟨w.heap.size, 3, none⟩ = some (.int .i64 0) ∧ w'.cell? ⟨w.heap.size, 4, none⟩ = some (.int .u64 b))) (by kernel_rfl) ?_ (fun hHeld => ?_)
 ·(try dsimp only)
  first | exact hHeld | (refine ⟨?_, ?_, ?_, ?_, ?_⟩ <;> simp [go_sem])
 refine takeQ 0 ?_
 refine takeQ 1 ?_
 refine takeQ 2 ?_
 refine takeQ 3 ?_
 refine takeQ 4 ?_
 refine takeQ 5 ?_
 refine takeQ 6 ?_
 refine takeQ 7 ?_
 refine takeQ 8 ?_
 refine takeQ 9 ?_
 refine oneL 10 rfl (by kernel_rfl) (fun K hK => ?_)
 go_simp
 (go_at_call 112; (with_reducible refine (blk_2 2 _ ht1 rfl).mono ?_); rintro e w8 ⟨rfl, rfl⟩)
 refine hK.out _ _ ?_ (fun hHeld2 => ?_)
 ·(try dsimp only)
  first | exact hHeld | (refine ⟨?_, ?_, ?_, ?_, ?_⟩ <;> simp [go_sem])
 clear hK K hHeld
 have hHeld := hHeld2
 clear hHeld2
 try simp only [Act.put,sA,sB,sC]
 refine takeQ 11 ?_
 refine takeQ 12 ?_
 refine takeQ 13 ?_
 refine takeQ 14 ?_
 refine takeQ 15 ?_
 refine takeQ 16 ?_
 refine takeQ 17 ?_
 refine oneL 18 rfl (by kernel_rfl) (fun K hK => ?_)
 go_simp
 (go_at_call 128; (with_reducible refine (mny_2 2 _ ht1 rfl).mono ?_); rintro e w8 ⟨rfl, rfl⟩)
 refine hK.out _ _ ?_ (fun hHeld2 => ?_)
 ·(try dsimp only)
  first | exact hHeld | (refine ⟨?_, ?_, ?_, ?_, ?_⟩ <;> simp [go_sem])
 clear hK K hHeld
 have hHeld := hHeld2
 clear hHeld2
 try simp only [Act.put,sA,sB,sC]
 refine takeQ 19 ?_
 refine takeQ 20 ?_
 refine takeQ 21 ?_
 refine takeQ 22 ?_
 refine takeQ 23 ?_
 refine wpAnyH_done (by kernel_rfl) ?_ _
 go_wp2_with fail
 go_ret
 refine ⟨ret_b ?_, (bZ _ _).drew⟩
 rw [show (2 : Int) ^ min (IntKind.u64.wrap 2).toNat 64 = 4 by decide +kernel]
 first | (exact (right_yes (by unfold RightP; omega)).symm) | (exact (right_no (by unfold RightP; omega)).symm) | (rw [right_yes (by unfold RightP; omega)]; first | (simp; done) | (simp [*]; done) | (simp; omega)) | (rw [right_no (by unfold RightP; omega)]; first | (simp; done) | (simp [*]; done) | (simp; omega))
theorem right_12n (c l m b : Int) (w : World) (ht : Tab w) (hs : 5 < w.heap.size) (hb0 : 0 ≤ b) (hb : 4 ≤ b) :
 Calls Tryz.prog 124 #[.agg #[.int .i64 1, .int .i64 2, .int .i64 0, .int .i64 0, .int .u64 b]] w fun e w' => e = .returned (.bool (rightB_ti 1 2 0 0 b)) ∧ Below w.heap.size w w' := by
 have ht1 : Tab (w.alloc (.cells #[.int .i64 1, .int .i64 2, .int .i64 0, .int .i64 0, .int .u64 b] 121)).drew := tab_keep ht hs (bZ _ _).drew
 have hq : ¬ b / 4 = 0 := by omega
 go_enter Tryz.func124, Tryz.ntmps124
 go_wp2_with fail
 refine wp_region_held_drew (S := (fun w' => w'.cell? ⟨w.heap.size, 0, none⟩ = some (.int .i64 1) ∧ w'.cell? ⟨w.heap.size, 1, none⟩ = some (.int .i64 2) ∧ w'.cell? ⟨w.heap.size, 2, none⟩ = some (.int .i64 0) ∧ w'.cell? ⟨w.heap.size, 3, none⟩ = some (.int .i64 0) ∧ w'.cell? ⟨w.heap.size, 4, none⟩ = some (.int .u64 b))) (by kernel_rfl) ?_ (fun hHeld => ?_)
 ·(try dsimp only)
  first | exact hHeld | (refine ⟨?_, ?_, ?_, ?_, ?_⟩ <;> simp [go_sem])
 refine takeQ 0 ?_
 refine takeQ 1 ?_
 refine takeQ 2 ?_
 refine takeQ 3 ?_
 refine takeQ 4 ?_
 refine takeQ 5 ?_
 refine takeQ 6 ?_
 refine takeQ 7 ?_
 refine takeQ 8 ?_
 refine takeQ 9 ?_
 refine oneL 10 rfl (by kernel_rfl) (fun K hK => ?_)
 go_simp
 (go_at_call 112; (with_reducible refine (blk_2 2 _ ht1 rfl).mono ?_); rintro e w8 ⟨rfl, rfl⟩)
 refine hK.out _ _ ?_ (fun hHeld2 => ?_)
 ·(try dsimp only)
  first | exact hHeld | (refine ⟨?_, ?_, ?_, ?_, ?_⟩ <;> simp [go_sem])
 clear hK K hHeld
 have hHeld := hHeld2
 clear hHeld2
 try simp only [Act.put,sA,sB,sC]
 refine takeQ 11 ?_
 refine takeQ 12 ?_
 refine takeQ 13 ?_
 refine takeQ 14 ?_
 refine takeQ 15 ?_
 refine takeQ 16 ?_
 refine takeQ 17 ?_
 refine oneL 18 rfl (by kernel_rfl) (fun K hK => ?_)
 go_simp
 (go_at_call 128; (with_reducible refine (mny_2 2 _ ht1 rfl).mono ?_); rintro e w8 ⟨rfl, rfl⟩)
 refine hK.out _ _ ?_ (fun hHeld2 => ?_)
 ·(try dsimp only)
  first | exact hHeld | (refine ⟨?_, ?_, ?_, ?_, ?_⟩ <;> simp [go_sem])
 clear hK K hHeld
 have hHeld := hHeld2
 clear hHeld2
 try simp only [Act.put,sA,sB,sC]
 refine takeQ 19 ?_
 refine takeQ 20 ?_
 refine takeQ 21 ?_
 refine takeQ 22 ?_
 refine takeQ 23 ?_
 refine wpAnyH_done (by kernel_rfl) ?_ _
 go_wp2_with fail
 go_ret
 refine ⟨ret_b ?_, (bZ _ _).drew⟩
 rw [show (2 : Int) ^ min (IntKind.u64.wrap 2).toNat 64 = 4 by decide +kernel]
 first | (exact (right_yes (by unfold RightP; omega)).symm) | (exact (right_no (by unfold RightP; omega)).symm) | (rw [right_yes (by unfold RightP; omega)]; first | (simp; done) | (simp [*]; done) | (simp; omega)) | (rw [right_no (by unfold RightP; omega)]; first | (simp; done) | (simp [*]; done) | (simp; omega))
theorem right_any_ti (k c l m b : Int) (w : World) (ht : Tab w) (hs : 5 < w.heap.size) (b0 : 0 ≤ b) :
 Calls Tryz.prog 124 #[.agg #[.int .i64 k, .int .i64 c, .int .i64 l, .int .i64 m, .int .u64 b]] w fun e w' => e = .returned (.bool (rightB_ti k c l m b)) ∧ Below w.heap.size w w' := by
 by_cases q0 : k = 0
 ·exact right_0 k c l m b w q0
 by_cases q2 : k = 2
 ·exact right_2 k c l m b w q2
 by_cases q3 : k = 3
 ·exact right_3 k c l m b w q3
 by_cases q4 : k = 4
 ·exact right_4 k c l m b w q4
 by_cases q1 : k = 1
 ·subst q1
  by_cases hl : l = 0
  ·subst hl
   by_cases hm : m = 0
   ·subst hm
    by_cases h3 : 3 ≤ c
    ·exact right_1b c 0 0 b w ht hs h3
    by_cases h4 : c ≤ -1
    ·exact right_1s c 0 0 b w ht hs h4
    by_cases hc0 : c = 0
    ·subst hc0
     by_cases hb : b < 256
     ·exact right_10y 0 0 0 b w ht hs b0 hb
     ·exact right_10n 0 0 0 b w ht hs b0 (by omega)
    by_cases hc1 : c = 1
    ·subst hc1
     by_cases hb : b < 16
     ·exact right_11y 0 0 0 b w ht hs b0 hb
     ·exact right_11n 0 0 0 b w ht hs b0 (by omega)
    obtain rfl : c = 2 := by omega
    by_cases hb : b < 4
    ·exact right_12y 0 0 0 b w ht hs b0 hb
    ·exact right_12n 0 0 0 b w ht hs b0 (by omega)
   ·exact right_1m c 0 m b w ht hs hm
  ·exact right_1l c l m b w ht hs hl
 exact right_x k c l m b w q0 q1 q2 q3 q4
end Go.Proofs.YtdmmbnnejbmdpaaGreatDoor
end
section
namespace Go.Proofs.YtdmmbnnejbmdpaaGreatDoor
open Go.RowKit Go.ChangeShapes
theorem laid_tail {P : Program} {x : String × DataW Unit} {r : List (String × DataW Unit)} {w : World} (h : laidMet P (x :: r) w) : laidMet P r w := by
 obtain ⟨ps, hv, hnd, hrows⟩ := h
 obtain ⟨n, d⟩ := x
 obtain ⟨g, t, cs, fuel, p, q, _, _, _, _, hq, rfl⟩ := hv
 exact ⟨q, hq, List.Nodup.sublist (List.sublist_append_right _ _) hnd, fun b off hm => hrows b off (List.mem_append_right _ hm)⟩
theorem pair_of_head {P : Program} {W : World} {name : String} {x y : Int} {rest : List (String × DataW Unit)} {g : Nat} {t : TypeId} {f0 f1 : Field}
 (hg : P.globalNamed name = some g) (hty : (P.globals[g]?).map (·.type) = some t) (hs : P.underlying t = some (.struct #[f0, f1])) (o0 : f0.offset = 0) (o1 : f1.offset = 1)
 (e0 : P.underlying f0.type = some (.int .i64)) (e1 : P.underlying f1.type = some (.int .i64)) (c0 : P.cellsOf f0.type = 1) (c1 : P.cellsOf f1.type = 1)
 (h : laidMet P ((name, .agg [.lit (.int .i64 x), .lit (.int .i64 y)]) :: rest) W) : CC W g x y := by
 obtain ⟨ps, ⟨g', t', cs, fuel, p, q, hg', ht', hvar, hd, _, _⟩, _⟩ := h
 obtain rfl := Option.some.inj (hg.symm.trans hg')
 obtain rfl := Option.some.inj (hty.symm.trans ht')
 obtain ⟨y0, y1, n, hx, hl, h0, h1⟩ := trod_struct2 hs hd
 rw [o0, c0] at h0
 rw [o1, c1] at h1
 obtain ⟨n0, hc0, hy0, _⟩ := DataW.trod_int e0 h0
 obtain ⟨n1, hc1, hy1, _⟩ := DataW.trod_int e1 h1
 rw [hy0, hy1] at hx
 simp only [Prod.mk.injEq, DataW.agg.injEq, List.cons.injEq, DataW.lit.injEq, Lit.int.injEq, true_and, and_true] at hx
 obtain ⟨⟨rfl, rfl⟩, _⟩ := hx
 have a0 : cs[0]? = some (.int .i64 x) := by
  have := congrArg (·[0]?) hc0
  simpa [List.getElem?_take, List.getElem?_drop] using this
 have a1 : cs[1]? = some (.int .i64 y) := by
  have := congrArg (·[0]?) hc1
  simpa [List.getElem?_take, List.getElem?_drop] using this
 exact ⟨(World.var?_cell hg hvar 0).trans a0, (World.var?_cell hg hvar 1).trans a1⟩
end Go.Proofs.YtdmmbnnejbmdpaaGreatDoor
end
