/-
  The laws of package geo: the walks (3).
-/
import Derived.Test.YtalplklaepbaeaaGeo7
set_option linter.unusedVariables false
namespace Go.Proofs.Ytalplklaepbaeaa
open Go.RowKit

theorem of_at (W L k j : Int) (w : World) (h : gOk W L = true) (h0 : 0 ≤ k) (h1 : k < gN W L) (h2 : 0 ≤ j) (h3 : j < 32) :
    Calls Try.prog 23 #[.agg #[.int .i64 W, .int .i64 L], .int .i64 (cFrom W L k + j)] w fun e w' => e = .returned (.tuple #[.int .i64 k, .int .i64 j]) ∧ Below w.heap.size w w' := by
  have := of_yes W L (cFrom W L k + j) w h (by unfold cFrom; omega) (by unfold cFrom; omega)
  rwa [show (cFrom W L k + j - cFrom W L 0) / 32 = k by unfold cFrom; omega, show (cFrom W L k + j - cFrom W L 0) % 32 = j by unfold cFrom; omega] at this

def moreN (W L m : Int) : Int := gN W L + (W - (10 + 73 * L) - 33 * gN W L + m) / 33
theorem chunks_more (W L m : Int) (w : World) (h : gOk W L = true) (hW : W ≤ 20000) (h0 : 0 ≤ m) (h1 : m ≤ 255) :
    Calls Try.prog 11 #[.agg #[.int .i64 (W + m), .int .i64 L]] w fun e w' => e = .returned (.int .i64 (moreN W L m)) ∧ Below w.heap.size w w' := by
  obtain ⟨h2, h3, h4, h5⟩ := gOk_t h
  have ho : gOk (W + m) L = true := by unfold gOk; simp only [decide_eq_true_eq]; omega
  have := chunks_t (W + m) L w ho
  rwa [show gN (W + m) L = moreN W L m by unfold moreN gN; omega] at this
theorem chunks_33 (W L : Int) (w : World) (h : gOk W L = true) (hW : W ≤ 20000) :
    Calls Try.prog 11 #[.agg #[.int .i64 (W + 33), .int .i64 L]] w fun e w' => e = .returned (.int .i64 (gN W L + 1)) ∧ Below w.heap.size w w' := by
  have := chunks_more W L 33 w h hW (by omega) (by omega)
  have hb := gN_bd h
  rwa [show moreN W L 33 = gN W L + 1 by unfold moreN; omega] at this

set_option maxHeartbeats 1000000 in
theorem geoMore_t (a b c m : Int) (w : World) (h1 : 0 ≤ a) (h2 : a ≤ 255) (h3 : 0 ≤ b) (h4 : b ≤ 255) (h5 : 0 ≤ c) (h6 : c ≤ 255) (h7 : 0 ≤ m) (h8 : m ≤ 255) (k : gOk (smW a b c) (smL a + 1) = true) :
    Calls Try.prog 7 #[.int .u8 a, .int .u8 b, .int .u8 c, .int .u8 m] w fun e w' => e = .returned (.bool true) ∧ Below w.heap.size w w' := by
  obtain ⟨g, gn⟩ := sm_ok a b c h1 h3 h5
  obtain ⟨n1, n2, n3, n4⟩ := gN_bd g
  obtain ⟨o1, o2, o3, o4⟩ := gOk_t g
  have hW : smW a b c ≤ 20000 := by unfold smW; omega
  have hr : moreN (smW a b c) (smL a) m = gN (smW a b c) (smL a) + (c % 33 + m) / 33 := by
    unfold moreN; rw [show smW a b c - (10 + 73 * smL a) - 33 * gN (smW a b c) (smL a) = c % 33 by rw [gn]; unfold smW smL; omega]
  have hi : gN (smW a b c) (smL a + 1) ≤ gN (smW a b c) (smL a) := by unfold gN; omega
  have hs := small_any a b c
  have gb : (gN (smW a b c) (smL a) == 1 + b % 200) = true := by simpa using gn
  have mb : (moreN (smW a b c) (smL a) m == gN (smW a b c) (smL a) + (c % 33 + m) / 33) = true := by simpa using hr
  clear gn hr
  generalize smW a b c = W at *
  generalize smL a = L at *
  have G := Lib.hid g
  have K := Lib.hid k
  have HS := Lib.hid hs
  clear g k hs
  go_enter Try.func7, Try.ntmps7
  go_wp2_with fail
  refine (awake_any _).mono ?_
  rintro e w1 ⟨rfl, hb1⟩
  go_wp2_with fail
  refine (HS.out _ h1 h2 h3 h4 h5 h6).mono ?_
  rintro e w2 ⟨rfl, hb2⟩
  obtain ⟨hB2, hz2⟩ := belowStep hb1 hb1.size hb2
  go_wp2_with fail
  refine (chunks_t W L _ G.out).mono ?_
  rintro e w3 ⟨rfl, hb3⟩
  have kg := ((((C2.new w2 (.int .i64 W) (.int .i64 L) 23).alloc (.cells #[.int .i64 (W + m), .int .i64 L] 23)).alloc (.cells #[.int .i64 W, .int .i64 (L + 1)] 23)).alloc (.cells #[.int .i64 (W + 33), .int .i64 L] 23)).keep hb3
  have kh := (((C2.new (w2.alloc (.cells #[.int .i64 W, .int .i64 L] 23)) (.int .i64 (W + m)) (.int .i64 L) 23).alloc (.cells #[.int .i64 W, .int .i64 (L + 1)] 23)).alloc (.cells #[.int .i64 (W + 33), .int .i64 L] 23)).keep hb3
  have ki := ((C2.new ((w2.alloc (.cells #[.int .i64 W, .int .i64 L] 23)).alloc (.cells #[.int .i64 (W + m), .int .i64 L] 23)) (.int .i64 W) (.int .i64 (L + 1)) 23).alloc (.cells #[.int .i64 (W + 33), .int .i64 L] 23)).keep hb3
  have kj := (C2.new (((w2.alloc (.cells #[.int .i64 W, .int .i64 L] 23)).alloc (.cells #[.int .i64 (W + m), .int .i64 L] 23)).alloc (.cells #[.int .i64 W, .int .i64 (L + 1)] 23)) (.int .i64 (W + 33)) (.int .i64 L) 23).keep hb3
  simp only [World.size_alloc] at kg kh ki kj
  have hB3 : Below w.heap.size w w3 := ((((hB2.alloc hz2 _).alloc (by simp; omega) _).alloc (by simp; omega) _).alloc (by simp; omega) _).trans (hb3.mono (by simp; omega))
  have hz3 : w.heap.size ≤ w3.heap.size := by have := kg.lt; omega
  obtain ⟨x0, x1⟩ := id kh
  obtain ⟨y0, y1⟩ := id ki
  obtain ⟨z0, z1⟩ := id kj
  obtain ⟨v0, v1⟩ := id kg
  go_wp2_with fail
  refine (chunks_more W L m _ G.out hW h7 h8).mono ?_
  rintro e w4 ⟨rfl, hb4⟩
  obtain ⟨hB4, hz4⟩ := belowStep hB3 hz3 hb4
  clear x0 x1 y0 y1 z0 z1 v0 v1
  obtain ⟨y0, y1⟩ := id (ki.keep hb4)
  obtain ⟨z0, z1⟩ := id (kj.keep hb4)
  obtain ⟨v0, v1⟩ := id (kg.keep hb4)
  go_wp2_with fail
  refine (chunks_t W (L + 1) _ K.out).mono ?_
  rintro e w5 ⟨rfl, hb5⟩
  obtain ⟨hB5, hz5⟩ := belowStep hB4 hz4 hb5
  clear y0 y1 z0 z1 v0 v1
  obtain ⟨z0, z1⟩ := id ((kj.keep hb4).keep hb5)
  obtain ⟨v0, v1⟩ := id ((kg.keep hb4).keep hb5)
  go_wp2_with fail
  refine (chunks_33 W L _ G.out hW).mono ?_
  rintro e w6 ⟨rfl, hb6⟩
  obtain ⟨hB6, hz6⟩ := belowStep hB5 hz5 hb6
  clear z0 z1 v0 v1
  obtain ⟨v0, v1⟩ := id (((kg.keep hb4).keep hb5).keep hb6)
  go_wp2_with fail
  refine (right_t W L _ G.out).mono ?_
  rintro e w7 ⟨rfl, hb7⟩
  obtain ⟨hB7, hz7⟩ := belowStep hB6 hz6 hb7
  go_wp2_with fail
  go_ret
  exact ⟨rfl, hB7⟩

set_option maxHeartbeats 1000000 in
theorem geoMore_f (a b c m : Int) (w : World) (h1 : 0 ≤ a) (h2 : a ≤ 255) (h3 : 0 ≤ b) (h4 : b ≤ 255) (h5 : 0 ≤ c) (h6 : c ≤ 255) (h7 : 0 ≤ m) (h8 : m ≤ 255) (k : gOk (smW a b c) (smL a + 1) = false) :
    Calls Try.prog 7 #[.int .u8 a, .int .u8 b, .int .u8 c, .int .u8 m] w fun e w' => e = .returned (.bool true) ∧ Below w.heap.size w w' := by
  obtain ⟨g, gn⟩ := sm_ok a b c h1 h3 h5
  obtain ⟨n1, n2, n3, n4⟩ := gN_bd g
  obtain ⟨o1, o2, o3, o4⟩ := gOk_t g
  have hW : smW a b c ≤ 20000 := by unfold smW; omega
  have hr : moreN (smW a b c) (smL a) m = gN (smW a b c) (smL a) + (c % 33 + m) / 33 := by
    unfold moreN; rw [show smW a b c - (10 + 73 * smL a) - 33 * gN (smW a b c) (smL a) = c % 33 by rw [gn]; unfold smW smL; omega]
  have hi : 0 ≤ gN (smW a b c) (smL a) := by omega
  have hs := small_any a b c
  have gb : (gN (smW a b c) (smL a) == 1 + b % 200) = true := by simpa using gn
  have mb : (moreN (smW a b c) (smL a) m == gN (smW a b c) (smL a) + (c % 33 + m) / 33) = true := by simpa using hr
  clear gn hr
  generalize smW a b c = W at *
  generalize smL a = L at *
  have G := Lib.hid g
  have K := Lib.hid k
  have HS := Lib.hid hs
  clear g k hs
  go_enter Try.func7, Try.ntmps7
  go_wp2_with fail
  refine (awake_any _).mono ?_
  rintro e w1 ⟨rfl, hb1⟩
  go_wp2_with fail
  refine (HS.out _ h1 h2 h3 h4 h5 h6).mono ?_
  rintro e w2 ⟨rfl, hb2⟩
  obtain ⟨hB2, hz2⟩ := belowStep hb1 hb1.size hb2
  go_wp2_with fail
  refine (chunks_t W L _ G.out).mono ?_
  rintro e w3 ⟨rfl, hb3⟩
  have kg := ((((C2.new w2 (.int .i64 W) (.int .i64 L) 23).alloc (.cells #[.int .i64 (W + m), .int .i64 L] 23)).alloc (.cells #[.int .i64 W, .int .i64 (L + 1)] 23)).alloc (.cells #[.int .i64 (W + 33), .int .i64 L] 23)).keep hb3
  have kh := (((C2.new (w2.alloc (.cells #[.int .i64 W, .int .i64 L] 23)) (.int .i64 (W + m)) (.int .i64 L) 23).alloc (.cells #[.int .i64 W, .int .i64 (L + 1)] 23)).alloc (.cells #[.int .i64 (W + 33), .int .i64 L] 23)).keep hb3
  have ki := ((C2.new ((w2.alloc (.cells #[.int .i64 W, .int .i64 L] 23)).alloc (.cells #[.int .i64 (W + m), .int .i64 L] 23)) (.int .i64 W) (.int .i64 (L + 1)) 23).alloc (.cells #[.int .i64 (W + 33), .int .i64 L] 23)).keep hb3
  have kj := (C2.new (((w2.alloc (.cells #[.int .i64 W, .int .i64 L] 23)).alloc (.cells #[.int .i64 (W + m), .int .i64 L] 23)).alloc (.cells #[.int .i64 W, .int .i64 (L + 1)] 23)) (.int .i64 (W + 33)) (.int .i64 L) 23).keep hb3
  simp only [World.size_alloc] at kg kh ki kj
  have hB3 : Below w.heap.size w w3 := ((((hB2.alloc hz2 _).alloc (by simp; omega) _).alloc (by simp; omega) _).alloc (by simp; omega) _).trans (hb3.mono (by simp; omega))
  have hz3 : w.heap.size ≤ w3.heap.size := by have := kg.lt; omega
  obtain ⟨x0, x1⟩ := id kh
  obtain ⟨y0, y1⟩ := id ki
  obtain ⟨z0, z1⟩ := id kj
  obtain ⟨v0, v1⟩ := id kg
  go_wp2_with fail
  refine (chunks_more W L m _ G.out hW h7 h8).mono ?_
  rintro e w4 ⟨rfl, hb4⟩
  obtain ⟨hB4, hz4⟩ := belowStep hB3 hz3 hb4
  clear x0 x1 y0 y1 z0 z1 v0 v1
  obtain ⟨y0, y1⟩ := id (ki.keep hb4)
  obtain ⟨z0, z1⟩ := id (kj.keep hb4)
  obtain ⟨v0, v1⟩ := id (kg.keep hb4)
  go_wp2_with fail
  refine (chunks_f W (L + 1) _ K.out).mono ?_
  rintro e w5 ⟨rfl, hb5⟩
  obtain ⟨hB5, hz5⟩ := belowStep hB4 hz4 hb5
  clear y0 y1 z0 z1 v0 v1
  obtain ⟨z0, z1⟩ := id ((kj.keep hb4).keep hb5)
  obtain ⟨v0, v1⟩ := id ((kg.keep hb4).keep hb5)
  go_wp2_with fail
  refine (chunks_33 W L _ G.out hW).mono ?_
  rintro e w6 ⟨rfl, hb6⟩
  obtain ⟨hB6, hz6⟩ := belowStep hB5 hz5 hb6
  clear z0 z1 v0 v1
  obtain ⟨v0, v1⟩ := id (((kg.keep hb4).keep hb5).keep hb6)
  go_wp2_with fail
  refine (right_t W L _ G.out).mono ?_
  rintro e w7 ⟨rfl, hb7⟩
  obtain ⟨hB7, hz7⟩ := belowStep hB6 hz6 hb7
  go_wp2_with fail
  go_ret
  exact ⟨rfl, hB7⟩

end Go.Proofs.Ytalplklaepbaeaa
