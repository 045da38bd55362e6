/-
  Part of the proof of MendWhole.
-/
import Derived.Test.YtkdhdibjbabgfaaGreatDoorVw15
import Derived.Test.YtkdhdibjbabgfaaGreatDoorVw30
import Derived.Test.YtkdhdibjbabgfaaGreatDoorVw5
import Derived.Test.YtkdhdibjbabgfaaGreatDoorVw0
set_option maxRecDepth 10000
set_option maxHeartbeats 1000000
set_option linter.unusedVariables false
set_option linter.unusedSimpArgs false
section
namespace Go.Proofs.YtkdhdibjbabgfaaGreatDoor
open Go.RowKit
def pwI (i : Nat) : Int := ((2 ^ i : Nat) : Int)
theorem refPower10 (i : Nat) (w : World) (hi : i < 64) : Calls Tryz.prog 118 #[.int .i64 i] w fun e w' => e = .returned (.int .u64 (pwI i)) ∧ w = w' := by
 go_enter Tryz.func118, Tryz.ntmps118
 go_wp2
 go_loop [3, 4] (fun v k => ∃ j : Nat, j ≤ i ∧ k = .int .i64 j ∧ v = .int .u64 ((2 ^ j : Nat) : Int)) (fun _ k => 65 - (intOf k).toNat)
 case atStart => exact ⟨0, by omega, rfl, by simp⟩
 case round =>
  obtain ⟨j, hj, rfl, rfl⟩ := hrel
  have hp := pow_lt64 (k := j) (by omega)
  have hps : 2 * 2 ^ j = 2 ^ (j + 1) := by rw [Nat.pow_succ, Nat.mul_comm]
  by_cases hlt : (j : Int) < i
  ·have hp2 := pow_lt64 (k := j + 1) (by omega)
   rw [← hps] at hp2
   generalize hy : 2 ^ j = y at *
   have HD := lh hps
   clear hps hy
   go_wp2
   go_round
   case rel => exact ⟨j + 1, by omega, by go_num, by rw [← HD.out]; go_num⟩
   case measure => simp [intOf]; omega
  ·obtain rfl : j = i := by omega
   clear hps hp
   have HP : Hid (pwI j = ((2 ^ j : Nat) : Int)) := rfl
   generalize 2 ^ j = y at *
   go_wp2
   go_ret
   exact ⟨by rw [HP.out]; rfl, rfl⟩
end Go.Proofs.YtkdhdibjbabgfaaGreatDoor
end
section
namespace Go.Proofs.YtkdhdibjbabgfaaGreatDoor
open Go.RowKit
def FB (x : Sp) : Prop := 0 ≤ x.1 ∧ x.1 ≤ 1099511627776 ∧ 0 ≤ x.2 ∧ x.2 ≤ 40
instance (x : Sp) : Decidable (FB x) := by unfold FB; infer_instance
theorem PL.lit (w : World) (l : List Sp) (hl : l.length ≤ 1000) : PL (w.alloc (.cells (spv l).toArray (51 : Nat))) (.slice (some ⟨w.heap.size, 0, none⟩) l.length l.length) l := by
 have := World.ownsRow_lit (base := w.heap.size) (e := 51) (size := 2) w (spv l).toArray l.length (Nat.le_refl _) (by unfold maxLen; omega) (by simp [spv_len])
 exact OwnSp.pl (base := w.heap.size) this
end Go.Proofs.YtkdhdibjbabgfaaGreatDoor
end
section
namespace Go.Proofs.YtkdhdibjbabgfaaGreatDoor
open Go.RowKit Go.ChangeShapes Go.WideShapes Go.Deep
theorem refRight_any (a : Int) (A : Option Addr) (m cap : Nat) (w : World) : Calls Tryz.prog 60 #[.agg #[.int .i64 a, .slice A m cap]] w fun e w' => e = .returned (.bool (canB a m)) ∧ Below w.heap.size w w' := by
 unfold canB
 have hb0 : Below w.heap.size w (w.alloc (.cells #[.int .i64 a, .slice A m cap] (64 : Nat))) := bZ _ _
 by_cases k1 : 0 ≤ a
 ·by_cases k2 : a < 65536
  ·replace k2 : a ≤ 65535 := by omega
   by_cases k3 : 0 < m
   ·have k3' : (0 : Int) < (m : Int) := by omega
    by_cases k4 : m ≤ 4096
    ·have k4' : (m : Int) ≤ 4096 := by omega
     rw [decide_eq_true k1, decide_eq_true (show a < 65536 by omega), decide_eq_true (show (1 : Int) ≤ m by omega), decide_eq_true (show (m : Int) ≤ 4096 by omega)]
     go_enter Tryz.func60, Tryz.ntmps60
     go_wp2_with fail
     go_ret
     exact ⟨ret_b (by simp; try omega), hb0⟩
    ·have k4' : (4096 : Int) < (m : Int) := by omega
     rw [decide_eq_true k1, decide_eq_true (show a < 65536 by omega), decide_eq_true (show (1 : Int) ≤ m by omega), decide_eq_false (show ¬ (m : Int) ≤ 4096 by omega)]
     go_enter Tryz.func60, Tryz.ntmps60
     go_wp2_with fail
     go_ret
     exact ⟨ret_b (by simp; try omega), hb0⟩
   ·obtain rfl : m = 0 := by omega
    rw [decide_eq_true k1, decide_eq_true (show a < 65536 by omega), decide_eq_false (show ¬ (1 : Int) ≤ ((0 : Nat) : Int) by omega)]
    go_enter Tryz.func60, Tryz.ntmps60
    go_wp2_with fail
    go_ret
    exact ⟨ret_b (by simp; try omega), hb0⟩
  ·replace k2 : 65535 < a := by omega
   rw [decide_eq_true k1, decide_eq_false (show ¬ a < 65536 by omega)]
   go_enter Tryz.func60, Tryz.ntmps60
   go_wp2_with fail
   go_ret
   exact ⟨ret_b (by simp; try omega), hb0⟩
 ·rw [decide_eq_false k1]
  replace k1 : a < 0 := by omega
  go_enter Tryz.func60, Tryz.ntmps60
  go_wp2_with fail
  go_ret
  exact ⟨ret_b (by simp; try omega), hb0⟩
theorem refEncode_no (gn : Int) (a : Int) (A : Option Addr) (m cap : Nat) (w : World) (hr : canB a m = false) :
 Calls Tryz.prog 30 #[.int .u64 gn, .agg #[.int .i64 a, .slice A m cap]] w fun e w' => e = .returned (.tuple #[.slice none 0 0, .int .i64 1]) ∧ Below w.heap.size w w' := by
 have hb0 : Below w.heap.size w (w.alloc (.cells #[.int .i64 a, .slice A m cap] (64 : Nat))) := bZ _ _
 have hC := lh (fun w => refRight_any a A m cap w)
 rw [hr] at hC
 clear hr
 go_enter Tryz.func30, Tryz.ntmps30
 go_wp2_with (go_at_call 60; refine (hC.out _).mono ?_; rintro e w1 ⟨rfl, hb⟩)
 go_ret2
 exact ⟨rfl, hb0.trans (hb.mono (by simp))⟩
theorem refEncode_yes (gn : Nat) (x : Ex) (w : World) (hg : gn < 18446744073709551616) (hx : KL .u64 w x.2.1 x.2.2) (hl : WL x.2.2) (hlen : x.2.2.length ≤ 800) (hr : rightB x = true) :
 Calls Tryz.prog 30 #[.int .u64 (gn : Nat), eV x] w fun e w' => ∃ v, e = .returned (.tuple #[v, .int .i64 0]) ∧ KL .u64 w' v (encW gn x.1.toNat x.2.2) ∧ Below w.heap.size w w' := by
 obtain ⟨a, v, l⟩ := x
 obtain ⟨A, cap, hv, _⟩ := hx.form rfl
 simp only [] at hv
 subst hv
 have hrr := canB_iff.1 hr
 simp only [] at hrr hlen hl
 obtain ⟨a, rfl⟩ := Int.eq_ofNat_of_zero_le hrr.1
 obtain ⟨i0, hi, hz0, hz1, hz2⟩ := info_parts infoU64
 have hb0 : Below w.heap.size w (w.alloc (.cells #[.int .i64 (a : Nat), .slice A l.length cap] (64 : Nat))) := bZ _ _
 have hC := refRight_any (a : Int) A l.length cap (w.alloc (.cells #[.int .i64 (a : Nat), .slice A l.length cap] (64 : Nat)))
 rw [show canB (a : Int) (l.length : Nat) = true from hr] at hC
 have kk := World.alloc_heap_new w (.cells #[.int .i64 (a : Nat), .slice A l.length cap] (64 : Nat))
 obtain ⟨n, hn⟩ : ∃ n, l.length = n := ⟨_, rfl⟩
 obtain ⟨f, hf⟩ : ∃ f, firstW gn a n = f := ⟨_, rfl⟩
 obtain ⟨q, hq⟩ : ∃ q, gn % 65536 = q := ⟨_, rfl⟩
 have hq2 : q < 65536 := by rw [← hq]; exact Nat.mod_lt _ (by decide)
 have hfl := firstW_lt gn a n (by omega) (by omega)
 have hE := lh (show encW gn ((a : Nat) : Int).toNat l = (f :: l) ++ [moreN 0 (f :: l)] from by unfold encW; rw [Int.toNat_natCast, hn, hf])
 have hWL : Hid (WL (f :: l)) := fun y hy => by
  rcases List.mem_cons.1 hy with rfl | hy
  ·rw [← hf]; exact hfl
  ·exact hl y hy
 have fa : IntKind.u64.wrap (a : Int) = (a : Int) := by rw [IntKind.wrap_u64]; omega
 have fn : IntKind.u64.wrap (n : Int) = (n : Int) := by rw [IntKind.wrap_u64]; omega
 have f1 : IntKind.u64.wrap (1048576 * (n : Int)) = 1048576 * (n : Int) := by rw [IntKind.wrap_u64]; omega
 have f2 : IntKind.u64.wrap ((a : Int) + 1048576 * (n : Int)) = (a : Int) + 1048576 * (n : Int) := by rw [IntKind.wrap_u64]; omega
 have fg : IntKind.u64.wrap (gn : Int) = (gn : Int) := by rw [IntKind.wrap_u64]; omega
 have f3 : (gn : Int) % 65536 = (q : Int) := by omega
 have f3' : (gn : Int).tmod 65536 = (q : Int) := by rw [Int.tmod_eq_emod_of_nonneg (by omega)]; omega
 have f4 : IntKind.u64.wrap (281474976710656 * (q : Int)) = 281474976710656 * (q : Int) := by rw [IntKind.wrap_u64]; omega
 have f5 : IntKind.u64.wrap ((a : Int) + 1048576 * (n : Int) + 281474976710656 * (q : Int)) = (f : Int) := by
  rw [IntKind.wrap_u64, ← hf]
  unfold firstW
  rw [hq]
  omega
 simp only [hn, eV, eE] at hC kk hb0 ⊢
 have hn800 : n ≤ 800 := by omega
 have hnh := lh hn
 have hxh : Hid (KL .u64 w (.slice A n cap) l) := by
  have q : KL .u64 w (.slice A l.length cap) l := hx
  rw [hn] at q
  exact q
 have hmn := moreN_lt 0 (f :: l)
 have fm : IntKind.u64.wrap ((moreN 0 (f :: l) : Nat) : Int) = ((moreN 0 (f :: l) : Nat) : Int) := by rw [IntKind.wrap_u64]; omega
 clear hx hr hrr hlen hl hn hf hfl hq
 go_enter Tryz.func30, Tryz.ntmps30
 go_wp2_with (first
  | (go_at_call 60; refine hC.mono ?_; rintro e w1 ⟨rfl, hb⟩; clear hC
     have hb1 := hb0.trans (hb.mono (by simp))
     have k0 : w1.heap[w.heap.size]? = some (.cells #[.int .i64 (a : Nat), .slice A n cap] (64 : Nat) (0, 0)) := (hb.block _ (by simp)).trans kk
     have hs1 : w.heap.size < w1.heap.size := (Array.getElem?_eq_some_iff.1 k0).1
     obtain ⟨p1, z1⟩ := row_cell k0 1
     obtain ⟨p0, z0⟩ := row_cell k0 0
     have hb2 : Below w1.heap.size w1 (w1.alloc (.cells #[.int .u64 (f : Nat)] (25 : Nat))) := bZ _ _
     have hO2 : OwnU (w1.alloc (.cells #[.int .u64 (f : Nat)] (25 : Nat))) w1.heap.size (.slice (some ⟨w1.heap.size, 0, none⟩) 1 1) [f] := World.ownsRow_lit (base := w1.heap.size) (e := 25) (size := 1) w1 #[.int .u64 (f : Nat)] 1 (Nat.le_refl _) (by unfold maxLen; omega) rfl
     obtain ⟨v4, w4, hr4, hO4, hb4⟩ := appW hO2 ((hxh.out.keep hb1).keep hb2) hb2.size (by simp) (by show l.length ≤ 1000000; rw [hnh.out]; omega)
     have hs1w : w.heap.size ≤ w1.heap.size := hb1.size
     have hb4w := lh (hb1.trans ((hb2.trans hb4).mono hb1.size))
     have hOf := refOf_any v4 (f :: l) w4 hWL.out (by rw [List.length_cons, hnh.out]; omega) hO4.kl.sl
     have hO4h := lh hO4
     have hs4 : w1.heap.size ≤ w4.heap.size := (hb2.trans hb4).size
     obtain ⟨A4, c4, hv4, _⟩ := hO4.form
     rw [show ([f] ++ l).length = n + 1 from by rw [List.length_append, hnh.out]; simp; omega] at hv4
     subst hv4
     clear hb hb0 kk hb1 hb2 hO2 hO4 hb4)
  | (at_builtin; refine wpList_append_run rfl _ _ 23 rfl _ _ _ rfl rfl hr4 ?_; clear hr4)
  | (go_at_call 36; refine hOf.mono ?_; rintro e w5 ⟨rfl, hb5⟩; clear hOf
     have hb6 : Below w5.heap.size w5 (w5.alloc (.cells #[.int .u64 ((moreN 0 (f :: l) : Nat) : Int)] (25 : Nat))) := bZ _ _
     obtain ⟨v7, w7, hr7, hO7, hb7⟩ := appW ((hO4h.out.keep hb5).keep hb6) (KL.one w5 (moreN 0 (f :: l)) 25) (Nat.le_trans hs4 (Nat.le_trans hb5.size hb6.size)) (by show ([f] ++ l).length ≤ 1000000; rw [List.length_append, hnh.out]; simp; omega) (by simp)
     have hK7 := lh hO7.kl
     have hb7w := lh (hb4w.out.trans ((hb5.mono hb4w.out.size).trans ((hb6.mono (Nat.le_trans hb4w.out.size hb5.size)).trans (hb7.mono hs1w))))
     obtain ⟨A7, c7, hv7, _⟩ := hO7.form
     rw [show ([f] ++ l ++ [moreN 0 (f :: l)]).length = n + 2 from by simp only [List.length_append, hnh.out, List.length_singleton]; omega] at hv7
     subst hv7
     clear hb5 hb6 hO7 hb7)
  | (at_builtin; refine wpList_append_run rfl _ _ 23 rfl _ _ _ rfl rfl hr7 ?_; clear hr7))
 go_ret2
 exact ⟨_, rfl, by rw [hE.out]; exact hK7.out, hb7w.out⟩
end Go.Proofs.YtkdhdibjbabgfaaGreatDoor
end
section
namespace Go.Proofs.YtkdhdibjbabgfaaGreatDoor
open Go.RowKit
theorem refTable_t (W L : Int) (w : World) (h : gOk W L = true) :
 Calls Tryz.prog 28 #[.agg #[.int .i64 W, .int .i64 L]] w fun e w' => e = .returned (.agg #[.int .i64 (10 + 73 * L), .int .i64 (gN W L)]) ∧ Below w.heap.size w w' := by
 obtain ⟨h1, h2, _, _⟩ := gOk_t h
 have H := lh h
 clear h
 go_enter Tryz.func28, Tryz.ntmps28
 go_wp2_with fail
 refine (refRight_t W L _ H.out).mono ?_
 rintro e w1 ⟨rfl, hb⟩
 have k1 := (C2.new (w.alloc (.cells #[.int .i64 W, .int .i64 L] 33)) (.int .i64 0) (.int .i64 0) 51).keep hb
 have j1 := ((C2.new w (.int .i64 W) (.int .i64 L) 33).alloc (.cells #[.int .i64 0, .int .i64 0] 51)).keep hb
 have f1 := (F2.new (w.alloc (.cells #[.int .i64 W, .int .i64 L] 33)) (.int .i64 0) (.int .i64 0) 51).keep (by simp) hb
 simp only [World.size_alloc] at k1 f1
 have hB : Below w.heap.size w w1 := ((bZ _ _).alloc (by simp) _).trans (hb.mono (by simp; omega))
 have lt1 := k1.lt
 obtain ⟨c0, c1⟩ := id k1
 obtain ⟨d0, d1⟩ := id j1
 obtain ⟨g0, g1⟩ := id f1
 go_wp2_with fail
 have e1 : IntKind.i64.wrap (73 * L) = 73 * L := IntWalk.i64_in _ ⟨by omega, by omega⟩
 have e2 : IntKind.i64.wrap (10 + 73 * L) = 10 + 73 * L := IntWalk.i64_in _ ⟨by omega, by omega⟩
 go_region_with (first
  | (go_at_call 57; refine (refChunks_t W L _ H.out).mono ?_; rintro e w6 ⟨rfl, hb⟩; have BB : Below w.heap.size w w6 := hB.drew.trans (hb.mono (Nat.le_of_lt j1.drew.lt)); have jj : C2 w6 w.heap.size (.int .i64 W) (.int .i64 L) := j1.drew.keep hb; have kk : C2 w6 (w.heap.size + 1) (.int .i64 0) (.int .i64 0) := k1.drew.keep hb; have ff : F2 w6 (w.heap.size + 1) := f1.drew.keep k1.drew.lt hb; obtain ⟨d0, d1⟩ := id jj; obtain ⟨c0, c1⟩ := id kk; obtain ⟨g0, g1⟩ := id ff))
 all_goals
  go_wp2_with fail
  refine bodyPost_ret (v := .agg #[.int .i64 (10 + 73 * L), .int .i64 (gN W L)]) (by simp [results, Tryz.results28, go_sem, c0, c1]) rfl ⟨rfl, ?_⟩
  exact (BB.setCell (by simp) _).setCell (by simp) _
theorem refChunk_yes (W L i : Int) (w : World) (h : gOk W L = true) (hi : 0 ≤ i) (hi2 : i < gN W L) :
 Calls Tryz.prog 48 #[.agg #[.int .i64 W, .int .i64 L], .int .i64 i] w fun e w' => e = .returned (.agg #[.int .i64 (cFrom W L i), .int .i64 32]) ∧ Below w.heap.size w w' := by
 obtain ⟨n1, n2, n3, n4⟩ := gN_bd h
 obtain ⟨h1, h2, h3, h4⟩ := gOk_t h
 have H := lh h
 clear h
 go_enter Tryz.func48, Tryz.ntmps48
 go_wp2_with fail
 refine (refChunks_t W L _ H.out).mono ?_
 rintro e w1 ⟨rfl, hb⟩
 have k1 := (C2.new (w.alloc (.cells #[.int .i64 W, .int .i64 L] 33)) (.int .i64 0) (.int .i64 0) 51).keep hb
 have j1 := ((C2.new w (.int .i64 W) (.int .i64 L) 33).alloc (.cells #[.int .i64 0, .int .i64 0] 51)).keep hb
 have f1 := (F2.new (w.alloc (.cells #[.int .i64 W, .int .i64 L] 33)) (.int .i64 0) (.int .i64 0) 51).keep (by simp) hb
 simp only [World.size_alloc] at k1 f1
 have hB : Below w.heap.size w w1 := ((bZ _ _).alloc (by simp) _).trans (hb.mono (by simp; omega))
 have lt1 := k1.lt
 obtain ⟨c0, c1⟩ := id k1
 obtain ⟨d0, d1⟩ := id j1
 obtain ⟨g0, g1⟩ := id f1
 go_wp2_with fail
 refine bodyPost_ret (v := .agg #[.int .i64 (cFrom W L i), .int .i64 32]) (by simp [results, Tryz.results48, go_sem, c0, c1, cFrom]; omega) rfl ⟨rfl, ?_⟩
 go_grown
end Go.Proofs.YtkdhdibjbabgfaaGreatDoor
end
