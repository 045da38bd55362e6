/-
  Part of the proof of JournalUndo.
-/
import Derived.Test.YtkkbngcgphlikaaGreatDoorJu33
import Derived.Test.YtkkbngcgphlikaaGreatDoorJu40
import Derived.Test.YtkkbngcgphlikaaGreatDoorJu0
set_option maxRecDepth 10000
set_option maxHeartbeats 2000000
set_option linter.unusedVariables false
set_option linter.unusedSimpArgs false
namespace Go.Proofs.YtkkbngcgphlikaaGreatDoor
open Go.Lib Go.RowKit Go.ChangeShapes Go.WideShapes Go.Deep Go.Shelf
def boE (b : Bool) : List Value := [.bool b]
structure Wk where
 a : List Nat
 m : List Nat
 v : List Nat
 e : List Bool
 o : List Ox
structure WkM (w : World) (vA vM vV vE vO : Value) (k : Wk) : Prop where
 a : KL .u8 w vA k.a
 m : KL .u8 w vM k.m
 v : KL .u64 w vV k.v
 e : EL 1 boE w vE k.e
 o : OPL w vO k.o
theorem WkM.keep {w w1 : World} {vA vM vV vE vO : Value} {k : Wk} (h : WkM w vA vM vV vE vO k) (hb : Below w.heap.size w w1) : WkM w1 vA vM vV vE vO k := ⟨h.a.keep hb, h.m.keep hb, h.v.keep hb, h.e.keep hb, h.o.keep hb⟩
structure WkB (k : Wk) : Prop where
 a : ∀ x ∈ k.a, x < 256
 m : ∀ x ∈ k.m, x < 256
 v : WL k.v
 o : OVs k.o
 oi : ∀ x ∈ k.o, (-9223372036854775808 ≤ x.1 ∧ x.1 < 9223372036854775808) ∧ -9223372036854775808 ≤ x.2.1 ∧ x.2.1 < 9223372036854775808
def fewW (k : Wk) : Bool := decide (k.a.length ≤ 8) && (decide (k.m.length = k.a.length) && (decide (k.v.length = k.a.length) && (decide (k.e.length = k.a.length) && decide (k.o.length ≤ 8))))
theorem WkM.sl {w : World} {vA vM vV vE vO : Value} {k : Wk} (h : WkM w vA vM vV vE vO k) : ∃ AA cA AM cM AV cV AE cE AO cO, vA = .slice AA k.a.length cA ∧ vM = .slice AM k.m.length cM ∧ vV = .slice AV k.v.length cV ∧ vE = .slice AE k.e.length cE ∧ vO = .slice AO k.o.length cO := by
 obtain ⟨AA, cA, h1, -⟩ := h.a.form rfl
 obtain ⟨AM, cM, h2, -⟩ := h.m.form rfl
 obtain ⟨AV, cV, h3, -⟩ := h.v.form rfl
 obtain ⟨AE, cE, h4⟩ := EL.sl h.e
 obtain ⟨AO, cO, h5⟩ := EL.sl h.o
 exact ⟨AA, cA, AM, cM, AV, cV, AE, cE, AO, cO, h1, h2, h3, h4, h5⟩
theorem WkM.lenA {w : World} {A : Option Addr} {n c : Nat} {vM vV vE vO : Value} {k : Wk} (h : WkM w (.slice A n c) vM vV vE vO k) : k.a.length = n := by
 obtain ⟨A', c', h1, -⟩ := h.a.form rfl
 cases h1
 rfl
theorem WkM.lenM {w : World} {A : Option Addr} {n c : Nat} {vA vV vE vO : Value} {k : Wk} (h : WkM w vA (.slice A n c) vV vE vO k) : k.m.length = n := by
 obtain ⟨A', c', h1, -⟩ := h.m.form rfl
 cases h1
 rfl
def spM (k : Wk) (i : Nat) : Nat := 1 + k.m.getD i 0 % 6
def spA (k : Wk) (L G f i : Nat) : Nat := 10 + 73 * L + G + f * 32 + k.a.getD i 0 % (32 * (G - f) - spM k i + 1)
theorem spM_bd (k : Wk) (i : Nat) : 1 ≤ spM k i ∧ spM k i ≤ 6 := by unfold spM; omega
theorem spA_bd (k : Wk) {L G f i : Nat} (hf : f < G) : 10 + 73 * L + G + f * 32 ≤ spA k L G f i ∧ spA k L G f i + spM k i ≤ 10 + 73 * L + G + 32 * G := by
 have h1 := spM_bd k i
 have h2 : k.a.getD i 0 % (32 * (G - f) - spM k i + 1) < 32 * (G - f) - spM k i + 1 := Nat.mod_lt _ (by omega)
 unfold spA
 omega
theorem st2_at {w : World} {b : Nat} {x y x' y' : Value} {t : TypeId} (h : HB w b #[x, y] t) :
 ((w.setCell ⟨b, 0, none⟩ x').setCell ⟨b, 1, none⟩ y').cell? ⟨b, 0, none⟩ = some x' ∧ ((w.setCell ⟨b, 0, none⟩ x').setCell ⟨b, 1, none⟩ y').cell? ⟨b, 1, none⟩ = some y' := by
 have g : HB _ b #[x', y'] t := (h.setC 0 x').setC 1 y'
 exact g.c2
theorem few19 (k : Wk) (AA AM AV AE AO : Option Addr) (nA cA nM cM nV cV nE cE nO cO : Nat) (w : World) (hA : nA = k.a.length) (hM : nM = k.m.length) (hV : nV = k.v.length) (hE : nE = k.e.length) (hO : nO = k.o.length) :
 Calls Tryz.prog 11 #[.agg #[.slice AA nA cA, .slice AM nM cM, .slice AV nV cV, .slice AE nE cE, .slice AO nO cO]] w fun e w' => e = .returned (.bool (fewW k)) ∧ Below w.heap.size w w' := by
 obtain ⟨ans, hans⟩ : ∃ a, fewW k = a := ⟨_, rfl⟩
 rw [hans]
 unfold fewW at hans
 rw [← hA, ← hM, ← hV, ← hE, ← hO] at hans
 clear hA hM hV hE hO
 have hb0 := bZ w (.cells #[.slice AA nA cA, .slice AM nM cM, .slice AV nV cV, .slice AE nE cE, .slice AO nO cO] 31)
 have gS := HB.new w #[.slice AA nA cA, .slice AM nM cM, .slice AV nV cV, .slice AE nE cE, .slice AO nO cO] 31
 obtain ⟨wb1, hwb1⟩ : ∃ x, w.alloc (.cells #[.slice AA nA cA, .slice AM nM cM, .slice AV nV cV, .slice AE nE cE, .slice AO nO cO] 31) = x := ⟨_, rfl⟩
 have hswb1 : wb1.heap.size = w.heap.size + 1 := by rw [← hwb1]; simp
 rw [hwb1] at hb0 gS
 have hB : Below w.heap.size w wb1 := hb0
 clear hb0
 have p0 := (row_cell gS 0).1
 have p1 := (row_cell gS 1).1
 have p2 := (row_cell gS 2).1
 have p3 := (row_cell gS 3).1
 have p4 := (row_cell gS 4).1
 by_cases h0 : nA ≤ 8
 rotate_left
 ·have z0 : ¬ (nA : Int) ≤ 8 := by omega
  have hf := lh (show ans = false from by rw [← hans]; simp [*])
  clear hans
  go_enter Tryz.func11, Tryz.ntmps11
  subst hwb1
  go_wp2_with fail
  go_ret
  exact ⟨by rw [hf.out]; first | rfl | simp [*], hB⟩
 have z0 : (nA : Int) ≤ 8 := by omega
 by_cases h1 : nA = nM
 rotate_left
 ·have z1 : ¬ (nM : Int) = (nA : Int) := by omega
  have y1 : ¬ nM = nA := fun q => h1 q.symm
  have hf := lh (show ans = false from by rw [← hans]; simp [*])
  clear hans
  go_enter Tryz.func11, Tryz.ntmps11
  subst hwb1
  go_wp2_with fail
  go_ret
  exact ⟨by rw [hf.out]; first | rfl | simp [*], hB⟩
 subst h1
 by_cases h2 : nA = nV
 rotate_left
 ·have z2 : ¬ (nV : Int) = (nA : Int) := by omega
  have y2 : ¬ nV = nA := fun q => h2 q.symm
  have hf := lh (show ans = false from by rw [← hans]; simp [*])
  clear hans
  go_enter Tryz.func11, Tryz.ntmps11
  subst hwb1
  go_wp2_with fail
  go_ret
  exact ⟨by rw [hf.out]; first | rfl | simp [*], hB⟩
 subst h2
 by_cases h3 : nA = nE
 rotate_left
 ·have z3 : ¬ (nE : Int) = (nA : Int) := by omega
  have y3 : ¬ nE = nA := fun q => h3 q.symm
  have hf := lh (show ans = false from by rw [← hans]; simp [*])
  clear hans
  go_enter Tryz.func11, Tryz.ntmps11
  subst hwb1
  go_wp2_with fail
  go_ret
  exact ⟨by rw [hf.out]; first | rfl | simp [*], hB⟩
 subst h3
 by_cases h4 : nO ≤ 8
 ·have z4 : (nO : Int) ≤ 8 := by omega
  have hf := lh (show ans = true from by rw [← hans]; simp [*])
  clear hans
  go_enter Tryz.func11, Tryz.ntmps11
  subst hwb1
  go_wp2_with fail
  go_ret
  exact ⟨by rw [hf.out]; first | rfl | simp [*], hB⟩
 have z4 : ¬ (nO : Int) ≤ 8 := by omega
 have hf := lh (show ans = false from by rw [← hans]; simp [*])
 clear hans
 go_enter Tryz.func11, Tryz.ntmps11
 subst hwb1
 go_wp2_with fail
 go_ret
 exact ⟨by rw [hf.out]; first | rfl | simp [*], hB⟩
theorem span19 (k : Wk) (AA AM AV AE AO : Option Addr) (nA cA nM cM nV cV nE cE nO cO N L G f i : Nat) (w : World) (hM : WkM w (.slice AA nA cA) (.slice AM nM cM) (.slice AV nV cV) (.slice AE nE cE) (.slice AO nO cO) k) (hB : WkB k) (hg : gOk (N : Nat) (L : Nat) = true) (hG : gNat N L = G) (hN : N ≤ 1000) (hf : f < G) (hi : i < k.a.length) (hm : k.m.length = k.a.length) :
 Calls Tryz.prog 33 #[.agg #[.slice AA nA cA, .slice AM nM cM, .slice AV nV cV, .slice AE nE cE, .slice AO nO cO], .agg #[.int .i64 (N : Nat), .int .i64 (L : Nat)], .int .i64 (f : Nat), .int .i64 (i : Nat)] w fun e w' => e = .returned (.agg #[.int .i64 (spA k L G f i : Nat), .int .i64 (spM k i : Nat)]) ∧ Below w.heap.size w w' := by
 have hps := pool_size hg
 have hlA := hM.lenA
 have hlM := hM.lenM
 have hgN : gN (N : Nat) (L : Nat) = (G : Nat) := by rw [hps.2.2.2.2.1, hG]
 rw [hG] at hps
 have hCs := lh (fun w1 => refChunks_t (N : Nat) (L : Nat) w1 hg)
 rw [hgN] at hCs
 have hCh := lh (fun w1 => show Calls Tryz.prog 36 #[.agg #[.int .i64 (N : Nat), .int .i64 (L : Nat)], .int .i64 (f : Nat)] w1 (fun e w' => e = .returned (.agg #[.int .i64 ((10 + 73 * L + G + f * 32 : Nat) : Int), .int .i64 32]) ∧ Below w1.heap.size w1 w') from by
  have h := refChunk_yes (N : Nat) (L : Nat) (f : Nat) w1 hg (by omega) (by rw [hgN]; omega)
  unfold cFrom at h
  rw [hgN] at h
  rw [show ((10 + 73 * L + G + f * 32 : Nat) : Int) = 10 + 73 * (L : Int) + (G : Int) + (f : Int) * 32 from by omega]
  exact h)
 have hb1 : k.a.getD i 0 < 256 := hB.a _ (by rw [List.getD_eq_getElem?_getD, List.getElem?_eq_getElem hi]; exact List.getElem_mem _)
 have hb2 : k.m.getD i 0 < 256 := hB.m _ (by rw [List.getD_eq_getElem?_getD, List.getElem?_eq_getElem (by omega)]; exact List.getElem_mem _)
 obtain ⟨A9, c9, hv9, hA9⟩ := hM.a.form rfl
 rw [hlA] at hv9
 cases hv9
 obtain ⟨M9, d9, hv9, hM9⟩ := hM.m.form rfl
 rw [hlM] at hv9
 cases hv9
 obtain ⟨ga, oa, rfl, hca, hga, a0⟩ := hA9 w i (Below.refl _ _) hi
 obtain ⟨gm, om, rfl, hcm, hgm, m0⟩ := hM9 w i (Below.refl _ _) (by omega)
 have eM : spM k i = 1 + k.m.getD i 0 % 6 := rfl
 have eA : spA k L G f i = 10 + 73 * L + G + f * 32 + k.a.getD i 0 % (32 * (G - f) - spM k i + 1) := rfl
 obtain ⟨pa, hpa⟩ : ∃ x, spA k L G f i = x := ⟨_, rfl⟩
 obtain ⟨pm, hpm⟩ : ∃ x, spM k i = x := ⟨_, rfl⟩
 rw [hpa, hpm] at eA
 rw [hpm] at eM
 rw [hpa, hpm]
 obtain ⟨xa, hxa⟩ : ∃ x, k.a.getD i 0 = x := ⟨_, rfl⟩
 obtain ⟨xm, hxm⟩ : ∃ x, k.m.getD i 0 = x := ⟨_, rfl⟩
 rw [hxa] at a0 hb1 eA
 rw [hxm] at m0 hb2 eM
 obtain ⟨r6, hr6⟩ : ∃ r, xm % 6 = r := ⟨_, rfl⟩
 have l6 : r6 < 6 := by omega
 obtain ⟨T, hT⟩ : ∃ T, 32 * (G - f) - pm + 1 = T := ⟨_, rfl⟩
 have hTp : 0 < T := by omega
 have hT9 : T ≤ 2000 := by omega
 obtain ⟨rt, hrt⟩ : ∃ r, xa % T = r := ⟨_, rfl⟩
 have lt9 : rt < T := by rw [← hrt]; exact Nat.mod_lt _ hTp
 rw [hr6] at eM
 rw [hT, hrt] at eA
 have q1 : (xm : Int) % 6 = (r6 : Int) := by omega
 have q2 : (xm : Int).tmod 6 = (r6 : Int) := by rw [Int.tmod_eq_emod_of_nonneg (by omega)]; exact q1
 have q3 : (xa : Int) % (T : Int) = (rt : Int) := by rw [← hrt]; rfl
 have q4 : (xa : Int).tmod (T : Int) = (rt : Int) := by rw [Int.tmod_eq_emod_of_nonneg (by omega)]; exact q3
 have q5 : ¬ (T : Int) = 0 := by omega
 have q6 : ¬ T = 0 := by omega
 have lgf : ((G - f : Nat) : Int) = (G : Int) - (f : Int) := by omega
 obtain ⟨D, hD⟩ : ∃ D, 32 * (G - f) = D := ⟨_, rfl⟩
 have u1 : IntKind.i64.wrap ((G : Int) - (f : Int)) = (G : Int) - (f : Int) := (by rw [IntKind.wrap_i64]; omega)
 have u2 : IntKind.i64.wrap (32 * ((G : Int) - (f : Int))) = (D : Int) := (by rw [IntKind.wrap_i64]; omega)
 have u3 : IntKind.i64.wrap (1 + (r6 : Int)) = (pm : Int) := (by rw [IntKind.wrap_i64]; omega)
 have u3b : 1 + (r6 : Int) = (pm : Int) := by omega
 have u4 : IntKind.i64.wrap ((D : Int) - (pm : Int)) = (D : Int) - (pm : Int) := (by rw [IntKind.wrap_i64]; omega)
 have u5 : IntKind.i64.wrap ((D : Int) - (pm : Int) + 1) = (T : Int) := (by rw [IntKind.wrap_i64]; omega)
 obtain ⟨F0, hF0⟩ : ∃ F, 10 + 73 * L + G + f * 32 = F := ⟨_, rfl⟩
 rw [hF0] at hCh eA
 have u6 : IntKind.i64.wrap ((F0 : Int) + (rt : Int)) = (pa : Int) := (by rw [IntKind.wrap_i64]; omega)
 have u7 : IntKind.i64.wrap ((xa : Nat) : Int) = ((xa : Nat) : Int) := (by rw [IntKind.wrap_i64]; omega)
 have lF9 : F0 ≤ 100000 := by omega
 have lp9 : pm ≤ 6 := by omega
 have lD9 : D ≤ 1000 := by omega
 replace hpa := lh hpa
 replace hpm := lh hpm
 replace hxa := lh hxa
 replace hxm := lh hxm
 replace hr6 := lh hr6
 replace hT := lh hT
 replace hrt := lh hrt
 replace eM := lh eM
 replace eA := lh eA
 replace hD := lh hD
 replace hF0 := lh hF0
 replace lgf := lh lgf
 have hlt : (i : Int) < (nA : Int) := by omega
 have hlt2 : (i : Int) < (nM : Int) := by omega
 clear hA9 hM9 hps hgN hM hB hg hG hi hm hlA hlM
 have hb0 := bZ w (.cells #[.slice (some ⟨ga, oa, none⟩) nA cA, .slice (some ⟨gm, om, none⟩) nM cM, .slice AV nV cV, .slice AE nE cE, .slice AO nO cO] 31)
 have gS := HB.new w #[.slice (some ⟨ga, oa, none⟩) nA cA, .slice (some ⟨gm, om, none⟩) nM cM, .slice AV nV cV, .slice AE nE cE, .slice AO nO cO] 31
 obtain ⟨wb1, hwb1⟩ : ∃ x, w.alloc (.cells #[.slice (some ⟨ga, oa, none⟩) nA cA, .slice (some ⟨gm, om, none⟩) nM cM, .slice AV nV cV, .slice AE nE cE, .slice AO nO cO] 31) = x := ⟨_, rfl⟩
 have hswb1 : wb1.heap.size = w.heap.size + 1 := by rw [← hwb1]; simp
 rw [hwb1] at hb0 gS
 have hB : Below w.heap.size w wb1 := hb0
 clear hb0
 obtain ⟨C, hC⟩ : ∃ C, w.heap.size = C := ⟨_, rfl⟩
 rw [hC] at gS hswb1
 have hb1' := bZ wb1 (.cells #[.int .i64 (N : Nat), .int .i64 (L : Nat)] 37)
 have gG := HB.new wb1 #[.int .i64 (N : Nat), .int .i64 (L : Nat)] 37
 obtain ⟨wb2, hwb2⟩ : ∃ x, wb1.alloc (.cells #[.int .i64 (N : Nat), .int .i64 (L : Nat)] 37) = x := ⟨_, rfl⟩
 have hswb2 : wb2.heap.size = C + 2 := by rw [← hwb2]; simp; omega
 rw [hwb2] at hb1' gG
 rw [hswb1] at gG
 have gS2 := gS.keep hb1'
 have hB2 := hB.trans (hb1'.mono hB.size)
 have hb2' := bZ wb2 (.cells #[.int .i64 0, .int .i64 0] 70)
 have gZ := HB.new wb2 #[.int .i64 0, .int .i64 0] 70
 obtain ⟨wb3, hwb3⟩ : ∃ x, wb2.alloc (.cells #[.int .i64 0, .int .i64 0] 70) = x := ⟨_, rfl⟩
 have hswb3 : wb3.heap.size = C + 3 := by rw [← hwb3]; simp; omega
 rw [hwb3] at hb2' gZ
 rw [hswb2] at gZ
 have gS3 := gS2.keep hb2'
 have gG3 := gG.keep hb2'
 have hB3 := hB2.trans (hb2'.mono hB2.size)
 obtain ⟨g0, g1⟩ := gG3.c2
 clear hb1' hb2' hB hB2 gS gS2 gG
 go_enter Tryz.func33, Tryz.ntmps33
 subst hwb3
 subst hwb2
 subst hwb1
 go_wp2_with fail
 refine (hCs.out _).mono ?_
 rintro e w1 ⟨rfl, hb1⟩
 have hB4 := hB3.trans (hb1.mono hB3.size)
 have gS4 := gS3.keep hb1
 have gG4 := gG3.keep hb1
 have gZ4 := gZ.keep hb1
 have p1 := (row_cell gS4 1).1
 have hlw := hB3.size
 have m1 : w1.cell? ⟨gm, om + i, none⟩ = some (.int .u8 (xm : Nat)) := by rw [((bcell hB4).1 _ _ hgm)]; exact m0
 clear hCs hB3 gS3 gG3 gZ hb1 g0 g1 m0
 have e8 := bZ w1 (.cells #[.int .i64 0, .int .i64 (pm : Nat)] (70 : Nat))
 have gP := HB.new w1 #[.int .i64 0, .int .i64 (pm : Nat)] (70 : Nat)
 obtain ⟨w2, hw2⟩ : ∃ x, w1.alloc (.cells #[.int .i64 0, .int .i64 (pm : Nat)] (70 : Nat)) = x := ⟨_, rfl⟩
 obtain ⟨Cb, hCb⟩ : ∃ c, w1.heap.size = c := ⟨_, rfl⟩
 rw [hw2] at e8 gP
 rw [hCb] at gP
 have hB5 := hB4.trans (e8.mono hB4.size)
 have gS5 := gS4.keep e8
 have gG5 := gG4.keep e8
 have gZ5 := gZ4.keep e8
 have hCbw : w.heap.size ≤ Cb := by have := hB4.size; omega
 have hCC : C + 2 < Cb := by have := gZ4.lt; omega
 have a2 : w2.cell? ⟨ga, oa + i, none⟩ = some (.int .u8 (xa : Nat)) := by rw [(bcell hB5).1 _ _ hga]; exact a0
 have hga2 : ga < w2.heap.size := by have := hB5.size; omega
 have hCF := lh (fun w' (hb : Below w2.heap.size w2 w') => show (w'.cell? ⟨C + 1, 0, none⟩ = some (.int .i64 (N : Nat)) ∧ w'.cell? ⟨C + 1, 1, none⟩ = some (.int .i64 (L : Nat))) ∧ w'.cell? ⟨C, 0, none⟩ = some (.slice (some ⟨ga, oa, none⟩) nA cA) ∧ w'.cell? ⟨ga, oa + i, none⟩ = some (.int .u8 (xa : Nat)) ∧ (w'.cell? ⟨Cb, 0, none⟩ = some (.int .i64 0) ∧ w'.frozen? ⟨Cb, 0, none⟩ = false) ∧ w'.cell? ⟨Cb, 1, none⟩ = some (.int .i64 (pm : Nat)) from
  ⟨(gG5.keep hb).c2, (row_cell (gS5.keep hb) 0).1, by rw [(bcell hb).1 _ _ hga2]; exact a2, row_cell (gP.keep hb) 0, (row_cell (gP.keep hb) 1).1⟩)
 clear a0 gG4 gS4 gZ4 gS5 gG5 hB4
 have hfd := fun w => fieldS (.int .i64 (F0 : Nat)) (.int .i64 32) w
 go_wp2_with fail
 try rw [hw2]
 refine wp_region_tail (S := (fun w' => Below w2.heap.size w2 w')) (n := 18) (by kernel_rfl) (Below.refl _ _).drew (fun hHeld hInv => ?_) (by decide)
 refine takeHS 0 hInv ?_; clear hInv; intro hInv
 refine takeHS 1 hInv ?_; clear hInv; intro hInv
 refine takeHS 4 hInv ?_; clear hInv; intro hInv
 refine takeHS 5 hInv ?_; clear hInv; intro hInv
 refine takeHS 6 hInv ?_; clear hInv; intro hInv
 refine takeHS 7 hInv ?_; clear hInv; intro hInv
 refine takeHS 8 hInv ?_; clear hInv; intro hInv
 refine takeHS 9 hInv ?_; clear hInv; intro hInv
 refine takeHS 10 hInv ?_; clear hInv; intro hInv
 refine takeHS 11 hInv ?_; clear hInv; intro hInv
 refine takeHS 12 hInv ?_; clear hInv; intro hInv
 refine takeHS 13 hInv ?_; clear hInv; intro hInv
 refine takeHS 14 hInv ?_; clear hInv; intro hInv
 refine takeHS 15 hInv ?_; clear hInv; intro hInv
 refine oneS 2 hInv (by decide) rfl (by kernel_rfl) (fun K hK => ?_)
 go_simp
 refine (hCh.out _).mono ?_
 rintro e w9 ⟨rfl, hb⟩
 refine hK.out _ _ (hHeld.trans (hb.mono hHeld.size)) (fun hHeld2 hInv2 => ?_)
 clear hK K hHeld hInv
 have hHeld := hHeld2
 have hInv := hInv2
 clear hHeld2 hInv2
 try simp only [Act.put,sA,sB,sC] at hInv ⊢
 refine takeHS 3 hInv ?_; clear hInv; intro hInv
 refine takeHS 16 hInv ?_; clear hInv; intro hInv
 refine takeHS 17 hInv ?_; clear hInv; intro hInv
 refine lastS 18 rfl (by decide) (by kernel_rfl) (fun K hK => ?_)
 have zz := hCF.out _ hHeld
 obtain ⟨⟨v0, v1⟩, v2, v3, ⟨v4, v5⟩, v6⟩ := zz
 go_simp
 refine hK.out _ _ ?_
 clear hK K
 try simp only [Act.put,sA,sB,sC]
 refine wpAnyS_done (by kernel_rfl) ?_ _
 have gP9 := (gP.keep hHeld).setC 0 (.int .i64 (pa : Nat))
 have gZ9 : HB (w9.setCell ⟨Cb, 0, none⟩ (.int .i64 (pa : Nat))) (C + 2) #[.int .i64 0, .int .i64 0] 70 := (heap_setCell_other w9 ⟨Cb, 0, none⟩ (C + 2) _ (by simp only []; omega)).trans (gZ5.keep hHeld)
 have hB9 := (hB5.trans (hHeld.mono hB5.size)).setCell (p := ⟨Cb, 0, none⟩) hCbw (.int .i64 (pa : Nat))
 obtain ⟨W, hW⟩ : ∃ x, w9.setCell ⟨Cb, 0, none⟩ (.int .i64 (pa : Nat)) = x := ⟨_, rfl⟩
 rw [hW] at gP9 gZ9 hB9 ⊢
 obtain ⟨d0, d1⟩ := st2_at (x' := .int .i64 (pa : Nat)) (y' := .int .i64 (pm : Nat)) gZ9
 obtain ⟨a0, b0⟩ := row_cell gZ9 0
 obtain ⟨a1, b1⟩ := row_cell gZ9 1
 obtain ⟨z0, z1⟩ := gP9.c2
 have hBe := (hB9.setCell (p := ⟨C + 2, 0, none⟩) (by simp only []; omega) (.int .i64 (pa : Nat))).setCell (p := ⟨C + 2, 1, none⟩) (by simp only []; omega) (.int .i64 (pm : Nat))
 clear hCF hInv hHeld gP gZ5 hB5 hB9 gP9 gZ9 hW v0 v1 v2 v3 v4 v5 v6 m1 p1
 go_wp2_with fail
 refine bodyPost_ret (v := .agg #[.int .i64 (pa : Nat), .int .i64 (pm : Nat)]) (by simp [results, Tryz.results33, go_sem, d0, d1]) rfl ⟨rfl, hBe⟩
end Go.Proofs.YtkkbngcgphlikaaGreatDoor
