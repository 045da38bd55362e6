/-
  Part of the proof of MendTouches.
-/
import Derived.Test.YtkdhdibjbabgfaaGreatDoorVt40
import Derived.Test.YtkdhdibjbabgfaaGreatDoorVt42
import Derived.Test.YtkdhdibjbabgfaaGreatDoorVt43
import Derived.Test.YtkdhdibjbabgfaaGreatDoorVt44
import Derived.Test.YtkdhdibjbabgfaaGreatDoorVt45
import Derived.Test.YtkdhdibjbabgfaaGreatDoorVt48
import Derived.Test.YtkdhdibjbabgfaaGreatDoorVt49
import Derived.Test.YtkdhdibjbabgfaaGreatDoorVt7
import Derived.Test.YtkdhdibjbabgfaaGreatDoorVt0
set_option maxRecDepth 10000
set_option maxHeartbeats 1000000
set_option linter.unusedVariables false
set_option linter.unusedSimpArgs false
section
namespace Go.Proofs.YtkdhdibjbabgfaaGreatDoor
open Go.Lib Go.RowKit Go.ChangeShapes Go.WideShapes Go.Deep Go.Shelf
def p1 : Gv := { a := 0, b := 0, tiles := [], fill := [], items := [(0, 2, 0, [], [(0, 8, 5)])], root := 0, epoch := 0, spoil := [] }
theorem p1_len : (makeL p1).length = 116 := by decide +kernel
theorem p1_m : (mendD (makeL p1)).isSome = true := by decide +kernel
theorem p1_g : ((mendD (makeL p1)).getD []).getD 8 0 = 5 ∧ ((mendD (makeL p1)).getD []).getD 10 0 = 0 ∧ (makeL p1).getD 8 0 = 0 ∧ ((mendD (makeL p1)).getD []).length = 116 := by decide +kernel
theorem p1_l : laneP (makeL p1) 116 1 0 = some [(0, 8, 5)] := by decide +kernel
theorem p1_o : (logP (makeL p1) 116 1 0).length = 1 := by decide +kernel
theorem p1_p : poolB (makeL p1) = true → gNat (makeL p1).length ((makeL p1).getD 3 0) ≤ 40 := fun _ => by decide +kernel
theorem p1_B : GvB p1 := by
 refine ⟨by decide, by decide, fun x h => (by cases h), fun x h => (by cases h), fun x h => ?_, by decide, by decide, fun x h => (by cases h)⟩
 rw [show p1.items = [(0, 2, 0, [], [(0, 8, 5)])] from rfl, List.mem_singleton] at h
 subst h
 refine ⟨by decide, by decide, by decide, fun e h => (by cases h), fun o h => ?_⟩
 rw [List.mem_singleton] at h
 subst h
 decide
theorem p1_W : WL (makeL p1) := makeL_WL p1_B (by decide +kernel)
theorem EL.one {α : Type} [Inhabited α] {sz : Nat} {en : α → List Value} {w : World} {b : Nat} {x : α} (hb : b < w.heap.size) (h : ∀ j, j < sz → w.cell? ⟨b, j, none⟩ = (en x)[j]?) : EL sz en w (.slice (some ⟨b, 0, none⟩) 1 1) [x] :=
 ⟨some ⟨b, 0, none⟩, 1, rfl, fun _ => ⟨b, 0, rfl, hb, Nat.le_refl _, fun i hi j hj => by
   obtain rfl : i = 0 := by simp at hi; omega
   rw [Nat.zero_mul, Nat.zero_add]
   exact h j hj⟩⟩
theorem p1_few : fewB p1 = true := by decide
theorem p1_v (vI : Value) : gvV p1 (.slice none 0 0) (.slice none 0 0) vI (.slice none 0 0) = .agg #[.int .u8 0, .int .u8 0, .slice none 0 0, .slice none 0 0, vI, .int .u64 0, .int .u64 0, .slice none 0 0] := rfl
theorem p1_M {w : World} {vI vO : Value} (hI : EL 5 eIt w vI [(0, 2, 0, (.slice none 0 0, []), (vO, [(0, 8, 5)]))]) (hO : OPL w vO [(0, 8, 5)]) : GvM w (.slice none 0 0) (.slice none 0 0) vI (.slice none 0 0) [(0, 2, 0, (.slice none 0 0, []), (vO, [(0, 8, 5)]))] p1 :=
 ⟨⟨none, 0, rfl, fun h => by simp [p1] at h⟩, KL.nil _ _ _, hI, fun x hx => (by rw [List.mem_singleton] at hx; subst hx; exact EN.nil _), fun x hx => (by rw [List.mem_singleton] at hx; subst hx; exact hO), rfl, EL.nil _ _ _ _ _⟩
theorem one_any (w : World) (hw : Lw w) : Calls Tryz.prog 25 #[] w fun e w' => ∃ v', e = .returned v' ∧ OwnU w' w.heap.size v' (makeL p1) ∧ Below w.heap.size w w' := by
 have e1 := bZ w (.cells #[.int .i64 0, .int .i64 8, .int .u64 5] (53 : Nat))
 have g1 := HB.new w #[.int .i64 0, .int .i64 8, .int .u64 5] (53 : Nat)
 obtain ⟨w1, hw1⟩ : ∃ x, w.alloc (.cells #[.int .i64 0, .int .i64 8, .int .u64 5] (53 : Nat)) = x := ⟨_, rfl⟩
 rw [hw1] at e1 g1
 have hs1 : w1.heap.size = w.heap.size + 1 := by rw [← hw1]; simp
 obtain ⟨B, hB⟩ : ∃ B, w.heap.size = B := ⟨_, rfl⟩
 have hBl : B < w1.heap.size := by omega
 have hOP : OPL w1 (.slice (some ⟨w.heap.size, 0, none⟩) 1 1) [(0, 8, 5)] := EL.one (by omega) (fun j hj => by
  have k0 := (row_cell g1 0).1
  have k1 := (row_cell g1 1).1
  have k2 := (row_cell g1 2).1
  obtain rfl | rfl | rfl : j = 0 ∨ j = 1 ∨ j = 2 := by omega
  ·exact k0
  ·exact k1
  ·exact k2)
 have e2 := bZ w1 (.cells #[.int .u8 0, .int .u8 2, .int .u64 0, .slice none 0 0, .slice (some ⟨w.heap.size, 0, none⟩) 1 1] (62 : Nat))
 have g2 := HB.new w1 #[.int .u8 0, .int .u8 2, .int .u64 0, .slice none 0 0, .slice (some ⟨w.heap.size, 0, none⟩) 1 1] (62 : Nat)
 have hOP2 := hOP.keep e2
 have hw2l := hw.keep (e1.trans (e2.mono (by omega)))
 have hb2 := e1.trans (e2.mono (by omega))
 have hsz : (w1.alloc (.cells #[.int .u8 0, .int .u8 2, .int .u64 0, .slice none 0 0, .slice (some ⟨w.heap.size, 0, none⟩) 1 1] (62 : Nat))).heap.size = w.heap.size + 2 := by simp [hs1]
 have hI : EL 5 eIt (w1.alloc (.cells #[.int .u8 0, .int .u8 2, .int .u64 0, .slice none 0 0, .slice (some ⟨w.heap.size, 0, none⟩) 1 1] (62 : Nat))) (.slice (some ⟨w1.heap.size, 0, none⟩) 1 1) [(0, 2, 0, (.slice none 0 0, []), (.slice (some ⟨w.heap.size, 0, none⟩) 1 1, [(0, 8, 5)]))] := EL.one (by omega) (fun j hj => by
  have k0 := (row_cell g2 0).1
  have k1 := (row_cell g2 1).1
  have k2 := (row_cell g2 2).1
  have k3 := (row_cell g2 3).1
  have k4 := (row_cell g2 4).1
  obtain rfl | rfl | rfl | rfl | rfl : j = 0 ∨ j = 1 ∨ j = 2 ∨ j = 3 ∨ j = 4 := by omega
  ·exact k0
  ·exact k1
  ·exact k2
  ·exact k3
  ·exact k4)
 have hMk := make_f p1 (.slice none 0 0) (.slice none 0 0) (.slice (some ⟨w1.heap.size, 0, none⟩) 1 1) (.slice none 0 0) _ _ hw2l (p1_M hI hOP2) p1_B p1_few
 rw [hsz, p1_v] at hMk
 replace hMk := hMk.mono (fun e w' h => show ∃ v', e = .returned v' ∧ OwnU w' _ v' (makeL p1) ∧ Below _ _ w' from Exists.elim h (fun v' h => ⟨v', h.1, h.2.1, h.2.2.2⟩))
 rw [hs1, hB] at hMk
 rw [hB] at hb2 hs1 ⊢
 generalize makeL p1 = J at hMk ⊢
 clear hw2l hI hOP hOP2 g1 g2 e1 e2
 go_enter Tryz.func25, Tryz.ntmps25
 subst hw1
 go_wp2_with fail
 refine hMk.mono ?_
 rintro e w5 ⟨v', rfl, hO, hb5⟩
 have hb := hb2.trans (hb5.mono (by omega))
 have hO' : OwnU w5 B v' J := hO.mono (by omega)
 go_wp2_with fail
 go_ret
 exact ⟨_, rfl, hO', hb⟩
theorem awake15 (w : World) (hw : Lw w) : Calls Tryz.prog 9 #[] w fun e w' => e = .returned (.bool true) ∧ Below w.heap.size w w' := by
 have hOne := one_any w hw
 have hMe := lh (fun v w1 (h1 : Lw w1) (h2 : KL .u64 w1 v (makeL p1)) => mend_any v (makeL p1) w1 h1 p1_W h2 (by rw [p1_len]; omega))
 have hLa := lh (fun v w1 (h1 : Lw w1) (h2 : KL .u64 w1 v (makeL p1)) => mlane_any v (makeL p1) 116 1 0 w1 h1 p1_W h2 (by rw [p1_len]; omega))
 have hLo := lh (fun v w1 (h1 : Lw w1) (h2 : KL .u64 w1 v (makeL p1)) => log_any v (makeL p1) 116 1 0 w1 h1 p1_W h2 p1_p)
 rw [p1_l] at hLa
 rw [if_pos p1_m] at hMe
 obtain ⟨j8, j10, i8, jl⟩ := p1_g
 have il := p1_len
 have ol := p1_o
 generalize logP (makeL p1) 116 1 0 = P at hLo ol
 generalize (mendD (makeL p1)).getD [] = J at hMe j8 j10 jl
 generalize makeL p1 = I at hOne hMe hLa hLo i8 il
 replace j8 := lh j8
 replace j10 := lh j10
 replace jl := lh jl
 replace i8 := lh i8
 replace il := lh il
 replace ol := lh ol
 go_enter Tryz.func9, Tryz.ntmps9
 go_wp2_with fail
 refine hOne.mono ?_
 rintro e w1 ⟨v1, rfl, hO1, hb1⟩
 obtain ⟨A1, c1, rfl⟩ := hO1.sl il.out
 have hM1 := hMe.out _ w1 (hw.keep hb1) hO1.kl
 clear hOne
 go_wp2_with fail
 refine hM1.mono ?_
 rintro e w2 ⟨v2, rfl, hO2, hb2⟩
 have hb12 := hb1.trans (hb2.mono hb1.size)
 have hO12 := hO1.keep hb2
 have hL1 := hLa.out _ w2 (hw.keep hb12) hO12.kl
 obtain ⟨A2, c2, rfl⟩ := hO2.sl jl.out
 clear hM1
 go_wp2_with fail
 refine hL1.mono ?_
 rintro e w3 ⟨v3, rfl, hO3, hb3⟩
 have hb13 := hb12.trans (hb3.mono hb12.size)
 have hO13 := hO12.keep hb3
 have hO23 := hO2.keep hb3
 have hL3 := hLo.out _ w3 (hw.keep hb13) hO13.kl
 obtain ⟨A3, c3, rfl⟩ := EL.sl hO3
 simp only [Option.isSome_some, Option.getD_some, List.length_cons, List.length_nil, Nat.zero_add]
 obtain ⟨g1, rfl⟩ : ∃ g1, A1 = some ⟨g1, 0, none⟩ := by
  obtain ⟨A, c, h1, h2⟩ := hO1.form
  obtain ⟨g, h3, _⟩ := h2 (by rw [il.out]; omega)
  rw [il.out] at h1
  cases h1
  exact ⟨g, h3⟩
 obtain ⟨g2, rfl⟩ : ∃ g2, A2 = some ⟨g2, 0, none⟩ := by
  obtain ⟨A, c, h1, h2⟩ := hO2.form
  obtain ⟨g, h3, _⟩ := h2 (by rw [jl.out]; omega)
  rw [jl.out] at h1
  cases h1
  exact ⟨g, h3⟩
 have d1 := hO13.cell (i := 8) il.out (by omega)
 have d2 := hO23.cell (i := 8) jl.out (by omega)
 have d3 := hO23.cell (i := 10) jl.out (by omega)
 rw [i8.out] at d1
 rw [j8.out] at d2
 rw [j10.out] at d3
 replace d1 : w3.cell? ⟨g1, 8, none⟩ = some (.int .u64 0) := d1.1
 replace d2 : w3.cell? ⟨g2, 8, none⟩ = some (.int .u64 5) := d2.1
 replace d3 : w3.cell? ⟨g2, 10, none⟩ = some (.int .u64 0) := d3.1
 clear hL1
 go_wp2_with fail
 refine hL3.mono ?_
 rintro e w4 ⟨v4, rfl, hO4, hb4⟩
 have hb := hb13.trans (hb4.mono hb13.size)
 obtain ⟨A4, c4, rfl⟩ := OwnSp.sl hO4 ol.out
 go_wp2_with fail
 go_ret
 exact ⟨rfl, hb⟩
end Go.Proofs.YtkdhdibjbabgfaaGreatDoor
end
section
namespace Go.Proofs.YtkdhdibjbabgfaaGreatDoor
open Go.Lib Go.RowKit Go.ChangeShapes Go.WideShapes Go.Deep Go.Shelf
theorem GvM.sl {w : World} {vT vF vI vS : Value} {xs : List ItV} {p : Gv} (h : GvM w vT vF vI vS xs p) : ∃ AT nT cT AF nF cF AI nI cI AS nS cS, vT = .slice AT nT cT ∧ vF = .slice AF nF cF ∧ vI = .slice AI nI cI ∧ vS = .slice AS nS cS := by
 obtain ⟨AT, cT, h1, -⟩ := h.t.form rfl
 obtain ⟨AF, cF, h2, -⟩ := h.f.form rfl
 obtain ⟨AI, cI, h3⟩ := EL.sl h.i
 obtain ⟨AS, cS, h4⟩ := EL.sl h.s
 exact ⟨AT, _, cT, AF, _, cF, AI, _, cI, AS, _, cS, h1, h2, h3, h4⟩
theorem make_any (p : Gv) (vT vF vI vS : Value) (xs : List ItV) (w : World) (hw : Lw w) (hM : GvM w vT vF vI vS xs p) (hB : GvB p) (hfw : fewB p = true) :
 Calls Tryz.prog 11 #[gvV p vT vF vI vS] w fun e w' => ∃ v', e = .returned v' ∧ OwnU w' w.heap.size v' (makeL p) ∧ Hid (WL (makeL p)) ∧ Below w.heap.size w w' := by
 exact (make_f p vT vF vI vS xs w hw hM hB hfw).mono (fun e w' h => Exists.elim h (fun v' h => ⟨v', h.1, h.2.1, lh (makeL_WL hB h.2.2.1), h.2.2.2⟩))
theorem gv_len (p : Gv) : (makeL p).length = gvN p ∧ gvN p ≤ 493 := by
 refine ⟨makeL_len p, ?_⟩
 obtain ⟨_, _, _, h1, h2, h3, h4⟩ := gv_geo p
 show 10 + 73 * gvL p + 33 * gvG p ≤ 493
 omega
end Go.Proofs.YtkdhdibjbabgfaaGreatDoor
end
section
namespace Go.Proofs.YtkdhdibjbabgfaaGreatDoor
open Go.Lib Go.RowKit Go.ChangeShapes Go.WideShapes Go.Deep Go.Shelf
theorem EL.take {α : Type} [Inhabited α] {sz : Nat} {en : α → List Value} {w : World} {A : Option Addr} {n cap : Nat} {l : List α} (h : EL sz en w (.slice A n cap) l) (t : Nat) (ht : t ≤ l.length) : EL sz en w (.slice A t cap) (l.take t) := by
 obtain ⟨A', cap', hv, h⟩ := h
 cases hv
 refine ⟨A, cap, by rw [List.length_take, Nat.min_eq_left ht], fun hl => ?_⟩
 rw [List.length_take, Nat.min_eq_left ht] at hl
 obtain ⟨g, off, hA, hg, hc, hi⟩ := h (by omega)
 refine ⟨g, off, hA, hg, by rw [List.length_take]; omega, fun i h j hj => ?_⟩
 rw [List.length_take] at h
 rw [hi i (by omega) j hj, List.getD_eq_getElem?_getD, List.getD_eq_getElem?_getD, List.getElem?_take_of_lt (by omega)]
theorem lane_t {I : List Nat} {N L i : Nat} {P : List Ox} (h : laneP I (N : Nat) (L : Nat) (i : Nat) = some P) : I.length = N ∧ I.getD 3 0 = L ∧ i < L ∧ poolB I = true ∧ laneD I L i = some P ∧ logP I (N : Nat) (L : Nat) (i : Nat) = logSp I L i := by
 unfold laneP at h
 unfold logP
 split at h
 ·rename_i hb
  rw [if_pos hb]
  unfold laneB at hb
  rw [Bool.and_eq_true] at hb
  obtain ⟨hp, h1, h2⟩ := readB_t hb.1
  have h4 := of_decide_eq_true hb.2
  rw [Int.toNat_natCast, Int.toNat_natCast] at h
  rw [Int.toNat_natCast, Int.toNat_natCast]
  exact ⟨by omega, by omega, by omega, hp, h, rfl⟩
 ·cases h
theorem lane_facts {I : List Nat} {N L i : Nat} (hW : WL I) (hN : I.length ≤ 800) : ((laneP I (N : Nat) (L : Nat) (i : Nat)).getD []).length ≤ 800 ∧ OVs ((laneP I (N : Nat) (L : Nat) (i : Nat)).getD []) ∧ (∀ a, a < ((laneP I (N : Nat) (L : Nat) (i : Nat)).getD []).length → 0 ≤ (((laneP I (N : Nat) (L : Nat) (i : Nat)).getD []).getD a default).2.1 ∧ (((laneP I (N : Nat) (L : Nat) (i : Nat)).getD []).getD a default).2.1 ≤ 100000) := by
 cases hm : laneP I (N : Nat) (L : Nat) (i : Nat) with
 | none => exact ⟨Nat.zero_le _, fun o h => (by cases h), fun a h => (by cases h)⟩
 | some P =>
   obtain ⟨h1, h2, h3, h4, h5, -⟩ := lane_t hm
   subst h2
   have hg := (gOk_pool (pool_t h4).1).2
   obtain ⟨b1, b2⟩ := lane_bd hW hg h3 hN h5
   refine ⟨b1, b2, fun a ha => ?_⟩
   simp only [Option.getD_some] at ha ⊢
   have hk := lane_ok h5 (P.getD a default) (by rw [List.getD_eq_getElem?_getD, List.getElem?_eq_getElem ha]; exact List.getElem_mem ha)
   obtain ⟨s1, s2, s3, s4, s5, s6, s7, s8⟩ := pool_size hg
   unfold okOp inCh opIn at hk
   simp only [decide_eq_true_eq] at hk
   omega
end Go.Proofs.YtkdhdibjbabgfaaGreatDoor
end
