/-
  Part of the proof of MendPart.
-/
import Derived.Test.YtkdhdibjbabgfaaGreatDoorVp42
import Derived.Test.YtkdhdibjbabgfaaGreatDoorVp43
import Derived.Test.YtkdhdibjbabgfaaGreatDoorVp45
import Derived.Test.YtkdhdibjbabgfaaGreatDoorVp46
import Derived.Test.YtkdhdibjbabgfaaGreatDoorVp49
import Derived.Test.YtkdhdibjbabgfaaGreatDoorVp50
import Derived.Test.YtkdhdibjbabgfaaGreatDoorVp7
import Derived.Test.YtkdhdibjbabgfaaGreatDoorVp0
set_option maxRecDepth 10000
set_option maxHeartbeats 1000000
set_option linter.unusedVariables false
set_option linter.unusedSimpArgs false
section
namespace Go.Proofs.YtkdhdibjbabgfaaGreatDoor
open Go.Lib Go.RowKit Go.ChangeShapes Go.WideShapes Go.Deep Go.Shelf
def p1 : Gv := { a := 0, b := 0, tiles := [], fill := [], items := [(0, 2, 0, [], [(0, 8, 5)])], root := 0, epoch := 0, spoil := [] }
theorem p1_len : (makeL p1).length = 116 := by decide +kernel
theorem p1_m : (mendD (makeL p1)).isSome = true := by decide +kernel
theorem p1_g : ((mendD (makeL p1)).getD []).getD 8 0 = 5 ∧ ((mendD (makeL p1)).getD []).getD 10 0 = 0 ∧ (makeL p1).getD 8 0 = 0 ∧ ((mendD (makeL p1)).getD []).length = 116 := by decide +kernel
theorem p1_l : laneP (makeL p1) 116 1 0 = some [(0, 8, 5)] := by decide +kernel
theorem p1_o : (logP (makeL p1) 116 1 0).length = 1 := by decide +kernel
theorem p1_p : poolB (makeL p1) = true → gNat (makeL p1).length ((makeL p1).getD 3 0) ≤ 40 := fun _ => by decide +kernel
theorem p1_B : GvB p1 := by
 refine ⟨by decide, by decide, fun x h => (by cases h), fun x h => (by cases h), fun x h => ?_, by decide, by decide, fun x h => (by cases h)⟩
 rw [show p1.items = [(0, 2, 0, [], [(0, 8, 5)])] from rfl, List.mem_singleton] at h
 subst h
 refine ⟨by decide, by decide, by decide, fun e h => (by cases h), fun o h => ?_⟩
 rw [List.mem_singleton] at h
 subst h
 decide
theorem p1_W : WL (makeL p1) := makeL_WL p1_B (by decide +kernel)
theorem EL.one {α : Type} [Inhabited α] {sz : Nat} {en : α → List Value} {w : World} {b : Nat} {x : α} (hb : b < w.heap.size) (h : ∀ j, j < sz → w.cell? ⟨b, j, none⟩ = (en x)[j]?) : EL sz en w (.slice (some ⟨b, 0, none⟩) 1 1) [x] :=
 ⟨some ⟨b, 0, none⟩, 1, rfl, fun _ => ⟨b, 0, rfl, hb, Nat.le_refl _, fun i hi j hj => by
   obtain rfl : i = 0 := by simp at hi; omega
   rw [Nat.zero_mul, Nat.zero_add]
   exact h j hj⟩⟩
theorem p1_few : fewB p1 = true := by decide
theorem p1_v (vI : Value) : gvV p1 (.slice none 0 0) (.slice none 0 0) vI (.slice none 0 0) = .agg #[.int .u8 0, .int .u8 0, .slice none 0 0, .slice none 0 0, vI, .int .u64 0, .int .u64 0, .slice none 0 0] := rfl
theorem p1_M {w : World} {vI vO : Value} (hI : EL 5 eIt w vI [(0, 2, 0, (.slice none 0 0, []), (vO, [(0, 8, 5)]))]) (hO : OPL w vO [(0, 8, 5)]) : GvM w (.slice none 0 0) (.slice none 0 0) vI (.slice none 0 0) [(0, 2, 0, (.slice none 0 0, []), (vO, [(0, 8, 5)]))] p1 :=
 ⟨⟨none, 0, rfl, fun h => by simp [p1] at h⟩, KL.nil _ _ _, hI, fun x hx => (by rw [List.mem_singleton] at hx; subst hx; exact EN.nil _), fun x hx => (by rw [List.mem_singleton] at hx; subst hx; exact hO), rfl, EL.nil _ _ _ _ _⟩
theorem one_any (w : World) (hw : Lw w) : Calls Tryz.prog 25 #[] w fun e w' => ∃ v', e = .returned v' ∧ OwnU w' w.heap.size v' (makeL p1) ∧ Below w.heap.size w w' := by
 have e1 := bZ w (.cells #[.int .i64 0, .int .i64 8, .int .u64 5] (53 : Nat))
 have g1 := HB.new w #[.int .i64 0, .int .i64 8, .int .u64 5] (53 : Nat)
 obtain ⟨w1, hw1⟩ : ∃ x, w.alloc (.cells #[.int .i64 0, .int .i64 8, .int .u64 5] (53 : Nat)) = x := ⟨_, rfl⟩
 rw [hw1] at e1 g1
 have hs1 : w1.heap.size = w.heap.size + 1 := by rw [← hw1]; simp
 obtain ⟨B, hB⟩ : ∃ B, w.heap.size = B := ⟨_, rfl⟩
 have hBl : B < w1.heap.size := by omega
 have hOP : OPL w1 (.slice (some ⟨w.heap.size, 0, none⟩) 1 1) [(0, 8, 5)] := EL.one (by omega) (fun j hj => by
  have k0 := (row_cell g1 0).1
  have k1 := (row_cell g1 1).1
  have k2 := (row_cell g1 2).1
  obtain rfl | rfl | rfl : j = 0 ∨ j = 1 ∨ j = 2 := by omega
  ·exact k0
  ·exact k1
  ·exact k2)
 have e2 := bZ w1 (.cells #[.int .u8 0, .int .u8 2, .int .u64 0, .slice none 0 0, .slice (some ⟨w.heap.size, 0, none⟩) 1 1] (62 : Nat))
 have g2 := HB.new w1 #[.int .u8 0, .int .u8 2, .int .u64 0, .slice none 0 0, .slice (some ⟨w.heap.size, 0, none⟩) 1 1] (62 : Nat)
 have hOP2 := hOP.keep e2
 have hw2l := hw.keep (e1.trans (e2.mono (by omega)))
 have hb2 := e1.trans (e2.mono (by omega))
 have hsz : (w1.alloc (.cells #[.int .u8 0, .int .u8 2, .int .u64 0, .slice none 0 0, .slice (some ⟨w.heap.size, 0, none⟩) 1 1] (62 : Nat))).heap.size = w.heap.size + 2 := by simp [hs1]
 have hI : EL 5 eIt (w1.alloc (.cells #[.int .u8 0, .int .u8 2, .int .u64 0, .slice none 0 0, .slice (some ⟨w.heap.size, 0, none⟩) 1 1] (62 : Nat))) (.slice (some ⟨w1.heap.size, 0, none⟩) 1 1) [(0, 2, 0, (.slice none 0 0, []), (.slice (some ⟨w.heap.size, 0, none⟩) 1 1, [(0, 8, 5)]))] := EL.one (by omega) (fun j hj => by
  have k0 := (row_cell g2 0).1
  have k1 := (row_cell g2 1).1
  have k2 := (row_cell g2 2).1
  have k3 := (row_cell g2 3).1
  have k4 := (row_cell g2 4).1
  obtain rfl | rfl | rfl | rfl | rfl : j = 0 ∨ j = 1 ∨ j = 2 ∨ j = 3 ∨ j = 4 := by omega
  ·exact k0
  ·exact k1
  ·exact k2
  ·exact k3
  ·exact k4)
 have hMk := make_f p1 (.slice none 0 0) (.slice none 0 0) (.slice (some ⟨w1.heap.size, 0, none⟩) 1 1) (.slice none 0 0) _ _ hw2l (p1_M hI hOP2) p1_B p1_few
 rw [hsz, p1_v] at hMk
 replace hMk := hMk.mono (fun e w' h => show ∃ v', e = .returned v' ∧ OwnU w' _ v' (makeL p1) ∧ Below _ _ w' from Exists.elim h (fun v' h => ⟨v', h.1, h.2.1, h.2.2.2⟩))
 rw [hs1, hB] at hMk
 rw [hB] at hb2 hs1 ⊢
 generalize makeL p1 = J at hMk ⊢
 clear hw2l hI hOP hOP2 g1 g2 e1 e2
 go_enter Tryz.func25, Tryz.ntmps25
 subst hw1
 go_wp2_with fail
 refine hMk.mono ?_
 rintro e w5 ⟨v', rfl, hO, hb5⟩
 have hb := hb2.trans (hb5.mono (by omega))
 have hO' : OwnU w5 B v' J := hO.mono (by omega)
 go_wp2_with fail
 go_ret
 exact ⟨_, rfl, hO', hb⟩
theorem awake15 (w : World) (hw : Lw w) : Calls Tryz.prog 9 #[] w fun e w' => e = .returned (.bool true) ∧ Below w.heap.size w w' := by
 have hOne := one_any w hw
 have hMe := lh (fun v w1 (h1 : Lw w1) (h2 : KL .u64 w1 v (makeL p1)) => mend_any v (makeL p1) w1 h1 p1_W h2 (by rw [p1_len]; omega))
 have hLa := lh (fun v w1 (h1 : Lw w1) (h2 : KL .u64 w1 v (makeL p1)) => mlane_any v (makeL p1) 116 1 0 w1 h1 p1_W h2 (by rw [p1_len]; omega))
 have hLo := lh (fun v w1 (h1 : Lw w1) (h2 : KL .u64 w1 v (makeL p1)) => log_any v (makeL p1) 116 1 0 w1 h1 p1_W h2 p1_p)
 rw [p1_l] at hLa
 rw [if_pos p1_m] at hMe
 obtain ⟨j8, j10, i8, jl⟩ := p1_g
 have il := p1_len
 have ol := p1_o
 generalize logP (makeL p1) 116 1 0 = P at hLo ol
 generalize (mendD (makeL p1)).getD [] = J at hMe j8 j10 jl
 generalize makeL p1 = I at hOne hMe hLa hLo i8 il
 replace j8 := lh j8
 replace j10 := lh j10
 replace jl := lh jl
 replace i8 := lh i8
 replace il := lh il
 replace ol := lh ol
 go_enter Tryz.func9, Tryz.ntmps9
 go_wp2_with fail
 refine hOne.mono ?_
 rintro e w1 ⟨v1, rfl, hO1, hb1⟩
 obtain ⟨A1, c1, rfl⟩ := hO1.sl il.out
 have hM1 := hMe.out _ w1 (hw.keep hb1) hO1.kl
 clear hOne
 go_wp2_with fail
 refine hM1.mono ?_
 rintro e w2 ⟨v2, rfl, hO2, hb2⟩
 have hb12 := hb1.trans (hb2.mono hb1.size)
 have hO12 := hO1.keep hb2
 have hL1 := hLa.out _ w2 (hw.keep hb12) hO12.kl
 obtain ⟨A2, c2, rfl⟩ := hO2.sl jl.out
 clear hM1
 go_wp2_with fail
 refine hL1.mono ?_
 rintro e w3 ⟨v3, rfl, hO3, hb3⟩
 have hb13 := hb12.trans (hb3.mono hb12.size)
 have hO13 := hO12.keep hb3
 have hO23 := hO2.keep hb3
 have hL3 := hLo.out _ w3 (hw.keep hb13) hO13.kl
 obtain ⟨A3, c3, rfl⟩ := EL.sl hO3
 simp only [Option.isSome_some, Option.getD_some, List.length_cons, List.length_nil, Nat.zero_add]
 obtain ⟨g1, rfl⟩ : ∃ g1, A1 = some ⟨g1, 0, none⟩ := by
  obtain ⟨A, c, h1, h2⟩ := hO1.form
  obtain ⟨g, h3, _⟩ := h2 (by rw [il.out]; omega)
  rw [il.out] at h1
  cases h1
  exact ⟨g, h3⟩
 obtain ⟨g2, rfl⟩ : ∃ g2, A2 = some ⟨g2, 0, none⟩ := by
  obtain ⟨A, c, h1, h2⟩ := hO2.form
  obtain ⟨g, h3, _⟩ := h2 (by rw [jl.out]; omega)
  rw [jl.out] at h1
  cases h1
  exact ⟨g, h3⟩
 have d1 := hO13.cell (i := 8) il.out (by omega)
 have d2 := hO23.cell (i := 8) jl.out (by omega)
 have d3 := hO23.cell (i := 10) jl.out (by omega)
 rw [i8.out] at d1
 rw [j8.out] at d2
 rw [j10.out] at d3
 replace d1 : w3.cell? ⟨g1, 8, none⟩ = some (.int .u64 0) := d1.1
 replace d2 : w3.cell? ⟨g2, 8, none⟩ = some (.int .u64 5) := d2.1
 replace d3 : w3.cell? ⟨g2, 10, none⟩ = some (.int .u64 0) := d3.1
 clear hL1
 go_wp2_with fail
 refine hL3.mono ?_
 rintro e w4 ⟨v4, rfl, hO4, hb4⟩
 have hb := hb13.trans (hb4.mono hb13.size)
 obtain ⟨A4, c4, rfl⟩ := OwnSp.sl hO4 ol.out
 go_wp2_with fail
 go_ret
 exact ⟨rfl, hb⟩
end Go.Proofs.YtkdhdibjbabgfaaGreatDoor
end
section
namespace Go.Proofs.YtkdhdibjbabgfaaGreatDoor
open Go.Lib Go.RowKit Go.ChangeShapes Go.WideShapes Go.Deep Go.Shelf
theorem GvM.sl {w : World} {vT vF vI vS : Value} {xs : List ItV} {p : Gv} (h : GvM w vT vF vI vS xs p) : ∃ AT nT cT AF nF cF AI nI cI AS nS cS, vT = .slice AT nT cT ∧ vF = .slice AF nF cF ∧ vI = .slice AI nI cI ∧ vS = .slice AS nS cS := by
 obtain ⟨AT, cT, h1, -⟩ := h.t.form rfl
 obtain ⟨AF, cF, h2, -⟩ := h.f.form rfl
 obtain ⟨AI, cI, h3⟩ := EL.sl h.i
 obtain ⟨AS, cS, h4⟩ := EL.sl h.s
 exact ⟨AT, _, cT, AF, _, cF, AI, _, cI, AS, _, cS, h1, h2, h3, h4⟩
theorem make_any (p : Gv) (vT vF vI vS : Value) (xs : List ItV) (w : World) (hw : Lw w) (hM : GvM w vT vF vI vS xs p) (hB : GvB p) (hfw : fewB p = true) :
 Calls Tryz.prog 11 #[gvV p vT vF vI vS] w fun e w' => ∃ v', e = .returned v' ∧ OwnU w' w.heap.size v' (makeL p) ∧ Hid (WL (makeL p)) ∧ Below w.heap.size w w' := by
 exact (make_f p vT vF vI vS xs w hw hM hB hfw).mono (fun e w' h => Exists.elim h (fun v' h => ⟨v', h.1, h.2.1, lh (makeL_WL hB h.2.2.1), h.2.2.2⟩))
theorem gv_len (p : Gv) : (makeL p).length = gvN p ∧ gvN p ≤ 493 := by
 refine ⟨makeL_len p, ?_⟩
 obtain ⟨_, _, _, h1, h2, h3, h4⟩ := gv_geo p
 show 10 + 73 * gvL p + 33 * gvG p ≤ 493
 omega
theorem pool40 {I : List Nat} (hN : I.length ≤ 800) : poolB I = true → gNat I.length (I.getD 3 0) ≤ 40 := fun h => by
 have := (pool_size (gOk_pool (pool_t h).1).2).2.2.2.2.2.2.2
 omega
end Go.Proofs.YtkdhdibjbabgfaaGreatDoor
end
section
namespace Go.Proofs.YtkdhdibjbabgfaaGreatDoor
open Go.Lib Go.RowKit Go.ChangeShapes Go.WideShapes Go.Deep Go.Shelf
theorem EL.take {α : Type} [Inhabited α] {sz : Nat} {en : α → List Value} {w : World} {A : Option Addr} {n cap : Nat} {l : List α} (h : EL sz en w (.slice A n cap) l) (t : Nat) (ht : t ≤ l.length) : EL sz en w (.slice A t cap) (l.take t) := by
 obtain ⟨A', cap', hv, h⟩ := h
 cases hv
 refine ⟨A, cap, by rw [List.length_take, Nat.min_eq_left ht], fun hl => ?_⟩
 rw [List.length_take, Nat.min_eq_left ht] at hl
 obtain ⟨g, off, hA, hg, hc, hi⟩ := h (by omega)
 refine ⟨g, off, hA, hg, by rw [List.length_take]; omega, fun i h j hj => ?_⟩
 rw [List.length_take] at h
 rw [hi i (by omega) j hj, List.getD_eq_getElem?_getD, List.getD_eq_getElem?_getD, List.getElem?_take_of_lt (by omega)]
def inQ (s : Sp) (x : Int) : Bool := decide (s.1 ≤ x ∧ x < s.1 + s.2)
theorem in15 (a b x : Int) (w : World) (h : SB (a, b)) (hx : 0 ≤ x) (hx2 : x ≤ 100000) :
 Calls Tryz.prog 22 #[.agg #[.int .i64 a, .int .i64 b], .int .i64 x] w fun e w' => e = .returned (.bool (inQ (a, b) x)) ∧ Below w.heap.size w w' := by
 obtain ⟨h1, h2, h3, h4⟩ := h
 simp only [] at h1 h2 h3 h4
 by_cases k1 : a ≤ x
 ·by_cases k2 : x - a < b
  ·rw [show inQ (a, b) x = true from decide_eq_true ⟨k1, by simp only []; omega⟩]
   go_enter Tryz.func22, Tryz.ntmps22
   go_wp2_with fail
   go_ret
   exact ⟨rfl, bZ _ _⟩
  ·rw [show inQ (a, b) x = false from decide_eq_false (fun q => by simp only [] at q; omega)]
   have k3 : b ≤ x - a := by omega
   go_enter Tryz.func22, Tryz.ntmps22
   go_wp2_with fail
   go_ret
   exact ⟨rfl, bZ _ _⟩
 ·rw [show inQ (a, b) x = false from decide_eq_false (fun q => by simp only [] at q; omega)]
  have k3 : x < a := by omega
  go_enter Tryz.func22, Tryz.ntmps22
  go_wp2_with fail
  go_ret
  exact ⟨rfl, bZ _ _⟩
theorem spoil_len {w : World} {vT vF vI vS : Value} {xs : List ItV} {p : Gv} (h : GvM w vT vF vI vS xs p) {A : Option Addr} {n c : Nat} (hv : vS = .slice A n c) : n = p.spoil.length := by
 obtain ⟨A', c', h4⟩ := EL.sl h.s
 rw [hv] at h4
 cases h4
 rfl
theorem part_none {I : List Nat} {N L i : Nat} (hl : I.length = N) (h3 : I.getD 3 0 = L) (hi : i < L) (h : (laneP I (N : Nat) (L : Nat) (i : Nat)).isSome = false) : mendD I = none := by
 subst hl
 refine mend_not h3 hi ?_
 cases hm : laneP I (I.length : Nat) (L : Nat) (i : Nat) with
 | none => rfl
 | some x => rw [hm] at h; cases h
theorem lane_t {I : List Nat} {N L i : Nat} {P : List Ox} (h : laneP I (N : Nat) (L : Nat) (i : Nat) = some P) : I.length = N ∧ I.getD 3 0 = L ∧ i < L ∧ poolB I = true ∧ laneD I L i = some P ∧ logP I (N : Nat) (L : Nat) (i : Nat) = logSp I L i := by
 unfold laneP at h
 unfold logP
 split at h
 ·rename_i hb
  rw [if_pos hb]
  unfold laneB at hb
  rw [Bool.and_eq_true] at hb
  obtain ⟨hp, h1, h2⟩ := readB_t hb.1
  have h4 := of_decide_eq_true hb.2
  rw [Int.toNat_natCast, Int.toNat_natCast] at h
  rw [Int.toNat_natCast, Int.toNat_natCast]
  exact ⟨by omega, by omega, by omega, hp, h, rfl⟩
 ·cases h
theorem lane_facts {I : List Nat} {N L i : Nat} (hW : WL I) (hN : I.length ≤ 800) : ((laneP I (N : Nat) (L : Nat) (i : Nat)).getD []).length ≤ 800 ∧ OVs ((laneP I (N : Nat) (L : Nat) (i : Nat)).getD []) ∧ (∀ a, a < ((laneP I (N : Nat) (L : Nat) (i : Nat)).getD []).length → 0 ≤ (((laneP I (N : Nat) (L : Nat) (i : Nat)).getD []).getD a default).2.1 ∧ (((laneP I (N : Nat) (L : Nat) (i : Nat)).getD []).getD a default).2.1 ≤ 100000) := by
 cases hm : laneP I (N : Nat) (L : Nat) (i : Nat) with
 | none => exact ⟨Nat.zero_le _, fun o h => (by cases h), fun a h => (by cases h)⟩
 | some P =>
   obtain ⟨h1, h2, h3, h4, h5, -⟩ := lane_t hm
   subst h2
   have hg := (gOk_pool (pool_t h4).1).2
   obtain ⟨b1, b2⟩ := lane_bd hW hg h3 hN h5
   refine ⟨b1, b2, fun a ha => ?_⟩
   simp only [Option.getD_some] at ha ⊢
   have hk := lane_ok h5 (P.getD a default) (by rw [List.getD_eq_getElem?_getD, List.getElem?_eq_getElem ha]; exact List.getElem_mem ha)
   obtain ⟨s1, s2, s3, s4, s5, s6, s7, s8⟩ := pool_size hg
   unfold okOp inCh opIn at hk
   simp only [decide_eq_true_eq] at hk
   omega
theorem log_facts {I : List Nat} {N L i : Nat} (hN : I.length ≤ 800) : (logP I (N : Nat) (L : Nat) (i : Nat)).length ≤ 1000 ∧ ∀ b, b < (logP I (N : Nat) (L : Nat) (i : Nat)).length → SB ((logP I (N : Nat) (L : Nat) (i : Nat)).getD b (0, 0)) := by
 unfold logP
 split
 ·rename_i hb
  unfold laneB at hb
  rw [Bool.and_eq_true] at hb
  obtain ⟨hp, h1, h2⟩ := readB_t hb.1
  have h4 := of_decide_eq_true hb.2
  rw [Int.toNat_natCast, Int.toNat_natCast]
  obtain rfl : L = I.getD 3 0 := by omega
  have hg := (gOk_pool (pool_t hp).1).2
  have := logSp_len (ln := i) hg
  have := (pool_size hg).2.2.2.2.2.2.2
  exact ⟨by omega, fun b hb => SBs.at (logSp_SB hg (by omega)) b hb⟩
 ·exact ⟨Nat.zero_le _, fun b h => (by cases h)⟩
theorem part_some {I : List Nat} {N L i : Nat} (h : (laneP I (N : Nat) (L : Nat) (i : Nat)).isSome = true) (hs : I.getD (10 + i) 0 % 4 = 1) (hoth : ∀ j, j < L → j ≠ i → ¬ I.getD (10 + j) 0 % 4 = 1)
 (hlog : ∀ a, a < ((laneP I (N : Nat) (L : Nat) (i : Nat)).getD []).length → ∀ b, b < (logP I (N : Nat) (L : Nat) (i : Nat)).length → inQ ((logP I (N : Nat) (L : Nat) (i : Nat)).getD b (0, 0)) (((laneP I (N : Nat) (L : Nat) (i : Nat)).getD []).getD a default).2.1 = false) (t : Nat) :
 mendD (applyL I (((laneP I (N : Nat) (L : Nat) (i : Nat)).getD []).take t)) = mendD I := by
 cases hm : laneP I (N : Nat) (L : Nat) (i : Nat) with
 | none => rw [hm] at h; cases h
 | some P =>
   obtain ⟨h1, h2, h3, h4, h5, h6⟩ := lane_t hm
   rw [hm, h6] at hlog
   simp only [Option.getD_some] at hlog ⊢
   subst h2
   refine mend_part t h4 h3 hs (fun j hj hn => hoth j hj hn) h5 (fun o ho s hsp q => ?_)
   obtain ⟨a, ha, rfl⟩ := List.getElem_of_mem ho
   obtain ⟨b, hb, rfl⟩ := List.getElem_of_mem hsp
   have hx := hlog a ha b hb
   rw [List.getD_eq_getElem?_getD, List.getElem?_eq_getElem hb] at hx
   have e : P.getD a default = P[a] := by rw [List.getD_eq_getElem?_getD, List.getElem?_eq_getElem ha]; rfl
   rw [e] at hx
   exact of_decide_eq_false hx q
end Go.Proofs.YtkdhdibjbabgfaaGreatDoor
end
section
namespace Go.Proofs.YtkdhdibjbabgfaaGreatDoor
open Go.Lib Go.RowKit Go.ChangeShapes Go.WideShapes Go.Deep Go.Shelf
theorem mendPart (g : Gx) (ln pt : Nat) (hln : ln < 256) (hpt : pt < 65536) (w : World) (hw : Lw w) (hg : GOk w g) :
 Calls Tryz.prog 7 #[gxV g, .int .u8 (ln : Nat), .int .u16 (pt : Nat)] w fun e w' => e = .returned (.bool true) ∧ Below w.heap.size w w' := by
 obtain ⟨⟨vT, vF, vI, vS⟩, xs, p⟩ := g
 obtain ⟨hM, hB⟩ := hg
 simp only [] at hM hB
 obtain ⟨AT, nT, cT, AF, nF, cF, AI, nI, cI, AS, nS, cS, rfl, rfl, rfl, rfl⟩ := hM.sl
 have hA := bZ w (.cells #[.int .u8 (p.a : Nat), .int .u8 (p.b : Nat), .slice AT nT cT, .slice AF nF cF, .slice AI nI cI, .int .u64 (p.root : Nat), .int .u64 (p.epoch : Nat), .slice AS nS cS] 28)
 have gA := HB.new w #[.int .u8 (p.a : Nat), .int .u8 (p.b : Nat), .slice AT nT cT, .slice AF nF cF, .slice AI nI cI, .int .u64 (p.root : Nat), .int .u64 (p.epoch : Nat), .slice AS nS cS] 28
 obtain ⟨wa, hwa⟩ : ∃ x, w.alloc (.cells #[.int .u8 (p.a : Nat), .int .u8 (p.b : Nat), .slice AT nT cT, .slice AF nF cF, .slice AI nI cI, .int .u64 (p.root : Nat), .int .u64 (p.epoch : Nat), .slice AS nS cS] 28) = x := ⟨_, rfl⟩
 have hsa : wa.heap.size = w.heap.size + 1 := by rw [← hwa]; simp
 rw [hwa] at hA gA
 have hAw := awake15 wa (hw.keep hA)
 have hFe := lh (fun w1 (hb : Below w.heap.size w w1) => few_any15 p _ _ _ _ xs w1 (hM.keep hb))
 have hMk := lh (fun w1 (hb : Below w.heap.size w w1) (hf : fewB p = true) => make_any p _ _ _ _ xs w1 (hw.keep hb) (hM.keep hb) hB hf)
 have hGe := lh (fun w1 => geom_any p AT AF AI AS nT cT nF cF nI cI nS cS w1 hB)
 obtain ⟨hl1, hl2⟩ := gv_len p
 obtain ⟨N, hN⟩ : ∃ N, gvN p = N := ⟨_, rfl⟩
 obtain ⟨L, hL⟩ : ∃ L, gvL p = L := ⟨_, rfl⟩
 have hL3 : L ≤ 3 := by have := gv_geo p; omega
 have hL1 : 1 ≤ L := by have := gv_geo p; omega
 rw [hN] at hl1 hl2
 rw [hN, hL] at hGe
 have hwk := lh (fun w1 (hb : Below w.heap.size w w1) => hw.keep hb)
 obtain ⟨I, hI⟩ : ∃ I, makeL p = I := ⟨_, rfl⟩
 rw [hI] at hl1 hMk
 have hML := lh (fun h : nS = 0 => show I.getD 3 0 = L from by rw [← hI, ← hL]; exact make_lanes (p := p) (List.length_eq_zero_iff.1 ((spoil_len hM rfl).symm.trans h)))
 have hNL : 10 + 73 * L ≤ N := by have h : gvN p = 10 + 73 * gvL p + 33 * gvG p := rfl; omega
 replace hI := lh hI
 replace hN := lh hN
 replace hL := lh hL
 replace hl1 := lh hl1
 show Calls Tryz.prog _ #[.agg #[.int .u8 (p.a : Nat), .int .u8 (p.b : Nat), .slice AT nT cT, .slice AF nF cF, .slice AI nI cI, .int .u64 (p.root : Nat), .int .u64 (p.epoch : Nat), .slice AS nS cS], .int .u8 (ln : Nat), .int .u16 (pt : Nat)] w _
 unfold gvV at hFe hMk hGe
 clear hM hB hw
 go_enter Tryz.func7, Tryz.ntmps7
 subst hwa
 go_wp2_with fail
 refine hAw.mono ?_
 rintro e w1 ⟨rfl, hb1⟩
 have hA1 := hA.trans (hb1.mono hA.size)
 have gA1 := gA.keep hb1
 have p0 := (row_cell gA1 0).1
 have p1 := (row_cell gA1 1).1
 have p2 := (row_cell gA1 2).1
 have p3 := (row_cell gA1 3).1
 have p4 := (row_cell gA1 4).1
 have p5 := (row_cell gA1 5).1
 have p6 := (row_cell gA1 6).1
 have p7 := (row_cell gA1 7).1
 clear hAw gA hA hb1
 go_wp2_with fail
 refine (hFe.out _ hA1).mono ?_
 rintro e w2 ⟨rfl, hb2⟩
 have hA2 := hA1.trans (hb2.mono hA1.size)
 have gA2 := gA1.keep hb2
 clear p0 p1 p2 p3 p4 p5 p6 p7 gA1 hA1 hb2
 have p0 := (row_cell gA2 0).1
 have p1 := (row_cell gA2 1).1
 have p2 := (row_cell gA2 2).1
 have p3 := (row_cell gA2 3).1
 have p4 := (row_cell gA2 4).1
 have p5 := (row_cell gA2 5).1
 have p6 := (row_cell gA2 6).1
 have p7 := (row_cell gA2 7).1
 cases hfew : fewB p with
 | false =>
   go_wp2_with fail
   go_ret
   exact ⟨rfl, hA2⟩
 | true =>
   by_cases hsp : 0 < nS
   ·have hsp' : (0 : Int) < (nS : Nat) := by omega
    clear hMk hFe hfew hGe hML hI hN hL hl1 hwk
    go_wp2_with fail
    go_ret
    exact ⟨rfl, hA2⟩
   have hsp' : ¬ (0 : Int) < (nS : Nat) := by omega
   have h3L := lh (hML.out (by omega))
   clear hML
   have hMk2 := hMk.out _ hA2 hfew
   clear hMk hFe hfew
   go_wp2_with fail
   refine hMk2.mono ?_
   rintro e w3 ⟨v3, rfl, hO3, hW, hb3⟩
   have hA3 := hA2.trans (hb3.mono hA2.size)
   have gA3 := gA2.keep hb3
   clear p0 p1 p2 p3 p4 p5 p6 p7 gA2 hMk2
   obtain ⟨A3, c3, rfl⟩ := hO3.sl hl1.out
   have p0 := (row_cell gA3 0).1
   have p1 := (row_cell gA3 1).1
   have p2 := (row_cell gA3 2).1
   have p3 := (row_cell gA3 3).1
   have p4 := (row_cell gA3 4).1
   have p5 := (row_cell gA3 5).1
   have p6 := (row_cell gA3 6).1
   have p7 := (row_cell gA3 7).1
   go_wp2_with fail
   refine (hGe.out _).mono ?_
   rintro e w5 ⟨rfl, hb5⟩
   have hA5 := hA3.trans (hb5.mono hA3.size)
   have hO5 := hO3.keep hb5
   have gG := HB.new w5 #[.int .i64 (N : Nat), .int .i64 (L : Nat)] 33
   have e6 := bZ w5 (.cells #[.int .i64 (N : Nat), .int .i64 (L : Nat)] 33)
   have hO6 := hO5.keep e6
   have hA6 := hA5.trans (e6.mono hA5.size)
   obtain ⟨w6, hw6⟩ : ∃ x, w5.alloc (.cells #[.int .i64 (N : Nat), .int .i64 (L : Nat)] 33) = x := ⟨_, rfl⟩
   obtain ⟨G, hGs⟩ : ∃ G, w5.heap.size = G := ⟨_, rfl⟩
   rw [hw6, hGs] at gG
   rw [hw6] at hO6 hA6
   obtain ⟨q0, q1⟩ := gG.c2
   have hI8 : I.length ≤ 800 := by have := hl1.out; omega
   have hI4 := pool40 hI8
   clear p0 p1 p2 p3 p4 p5 p6 p7 gA3 hA5 hA3 hA2 hO3 hO5 hb5 e6 hGe hsp hsp'
   obtain ⟨A9, c9, hv9, hf9⟩ := hO6.form
   rw [hl1.out] at hf9 hv9
   cases hv9
   obtain ⟨B, rfl, hBl, hBu⟩ := hf9 (by omega)
   obtain ⟨i, hi⟩ : ∃ i : Nat, ln % L = i := ⟨_, rfl⟩
   have hiL : i < L := by rw [← hi]; exact Nat.mod_lt _ (by omega)
   have r1 : (ln : Int) % (L : Int) = (i : Int) := by rw [← hi]; rfl
   obtain ⟨M, hM⟩ : ∃ M, 10 + i = M := ⟨_, rfl⟩
   have hM1 : (10 : Int) + (i : Int) = (M : Int) := by omega
   have hM2 : IntKind.i64.wrap (M : Int) = (M : Int) := wrapS _ (by omega) (by omega)
   have hMN : M < N := by omega
   have hMN' : (M : Int) < (N : Int) := by omega
   obtain ⟨X, hX⟩ : ∃ X, I.getD M 0 = X := ⟨_, rfl⟩
   obtain ⟨mm, hmm⟩ : ∃ m, X % 4 = m := ⟨_, rfl⟩
   have r2 : (X : Int) % 4 = (mm : Int) := by omega
   have hXb : X < 18446744073709551616 := hX ▸ hW.out.getN M
   have k1 := (hO6.cell hl1.out (i := M) hMN).1
   rw [hX] at k1
   subst hw6
   clear hf9 hBl hBu hi
   by_cases hm1 : mm = 1
   rotate_left
   ·have hm1' : ¬ (mm : Int) = 1 := by omega
    go_wp2_with fail
    go_ret
    exact ⟨rfl, hA6⟩
   subst hm1
   have hs1 := lh (show I.getD (10 + i) 0 % 4 = 1 from by rw [hM, hX]; exact hmm)
   obtain ⟨w6, hw6⟩ : ∃ x, w5.alloc (.cells #[.int .i64 (N : Nat), .int .i64 (L : Nat)] 33) = x := ⟨_, rfl⟩
   rw [hw6] at gG hO6 hA6 q0 q1 k1
   have hLa := mlane_any (.slice (some ⟨B, 0, none⟩) N c3) I (N : Nat) (L : Nat) (i : Nat) w6 (hwk.out _ hA6) hW.out hO6.kl hI8
   obtain ⟨f1, f2, f3⟩ := lane_facts (N := N) (L := L) (i := i) hW.out hI8
   obtain ⟨f4, f5⟩ := log_facts (N := N) (L := L) (i := i) hI8
   have f6 := part_none (i := i) hl1.out h3L.out hiL
   have f7 := fun h => part_some (I := I) (N := N) (L := L) (i := i) h hs1.out
   have hLo := lh (fun w9 (hb : Below w6.heap.size w6 w9) => log_any (.slice (some ⟨B, 0, none⟩) N c3) I (N : Nat) (L : Nat) (i : Nat) w9 (hwk.out _ (hA6.trans (hb.mono hA6.size))) hW.out (hO6.keep hb).kl hI4)
   have hIn := lh (fun a b x w1 h => in15 a b x w1 h)
   generalize (laneP I (N : Nat) (L : Nat) (i : Nat)).isSome = sm at *
   generalize (laneP I (N : Nat) (L : Nat) (i : Nat)).getD [] = P at *
   generalize logP I (N : Nat) (L : Nat) (i : Nat) = Q at *
   obtain ⟨nP, hnP⟩ : ∃ n, P.length = n := ⟨_, rfl⟩
   obtain ⟨nQ, hnQ⟩ : ∃ n, Q.length = n := ⟨_, rfl⟩
   rw [hnP] at f1 f3 f7
   rw [hnQ] at f4 f5 f7
   replace hnP := lh hnP
   replace hnQ := lh hnQ
   replace f2 := lh f2
   replace f3 := lh f3
   replace f5 := lh f5
   replace f6 := lh f6
   replace f7 := lh f7
   replace hX := lh hX
   subst hw6
   go_wp2_with fail
   refine hLa.mono ?_
   rintro e w7 ⟨v7, rfl, hO7, hb7⟩
   obtain ⟨A7, c7, rfl, hP7⟩ := OPL.form hO7 hnP.out
   clear q0 q1 k1 hLa
   have g7 := gG.keep hb7
   have hU7 := hO6.keep hb7
   have hA7 := hA6.trans (hb7.mono hA6.size)
   replace hLo := lh (fun w9 (hb : Below w7.heap.size w7 w9) => hLo.out w9 (hb7.trans (hb.mono hb7.size)))
   clear gG hO6 hA6 hb7
   replace hP7 := lh hP7
   obtain ⟨q0, q1⟩ := g7.c2
   go_wp2_with fail
   go_loopw [14] (fun i1 wr => ∃ (j : Nat), j ≤ L ∧ i1 = .int .i64 (j : Nat) ∧ Hid (∀ q, q < j → q ≠ i → ¬ I.getD (10 + q) 0 % 4 = 1) ∧ Below w7.heap.size w7 wr) (fun i1 _ => L + 1 - (intOf i1).toNat)
   case atStart => exact ⟨0, Nat.zero_le _, rfl, lh (fun q h => by omega), Below.refl _ _⟩
   case round =>
    obtain ⟨j, hj, rfl, hoth, hB1⟩ := hrel
    clear q0 q1
    obtain ⟨q0, q1⟩ := (g7.keep hB1).c2
    by_cases hlt : j < L
    ·have hlt' : (j : Int) < (L : Int) := by omega
     by_cases hji : j = i
     ·have hji' : decide (¬ (j : Int) = (i : Int)) = false := decide_eq_false (by omega)
      have hji2 : (j : Int) = (i : Int) := by omega
      have hoth2 := lh (show ∀ q, q < j + 1 → q ≠ i → ¬ I.getD (10 + q) 0 % 4 = 1 from fun q h1 h2 => hoth.out q (by omega) h2)
      clear hoth
      go_wp2_with fail
      go_roundw
      case rel => exact ⟨j + 1, by omega, by go_num, hoth2, hB1⟩
      case measure => first | (simp [intOf]; done) | (simp [intOf]; omega)
     ·have hji' : ¬ (j : Int) = (i : Int) := by omega
      obtain ⟨M2, hM2a⟩ : ∃ M, 10 + j = M := ⟨_, rfl⟩
      have hM2b : (10 : Int) + (j : Int) = (M2 : Int) := by omega
      have hM2c : IntKind.i64.wrap (M2 : Int) = (M2 : Int) := wrapS _ (by omega) (by omega)
      have hM2N : M2 < N := by omega
      have hM2N' : (M2 : Int) < (N : Int) := by omega
      obtain ⟨X2, hX2⟩ : ∃ X, I.getD M2 0 = X := ⟨_, rfl⟩
      obtain ⟨m2, hm2⟩ : ∃ m, X2 % 4 = m := ⟨_, rfl⟩
      have r3 : (X2 : Int) % 4 = (m2 : Int) := by omega
      have hX2b : X2 < 18446744073709551616 := hX2 ▸ hW.out.getN M2
      have k2 := ((hU7.keep hB1).cell hl1.out (i := M2) hM2N).1
      rw [hX2] at k2
      by_cases hm3 : m2 = 1
      ·subst hm3
       clear hoth
       go_wp2_with fail
       go_ret
       exact ⟨rfl, hA7.trans (hB1.mono hA7.size)⟩
      ·have hm3' : ¬ (m2 : Int) = 1 := by omega
       have hm3b : ((m2 : Int) == 1) = false := beq_eq_false_iff_ne.2 hm3'
       have hoth2 := lh (show ∀ q, q < j + 1 → q ≠ i → ¬ I.getD (10 + q) 0 % 4 = 1 from fun q h1 h2 => by
        by_cases e : q = j
        ·subst e; rw [hM2a, hX2, hm2]; exact hm3
        ·exact hoth.out q (by omega) h2)
       clear hoth hX2 hm2
       go_wp2_with fail
       go_roundw
       case rel => exact ⟨j + 1, by omega, by go_num, hoth2, hB1⟩
       case measure => first | (simp [intOf]; done) | (simp [intOf]; omega)
    ·obtain rfl : L = j := by omega
     have hlt' : ¬ (L : Int) < (L : Int) := by omega
     go_wp2_with fail
     clear q0 q1
     go_loopw [15] (fun i1 wr => ∃ (a : Nat), a ≤ nP ∧ i1 = .int .i64 (a : Nat) ∧ Hid (∀ q, q < a → ∀ b, b < nQ → inQ (Q.getD b (0, 0)) (P.getD q default).2.1 = false) ∧ Below w7.heap.size w7 wr) (fun i1 _ => nP + 1 - (intOf i1).toNat)
     case atStart => exact ⟨0, Nat.zero_le _, rfl, lh (fun q h => by omega), hB1⟩
     case round =>
      obtain ⟨a, ha, rfl, hAll, hBr⟩ := hrel
      by_cases hla : a < nP
      ·have hla' : (a : Int) < (nP : Int) := by omega
       obtain ⟨f3a, f3b⟩ := f3.out a hla
       obtain ⟨y, hy⟩ : ∃ y, (P.getD a default).2.1 = y := ⟨_, rfl⟩
       rw [hy] at f3a f3b
       go_wp2_with fail
       go_loopw [16] (fun i1 wq => ∃ (b : Nat), b ≤ nQ ∧ i1 = .int .i64 (b : Nat) ∧ Hid (∀ q, q < b → inQ (Q.getD q (0, 0)) y = false) ∧ Below w7.heap.size w7 wq) (fun i1 _ => nQ + 1 - (intOf i1).toNat)
       case atStart => exact ⟨0, Nat.zero_le _, rfl, lh (fun q h => by omega), hBr⟩
       case round =>
        obtain ⟨b, hb, rfl, hAb, hBq⟩ := hrel
        clear hBr
        have hL1 := hLo.out _ hBq
        obtain ⟨q0, q1⟩ := (g7.keep hBq).c2
        go_wp2_with fail
        refine hL1.mono ?_
        rintro e w8 ⟨v8, rfl, hQ8, hb8⟩
        obtain ⟨A8, c8, rfl⟩ := hQ8.sl hnQ.out
        have hB8 := hBq.trans (hb8.mono hBq.size)
        clear q0 q1 hL1 hQ8 hb8 hBq
        by_cases hlb : b < nQ
        ·have hlb' : (b : Int) < (nQ : Int) := by omega
         obtain ⟨gP, oP, rfl, hcP, hgP, -, -⟩ := hP7.out w7 a (Below.refl _ _) hla
         have hCF := lh (fun w' (hb : Below w8.heap.size w8 w') => show w'.cell? ⟨G, 0, none⟩ = some (.int .i64 (N : Nat)) ∧ w'.cell? ⟨G, 1, none⟩ = some (.int .i64 (L : Nat)) ∧ w'.cell? ⟨gP, oP + a * 3 + 1, none⟩ = some (.int .i64 y) from ⟨((g7.keep hB8).keep hb).c2.1, ((g7.keep hB8).keep hb).c2.2, by
          obtain ⟨g, off, hA, -, -, -, -, hc, -⟩ := hP7.out w' a (hB8.trans (hb.mono hB8.size)) hla
          cases hA
          rw [← hy]
          exact hc⟩)
         have hSB := f5.out b hlb
         obtain ⟨s1, s2, hs12⟩ : ∃ s1 s2, Q.getD b (0, 0) = (s1, s2) := ⟨_, _, rfl⟩
         rw [hs12] at hSB
         have hIn1 := lh (fun w1 => hIn.out s1 s2 y w1 hSB f3a f3b)
         obtain ⟨r, hr⟩ : ∃ r, inQ (s1, s2) y = r := ⟨_, rfl⟩
         rw [hr] at hIn1
         have hLo8 := lh (fun w9 (hb : Below w8.heap.size w8 w9) => hLo.out w9 (hB8.trans (hb.mono hB8.size)))
         go_wp2_with fail
         refine wp_region_held_drew (S := (fun w' => Below w8.heap.size w8 w')) (by kernel_rfl) (Below.refl _ _).drew (fun hHeld => ?_)
         refine takeH 0 ?_
         refine takeH 1 ?_
         refine takeH 2 ?_
         refine takeH 4 ?_
         refine takeH 7 ?_
         refine takeH 8 ?_
         refine takeH 9 ?_
         refine takeH 10 ?_
         refine takeH 11 ?_
         refine oneL 3 rfl (by kernel_rfl) (fun K hK => ?_)
         go_simp
         refine (hLo8.out _ hHeld).mono ?_; rintro e wl ⟨vl, rfl, hQl, hb⟩
         obtain ⟨Al, cl, rfl, hQc⟩ := hQl.pl.form hnQ.out
         obtain ⟨gQ, oQ, rfl, hcQ, hgQ, hQ0, hQ1⟩ := hQc wl b (Below.refl _ _) hlb
         rw [hs12] at hQ0 hQ1
         clear hQc hQl
         refine hK.out _ _ (hHeld.trans (hb.mono hHeld.size)) (fun hHeld2 => ?_)
         clear hK K hHeld
         have hHeld := hHeld2
         clear hHeld2
         try simp only [Act.put,sA,sB,sC]
         refine oneL 5 rfl (by kernel_rfl) (fun K hK => ?_)
         go_simp
         have hb := Below.refl wl.heap.size wl
         refine hK.out _ _ (hHeld.trans (hb.mono hHeld.size)) (fun hHeld2 => ?_)
         clear hK K hHeld
         have hHeld := hHeld2
         clear hHeld2
         try simp only [Act.put,sA,sB,sC]
         refine oneL 6 rfl (by kernel_rfl) (fun K hK => ?_)
         go_simp
         have hb := Below.refl wl.heap.size wl
         refine hK.out _ _ (hHeld.trans (hb.mono hHeld.size)) (fun hHeld2 => ?_)
         clear hK K hHeld
         have hHeld := hHeld2
         clear hHeld2
         try simp only [Act.put,sA,sB,sC]
         refine oneL 12 rfl (by kernel_rfl) (fun K hK => ?_)
         go_simp
         refine (hIn1.out _).mono ?_; rintro e wm ⟨rfl, hb⟩
         refine hK.out _ _ (hHeld.trans (hb.mono hHeld.size)) (fun hHeld2 => ?_)
         clear hK K hHeld
         have hHeld := hHeld2
         clear hHeld2
         try simp only [Act.put,sA,sB,sC]
         refine wpAnyH_done (by kernel_rfl) ?_ _
         have hB9 := hB8.trans (hHeld.mono hB8.size)
         cases r with
         | true =>
           go_wp2_with fail
           go_ret
           exact ⟨rfl, hA7.trans (hB9.mono hA7.size)⟩
         | false =>
           have hAb2 := lh (show ∀ q, q < b + 1 → inQ (Q.getD q (0, 0)) y = false from fun q h1 => by
            by_cases e : q = b
            ·subst e; rw [hs12]; exact hr
            ·exact hAb.out q (by omega))
           clear hAb
           go_wp2_with fail
           go_roundw
           case rel => exact ⟨b + 1, by omega, by go_num, hAb2, hB9⟩
           case measure => first | (simp [intOf]; done) | (simp [intOf]; omega)
        ·obtain rfl : nQ = b := by omega
         have hlb' : ¬ (nQ : Int) < (nQ : Int) := by omega
         have hAll2 := lh (show ∀ q, q < a + 1 → ∀ b, b < nQ → inQ (Q.getD b (0, 0)) (P.getD q default).2.1 = false from fun q h1 b hb2 => by
          by_cases e : q = a
          ·subst e; rw [hy]; exact hAb.out b hb2
          ·exact hAll.out q (by omega) b hb2)
         clear hAll hAb
         go_wp2_with fail
         go_roundw
         case rel => exact ⟨a + 1, by omega, by go_num, hAll2, hB8⟩
         case measure => first | (simp [intOf]; done) | (simp [intOf]; omega)
      ·obtain rfl : nP = a := by omega
       have hla' : ¬ (nP : Int) < (nP : Int) := by omega
       have hUr := hU7.keep hBr
       have hPr := OPL.keep hO7 hBr
       have hAr := hA7.trans (hBr.mono hA7.size)
       have hMe := mend_any (.slice (some ⟨B, 0, none⟩) N c3) I _ (hwk.out _ hAr) hW.out hUr.kl hI8
       go_wp2_with fail
       refine hMe.mono ?_
       rintro e w9 ⟨v9, rfl, hO9, hb9⟩
       have hA9 := hAr.trans (hb9.mono hAr.size)
       have hU9 := hUr.keep hb9
       have hP9 := OPL.keep hPr hb9
       clear hMe hUr hPr hAr hb9 hBr
       cases sm with
       | false =>
         have hno := lh (f6.out rfl)
         rw [hno.out] at hO9 ⊢
         simp only [Option.isSome_none, Option.getD_none, Bool.false_eq_true, if_false] at hO9 ⊢
         go_wp2_with fail
         go_ret
         exact ⟨rfl, hA9⟩
       | true =>
         obtain ⟨er, hre⟩ : ∃ er, (if (mendD I).isSome = true then (0 : Int) else 7) = er := ⟨_, rfl⟩
         rw [hre]
         replace hre := lh hre
         obtain ⟨nt, hnt⟩ : ∃ t : Nat, pt % (nP + 1) = t := ⟨_, rfl⟩
         have hntl : nt < nP + 1 := by rw [← hnt]; exact Nat.mod_lt _ (by omega)
         obtain ⟨nP1, hnP1⟩ : ∃ m, nP + 1 = m := ⟨_, rfl⟩
         have hnP2 : (nP : Int) + 1 = (nP1 : Int) := by omega
         have hnP3 : IntKind.i64.wrap (nP1 : Int) = (nP1 : Int) := wrapS _ (by omega) (by omega)
         have r4 : (pt : Int) % (nP1 : Int) = (nt : Int) := by rw [← hnP1, ← hnt]; rfl
         have hOt : OVs (P.take nt) := fun o ho => f2.out o (List.mem_of_mem_take ho)
         have hPt := EL.take hP9 nt (by have := hnP.out; omega)
         have hpl : (P.take nt).length ≤ 800 := by rw [List.length_take]; omega
         have hcap : nt ≤ c7 := by
          rcases Nat.eq_zero_or_pos nP with q | q
          ·omega
          ·obtain ⟨g, off, _, h2, _⟩ := hP7.out w7 0 (Below.refl _ _) q; omega
         obtain ⟨i0, hi0⟩ : ∃ i0, (Tryz.prog).info? 53 = some i0 := by obtain ⟨i0, h1, _⟩ := info_parts infoOp; exact ⟨i0, h1⟩
         have hsl := fun w1 => run_slice_to (P := Tryz.prog) (ty := 35) Tryz.underlying35 hi0 A7 nP c7 nt hcap w1
         have hApl := refApply_any (.slice (some ⟨B, 0, none⟩) N c3) (.slice A7 nt c7) I (P.take nt) w9 hW.out (by omega) hOt (by omega) hU9.kl hPt
         have hfin := lh (f7.out rfl hoth.out hAll.out nt)
         have hXW := lh (applyL_WL hOt hW.out)
         have hXl := lh (applyL_len (P.take nt) I)
         generalize applyL I (P.take nt) = J at hApl hfin hXW hXl
         clear hOt hPt hcap hi0 hnt f2 f3 f5 f6 f7 hIn hLo hAll hoth hO7 hP7 hP9
         go_wp2_with fail
         refine hApl.mono ?_
         rintro e w10 ⟨v10, rfl, hO10, hb10⟩
         have hA10 := hA9.trans (hb10.mono hA9.size)
         have hR10 := hO9.keep hb10
         have hM2 := mend_any v10 J w10 (hwk.out _ hA10) hXW.out hO10.kl (by rw [hXl.out]; exact hI8)
         rw [hfin.out, hre.out] at hM2
         clear hApl hU9 hO9 hsl
         go_wp2_with fail
         refine hM2.mono ?_
         rintro e w11 ⟨v11, rfl, hO11, hb11⟩
         have hA11 := hA10.trans (hb11.mono hA10.size)
         have hR11 := hR10.keep hb11
         have hml : ((mendD I).getD []).length ≤ 1000000 := by
          cases hmd : mendD I with
          | none => exact Nat.zero_le _
          | some K => have := (mend_head hmd).1; show K.length ≤ _; omega
         have hWo := words_any v9 v11 _ _ w11 hml hR11.kl hO11.kl
         rw [decide_eq_true rfl] at hWo
         clear hM2 hR10 hO10 hfin
         go_wp2_with fail
         refine hWo.mono ?_
         rintro e w12 ⟨rfl, hb12⟩
         have hA12 := hA11.trans (hb12.mono hA11.size)
         go_wp2_with fail
         go_ret
         exact ⟨by simp, hA12⟩
end Go.Proofs.YtkdhdibjbabgfaaGreatDoor
end
