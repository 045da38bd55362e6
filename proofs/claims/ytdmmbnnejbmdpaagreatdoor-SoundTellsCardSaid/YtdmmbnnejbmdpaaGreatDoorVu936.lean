/-
  Part of the proof of SoundTells,SoundGiven.
-/
import Derived.Test.YtdmmbnnejbmdpaaGreatDoorVu925
import Derived.Test.YtdmmbnnejbmdpaaGreatDoorVu935
import Derived.Test.YtdmmbnnejbmdpaaGreatDoorVu943
import Derived.Test.YtdmmbnnejbmdpaaGreatDoorVu90
set_option maxRecDepth 10000
set_option maxHeartbeats 1000000
set_option linter.unusedVariables false
set_option linter.unusedSimpArgs false
section
namespace Go.Proofs.YtdmmbnnejbmdpaaGreatDoor
open Go.Lib Go.RowKit Go.ChangeShapes Go.WideShapes Go.Deep Go.Shelf
structure PoolM (w : World) (g off cap N L : Nat) (I : List Nat) : Prop where
 hw : Lw w
 hW : WL I
 hv : KL .u64 w (.slice (some ⟨g, off, none⟩) N cap) I
 hN : I.length = N
 hN8 : N ≤ 800
 hL : I.getD 3 0 = L
 hs : gOk (N : Nat) (L : Nat) = true
theorem PoolM.keep {w w1 : World} {g off cap N L : Nat} {I : List Nat} (h : PoolM w g off cap N L I) (hb : Below w.heap.size w w1) : PoolM w1 g off cap N L I :=
 ⟨h.hw.keep hb, h.hW, h.hv.keep hb, h.hN, h.hN8, h.hL, h.hs⟩
theorem PoolM.cap {w : World} {g off cap N L : Nat} {I : List Nat} (h : PoolM w g off cap N L I) : N ≤ cap ∧ 116 ≤ N := by
 obtain ⟨s1, s2, s3, s4, s5, s6, s7, s8⟩ := pool_size h.hs
 obtain ⟨A, c2, hv2, h⟩ := h.hv.form h.hN
 cases hv2
 obtain ⟨_, _, _, h2, _⟩ := h w 0 (Below.refl _ _) (by omega)
 exact ⟨h2, by omega⟩
theorem PoolM.cell {w : World} {g off cap N L : Nat} {I : List Nat} (h : PoolM w g off cap N L I) (i : Nat) (hi : i < N) : w.cell? ⟨g, off + i, none⟩ = some (.int .u64 (I.getD i 0 : Nat)) := by
 obtain ⟨A, c2, hv2, h⟩ := h.hv.form h.hN
 cases hv2
 obtain ⟨g2, o2, hA, h2, h3, h4⟩ := h w i (Below.refl _ _) hi
 cases hA
 exact h4
theorem PoolM.tab {w : World} {g off cap N L : Nat} {I : List Nat} (h : PoolM w g off cap N L I) : ∃ o1 c1 G, (∀ w1, Calls Tryz.prog 73 #[.agg #[.slice (some ⟨g, off, none⟩) N cap, .int .i64 (N : Nat), .int .i64 (L : Nat)]] w1 fun e w' => e = .returned (.slice (some ⟨g, o1, none⟩) G c1) ∧ Below w1.heap.size w1 w') ∧ (∀ w1, Below w.heap.size w w1 → KL .u64 w1 (.slice (some ⟨g, o1, none⟩) G c1) (tabW I L)) ∧ (tabW I L).length = G ∧ G ≤ 800 ∧ WL (tabW I L) := by
 obtain ⟨s1, s2, s3, s4, s5, s6, s7, s8⟩ := pool_size h.hs
 have hc := h.cap
 have hN := h.hN
 have hN8 := h.hN8
 refine ⟨off + (10 + 73 * L), cap - (10 + 73 * L), gNat N L, fun w1 => table16 g off N cap L _ w1 h.hs rfl hc.1, fun w1 hb => ?_, ?_, by omega, fun x hx => h.hW x (by unfold tabW at hx; exact List.mem_of_mem_drop (List.mem_of_mem_take hx))⟩
 ·have h2 := KL.partC (h.hv.keep hb) hN (10 + 73 * L) (gNat N L) (cap - (10 + 73 * L)) (by omega) (by omega)
  unfold tabW; rw [hN]; exact h2
 ·rw [tab_len (by rw [hN]; exact h.hs), hN]
theorem PoolM.objs {w : World} {g off cap N L : Nat} {I : List Nat} (h : PoolM w g off cap N L I) : Calls Tryz.prog 45 #[.agg #[.slice (some ⟨g, off, none⟩) N cap, .int .i64 (N : Nat), .int .i64 (L : Nat)]] w fun e w' => ∃ v', e = .returned (.tuple #[v', .bool (allO I L (blI I L))]) ∧ OBO w' w.heap.size v' (objsP I L) ∧ Below w.heap.size w w' :=
 objects_any g off cap N L I w h.hw h.hW h.hv h.hN h.hN8 h.hL h.hs
theorem objsP_len {I : List Nat} {L N : Nat} (hN : I.length = N) (hN8 : N ≤ 800) (hs : gOk (N : Nat) (L : Nat) = true) : (objsP I L).length ≤ 10000 := by
 obtain ⟨s1, s2, s3, s4, s5, s6, s7, s8⟩ := pool_size hs
 subst hN
 have h1 := bl_len hs
 unfold objsP
 split
 ·rw [List.length_map]; omega
 ·exact Nat.zero_le _
theorem calm_any (t : List Nat) : calmT t = !(t.any fun x => decide (kN x = 4)) := by
 unfold calmT
 induction t with
 | nil => rfl
 | cons x t ih => rw [List.all_cons, List.any_cons, ih, Bool.not_or]
theorem hasHead_t (v : Value) (N L : Nat) (w : World) (hv : v.cells = #[v]) (hs : gOk (N : Nat) (L : Nat) = true) :
 Calls Tryz.prog 32 #[.agg #[v, .int .i64 (N : Nat), .int .i64 (L : Nat)]] w fun e w' => e = .returned (.bool true) ∧ Below w.heap.size w w' := by
 have hR := lh (fun w1 => right_t (N : Nat) (L : Nat) w1 hs)
 have hb0 := bZ w (.cells #[v, .int .i64 (N : Nat), .int .i64 (L : Nat)] 73)
 have gP := HB.new w #[v, .int .i64 (N : Nat), .int .i64 (L : Nat)] 73
 obtain ⟨wb1, hwb1⟩ : ∃ x, w.alloc (.cells #[v, .int .i64 (N : Nat), .int .i64 (L : Nat)] 73) = x := ⟨_, rfl⟩
 have hswb1 : wb1.heap.size = w.heap.size + 1 := by rw [← hwb1]; simp
 rw [hwb1] at hb0 gP
 have hB : Below w.heap.size w wb1 := hb0
 clear hb0
 have p0 := (row_cell gP 0).1
 have p1 := (row_cell gP 1).1
 have p2 := (row_cell gP 2).1
 go_enter Tryz.func32, Tryz.ntmps32
 subst hwb1
 go_wp2_with fail
 refine (hR.out _).mono ?_
 rintro e w1 ⟨rfl, hb⟩
 have hBe := hB.trans (hb.mono hB.size)
 go_wp2_with fail
 go_ret
 exact ⟨rfl, hBe⟩
theorem hasHead_f (v : Value) (w : World) (hv : v.cells = #[v]) :
 Calls Tryz.prog 32 #[.agg #[v, .int .i64 0, .int .i64 0]] w fun e w' => e = .returned (.bool false) ∧ Below w.heap.size w w' := by
 have hR := lh (fun w1 => right_f 0 0 w1 (by decide))
 have hb0 := bZ w (.cells #[v, .int .i64 0, .int .i64 0] 73)
 have gP := HB.new w #[v, .int .i64 0, .int .i64 0] 73
 obtain ⟨wb1, hwb1⟩ : ∃ x, w.alloc (.cells #[v, .int .i64 0, .int .i64 0] 73) = x := ⟨_, rfl⟩
 have hswb1 : wb1.heap.size = w.heap.size + 1 := by rw [← hwb1]; simp
 rw [hwb1] at hb0 gP
 have hB : Below w.heap.size w wb1 := hb0
 clear hb0
 have p0 := (row_cell gP 0).1
 have p1 := (row_cell gP 1).1
 have p2 := (row_cell gP 2).1
 go_enter Tryz.func32, Tryz.ntmps32
 subst hwb1
 go_wp2_with fail
 refine (hR.out _).mono ?_
 rintro e w1 ⟨rfl, hb⟩
 have hBe := hB.trans (hb.mono hB.size)
 go_wp2_with fail
 go_ret
 exact ⟨rfl, hBe⟩
theorem tiled1 (x : Nat) (w : World) : Calls Tryz.prog 76 #[.agg #[.int .i64 (kN x : Nat), .int .i64 (cN x : Nat), .int .i64 (lnN x : Nat), .int .i64 (mN x : Nat), .int .u64 (bN x : Nat)]] w fun e w' => e = .returned (.bool (decide (kN x = 4))) ∧ Below w.heap.size w w' := by
 generalize kN x = K
 generalize cN x = a
 generalize lnN x = b
 generalize mN x = c
 generalize bN x = d
 by_cases h : K = 4
 ·subst h
  go_enter Tryz.func76, Tryz.ntmps76
  go_wp2_with fail
  go_ret
  exact ⟨rfl, bZ _ _⟩
 ·have h2 : ((K : Int) == 4) = false := beq_eq_false_iff_ne.2 (by omega)
  have h3 : ¬ (K : Int) = 4 := by omega
  rw [decide_eq_false h]
  go_enter Tryz.func76, Tryz.ntmps76
  go_wp2_with fail
  go_ret
  exact ⟨by simp [h2, h3], bZ _ _⟩
theorem isTiled_any {w : World} {g off cap N L : Nat} {I : List Nat} (h : PoolM w g off cap N L I) :
 Calls Tryz.prog 34 #[.agg #[.slice (some ⟨g, off, none⟩) N cap, .int .i64 (N : Nat), .int .i64 (L : Nat)]] w fun e w' => e = .returned (.bool (rightT (tabW I L) && calmT (tabW I L))) ∧ Below w.heap.size w w' := by
 obtain ⟨o1, c1, G, hTb, hKt, hlen, hG8, htW⟩ := h.tab
 rw [calm_any]
 generalize tabW I L = t at *
 obtain ⟨ans, hans⟩ : ∃ a, (rightT t && !(t.any fun x => decide (kN x = 4))) = a := ⟨_, rfl⟩
 rw [hans]
 replace hans := lh hans
 have hTb := lh hTb
 have hRi := lh (fun w1 (hb : Below w.heap.size w w1) => right_any2 (.slice (some ⟨g, o1, none⟩) G c1) t w1 (h.hw.keep hb) (hKt w1 hb) htW (by omega))
 have hCh := lh (fun w1 (hb : Below w.heap.size w w1) => chunks_any (.slice (some ⟨g, o1, none⟩) G c1) t w1 (h.hw.keep hb) (hKt w1 hb) htW (by omega))
 have hall : rightT t = true → t.all okN = true := fun hr => by unfold rightT at hr; rw [Bool.and_eq_true] at hr; exact hr.1
 clear hKt htW h
 have hb0 := bZ w (.cells #[.slice (some ⟨g, off, none⟩) N cap, .int .i64 (N : Nat), .int .i64 (L : Nat)] 73)
 have gP := HB.new w #[.slice (some ⟨g, off, none⟩) N cap, .int .i64 (N : Nat), .int .i64 (L : Nat)] 73
 obtain ⟨wb1, hwb1⟩ : ∃ x, w.alloc (.cells #[.slice (some ⟨g, off, none⟩) N cap, .int .i64 (N : Nat), .int .i64 (L : Nat)] 73) = x := ⟨_, rfl⟩
 have hswb1 : wb1.heap.size = w.heap.size + 1 := by rw [← hwb1]; simp
 rw [hwb1] at hb0 gP
 have hB : Below w.heap.size w wb1 := hb0
 clear hb0
 have p0 := (row_cell gP 0).1
 have p1 := (row_cell gP 1).1
 have p2 := (row_cell gP 2).1
 go_enter Tryz.func34, Tryz.ntmps34
 subst hwb1
 go_wp2_with fail
 refine (hTb.out _).mono ?_
 rintro e w1 ⟨rfl, hb1⟩
 have hB1 := hB.trans (hb1.mono hB.size)
 have gP1 := gP.keep hb1
 have hR1 := hRi.out _ hB1
 clear p0 p1 p2 hB gP hb1 hRi
 cases hr : rightT t with
 | false =>
   rw [hr] at hR1
   have hf := lh (show ans = false from by rw [← hans.out, hr]; rfl)
   go_wp2_with fail
   refine hR1.mono ?_
   rintro e w2 ⟨rfl, hb2⟩
   have hB2 := hB1.trans (hb2.mono hB1.size)
   go_wp2_with fail
   go_ret
   exact ⟨by rw [hf.out]; rfl, hB2⟩
 | true =>
   rw [hr] at hR1
   have hal := hall hr
   have hf := lh (show ans = !(t.any fun x => decide (kN x = 4)) from by rw [← hans.out, hr]; rfl)
   clear hall hr
   go_wp2_with fail
   refine hR1.mono ?_
   rintro e w2 ⟨rfl, hb2⟩
   have hB2 := hB1.trans (hb2.mono hB1.size)
   have gP2 := gP1.keep hb2
   clear hR1 hb2 hB1 gP1
   have p0 := (row_cell gP2 0).1
   have p1 := (row_cell gP2 1).1
   have p2 := (row_cell gP2 2).1
   go_wp2_with fail
   refine (hTb.out _).mono ?_
   rintro e w3 ⟨rfl, hb3⟩
   have hB3 := hB2.trans (hb3.mono hB2.size)
   have hC3 := hCh.out _ hB3
   clear p0 p1 p2 hTb hCh hb3 hB2 gP2
   go_wp2_with fail
   refine hC3.mono ?_
   rintro e w4 ⟨hcp, hb4⟩
   have hB4 := hB3.trans (hb4.mono hB3.size)
   clear hC3
   rcases hcp with ⟨-, v4, rfl, ho4⟩ | ⟨hno, -⟩
   ·have hCo := containsCk #[] (fun x => decide (kN x = 4)) v4 t w4 (ho4.el eC_len) (by omega) (fun w1 x hb hx => tiled1 x w1)
    go_wp2_with fail
    refine hCo.mono ?_
    rintro e w5 ⟨rfl, hb5⟩
    have hB5 := hB4.trans (hb5.mono hB4.size)
    go_wp2_with fail
    go_ret
    exact ⟨by rw [hf.out]; rfl, hB5⟩
   ·rw [hal] at hno; cases hno
theorem hasObjects_any {w : World} {g off cap N L : Nat} {I : List Nat} (h : PoolM w g off cap N L I) :
 Calls Tryz.prog 35 #[.agg #[.slice (some ⟨g, off, none⟩) N cap, .int .i64 (N : Nat), .int .i64 (L : Nat)]] w fun e w' => e = .returned (.bool (allO I L (blI I L))) ∧ Below w.heap.size w w' := by
 have hOb := fun w1 (hb : Below w.heap.size w w1) => (h.keep hb).objs
 obtain ⟨r, hr⟩ : ∃ r, allO I L (blI I L) = r := ⟨_, rfl⟩
 simp only [hr] at hOb
 rw [hr]
 replace hOb := lh hOb
 clear h hr
 have hb0 := bZ w (.cells #[.slice (some ⟨g, off, none⟩) N cap, .int .i64 (N : Nat), .int .i64 (L : Nat)] 73)
 have gP := HB.new w #[.slice (some ⟨g, off, none⟩) N cap, .int .i64 (N : Nat), .int .i64 (L : Nat)] 73
 obtain ⟨wb1, hwb1⟩ : ∃ x, w.alloc (.cells #[.slice (some ⟨g, off, none⟩) N cap, .int .i64 (N : Nat), .int .i64 (L : Nat)] 73) = x := ⟨_, rfl⟩
 have hswb1 : wb1.heap.size = w.heap.size + 1 := by rw [← hwb1]; simp
 rw [hwb1] at hb0 gP
 have hB : Below w.heap.size w wb1 := hb0
 clear hb0
 have p0 := (row_cell gP 0).1
 have p1 := (row_cell gP 1).1
 have p2 := (row_cell gP 2).1
 go_enter Tryz.func35, Tryz.ntmps35
 subst hwb1
 go_wp2_with fail
 refine (hOb.out _ hB).mono ?_
 rintro e w1 ⟨v1, rfl, -, hb1⟩
 have hB1 := hB.trans (hb1.mono hB.size)
 go_wp2_with fail
 go_ret
 exact ⟨rfl, hB1⟩
end Go.Proofs.YtdmmbnnejbmdpaaGreatDoor
end
section
namespace Go.Proofs.YtdmmbnnejbmdpaaGreatDoor
open Go.RowKit Go.ChangeShapes Go.WideShapes Go.Deep
def SpL (l : List (Nat × Nat)) : Prop := l.length ≤ 9223372036854775807 ∧ ∀ x ∈ l, SlOk x
theorem spoils_open {H : Type} {enc : TypeId × Value → H} {W : World} {ad : Option Addr} {len cap : Nat} {d : DataW H} {p : List MemPlace}
 (h : DataW.Trod enc Tryz.prog W 0 (fun _ => true) true 28 (.slice ad len cap) d p) : ∃ l : List (Nat × Nat), SpL l ∧ EL 2 eSl W (.slice ad len cap) l :=
 els_open (Ok := SlOk) Tryz.underlying28 (show Tryz.prog.cellsOf 35 = 2 by kernel_rfl) (by decide) (fun fuel cs x hl hx => spoil_read hl hx) h
end Go.Proofs.YtdmmbnnejbmdpaaGreatDoor
end
