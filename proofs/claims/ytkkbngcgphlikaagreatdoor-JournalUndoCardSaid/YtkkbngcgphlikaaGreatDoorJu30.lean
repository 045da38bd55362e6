/-
  Part of the proof of JournalUndo.
-/
import Derived.Test.YtkkbngcgphlikaaGreatDoorJu27
import Derived.Test.YtkkbngcgphlikaaGreatDoorRows
import Derived.Test.YtkkbngcgphlikaaGreatDoorJu0
set_option maxRecDepth 10000
set_option maxHeartbeats 2000000
set_option linter.unusedVariables false
set_option linter.unusedSimpArgs false
section
namespace Go.Proofs.YtkkbngcgphlikaaGreatDoor
open Go.RowKit Go.ChangeShapes Go.WideShapes Go.Deep
theorem OwnU.keepG {w w1 : World} {base g : Nat} {v : Value} {l : List Nat} (h : OwnU w base v l) (hb : Below g w w1) (hg : ∀ b, v.ownBlock = some b → b < g) : OwnU w1 base v l := by
 refine ⟨h.1, ?_⟩
 rcases h.2 with h2 | ⟨g', cap, cur, hv, hbg, hgc, h1, h2, h3, h4⟩
 ·exact .inl h2
 exact .inr ⟨g', cap, cur, hv, hbg, by rw [hb.block g' (hg g' (by rw [hv]; rfl))]; exact hgc, h1, h2, h3, h4⟩
theorem OwnU.lt {w : World} {base : Nat} {v : Value} {l : List Nat} (h : OwnU w base v l) : ∀ k, v.ownBlock = some k → base ≤ k ∧ k < w.heap.size := World.ownsRow.lt h
theorem OwnU.sl {w : World} {base : Nat} {v : Value} {l : List Nat} {m : Nat} (h : OwnU w base v l) (hm : l.length = m) : ∃ A c, v = .slice A m c := by
 rcases h.2 with ⟨h1, h2⟩ | ⟨g', cap', cur, h1, _⟩
 ·exact ⟨none, 0, by rw [h1, ← hm, h2]⟩
 exact ⟨_, _, by rw [h1, hm]⟩
theorem C5.grown {w w1 : World} {g : Nat} {k c l m b : Int} {row : Option Nat} (h : C5 w g k c l m b) (hg : w.grownBy w1 row) (hr : row ≠ some g) : C5 w1 g k c l m b := by
 have hc : ∀ o, w1.cell? ⟨g, o, none⟩ = w.cell? ⟨g, o, none⟩ := fun o => World.cell?_of_block (hg.block g h.lt (fun e => hr e.symm))
 obtain ⟨h0, h1, h2, h3, h4⟩ := h
 exact ⟨by rw [hc]; exact h0, by rw [hc]; exact h1, by rw [hc]; exact h2, by rw [hc]; exact h3, by rw [hc]; exact h4⟩
theorem appU1 {w : World} {base y : Nat} {v : Value} {l : List Nat} (h : OwnU w base v l) (hb : base ≤ w.heap.size) (hl : l.length ≤ 100000) (t : TypeId) :
 ∃ v' w', (Builtin.append_ #[25, 25] 25 #[v, .slice (some ⟨w.heap.size, 0, none⟩) 1 1]).run Tryz.prog (w.alloc (.cells #[.int .u64 (y : Nat)] t)) = .ok v' w' ∧ OwnU w' base v' (l ++ [y]) ∧ Below base w w' ∧ (w.alloc (.cells #[.int .u64 (y : Nat)] t)).grownBy w' v.ownBlock ∧ (v'.ownBlock = v.ownBlock ∨ v'.ownBlock = some (w.heap.size + 1)) := by
 have hA : Below w.heap.size w (w.alloc (.cells #[.int .u64 (y : Nat)] t)) := bZ _ _
 obtain ⟨v', w', h1, h2, h3, h4⟩ := appU (y := y) (h.keep hA) (cell_new1 w (.int .u64 (y : Nat)) t) (by simp; omega) (by omega)
 refine ⟨v', w', h1, ?_, (hA.mono hb).trans (grown_below h3 (by simp; omega) (fun k hk => (h.lt k hk).1)), h3, by simpa using h4⟩
 unfold OwnU
 rw [List.length_append, List.map_append]
 exact h2
theorem okN_word {k c l m b : Int} (h : rightB_ti k c l m b = true) (b0 : 0 ≤ b) : ∃ x : Nat, wordI k c l m b = (x : Int) ∧ okN x = true ∧ ((kN x : Nat) : Int) = k ∧ ((mN x : Nat) : Int) = m := by
 obtain ⟨k0, k1, c0, c1, l0, l1, m0, m1, b1⟩ := right_bd h b0
 obtain ⟨g0, g1, g2, g3, g4, x0, x1⟩ := word_parts k c l m b k0 k1 c0 c1 l0 l1 m0 m1 b0 b1
 obtain ⟨x, hx⟩ := Int.eq_ofNat_of_zero_le x0
 refine ⟨x, hx, ?_, ?_, ?_⟩
 ·rw [← okN_dec, ← hx]
  unfold decB_ti
  rw [g0, g1, g2, g3, g4, h]
  simpa using x1
 ·rw [← (gN_ti x).1, ← hx, g0]
 rw [← (gN_ti x).2.2.2.1, ← hx, g3]
end Go.Proofs.YtkkbngcgphlikaaGreatDoor
end
section
namespace Go.Proofs.YtkkbngcgphlikaaGreatDoor
open Go.Lib Go.RowKit Go.ChangeShapes Go.WideShapes Go.Deep
theorem wrapQ_so (k : Int) (h0 : 0 ≤ k) (h : k ≤ 1000000) : IntKind.i64.wrap k = k := by rw [IntKind.wrap_i64]; omega
abbrev Ob := Nat × Nat × Nat × Nat
def plc (N L : Nat) (b : Bl) : Nat := 10 + 73 * L + gNat N L + b.1 * 32 + b.2.1 * b.2.2
def hdAt (I : List Nat) (p : Nat) : Option (Nat × Nat × Nat) := decH ((I.drop p).take 2)
def objH (I : List Nat) (L : Nat) (b : Bl) : Option Ob := match hdAt I (plc I.length L b) with
 | some (t, s, n) => if romJ (s : Nat) = (b.2.2 : Nat) then some (plc I.length L b, t, s, n) else none
 | none => none
def blI (I : List Nat) (L : Nat) : List Bl := blksT (tabW I L)
def calmT (t : List Nat) : Bool := t.all fun x => !decide (kN x = 4)
theorem blAt_bd {i x : Nat} (hx : okN x = true) {b : Bl} (h : b ∈ blksAt i x) : b.1 = i ∧ ((b.2.2 = 4 ∨ b.2.2 = 8 ∨ b.2.2 = 16) ∧ b.2.1 * b.2.2 + b.2.2 ≤ 32 ∧ b.2.1 ≤ 7 ∨ b.2.1 = 0 ∧ kN x = 2 ∧ b.2.2 = mN x * 32 ∧ 1 ≤ mN x ∧ mN x ≤ 8191) := by
 have hr := okN_t hx
 unfold blksAt at h
 split at h
 rotate_left
 ·split at h
  ·rename_i hk
   rw [List.mem_singleton] at h
   subst h
   refine ⟨rfl, .inr ⟨rfl, hk, rfl, ?_⟩⟩
   unfold RightN at hr
   omega
  cases h
 rename_i hk
 obtain ⟨j, hj, rfl⟩ := List.mem_map.1 h
 unfold liveL at hj
 have hj2 := (List.mem_filter.1 hj).1
 rw [List.mem_range] at hj2
 refine ⟨rfl, .inl ?_⟩
 simp only []
 unfold mnN at hj2
 unfold blN
 by_cases c0 : cN x = 0
 ·rw [if_pos c0] at hj2 ⊢; omega
 by_cases c1 : cN x = 1
 ·rw [if_neg c0, if_pos c1] at hj2 ⊢; omega
 by_cases c2 : cN x = 2
 ·rw [if_neg c0, if_neg c1, if_pos c2] at hj2 ⊢; omega
 rw [if_neg c0, if_neg c1, if_neg c2] at hj2; omega
theorem blFrom_mem : ∀ (o : Nat) (t : List Nat) {b : Bl}, b ∈ blksFrom o t → ∃ i, i < t.length ∧ b ∈ blksAt (o + i) (t.getD i 0)
 | _, [], b, h => by cases h
 | o, x :: t, b, h => by
   unfold blksFrom at h
   rcases List.mem_append.1 h with h | h
   ·exact ⟨0, by simp, by simpa using h⟩
   ·obtain ⟨i, hi, hb⟩ := blFrom_mem (o + 1) t h
    exact ⟨i + 1, by simp; omega, by rw [show o + (i + 1) = o + 1 + i from by omega]; simpa using hb⟩
theorem bl_bd {t : List Nat} {b : Bl} (h : b ∈ blksT t) : b.1 < t.length ∧ ((b.2.2 = 4 ∨ b.2.2 = 8 ∨ b.2.2 = 16) ∧ b.2.1 * b.2.2 + b.2.2 ≤ 32 ∧ b.2.1 ≤ 7 ∨ b.2.1 = 0 ∧ kN (t.getD b.1 0) = 2 ∧ b.2.2 = mN (t.getD b.1 0) * 32 ∧ 1 ≤ mN (t.getD b.1 0) ∧ mN (t.getD b.1 0) ≤ 8191) := by
 unfold blksT at h
 split at h
 rotate_left
 ·cases h
 rename_i ho
 obtain ⟨i, hi, hb⟩ := blFrom_mem 0 t h
 rw [Nat.zero_add] at hb
 have hx : okN (t.getD i 0) = true := by
  rw [List.getD_eq_getElem?_getD, List.getElem?_eq_getElem hi]
  exact List.all_eq_true.1 ho _ (List.getElem_mem hi)
 obtain ⟨h1, h2⟩ := blAt_bd hx hb
 rw [h1]
 exact ⟨hi, h2⟩
theorem tab_len {I : List Nat} {L : Nat} (hg : gOk (I.length : Nat) (L : Nat) = true) : (tabW I L).length = gNat I.length L := by
 obtain ⟨s1, s2, s3, s4, s5, s6, s7, s8⟩ := pool_size hg
 unfold tabW
 rw [List.length_take, List.length_drop]
 omega
theorem plc_bd {I : List Nat} {L : Nat} (hg : gOk (I.length : Nat) (L : Nat) = true) {b : Bl} (h : b ∈ blI I L) : b.1 < gNat I.length L ∧ b.2.1 * b.2.2 ≤ 28 ∧ b.2.1 ≤ 7 ∧ 4 ≤ b.2.2 ∧ b.2.2 ≤ 300000 ∧ plc I.length L b + 4 ≤ I.length ∧ 10 + 73 * L + gNat I.length L ≤ plc I.length L b := by
 obtain ⟨s1, s2, s3, s4, s5, s6, s7, s8⟩ := pool_size hg
 obtain ⟨h1, h2⟩ := bl_bd h
 rw [tab_len hg] at h1
 obtain ⟨c, j, m⟩ := b
 simp only [] at h1 h2 ⊢
 unfold plc
 simp only []
 rcases h2 with ⟨ha, hb, hc⟩ | ⟨ha, hb, hc, hd, he⟩
 ·refine ⟨h1, ?_, hc, by omega, by omega, ?_, by omega⟩
  ·omega
  have : c * 32 + 32 ≤ gNat I.length L * 32 := by omega
  omega
 subst ha
 refine ⟨h1, ?_, by omega, by omega, by omega, ?_, by omega⟩
 ·simp
 have : c * 32 + 32 ≤ gNat I.length L * 32 := by omega
 simp
 omega
end Go.Proofs.YtkkbngcgphlikaaGreatDoor
end
section
namespace Go.Proofs.YtkkbngcgphlikaaGreatDoor
open Go.RowKit Go.ChangeShapes Go.WideShapes Go.Deep
theorem liveL_succ (b k : Nat) : liveL b (k + 1) = liveL b k ++ (if b.testBit k then [k] else []) := by
 unfold liveL; rw [List.range_succ, List.filter_append]
 by_cases h : b.testBit k = true <;> simp [h]
theorem slForm {α : Type} {e : TypeId} {sz : Nat} {en : α → List Value} {w : World} {base : Nat} {v : Value} {l : List α} {n : Nat} (h : OwnE e sz en w base v l) (hn : l.length = n) : ∃ A c, v = .slice A n c := by
 rcases h.2 with ⟨h, h2⟩ | ⟨g', cap', cur, h, _⟩
 ·exact ⟨none, 0, by rw [h, ← hn, h2]⟩
 exact ⟨_, _, by rw [h, hn]⟩
theorem appB {w : World} {base : Nat} {v : Value} {l : List Bl} (y : Bl) (h : BKO w base v l) (hb : base ≤ w.heap.size) (hl : l.length ≤ 100000) :
 ∃ v' w', (Builtin.append_ #[89, 89] 89 #[v, .slice (some ⟨w.heap.size, 0, none⟩) 1 1]).run Tryz.prog (w.alloc (.cells #[.int .i64 (y.1 : Nat), .int .i64 (y.2.1 : Nat), .int .i64 (y.2.2 : Nat)] (93 : Nat))) = .ok v' w' ∧ BKO w' base v' (l ++ [y]) ∧ Below base w w' := by
 obtain ⟨v', w', hrun, ho, hg, _, _⟩ := appE bT (h.alloc (.cells #[.int .i64 (y.1 : Nat), .int .i64 (y.2.1 : Nat), .int .i64 (y.2.2 : Nat)] (93 : Nat))) (eB_new w y (93 : Nat)) (by rw [World.size_alloc]; omega) (by omega) (by simp)
 exact ⟨v', w', hrun, ho, ((Below.refl base w).alloc hb _).trans (grown_below hg (by rw [World.size_alloc]; omega) (fun k hk => (h.lt k hk).1))⟩
theorem refBlocks_any (v : Value) (t : List Nat) (w : World) (hw : Lw w) (hv : KL .u64 w v t) (hW : WL t) (hl : t.length ≤ 1000) :
 Calls Tryz.prog 47 #[v] w fun e W' => ∃ v', e = .returned v' ∧ BKO W' w.heap.size v' (blksT t) ∧ Below w.heap.size w W' := by
 have hCh := refChunks_any v t w hw hv hW (by omega)
 obtain ⟨R, hR⟩ : ∃ R, blksT t = R := ⟨_, rfl⟩
 rw [hR]
 obtain ⟨nn, hnn⟩ : ∃ n, t.length = n := ⟨_, rfl⟩
 obtain ⟨A, cap, rfl, _⟩ := hv.form hnn
 go_enter Tryz.func47, Tryz.ntmps47
 go_wp2_with fail
 refine hCh.mono ?_
 rintro e w1 ⟨hP, hb1⟩
 obtain ⟨v1, bb, t1, rfl, hk1, hok1, hbl, hl1, q1, q2⟩ := hP.some
 obtain ⟨n, hn⟩ : ∃ n, t1.length = n := ⟨_, rfl⟩
 have hRt := lh (show R = blksFrom 0 (t1.take n) from by rw [← hR, hbl, List.take_of_length_le (by omega)])
 obtain ⟨A1, c1, rfl, hC⟩ := CKL.form hk1 hn
 replace hC := lh hC
 have hn9 : n ≤ 1000 := by omega
 have hok := lh (fun k (hk : k < n) => okN_t (all_at hok1 (k := k) (by omega)))
 have htk := lh (fun k (hk : k < n) => blksFrom_take t1 k (by omega))
 have hbl8 := lh (fun k => blksFrom_len 0 (t1.take k))
 have hbs1 := hb1.size
 have hbw := lh hb1
 clear hCh hP hv hW hR hnn hk1 hok1 hbl q1 q2 hl1 hl hb1
 replace hn := lh hn
 go_wp2_with fail
 go_loopw [6, 5] (fun i vr wr => ∃ (j : Nat) (l : List Bl), j ≤ n ∧ i = .int .i64 j ∧ Hid (l = blksFrom 0 (t1.take j)) ∧ BKO wr w1.heap.size vr l ∧ Below w1.heap.size w1 wr) (fun i _ _ => n + 1 - (intOf i).toNat)
 case atStart => exact ⟨0, _, Nat.zero_le _, rfl, (show [] = _ from rfl), OwnE.nil _ _ _ _ _, Below.refl _ _⟩
 obtain ⟨j, l, hj, rfl, hl, hown, hB⟩ := hrel
 by_cases hlt : j < n
 rotate_left
 ·obtain rfl : j = n := by omega
  have hfin := lh (show BKO wr w.heap.size u5 R ∧ Below w.heap.size w wr from ⟨by rw [hRt.out, ← hl.out]; exact hown.mono hbs1, hbw.out.trans (hB.mono hbs1)⟩)
  clear hown hB hl
  go_wp2_with fail
  go_ret
  exact ⟨_, rfl, hfin.out⟩
 obtain ⟨g, off, rfl, hcap, hg, hg2, c0, c1, c2, c3, c4⟩ := hC.out wr j hB hlt
 have hlt' : (j : Int) < (n : Int) := by omega
 have hrx := (hok.out j hlt).2
 have htj := htk.out j hlt
 have hl8 := hbl8.out j
 rw [← hl.out] at htj hl8
 rw [List.length_take] at hl8
 obtain ⟨x, hx⟩ : ∃ x, t1.getD j 0 = x := ⟨_, rfl⟩
 rw [hx] at hrx htj c0 c1 c2 c3 c4
 replace hx := lh hx
 have hpb := parts_bd x
 obtain ⟨ik, hik⟩ : ∃ z : Int, ((kN x : Nat) : Int) = z := ⟨_, rfl⟩
 rw [hik] at c0
 obtain ⟨L, hL⟩ : ∃ L, l.length = L := ⟨_, rfl⟩
 obtain ⟨Av, cv, rfl⟩ := slForm hown hL
 by_cases k2 : kN x = 2
 ·have k2' : ik = 2 := by omega
  have hm := hpb.2.2.2.1
  obtain ⟨mm, hmm⟩ : ∃ q, mN x = q := ⟨_, rfl⟩
  rw [hmm] at hm c3
  have hst := lh (show blksFrom 0 (t1.take (j + 1)) = l ++ [(j, 0, mm * 32)] from by rw [htj, ← hmm]; unfold blksAt; rw [if_neg (by omega), if_pos k2])
  subst k2'
  obtain ⟨v', w4, hrun, ho, hb⟩ := appB (j, 0, mm * 32) hown hB.size (by omega)
  have hB4 := hB.trans (hb.mono (Nat.le_refl _))
  have e1 : 32 * (mm : Int) = ((mm * 32 : Nat) : Int) := by omega
  replace hik := lh hik
  replace hL := lh hL
  replace hmm := lh hmm
  clear hown hB hb hrx htj hl8 hpb k2
  go_wp2_with (at_builtin; refine wpList_append_run rfl _ _ 89 rfl _ _ _ rfl rfl hrun ?_)
  go_loopw [7, 5] (fun u vr wr2 => u = .int .i64 0 ∧ Hid (BKO wr2 w1.heap.size vr (l ++ [(j, 0, mm * 32)]) ∧ Below w1.heap.size w1 wr2)) (fun _ _ _ => 0)
  case atStart => exact ⟨rfl, ho, hB4⟩
  obtain ⟨rfl, hOB⟩ := hrel
  obtain ⟨g, off, hA, hcap, hg, hg2, c0, c1, c2, c3, c4⟩ := hC.out wr j hOB.out.2 hlt
  cases hA
  rw [hx.out, hik.out] at c0
  go_wp2_with fail
  go_roundw
  case rel => exact ⟨j + 1, _, by omega, by go_num, hst.out.symm, hOB.out.1, hOB.out.2⟩
  first | (simp [intOf]; done) | (simp [intOf]; omega)
 have k2' : ¬ ik = 2 := by omega
 by_cases k1 : kN x = 1
 rotate_left
 ·have k1' : ¬ ik = 1 := by omega
  have hst := lh (show blksFrom 0 (t1.take (j + 1)) = l from by rw [htj]; unfold blksAt; rw [if_neg k1, if_neg k2, List.append_nil])
  replace hik := lh hik
  replace hL := lh hL
  have hown0 := hown
  have hB0 := hB
  clear hown hB hrx htj hl8 hpb k2 k1
  go_wp2_with fail
  go_loopw [7, 5] (fun u vr wr2 => u = .int .i64 0 ∧ Hid (BKO wr2 w1.heap.size vr l ∧ Below w1.heap.size w1 wr2)) (fun _ _ _ => 0)
  case atStart => exact ⟨rfl, hown0, hB0⟩
  obtain ⟨rfl, hOB⟩ := hrel
  obtain ⟨g, off, hA, hcap, hg, hg2, c0, c1, c2, c3, c4⟩ := hC.out wr j hOB.out.2 hlt
  cases hA
  rw [hx.out, hik.out] at c0
  go_wp2_with fail
  go_roundw
  case rel => exact ⟨j + 1, _, by omega, by go_num, hst.out.symm, hOB.out.1, hOB.out.2⟩
  first | (simp [intOf]; done) | (simp [intOf]; omega)
 have k1' : ik = 1 := by omega
 have hcb := hpb.2.1
 obtain ⟨cc, hcc⟩ : ∃ q, cN x = q := ⟨_, rfl⟩
 obtain ⟨bx, hbx⟩ : ∃ q, bN x = q := ⟨_, rfl⟩
 obtain ⟨M, hM⟩ : ∃ M, mnN cc = M := ⟨_, rfl⟩
 obtain ⟨U, hU⟩ : ∃ U, blN cc = U := ⟨_, rfl⟩
 have hM8 : M ≤ 8 := by rw [← hM]; exact mnN_le cc
 have hb256 := hpb.2.2.2.2
 rw [hbx] at hb256
 have hst := lh (show blksFrom 0 (t1.take (j + 1)) = l ++ (liveL bx M).map (fun q => (j, q, U)) from by rw [htj]; unfold blksAt; rw [if_pos k1, hcc, hbx, hM, hU])
 have hMy := lh (fun w => show Calls Tryz.prog 60 #[.int .i64 (cc : Nat)] w (fun e w' => e = .returned (.int .i64 (M : Nat)) ∧ w = w') from by have c := refMny_any (cc : Nat) w; rw [mny_N, hM] at c; exact c)
 have hBk := lh (fun w => show Calls Tryz.prog 108 #[.int .i64 (cc : Nat)] w (fun e w' => e = .returned (.int .i64 (U : Nat)) ∧ w = w') from by have c := refBlk_any (cc : Nat) w; rw [blk_N, hU] at c; exact c)
 have hUb : U ≤ 16 := by rw [← hU]; unfold blN; split <;> (try split) <;> (try split) <;> omega
 have hLv := lh (fun (k : Nat) (hk : k ≤ 7) (a b c : Int) w => refLive_any a b c (mN x : Nat) bx k w hk (by omega))
 replace hM := lh hM
 replace hU := lh hU
 subst k1'
 replace hik := lh hik
 replace hcc := lh hcc
 replace hbx := lh hbx
 clear hrx htj hpb k2
 go_wp2_with fail
 go_loopw [7, 5] (fun u vr wr2 => ∃ (k : Nat) (l2 : List Bl), k ≤ M ∧ u = .int .i64 k ∧ Hid (l2 = l ++ (liveL bx k).map (fun q => (j, q, U))) ∧ BKO wr2 w1.heap.size vr l2 ∧ Below w1.heap.size w1 wr2) (fun u _ _ => 9 - (intOf u).toNat)
 case atStart => exact ⟨0, l, Nat.zero_le _, rfl, (show l = _ from by simp [liveL]), hown, hB⟩
 obtain ⟨k, l2, hk, rfl, hl2, hown2, hB2⟩ := hrel
 clear c0 c1 c2 c3 c4 hown hB
 obtain ⟨g', off', hA, _, _, _, c0, c1, c2, c3, c4⟩ := hC.out wr j hB2 hlt
 cases hA
 rw [hx.out] at c0 c1 c2 c3 c4
 rw [hik.out] at c0
 rw [hcc.out] at c1
 rw [hbx.out] at c4
 have hl2n : l2.length ≤ 8100 := by
  have := liveL_len bx k
  rw [hl2.out, List.length_append, List.length_map]; omega
 by_cases hkM : k < M
 rotate_left
 ·obtain rfl : k = M := by omega
  have hs3 := lh (hl2.out.trans hst.out.symm)
  go_wp2_with ((go_at_call 60; (with_reducible refine (hMy.out _).mono ?_); rintro e w8 ⟨rfl, rfl⟩))
  go_roundw
  case rel => exact ⟨j + 1, _, by omega, by go_num, hs3, hown2, hB2⟩
  first | (simp [intOf]; done) | (simp [intOf]; omega)
 have hkM' : (k : Int) < (M : Int) := by omega
 have hls := liveL_succ bx k
 obtain ⟨lv, hlv⟩ : ∃ b, bx.testBit k = b := ⟨_, rfl⟩
 have hLw := lh (fun (a b c : Int) w => show Calls Tryz.prog 107 #[.agg #[.int .i64 a, .int .i64 b, .int .i64 c, .int .i64 (mN x : Nat), .int .u64 bx], .int .i64 k] w (fun e w' => e = .returned (.bool lv) ∧ Below w.heap.size w w') from by have q := hLv.out k (by omega) a b c w; unfold liveB at q; rw [hlv] at q; exact q)
 rw [hlv] at hls
 obtain ⟨L2, hL2⟩ : ∃ L, l2.length = L := ⟨_, rfl⟩
 obtain ⟨Aw, cw, rfl⟩ := slForm hown2 hL2
 replace hlv := lh hlv
 cases lv with
 | true =>
   have hs2 := lh (show l2 ++ [(j, k, U)] = l ++ (liveL bx (k + 1)).map (fun q => (j, q, U)) from by rw [hl2.out, hls, if_pos rfl, List.map_append, List.append_assoc]; rfl)
   replace hls := lh hls
   replace hL2 := lh hL2
   go_wp2_with ((go_at_call 60; (with_reducible refine (hMy.out _).mono ?_); rintro e w8 ⟨rfl, rfl⟩))
   refine (hLw.out _ _ _ _).mono ?_
   rintro e w5 ⟨rfl, hb⟩
   replace hown2 := hown2.keep hb
   replace hB2 := hB2.trans (hb.mono hB2.size)
   clear hb c0 c1 c2 c3 c4
   obtain ⟨g', off', hA, _, _, _, c0, c1, c2, c3, c4⟩ := hC.out w5 j hB2 hlt
   cases hA
   rw [hx.out] at c0 c1 c2 c3 c4
   rw [hcc.out] at c1
   obtain ⟨v', w6, hrun, ho, hb⟩ := appB (j, k, U) hown2 hB2.size (by omega)
   have hB6 := hB2.trans (hb.mono (Nat.le_refl _))
   rw [hL2.out] at hl2n
   clear hown2 hB2 hb c0 c2 c3 c4
   go_wp2_with (first | (go_at_call 108; (with_reducible refine (hBk.out _).mono ?_); rintro e w8 ⟨rfl, rfl⟩) | (at_builtin; refine wpList_append_run rfl _ _ 89 rfl _ _ _ rfl rfl hrun ?_))
   go_roundw
   case rel => exact ⟨k + 1, _, by omega, by go_num, hs2, ho, hB6⟩
   first | (simp [intOf]; done) | (simp [intOf]; omega)
 | false =>
   have hs2 := lh (show l2 = l ++ (liveL bx (k + 1)).map (fun q => (j, q, U)) from by rw [hl2.out, hls]; simp)
   replace hls := lh hls
   replace hL2 := lh hL2
   go_wp2_with ((go_at_call 60; (with_reducible refine (hMy.out _).mono ?_); rintro e w8 ⟨rfl, rfl⟩))
   refine (hLw.out _ _ _ _).mono ?_
   rintro e w5 ⟨rfl, hb⟩
   replace hown2 := hown2.keep hb
   replace hB2 := hB2.trans (hb.mono hB2.size)
   clear hb c0 c1 c2 c3 c4
   go_wp2_with fail
   go_roundw
   case rel => exact ⟨k + 1, _, by omega, by go_num, hs2, hown2, hB2⟩
   first | (simp [intOf]; done) | (simp [intOf]; omega)
end Go.Proofs.YtkkbngcgphlikaaGreatDoor
end
