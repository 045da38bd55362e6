/-
  Part of the proof of JournalSteps.
-/
import Derived.Test.YtkkbngcgphlikaaGreatDoorJt23
import Derived.Test.YtkkbngcgphlikaaGreatDoorJt3
import Derived.Lib.AppendZerosOnto
import Derived.Test.YtkkbngcgphlikaaGreatDoorJt0
set_option maxRecDepth 10000
set_option maxHeartbeats 2000000
set_option linter.unusedVariables false
set_option linter.unusedSimpArgs false
section
namespace Go.Proofs.YtkkbngcgphlikaaGreatDoor
open Go.RowKit
theorem own_ge {w : World} {base e n : Nat} {v : Value} {xs : List Value} (h : w.ownsRow base e 1 v n xs) : ∀ k, v.ownBlock = some k → base ≤ k := by
 intro k hk
 rcases h.2 with ⟨hv, _⟩ | ⟨g, cap, cur, hv, hb, hg, _⟩
 ·subst hv; simp [Value.ownBlock] at hk
 subst hv; simp [Value.ownBlock] at hk; omega
theorem wv_succ (l : List Nat) (x : Nat) : wv (l ++ [x]) = wv l ++ [.int .u64 (x : Int)] := by simp [wv]
theorem SL.of_owns {w : World} {base e : Nat} {v : Value} {l : List Nat} (h : w.ownsRow base e 1 v l.length (wv l)) : SL w v l := by
 have h' := h
 rcases h.2 with ⟨hv, hn⟩ | ⟨g, cap, cur, hv, hb, hg, h1, h2, h3, h4⟩
 ·exact .inl ⟨List.length_eq_zero_iff.1 hn, none, 0, by rw [hv]⟩
 subst hv
 refine .inr ⟨g, 0, cap, rfl, (Array.getElem?_eq_some_iff.1 hg).1, h1, fun i hi => ?_⟩
 rw [Nat.zero_add, h'.cellAt i (by omega), wv_at l i hi]
end Go.Proofs.YtkkbngcgphlikaaGreatDoor
end
section
namespace Go.Proofs.YtkkbngcgphlikaaGreatDoor
open Go.RowKit
theorem append_sum {w5 : World} {base gx n cx gb m : Nat} {xs : List Nat} (hown : w5.ownsRow base 40 1 (.slice (some ⟨gx, 0, none⟩) n cx) n (wv xs)) (hn : xs.length = n) (hcell : w5.cell? ⟨gb, 0, none⟩ = some (.int .u64 (m : Nat))) (hbase : base ≤ w5.heap.size) (hsm : n ≤ 40) (hpos : 0 < n) :
 ∃ v3 w6, (Builtin.append_ #[25, 25] 25 #[.slice (some ⟨gx, 0, none⟩) n cx, .slice (some ⟨gb, 0, none⟩) 1 1]).run Tryz.prog w5 = .ok v3 w6 ∧ SL w6 v3 (xs ++ [m]) ∧ SL w6 (.slice (some ⟨gx, 0, none⟩) n cx) xs ∧ Below base w5 w6 := by
 obtain ⟨i0, hi, hz0, hz1, hz2⟩ := info_parts infoU64
 have hnews : ∀ j u, [Value.int .u64 (m : Int)][j]? = some u → w5.cell? ((⟨gb, 0, none⟩ : Addr).add j) = some u := fun j u hj => by
  have h0 : j = 0 := by
   have := (List.getElem?_eq_some_iff.1 hj).1
   simp at this
   omega
  subst h0
  simp only [List.getElem?_cons_zero] at hj
  rw [← hj]
  simpa [Addr.add] using hcell
 have h1 : ∀ u ∈ [Value.int .u64 (m : Int)], u.oneCell' = true := fun u hu => by simp at hu; subst hu; rfl
 have hlx : (xs ++ [m]).length = n + 1 := by simp [hn]
 have hge := own_ge hown gx rfl
 by_cases hroom : n + 1 ≤ cx
 ·obtain ⟨w6, hrun, ho6, hg6⟩ := run_append_fits (P := Tryz.prog) w5 base 25 25 40 i0 1 Tryz.underlying25 hi hz1 gx n cx (wv xs) hown ⟨gb, 0, none⟩ 1 1 [.int .u64 (m : Int)] rfl hnews h1 hroom
  rw [← wv_succ, ← hlx] at ho6
  have hS := SL.of_owns ho6
  refine ⟨_, w6, hrun, by rw [← hlx]; exact hS, ?_, (Below.refl _ _).grown hg6 hbase (fun k hk => by simp at hk; omega)⟩
  obtain ⟨g3, o3, c3, hv3, hg3, hc3, hcells⟩ := hS.pos hlx
  rw [hlx] at hv3
  simp only [Value.slice.injEq, Option.some.injEq, Addr.mk.injEq, and_true, true_and] at hv3
  obtain ⟨⟨rfl, rfl⟩, rfl⟩ := hv3
  refine .inr ⟨gx, 0, cx, by rw [hn], hg3, by omega, fun i hi => ?_⟩
  have := hcells i (by omega)
  rw [this, List.getD_eq_getElem?_getD, List.getD_eq_getElem?_getD, List.getElem?_append_left hi]
 have hold := hown.cells (g := gx) rfl
 obtain ⟨v3, w6, hrun, ho6, hg6⟩ := run_append_arg_grows (P := Tryz.prog) w5 25 25 40 i0 (.int .u64 0) 1 8 Tryz.underlying25 hi hz0 hz1 hz2 rfl (by decide) ⟨gx, 0, none⟩ n cx (wv xs) (by rw [wv_len]; omega) hold ⟨gb, 0, none⟩ 1 1 [.int .u64 (m : Int)] rfl hnews (by omega) (by unfold maxLen; omega) (by omega)
 rw [← wv_succ, ← hlx] at ho6
 have hB6 : Below w5.heap.size w5 w6 := (Below.refl _ _).grown hg6 (Nat.le_refl _) (by simp)
 have hX : SL w5 (.slice (some ⟨gx, 0, none⟩) xs.length cx) xs := SL.of_owns (by rw [hn]; exact hown)
 rw [hn] at hX
 exact ⟨v3, w6, hrun, SL.of_owns ho6, hX.keep hB6, hB6.mono hbase⟩
end Go.Proofs.YtkkbngcgphlikaaGreatDoor
end
section
namespace Go.Proofs.YtkkbngcgphlikaaGreatDoor
open Go.RowKit
def Rw (w : World) (g : Nat) (l : List Nat) : Prop := w.heap[g]? = some (.cells (wv l).toArray 40 (0, 0))
theorem Rw.keep {w w1 : World} {g B : Nat} {l : List Nat} (h : Rw w g l) (hb : Below B w w1) (hg : g < B) : Rw w1 g l := (hb.block g hg).trans h
theorem Rw.lt {w : World} {g : Nat} {l : List Nat} (h : Rw w g l) : g < w.heap.size := (Array.getElem?_eq_some_iff.1 h).1
theorem Rw.sl {w : World} {g : Nat} {l : List Nat} (h : Rw w g l) : SL w (.slice (some ⟨g, 0, none⟩) l.length l.length) l :=
 .inr ⟨g, 0, _, rfl, h.lt, Nat.le_refl _, fun i hi => by
  rw [(row_cell h _).1, Nat.zero_add, List.getElem?_toArray, wv_at l i hi]⟩
theorem Rw.own {w : World} {g : Nat} {l : List Nat} (h : Rw w g l) (hl : l.length ≤ 100000) : w.ownsRow g 40 1 (.slice (some ⟨g, 0, none⟩) l.length l.length) l.length (wv l) :=
 ⟨by rw [wv_len, Nat.mul_one], .inr ⟨g, _, _, rfl, Nat.le_refl _, h, Nat.le_refl _, by unfold maxLen; omega, by simp [wv_len], by simp [wv_len, List.take_of_length_le]⟩⟩
theorem wv_append (a b : List Nat) : wv (a ++ b) = wv a ++ wv b := by simp [wv]
theorem seal_own (v : Value) (l : List Nat) (w : World) (hl : WL l) (hlen : l.length ≤ 900) (hv : SL w v l) :
 Calls Tryz.prog 112 #[v] w fun e w' => e = .returned (.slice (some ⟨w.heap.size, 0, none⟩) (l.length + 1) (l.length + 1)) ∧ Rw w' w.heap.size (l ++ [moreN 0 l]) ∧ Below w.heap.size w w' := by
 obtain ⟨i0, hi, hz0, hz1, hz2⟩ := info_parts infoU64
 have hvv := hv
 have hv1 : ∃ sp cap, v = .slice sp l.length cap := by
  rcases hv with ⟨rfl, sp, cap, rfl⟩ | ⟨g, off, cap, rfl, _⟩
  ·exact ⟨_, _, rfl⟩
  exact ⟨_, _, rfl⟩
 obtain ⟨sp, cap, rfl⟩ := hv1
 have hn1 := lh (show ((l.length : Int) + 1) = ((l.length + 1 : Nat) : Int) by omega)
 go_enter Tryz.func112, Tryz.ntmps112
 go_wp2_with (at_make; refine wpList_make_full _ rfl _ _ 25 rfl w.heap.size 40 i0 (.int .u64 0) 1 Tryz.underlying25 hi hz0 hz1 .i64 .i64 _ _ (l.length + 1) rfl rfl hn1.out hn1.out (by rw [hz2]; omega) (by unfold maxLen; omega) (Nat.le_refl _) ?_; intro w1 hown hgr)
 have hrow := row_of_owns hown rfl
 rw [show (madeCells (Value.int IntKind.u64 0).cells ((l.length + 1) * 1)).toList = List.replicate (l.length + 1) (Value.int .u64 0) by
  rw [Nat.mul_one]; exact toList_madeCells_one _ _] at hrow
 have hB1 : Below w.heap.size w w1 := (Below.refl _ _).grown hgr (Nat.le_refl _) (by simp)
 obtain ⟨w2, hrun, hrow2, hb2⟩ := copyW l hrow (hvv.keep hB1)
 rw [show Nat.min l.length (l.length + 1) = l.length from Nat.min_eq_left (by omega), List.take_of_length_le (Nat.le_refl _), show l.length + 1 - l.length = 1 by omega] at hrow2
 rw [hrun]
 have hB2 : Below w.heap.size w w2 := hB1.trans hb2
 have hg2 : w.heap.size < w2.heap.size := (Array.getElem?_eq_some_iff.1 hrow2).1
 have hO := lh (of_any _ l w2 hl (by omega) (hvv.keep hB2))
 have hS2 := lh (hvv.keep hB2)
 have hR := lh (row_cell hrow2)
 replace hrow2 := lh hrow2
 clear hrun hrow hown hgr hvv hb2 hB1
 go_wp2_with fail
 refine hO.out.mono ?_
 rintro e w3 ⟨rfl, hb3⟩
 have hB3 : Below w.heap.size w w3 := hB2.trans (hb3.mono hB2.size)
 have hc3 : w3.cell? ⟨w.heap.size, l.length, none⟩ = some (.int .u64 0) := by
  rw [(bcell hb3).1 _ _ hg2, (hR.out l.length).1]
  simp [wv]
 have hf3 : w3.frozen? ⟨w.heap.size, l.length, none⟩ = false := by rw [(bcell hb3).2 _ _ hg2]; exact (hR.out l.length).2
 have hrow3 := lh ((hb3.block w.heap.size hg2).trans hrow2.out)
 have hm := moreN_lt 0 l
 generalize hmm : moreN 0 l = m at *
 replace hmm := lh hmm
 go_wp2_with fail
 go_ret
 refine ⟨rfl, ?_, hB3.setCell (Nat.le_refl _) _⟩
 unfold Rw
 rw [heap_setCell_same w3 _ _ _ _ _ hrow3.out, wv_append]
 congr 3
 apply Array.ext'
 simp only [Array.toList_setIfInBounds, List.replicate_one]
 rw [show l.length = (wv l).length by rw [wv_len], hmm.out]
 simp [wv]
end Go.Proofs.YtkkbngcgphlikaaGreatDoor
end
section
namespace Go.Proofs.YtkkbngcgphlikaaGreatDoor
open Go.RowKit Go.ChangeShapes Go.WideShapes Go.Deep
theorem symMerge_one (cb : Array Value) (f ke : Nat → Int) (N base g n cap : Nat) (w0 : World) (a m b : Nat) (d : List Nat) (w : World) (HC : Hid (CmpOk cb f N base w0)) (K : Hid (Key N f ke)) (S0 : SD w0 base g n cap d w) (ham : a < m) (hmb : m < b) (hb : b ≤ n) (hn : n ≤ 100000)
 (hN : Hid (∀ x ∈ d, x < N)) (hL : Hid (Srt ke d a m)) (hR : Hid (Srt ke d m b)) (hX : Hid (Lss nI d a m m b)) (h1 : m = a + 1) :
 Calls Tryz.prog 217 #[.slice (some ⟨g, 0, none⟩) n cap, .int .i64 a, .int .i64 m, .int .i64 b, .func (.func 193) #[] cb] w (fun e w' => e = .returned (.tuple #[]) ∧ ∃ d1, SD w0 base g n cap d1 w' ∧ Mv a b d d1 ∧ Srt ke d1 a b) := by
 subst h1
 have hl0 := lh S0.len
 have an : a < n := by omega
 obtain ⟨y, hy⟩ : ∃ y, d.getD a 0 = y := ⟨_, rfl⟩
 have yN : y < N := by rw [← hy]; exact hN.out _ (getD_mem_ (by rw [hl0.out]; omega))
 replace hy := lh hy
 have hdone := lh (fun (e : List Nat) (p : Nat) (h : Mvr d e a p b) hp hap k1 k2 => h.done (g := ke) hR.out hp hap k1 k2)
 obtain ⟨m, hm⟩ : ∃ m, a + 1 = m := ⟨_, rfl⟩
 have z1 : (m : Int) - (a : Int) = 1 := by omega
 have ew4 : IntKind.i64.wrap (a : Int) = (a : Int) := by rw [IntKind.wrap_i64]; omega
 have b2 : (a : Int) < (n : Int) := by omega
 rw [hm] at hmb hL hR hX ⊢
 go_enter Tryz.func217, Tryz.ntmps217
 go_wp2_with fail
 go_loopw [10, 11] (fun u v wr => ∃ (i j : Nat), m ≤ i ∧ i ≤ j ∧ j ≤ b ∧ u = .int .i64 i ∧ v = .int .i64 j ∧ Hid (SD w0 base g n cap d wr) ∧ Hid (∀ q, m ≤ q → q < i → ke (d.getD q 0) < ke (d.getD a 0)) ∧ Hid (∀ q, j ≤ q → q < b → ke (d.getD a 0) < ke (d.getD q 0))) (fun u v _ => (intOf v).toNat - (intOf u).toNat)
 case atStart => exact ⟨m, b, Nat.le_refl _, by omega, Nat.le_refl _, rfl, rfl, S0, fun q q1 q2 => by omega, fun q q1 q2 => by omega⟩
 obtain ⟨i, j, hmi, hij, hjb, rfl, rfl, hSd', hlo, hhi⟩ := hrel
 have hSd := hSd'.out
 by_cases hlt : i < j
 rotate_left
 ·obtain rfl : i = j := by omega
  obtain ⟨p, hp⟩ : ∃ p, i = p + 1 := ⟨i - 1, by omega⟩
  have e1 : (i : Int) - 1 = (p : Int) := by omega
  have hd2 := lh (fun (e : List Nat) (h : Mvr d e a p b) => hdone.out e p h (by omega) (by omega) (fun q q1 q2 => hlo.out q (by omega) (by omega)) (fun q q1 q2 => hhi.out q (by omega) q2))
  replace hp := lh hp
  clear hSd hlo hhi
  go_wp2_with fail
  go_loopw [13] (fun u wr2 => ∃ (k : Nat) (e : List Nat), a ≤ k ∧ k ≤ p ∧ u = .int .i64 k ∧ Hid (SD w0 base g n cap e wr2) ∧ Hid (Mvr d e a k b)) (fun u _ => p + 1 - (intOf u).toNat)
  case atStart => exact ⟨a, d, Nat.le_refl _, by have := hp.out; omega, rfl, hSd', Mvr.start d a b⟩
  obtain ⟨k, e, hak, hkp, rfl, hSe, hM⟩ := hrel
  by_cases hlt2 : k < p
  rotate_left
  ·obtain rfl : k = p := by omega
   go_wp2_with fail
   (first | go_end0 | go_ret | go_returns | (trace_state; fail))
   exact ⟨rfl, e, hSe.out, hM.out.mv, hd2.out e hM.out⟩
  have hltz : (k : Int) < (p : Int) := by omega
  have hpb : p + 1 ≤ b := by have := hp.out; omega
  have hk0 : k < n := by omega
  have hk1 : k + 1 < n := by omega
  have hM2 := lh (hM.out.step hak (by omega) (by rw [hl0.out]; omega))
  obtain ⟨x, hx⟩ : ∃ x, e.getD k 0 = x := ⟨_, rfl⟩
  obtain ⟨z, hz⟩ : ∃ z, e.getD (k + 1) 0 = z := ⟨_, rfl⟩
  have hSx := lh (hSe.out.swap k (k + 1) x z hk0 hk1 hx hz)
  obtain ⟨c0, f0⟩ := hSe.out.cell k hk0
  obtain ⟨c1, f1⟩ := hSe.out.cell (k + 1) hk1
  rw [hx] at c0
  rw [hz] at c1
  obtain ⟨u9, c9⟩ := hSe.out.other k (k + 1) z hk0 hk1
  have f9 := (hSe.out.set k z hk0).cell (k + 1) hk1 |>.2
  have ew1 : IntKind.i64.wrap ((k : Int) + 1) = (k : Int) + 1 := by rw [IntKind.wrap_i64]; omega
  have ew2 : IntKind.i64.wrap (k : Int) = (k : Int) := by rw [IntKind.wrap_i64]; omega
  have q1 : (k : Int) + 1 < (n : Int) := by omega
  have q2 : (k : Int) < (n : Int) := by omega
  have q3 : (0 : Int) ≤ (k : Int) + 1 := by omega
  have q4 : ((k : Int) + 1).toNat = k + 1 := by omega
  clear hx hz hSe hM
  go_wp2_with fail
  go_big_region
  (try simp only [Exit.inBlock, Exit.then])
  go_wp2_with fail
  go_roundw
  case rel => exact ⟨k + 1, _, by omega, by omega, by go_num, (by first | exact hSx.out | exact hSx.out.drew | exact hSx.out.drew.drew | exact hSx.out.drew.drew.drew), hM2⟩
  first | (simp [intOf]; done) | (simp [intOf]; omega)
 have hltz : (i : Int) < (j : Int) := by omega
 obtain ⟨h, hh⟩ : ∃ h, (i + j) / 2 = h := ⟨_, rfl⟩
 have hn1 : h < n := by omega
 obtain ⟨s, hs⟩ : ∃ s, i + j = s := ⟨_, rfl⟩
 have e1 : (i : Int) + (j : Int) = (s : Int) := by omega
 have e2 : (s : Int) / 2 = (h : Int) := by omega
 have e3 : s < 200001 := by omega
 have ew3 : IntKind.i64.wrap (h : Int) = (h : Int) := by rw [IntKind.wrap_i64]; omega
 have b1 : (h : Int) < (n : Int) := by omega
 obtain ⟨x, hx⟩ : ∃ x, d.getD h 0 = x := ⟨_, rfl⟩
 have xN : x < N := by rw [← hx]; exact hN.out _ (getD_mem_ (by rw [hl0.out]; omega))
 have hyx : y < x := by rw [← hx, ← hy.out]; exact lss_lt hX.out (by omega) (by omega) (by omega) (by omega)
 obtain ⟨fx, hfx⟩ : ∃ z, f x = z := ⟨_, rfl⟩
 obtain ⟨fy, hfy⟩ : ∃ z, f y = z := ⟨_, rfl⟩
 by_cases hf : fx < fy
 ·have hke := K.out.lt x y hyx xN (by rw [hfx, hfy]; exact hf)
  rw [← hx, ← hy.out] at hke
  have hlo2 := lh (half_lo (x := a) hR.out (by omega) hke)
  have g1 : fx - fy < 0 := by omega
  have g2 : decide (fx - fy < 0) = true := decide_eq_true g1
  replace hx := lh hx
  replace hfx := lh hfx
  replace hfy := lh hfy
  have hh' := lh hh
  have hs' := lh hs
  clear hke hh hs
  go_wp2_with fail
  refine wp_region_held_drew (S := (fun w' => SD w0 base g n cap d w')) (by kernel_rfl) ?_ (fun hHeld => ?_)
  ·(try dsimp only)
   (first | exact hSd.drew | exact hHeld.drew)
  refine takeL 0 (v := ?_) rfl (by kernel_rfl) (by kernel_rfl) (by kernel_rfl) (fun _ _ _ h => h) (by rfl) (by assumption) ?_ ?_
  rotate_left
  ·(intro w hSw; (try dsimp only at hSw); (have p0 := (hSw.cell h hn1).1; have p1 := (hSw.cell a an).1; rw [hx.out] at p0; rw [hy.out] at p1); go_simp <;> with_reducible rfl)
  try simp only [Act.put,sA,sB,sC]
  refine takeL 1 (v := ?_) rfl (by kernel_rfl) (by kernel_rfl) (by kernel_rfl) (fun _ _ _ h => h) (by rfl) (by assumption) ?_ ?_
  rotate_left
  ·(intro w hSw; (try dsimp only at hSw); (have p0 := (hSw.cell h hn1).1; have p1 := (hSw.cell a an).1; rw [hx.out] at p0; rw [hy.out] at p1); go_simp <;> with_reducible rfl)
  try simp only [Act.put,sA,sB,sC]
  refine takeL 2 (v := ?_) rfl (by kernel_rfl) (by kernel_rfl) (by kernel_rfl) (fun _ _ _ h => h) (by rfl) (by assumption) ?_ ?_
  rotate_left
  ·(intro w hSw; (try dsimp only at hSw); (have p0 := (hSw.cell h hn1).1; have p1 := (hSw.cell a an).1; rw [hx.out] at p0; rw [hy.out] at p1); go_simp <;> with_reducible rfl)
  try simp only [Act.put,sA,sB,sC]
  refine takeL 3 (v := ?_) rfl (by kernel_rfl) (by kernel_rfl) (by kernel_rfl) (fun _ _ _ h => h) (by rfl) (by assumption) ?_ ?_
  rotate_left
  ·(intro w hSw; (try dsimp only at hSw); (have p0 := (hSw.cell h hn1).1; have p1 := (hSw.cell a an).1; rw [hx.out] at p0; rw [hy.out] at p1); go_simp <;> with_reducible rfl)
  try simp only [Act.put,sA,sB,sC]
  refine takeL 4 (v := ?_) rfl (by kernel_rfl) (by kernel_rfl) (by kernel_rfl) (fun _ _ _ h => h) (by rfl) (by assumption) ?_ ?_
  rotate_left
  ·(intro w hSw; (try dsimp only at hSw); (have p0 := (hSw.cell h hn1).1; have p1 := (hSw.cell a an).1; rw [hx.out] at p0; rw [hy.out] at p1); go_simp <;> with_reducible rfl)
  try simp only [Act.put,sA,sB,sC]
  refine takeL 5 (v := ?_) rfl (by kernel_rfl) (by kernel_rfl) (by kernel_rfl) (fun _ _ _ h => h) (by rfl) (by assumption) ?_ ?_
  rotate_left
  ·(intro w hSw; (try dsimp only at hSw); (have p0 := (hSw.cell h hn1).1; have p1 := (hSw.cell a an).1; rw [hx.out] at p0; rw [hy.out] at p1); go_simp <;> with_reducible rfl)
  try simp only [Act.put,sA,sB,sC]
  refine takeL 6 (v := ?_) rfl (by kernel_rfl) (by kernel_rfl) (by kernel_rfl) (fun _ _ _ h => h) (by rfl) (by assumption) ?_ ?_
  rotate_left
  ·(intro w hSw; (try dsimp only at hSw); (have p0 := (hSw.cell h hn1).1; have p1 := (hSw.cell a an).1; rw [hx.out] at p0; rw [hy.out] at p1); go_simp <;> with_reducible rfl)
  try simp only [Act.put,sA,sB,sC]
  refine takeL 7 (v := ?_) rfl (by kernel_rfl) (by kernel_rfl) (by kernel_rfl) (fun _ _ _ h => h) (by rfl) (by assumption) ?_ ?_
  rotate_left
  ·(intro w hSw; (try dsimp only at hSw); (have p0 := (hSw.cell h hn1).1; have p1 := (hSw.cell a an).1; rw [hx.out] at p0; rw [hy.out] at p1); go_simp <;> with_reducible rfl)
  try simp only [Act.put,sA,sB,sC]
  refine takeL 8 (v := ?_) rfl (by kernel_rfl) (by kernel_rfl) (by kernel_rfl) (fun _ _ _ h => h) (by rfl) (by assumption) ?_ ?_
  rotate_left
  ·(intro w hSw; (try dsimp only at hSw); (have p0 := (hSw.cell h hn1).1; have p1 := (hSw.cell a an).1; rw [hx.out] at p0; rw [hy.out] at p1); go_simp <;> with_reducible rfl)
  try simp only [Act.put,sA,sB,sC]
  refine oneL 9 rfl (by kernel_rfl) (fun K hK => ?_)
  go_simp
  (have hq := HC.out _ x y hHeld.kept xN yN; rw [hfx.out, hfy.out] at hq; go_at_call 193; (with_reducible refine hq.mono ?_); rintro e w8 ⟨rfl, rfl⟩)
  refine hK.out _ _ ?_ (fun hHeld2 => ?_)
  ·(try dsimp only)
   (first | exact hSd.drew | exact hHeld.drew)
  clear hK K hHeld
  have hHeld := hHeld2
  clear hHeld2
  try simp only [Act.put,sA,sB,sC]
  refine takeL 10 (v := ?_) rfl (by kernel_rfl) (by kernel_rfl) (by kernel_rfl) (fun _ _ _ h => h) (by rfl) (by assumption) ?_ ?_
  rotate_left
  ·(intro w hSw; (try dsimp only at hSw); (have p0 := (hSw.cell h hn1).1; have p1 := (hSw.cell a an).1; rw [hx.out] at p0; rw [hy.out] at p1); go_simp <;> with_reducible rfl)
  try simp only [Act.put,sA,sB,sC]
  refine wpAnyH_done (by kernel_rfl) ?_ _
  (try simp only [Exit.inBlock, Exit.then])
  replace hHeld := lh hHeld
  clear hSd
  go_wp2_with fail
  go_roundw
  case rel => exact ⟨h + 1, j, by omega, by have := hh'.out; omega, hjb, by go_num, rfl, hHeld, hlo2, hhi⟩
  have := hh'.out; first | (simp [intOf]; done) | (simp [intOf]; omega)
 have hke := K.out.ge x y hyx xN (by rw [hfx, hfy]; exact hf)
 rw [← hx, ← hy.out] at hke
 have hhi2 := lh (half_hi (x := a) (h := h) hR.out (by omega) hke)
 have g1 : ¬ fx - fy < 0 := by omega
 have g2 : decide (fx - fy < 0) = false := decide_eq_false g1
 replace hx := lh hx
 replace hfx := lh hfx
 replace hfy := lh hfy
 have hh' := lh hh
 have hs' := lh hs
 clear hke hh hs
 go_wp2_with fail
 refine wp_region_held_drew (S := (fun w' => SD w0 base g n cap d w')) (by kernel_rfl) ?_ (fun hHeld => ?_)
 ·(try dsimp only)
  (first | exact hSd.drew | exact hHeld.drew)
 refine takeL 0 (v := ?_) rfl (by kernel_rfl) (by kernel_rfl) (by kernel_rfl) (fun _ _ _ h => h) (by rfl) (by assumption) ?_ ?_
 rotate_left
 ·(intro w hSw; (try dsimp only at hSw); (have p0 := (hSw.cell h hn1).1; have p1 := (hSw.cell a an).1; rw [hx.out] at p0; rw [hy.out] at p1); go_simp <;> with_reducible rfl)
 try simp only [Act.put,sA,sB,sC]
 refine takeL 1 (v := ?_) rfl (by kernel_rfl) (by kernel_rfl) (by kernel_rfl) (fun _ _ _ h => h) (by rfl) (by assumption) ?_ ?_
 rotate_left
 ·(intro w hSw; (try dsimp only at hSw); (have p0 := (hSw.cell h hn1).1; have p1 := (hSw.cell a an).1; rw [hx.out] at p0; rw [hy.out] at p1); go_simp <;> with_reducible rfl)
 try simp only [Act.put,sA,sB,sC]
 refine takeL 2 (v := ?_) rfl (by kernel_rfl) (by kernel_rfl) (by kernel_rfl) (fun _ _ _ h => h) (by rfl) (by assumption) ?_ ?_
 rotate_left
 ·(intro w hSw; (try dsimp only at hSw); (have p0 := (hSw.cell h hn1).1; have p1 := (hSw.cell a an).1; rw [hx.out] at p0; rw [hy.out] at p1); go_simp <;> with_reducible rfl)
 try simp only [Act.put,sA,sB,sC]
 refine takeL 3 (v := ?_) rfl (by kernel_rfl) (by kernel_rfl) (by kernel_rfl) (fun _ _ _ h => h) (by rfl) (by assumption) ?_ ?_
 rotate_left
 ·(intro w hSw; (try dsimp only at hSw); (have p0 := (hSw.cell h hn1).1; have p1 := (hSw.cell a an).1; rw [hx.out] at p0; rw [hy.out] at p1); go_simp <;> with_reducible rfl)
 try simp only [Act.put,sA,sB,sC]
 refine takeL 4 (v := ?_) rfl (by kernel_rfl) (by kernel_rfl) (by kernel_rfl) (fun _ _ _ h => h) (by rfl) (by assumption) ?_ ?_
 rotate_left
 ·(intro w hSw; (try dsimp only at hSw); (have p0 := (hSw.cell h hn1).1; have p1 := (hSw.cell a an).1; rw [hx.out] at p0; rw [hy.out] at p1); go_simp <;> with_reducible rfl)
 try simp only [Act.put,sA,sB,sC]
 refine takeL 5 (v := ?_) rfl (by kernel_rfl) (by kernel_rfl) (by kernel_rfl) (fun _ _ _ h => h) (by rfl) (by assumption) ?_ ?_
 rotate_left
 ·(intro w hSw; (try dsimp only at hSw); (have p0 := (hSw.cell h hn1).1; have p1 := (hSw.cell a an).1; rw [hx.out] at p0; rw [hy.out] at p1); go_simp <;> with_reducible rfl)
 try simp only [Act.put,sA,sB,sC]
 refine takeL 6 (v := ?_) rfl (by kernel_rfl) (by kernel_rfl) (by kernel_rfl) (fun _ _ _ h => h) (by rfl) (by assumption) ?_ ?_
 rotate_left
 ·(intro w hSw; (try dsimp only at hSw); (have p0 := (hSw.cell h hn1).1; have p1 := (hSw.cell a an).1; rw [hx.out] at p0; rw [hy.out] at p1); go_simp <;> with_reducible rfl)
 try simp only [Act.put,sA,sB,sC]
 refine takeL 7 (v := ?_) rfl (by kernel_rfl) (by kernel_rfl) (by kernel_rfl) (fun _ _ _ h => h) (by rfl) (by assumption) ?_ ?_
 rotate_left
 ·(intro w hSw; (try dsimp only at hSw); (have p0 := (hSw.cell h hn1).1; have p1 := (hSw.cell a an).1; rw [hx.out] at p0; rw [hy.out] at p1); go_simp <;> with_reducible rfl)
 try simp only [Act.put,sA,sB,sC]
 refine takeL 8 (v := ?_) rfl (by kernel_rfl) (by kernel_rfl) (by kernel_rfl) (fun _ _ _ h => h) (by rfl) (by assumption) ?_ ?_
 rotate_left
 ·(intro w hSw; (try dsimp only at hSw); (have p0 := (hSw.cell h hn1).1; have p1 := (hSw.cell a an).1; rw [hx.out] at p0; rw [hy.out] at p1); go_simp <;> with_reducible rfl)
 try simp only [Act.put,sA,sB,sC]
 refine oneL 9 rfl (by kernel_rfl) (fun K hK => ?_)
 go_simp
 (have hq := HC.out _ x y hHeld.kept xN yN; rw [hfx.out, hfy.out] at hq; go_at_call 193; (with_reducible refine hq.mono ?_); rintro e w8 ⟨rfl, rfl⟩)
 refine hK.out _ _ ?_ (fun hHeld2 => ?_)
 ·(try dsimp only)
  (first | exact hSd.drew | exact hHeld.drew)
 clear hK K hHeld
 have hHeld := hHeld2
 clear hHeld2
 try simp only [Act.put,sA,sB,sC]
 refine takeL 10 (v := ?_) rfl (by kernel_rfl) (by kernel_rfl) (by kernel_rfl) (fun _ _ _ h => h) (by rfl) (by assumption) ?_ ?_
 rotate_left
 ·(intro w hSw; (try dsimp only at hSw); (have p0 := (hSw.cell h hn1).1; have p1 := (hSw.cell a an).1; rw [hx.out] at p0; rw [hy.out] at p1); go_simp <;> with_reducible rfl)
 try simp only [Act.put,sA,sB,sC]
 refine wpAnyH_done (by kernel_rfl) ?_ _
 (try simp only [Exit.inBlock, Exit.then])
 replace hHeld := lh hHeld
 clear hSd
 go_wp2_with fail
 go_roundw
 case rel => exact ⟨i, h, hmi, by have := hh'.out; omega, by have := hh'.out; omega, rfl, rfl, hHeld, hlo, hhi2⟩
 have := hh'.out; first | (simp [intOf]; done) | (simp [intOf]; omega)
theorem symMerge_last (cb : Array Value) (f ke : Nat → Int) (N base g n cap : Nat) (w0 : World) (a m b : Nat) (d : List Nat) (w : World) (HC : Hid (CmpOk cb f N base w0)) (K : Hid (Key N f ke)) (S0 : SD w0 base g n cap d w) (ham : a < m) (hmb : m < b) (hb : b ≤ n) (hn : n ≤ 100000)
 (hN : Hid (∀ x ∈ d, x < N)) (hL : Hid (Srt ke d a m)) (hR : Hid (Srt ke d m b)) (hX : Hid (Lss nI d a m m b)) (h1 : ¬ m = a + 1) (h2 : b = m + 1) :
 Calls Tryz.prog 217 #[.slice (some ⟨g, 0, none⟩) n cap, .int .i64 a, .int .i64 m, .int .i64 b, .func (.func 193) #[] cb] w (fun e w' => e = .returned (.tuple #[]) ∧ ∃ d1, SD w0 base g n cap d1 w' ∧ Mv a b d d1 ∧ Srt ke d1 a b) := by
 have hl0 := lh S0.len
 have mn : m < n := by omega
 obtain ⟨x, hx⟩ : ∃ x, d.getD m 0 = x := ⟨_, rfl⟩
 have xN : x < N := by rw [← hx]; exact hN.out _ (getD_mem_ (by rw [hl0.out]; omega))
 replace hx := lh hx
 have hdone := lh (fun (e : List Nat) (p : Nat) (h : Ins d e a m p) k1 k2 k3 k4 => h.done (g := ke) hL.out k1 k2 k3 k4)
 have hstep := lh (fun (e : List Nat) (p : Nat) (h : Ins d e a m (p + 1)) k1 k2 => h.step k1 k2 (by rw [hl0.out]; omega))
 have z0 : ¬ (m : Int) - (a : Int) = 1 := by omega
 have z1 : (b : Int) - (m : Int) = 1 := by omega
 have z2 : (((m : Int) - (a : Int)) == 1) = false := by rw [beq_eq_false_iff_ne]; omega
 have ew4 : IntKind.i64.wrap (m : Int) = (m : Int) := by rw [IntKind.wrap_i64]; omega
 have b2 : (m : Int) < (n : Int) := by omega
 replace h2 := lh h2
 clear h1
 go_enter Tryz.func217, Tryz.ntmps217
 go_wp2_with fail
 go_loopw [14, 15] (fun u v wr => ∃ (i j : Nat), a ≤ i ∧ i ≤ j ∧ j ≤ m ∧ u = .int .i64 i ∧ v = .int .i64 j ∧ Hid (SD w0 base g n cap d wr) ∧ Hid (∀ q, a ≤ q → q < i → ke (d.getD q 0) < ke (d.getD m 0)) ∧ Hid (∀ q, j ≤ q → q < m → ke (d.getD m 0) < ke (d.getD q 0))) (fun u v _ => (intOf v).toNat - (intOf u).toNat)
 case atStart => exact ⟨a, m, Nat.le_refl _, by omega, Nat.le_refl _, rfl, rfl, S0, fun q q1 q2 => by omega, fun q q1 q2 => by omega⟩
 obtain ⟨i, j, hmi, hij, hjb, rfl, rfl, hSd', hlo, hhi⟩ := hrel
 have hSd := hSd'.out
 by_cases hlt : i < j
 rotate_left
 ·obtain rfl : i = j := by omega
  have hd2 := lh (fun (e : List Nat) (h : Ins d e a m i) => hdone.out e i h hmi hjb (by
   by_cases q : i = a
   ·exact .inl q
   exact .inr (hlo.out (i - 1) (by omega) (by omega))) (fun q q1 q2 => hhi.out q q1 q2))
  clear hSd hlo hhi
  go_wp2_with fail
  go_loopw [17] (fun u wr2 => ∃ (k : Nat) (e : List Nat), i ≤ k ∧ k ≤ m ∧ u = .int .i64 k ∧ Hid (SD w0 base g n cap e wr2) ∧ Hid (Ins d e a m k)) (fun u _ => (intOf u).toNat)
  case atStart => exact ⟨m, d, hjb, Nat.le_refl _, rfl, hSd', Ins.start d a m⟩
  obtain ⟨k, e, hak, hkp, rfl, hSe, hM⟩ := hrel
  by_cases hlt2 : i < k
  rotate_left
  ·obtain rfl : k = i := by omega
   go_wp2_with fail
   (first | go_end0 | go_ret | go_returns | (trace_state; fail))
   have h2' := h2.out
   subst h2'
   exact ⟨rfl, e, hSe.out, hM.out.mv, hd2.out e hM.out⟩
  obtain ⟨kp, rfl⟩ : ∃ q, k = q + 1 := ⟨k - 1, by omega⟩
  have hltz : (kp : Int) + 1 > (i : Int) := by omega
  have hltd : decide ((kp : Int) + 1 > (i : Int)) = true := decide_eq_true (by omega)
  have hk0 : kp < n := by omega
  have hk1 : kp + 1 < n := by omega
  have hM2 := lh (hstep.out e kp hM.out (by omega) hkp)
  obtain ⟨z, hz⟩ : ∃ z, e.getD kp 0 = z := ⟨_, rfl⟩
  obtain ⟨y, hy⟩ : ∃ y, e.getD (kp + 1) 0 = y := ⟨_, rfl⟩
  have hSx := lh (hSe.out.swap (kp + 1) kp y z hk1 hk0 hy hz)
  obtain ⟨c0, f0⟩ := hSe.out.cell kp hk0
  obtain ⟨c1, f1⟩ := hSe.out.cell (kp + 1) hk1
  rw [hz] at c0
  rw [hy] at c1
  obtain ⟨u9, c9⟩ := hSe.out.other (kp + 1) kp z hk1 hk0
  have f9 := (hSe.out.set (kp + 1) z hk1).cell kp hk0 |>.2
  have ew1 : IntKind.i64.wrap ((kp : Int) + 1) = (kp : Int) + 1 := by rw [IntKind.wrap_i64]; omega
  have ew2 : IntKind.i64.wrap (kp : Int) = (kp : Int) := by rw [IntKind.wrap_i64]; omega
  have ew5 : IntKind.i64.wrap ((kp : Int) + 1 - 1) = (kp : Int) := by rw [IntKind.wrap_i64]; omega
  have q1 : (kp : Int) + 1 < (n : Int) := by omega
  have q2 : (kp : Int) < (n : Int) := by omega
  have q3 : (0 : Int) ≤ (kp : Int) + 1 := by omega
  have q4 : ((kp : Int) + 1).toNat = kp + 1 := by omega
  clear hz hy hSe hM
  go_wp2_with fail
  go_big_region
  (try simp only [Exit.inBlock, Exit.then])
  go_wp2_with fail
  go_roundw
  case rel => exact ⟨kp, _, by omega, by omega, by first | rfl | go_num, (by first | exact hSx.out | exact hSx.out.drew | exact hSx.out.drew.drew | exact hSx.out.drew.drew.drew), hM2⟩
  first | (simp [intOf]; done) | (simp [intOf]; omega)
 have hltz : (i : Int) < (j : Int) := by omega
 obtain ⟨h, hh⟩ : ∃ h, (i + j) / 2 = h := ⟨_, rfl⟩
 have hn1 : h < n := by omega
 obtain ⟨s, hs⟩ : ∃ s, i + j = s := ⟨_, rfl⟩
 have e1 : (i : Int) + (j : Int) = (s : Int) := by omega
 have e2 : (s : Int) / 2 = (h : Int) := by omega
 have e3 : s < 200001 := by omega
 have ew3 : IntKind.i64.wrap (h : Int) = (h : Int) := by rw [IntKind.wrap_i64]; omega
 have b1 : (h : Int) < (n : Int) := by omega
 obtain ⟨y, hy⟩ : ∃ y, d.getD h 0 = y := ⟨_, rfl⟩
 have yN : y < N := by rw [← hy]; exact hN.out _ (getD_mem_ (by rw [hl0.out]; omega))
 have hyx : y < x := by rw [← hx.out, ← hy]; exact lss_lt hX.out (by omega) (by omega) (by omega) (by omega)
 obtain ⟨fx, hfx⟩ : ∃ z, f x = z := ⟨_, rfl⟩
 obtain ⟨fy, hfy⟩ : ∃ z, f y = z := ⟨_, rfl⟩
 by_cases hf : fx < fy
 ·have hke := K.out.lt x y hyx xN (by rw [hfx, hfy]; exact hf)
  rw [← hx.out, ← hy] at hke
  have hhi2 := lh (half_hi (x := m) (h := h) hL.out (by omega) hke)
  have g1 : fx - fy < 0 := by omega
  have g2 : decide (fx - fy < 0) = true := decide_eq_true g1
  replace hy := lh hy
  replace hfx := lh hfx
  replace hfy := lh hfy
  have hh' := lh hh
  clear hke hh hs
  go_wp2_with fail
  refine wp_region_held_drew (S := (fun w' => SD w0 base g n cap d w')) (by kernel_rfl) ?_ (fun hHeld => ?_)
  ·(try dsimp only)
   (first | exact hSd.drew | exact hHeld.drew)
  refine takeL 0 (v := ?_) rfl (by kernel_rfl) (by kernel_rfl) (by kernel_rfl) (fun _ _ _ h => h) (by rfl) (by assumption) ?_ ?_
  rotate_left
  ·(intro w hSw; (try dsimp only at hSw); (have p0 := (hSw.cell m mn).1; have p1 := (hSw.cell h hn1).1; rw [hx.out] at p0; rw [hy.out] at p1); go_simp <;> with_reducible rfl)
  try simp only [Act.put,sA,sB,sC]
  refine takeL 1 (v := ?_) rfl (by kernel_rfl) (by kernel_rfl) (by kernel_rfl) (fun _ _ _ h => h) (by rfl) (by assumption) ?_ ?_
  rotate_left
  ·(intro w hSw; (try dsimp only at hSw); (have p0 := (hSw.cell m mn).1; have p1 := (hSw.cell h hn1).1; rw [hx.out] at p0; rw [hy.out] at p1); go_simp <;> with_reducible rfl)
  try simp only [Act.put,sA,sB,sC]
  refine takeL 2 (v := ?_) rfl (by kernel_rfl) (by kernel_rfl) (by kernel_rfl) (fun _ _ _ h => h) (by rfl) (by assumption) ?_ ?_
  rotate_left
  ·(intro w hSw; (try dsimp only at hSw); (have p0 := (hSw.cell m mn).1; have p1 := (hSw.cell h hn1).1; rw [hx.out] at p0; rw [hy.out] at p1); go_simp <;> with_reducible rfl)
  try simp only [Act.put,sA,sB,sC]
  refine takeL 3 (v := ?_) rfl (by kernel_rfl) (by kernel_rfl) (by kernel_rfl) (fun _ _ _ h => h) (by rfl) (by assumption) ?_ ?_
  rotate_left
  ·(intro w hSw; (try dsimp only at hSw); (have p0 := (hSw.cell m mn).1; have p1 := (hSw.cell h hn1).1; rw [hx.out] at p0; rw [hy.out] at p1); go_simp <;> with_reducible rfl)
  try simp only [Act.put,sA,sB,sC]
  refine takeL 4 (v := ?_) rfl (by kernel_rfl) (by kernel_rfl) (by kernel_rfl) (fun _ _ _ h => h) (by rfl) (by assumption) ?_ ?_
  rotate_left
  ·(intro w hSw; (try dsimp only at hSw); (have p0 := (hSw.cell m mn).1; have p1 := (hSw.cell h hn1).1; rw [hx.out] at p0; rw [hy.out] at p1); go_simp <;> with_reducible rfl)
  try simp only [Act.put,sA,sB,sC]
  refine takeL 5 (v := ?_) rfl (by kernel_rfl) (by kernel_rfl) (by kernel_rfl) (fun _ _ _ h => h) (by rfl) (by assumption) ?_ ?_
  rotate_left
  ·(intro w hSw; (try dsimp only at hSw); (have p0 := (hSw.cell m mn).1; have p1 := (hSw.cell h hn1).1; rw [hx.out] at p0; rw [hy.out] at p1); go_simp <;> with_reducible rfl)
  try simp only [Act.put,sA,sB,sC]
  refine takeL 6 (v := ?_) rfl (by kernel_rfl) (by kernel_rfl) (by kernel_rfl) (fun _ _ _ h => h) (by rfl) (by assumption) ?_ ?_
  rotate_left
  ·(intro w hSw; (try dsimp only at hSw); (have p0 := (hSw.cell m mn).1; have p1 := (hSw.cell h hn1).1; rw [hx.out] at p0; rw [hy.out] at p1); go_simp <;> with_reducible rfl)
  try simp only [Act.put,sA,sB,sC]
  refine takeL 7 (v := ?_) rfl (by kernel_rfl) (by kernel_rfl) (by kernel_rfl) (fun _ _ _ h => h) (by rfl) (by assumption) ?_ ?_
  rotate_left
  ·(intro w hSw; (try dsimp only at hSw); (have p0 := (hSw.cell m mn).1; have p1 := (hSw.cell h hn1).1; rw [hx.out] at p0; rw [hy.out] at p1); go_simp <;> with_reducible rfl)
  try simp only [Act.put,sA,sB,sC]
  refine takeL 8 (v := ?_) rfl (by kernel_rfl) (by kernel_rfl) (by kernel_rfl) (fun _ _ _ h => h) (by rfl) (by assumption) ?_ ?_
  rotate_left
  ·(intro w hSw; (try dsimp only at hSw); (have p0 := (hSw.cell m mn).1; have p1 := (hSw.cell h hn1).1; rw [hx.out] at p0; rw [hy.out] at p1); go_simp <;> with_reducible rfl)
  try simp only [Act.put,sA,sB,sC]
  refine oneL 9 rfl (by kernel_rfl) (fun K hK => ?_)
  go_simp
  (have hq := HC.out _ x y hHeld.kept xN yN; rw [hfx.out, hfy.out] at hq; go_at_call 193; (with_reducible refine hq.mono ?_); rintro e w8 ⟨rfl, rfl⟩)
  refine hK.out _ _ ?_ (fun hHeld2 => ?_)
  ·(try dsimp only)
   (first | exact hSd.drew | exact hHeld.drew)
  clear hK K hHeld
  have hHeld := hHeld2
  clear hHeld2
  try simp only [Act.put,sA,sB,sC]
  refine takeL 10 (v := ?_) rfl (by kernel_rfl) (by kernel_rfl) (by kernel_rfl) (fun _ _ _ h => h) (by rfl) (by assumption) ?_ ?_
  rotate_left
  ·(intro w hSw; (try dsimp only at hSw); (have p0 := (hSw.cell m mn).1; have p1 := (hSw.cell h hn1).1; rw [hx.out] at p0; rw [hy.out] at p1); go_simp <;> with_reducible rfl)
  try simp only [Act.put,sA,sB,sC]
  refine takeL 11 (v := ?_) rfl (by kernel_rfl) (by kernel_rfl) (by kernel_rfl) (fun _ _ _ h => h) (by rfl) (by assumption) ?_ ?_
  rotate_left
  ·(intro w hSw; (try dsimp only at hSw); (have p0 := (hSw.cell m mn).1; have p1 := (hSw.cell h hn1).1; rw [hx.out] at p0; rw [hy.out] at p1); go_simp <;> with_reducible rfl)
  try simp only [Act.put,sA,sB,sC]
  refine wpAnyH_done (by kernel_rfl) ?_ _
  (try simp only [Exit.inBlock, Exit.then])
  replace hHeld := lh hHeld
  clear hSd
  go_wp2_with fail
  go_roundw
  case rel => exact ⟨i, h, hmi, by have := hh'.out; omega, by have := hh'.out; omega, rfl, rfl, hHeld, hlo, hhi2⟩
  have := hh'.out; first | (simp [intOf]; done) | (simp [intOf]; omega)
 have hke := K.out.ge x y hyx xN (by rw [hfx, hfy]; exact hf)
 rw [← hx.out, ← hy] at hke
 have hlo2 := lh (half_lo (x := m) (h := h) hL.out (by omega) hke)
 have g1 : ¬ fx - fy < 0 := by omega
 have g2 : decide (fx - fy < 0) = false := decide_eq_false g1
 replace hy := lh hy
 replace hfx := lh hfx
 replace hfy := lh hfy
 have hh' := lh hh
 clear hke hh hs
 go_wp2_with fail
 refine wp_region_held_drew (S := (fun w' => SD w0 base g n cap d w')) (by kernel_rfl) ?_ (fun hHeld => ?_)
 ·(try dsimp only)
  (first | exact hSd.drew | exact hHeld.drew)
 refine takeL 0 (v := ?_) rfl (by kernel_rfl) (by kernel_rfl) (by kernel_rfl) (fun _ _ _ h => h) (by rfl) (by assumption) ?_ ?_
 rotate_left
 ·(intro w hSw; (try dsimp only at hSw); (have p0 := (hSw.cell m mn).1; have p1 := (hSw.cell h hn1).1; rw [hx.out] at p0; rw [hy.out] at p1); go_simp <;> with_reducible rfl)
 try simp only [Act.put,sA,sB,sC]
 refine takeL 1 (v := ?_) rfl (by kernel_rfl) (by kernel_rfl) (by kernel_rfl) (fun _ _ _ h => h) (by rfl) (by assumption) ?_ ?_
 rotate_left
 ·(intro w hSw; (try dsimp only at hSw); (have p0 := (hSw.cell m mn).1; have p1 := (hSw.cell h hn1).1; rw [hx.out] at p0; rw [hy.out] at p1); go_simp <;> with_reducible rfl)
 try simp only [Act.put,sA,sB,sC]
 refine takeL 2 (v := ?_) rfl (by kernel_rfl) (by kernel_rfl) (by kernel_rfl) (fun _ _ _ h => h) (by rfl) (by assumption) ?_ ?_
 rotate_left
 ·(intro w hSw; (try dsimp only at hSw); (have p0 := (hSw.cell m mn).1; have p1 := (hSw.cell h hn1).1; rw [hx.out] at p0; rw [hy.out] at p1); go_simp <;> with_reducible rfl)
 try simp only [Act.put,sA,sB,sC]
 refine takeL 3 (v := ?_) rfl (by kernel_rfl) (by kernel_rfl) (by kernel_rfl) (fun _ _ _ h => h) (by rfl) (by assumption) ?_ ?_
 rotate_left
 ·(intro w hSw; (try dsimp only at hSw); (have p0 := (hSw.cell m mn).1; have p1 := (hSw.cell h hn1).1; rw [hx.out] at p0; rw [hy.out] at p1); go_simp <;> with_reducible rfl)
 try simp only [Act.put,sA,sB,sC]
 refine takeL 4 (v := ?_) rfl (by kernel_rfl) (by kernel_rfl) (by kernel_rfl) (fun _ _ _ h => h) (by rfl) (by assumption) ?_ ?_
 rotate_left
 ·(intro w hSw; (try dsimp only at hSw); (have p0 := (hSw.cell m mn).1; have p1 := (hSw.cell h hn1).1; rw [hx.out] at p0; rw [hy.out] at p1); go_simp <;> with_reducible rfl)
 try simp only [Act.put,sA,sB,sC]
 refine takeL 5 (v := ?_) rfl (by kernel_rfl) (by kernel_rfl) (by kernel_rfl) (fun _ _ _ h => h) (by rfl) (by assumption) ?_ ?_
 rotate_left
 ·(intro w hSw; (try dsimp only at hSw); (have p0 := (hSw.cell m mn).1; have p1 := (hSw.cell h hn1).1; rw [hx.out] at p0; rw [hy.out] at p1); go_simp <;> with_reducible rfl)
 try simp only [Act.put,sA,sB,sC]
 refine takeL 6 (v := ?_) rfl (by kernel_rfl) (by kernel_rfl) (by kernel_rfl) (fun _ _ _ h => h) (by rfl) (by assumption) ?_ ?_
 rotate_left
 ·(intro w hSw; (try dsimp only at hSw); (have p0 := (hSw.cell m mn).1; have p1 := (hSw.cell h hn1).1; rw [hx.out] at p0; rw [hy.out] at p1); go_simp <;> with_reducible rfl)
 try simp only [Act.put,sA,sB,sC]
 refine takeL 7 (v := ?_) rfl (by kernel_rfl) (by kernel_rfl) (by kernel_rfl) (fun _ _ _ h => h) (by rfl) (by assumption) ?_ ?_
 rotate_left
 ·(intro w hSw; (try dsimp only at hSw); (have p0 := (hSw.cell m mn).1; have p1 := (hSw.cell h hn1).1; rw [hx.out] at p0; rw [hy.out] at p1); go_simp <;> with_reducible rfl)
 try simp only [Act.put,sA,sB,sC]
 refine takeL 8 (v := ?_) rfl (by kernel_rfl) (by kernel_rfl) (by kernel_rfl) (fun _ _ _ h => h) (by rfl) (by assumption) ?_ ?_
 rotate_left
 ·(intro w hSw; (try dsimp only at hSw); (have p0 := (hSw.cell m mn).1; have p1 := (hSw.cell h hn1).1; rw [hx.out] at p0; rw [hy.out] at p1); go_simp <;> with_reducible rfl)
 try simp only [Act.put,sA,sB,sC]
 refine oneL 9 rfl (by kernel_rfl) (fun K hK => ?_)
 go_simp
 (have hq := HC.out _ x y hHeld.kept xN yN; rw [hfx.out, hfy.out] at hq; go_at_call 193; (with_reducible refine hq.mono ?_); rintro e w8 ⟨rfl, rfl⟩)
 refine hK.out _ _ ?_ (fun hHeld2 => ?_)
 ·(try dsimp only)
  (first | exact hSd.drew | exact hHeld.drew)
 clear hK K hHeld
 have hHeld := hHeld2
 clear hHeld2
 try simp only [Act.put,sA,sB,sC]
 refine takeL 10 (v := ?_) rfl (by kernel_rfl) (by kernel_rfl) (by kernel_rfl) (fun _ _ _ h => h) (by rfl) (by assumption) ?_ ?_
 rotate_left
 ·(intro w hSw; (try dsimp only at hSw); (have p0 := (hSw.cell m mn).1; have p1 := (hSw.cell h hn1).1; rw [hx.out] at p0; rw [hy.out] at p1); go_simp <;> with_reducible rfl)
 try simp only [Act.put,sA,sB,sC]
 refine takeL 11 (v := ?_) rfl (by kernel_rfl) (by kernel_rfl) (by kernel_rfl) (fun _ _ _ h => h) (by rfl) (by assumption) ?_ ?_
 rotate_left
 ·(intro w hSw; (try dsimp only at hSw); (have p0 := (hSw.cell m mn).1; have p1 := (hSw.cell h hn1).1; rw [hx.out] at p0; rw [hy.out] at p1); go_simp <;> with_reducible rfl)
 try simp only [Act.put,sA,sB,sC]
 refine wpAnyH_done (by kernel_rfl) ?_ _
 (try simp only [Exit.inBlock, Exit.then])
 replace hHeld := lh hHeld
 clear hSd
 go_wp2_with fail
 go_roundw
 case rel => exact ⟨h + 1, j, by omega, by have := hh'.out; omega, hjb, by go_num, rfl, hHeld, hlo2, hhi⟩
 have := hh'.out; first | (simp [intOf]; done) | (simp [intOf]; omega)
end Go.Proofs.YtkkbngcgphlikaaGreatDoor
end
