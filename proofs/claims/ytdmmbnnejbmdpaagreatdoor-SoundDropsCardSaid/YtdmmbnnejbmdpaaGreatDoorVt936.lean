/-
  Part of the proof of SoundApart,SoundTwins,SoundWords.
-/
import Derived.Test.YtdmmbnnejbmdpaaGreatDoorVt911
import Derived.Test.YtdmmbnnejbmdpaaGreatDoorVt913
import Derived.Test.YtdmmbnnejbmdpaaGreatDoorVt934
import Derived.Test.YtdmmbnnejbmdpaaGreatDoorVt935
import Derived.Test.YtdmmbnnejbmdpaaGreatDoorVt90
set_option maxRecDepth 10000
set_option maxHeartbeats 4000000
set_option linter.unusedVariables false
set_option linter.unusedSimpArgs false
section
namespace Go.Proofs.YtdmmbnnejbmdpaaGreatDoor
open Go.Lib Go.RowKit Go.ChangeShapes Go.WideShapes Go.Deep Go.Shelf
theorem epoch1 (x : Ob) (ep E : Nat) (w : World) (hx : x.2.2.2 < 18446744073709551616) (hE : E < w.heap.size) (hc : w.cell? ⟨E, 0, none⟩ = some (.int .u64 (ep : Nat))) :
 Calls Tryz.prog 77 #[.agg #[.int .i64 (x.1 : Nat), .int .i64 (x.2.1 : Nat), .int .i64 (x.2.2.1 : Nat), .int .u64 (x.2.2.2 : Nat)], .pointer (some ⟨E, 0, none⟩)] w fun e w' => e = .returned (.bool (decide (ep < x.2.2.2 / 4294967296))) ∧ Below w.heap.size w w' := by
 obtain ⟨p, t, s, n⟩ := x
 simp only [] at hx ⊢
 obtain ⟨q, hq⟩ : ∃ q, n / 4294967296 = q := ⟨_, rfl⟩
 have z1 : (n : Int) / 4294967296 = (q : Int) := by omega
 rw [hq]
 have hA := bZ w (.cells #[.int .i64 (p : Nat), .int .i64 (t : Nat), .int .i64 (s : Nat), .int .u64 (n : Nat)] 95)
 have hc2 : (w.alloc (.cells #[.int .i64 (p : Nat), .int .i64 (t : Nat), .int .i64 (s : Nat), .int .u64 (n : Nat)] (95 : Nat))).cell? ⟨E, 0, none⟩ = some (.int .u64 (ep : Nat)) := by rw [((bcell hA).1 _ _ hE)]; exact hc
 by_cases h : ep < q
 ·have h1 : (ep : Int) < (q : Int) := by omega
  rw [decide_eq_true h]
  replace hq := lh hq
  go_enter Tryz.func77, Tryz.ntmps77
  go_wp2_with fail
  go_ret
  exact ⟨by simp [h1], hA⟩
 ·have h1 : ¬ (ep : Int) < (q : Int) := by omega
  rw [decide_eq_false h]
  replace hq := lh hq
  go_enter Tryz.func77, Tryz.ntmps77
  go_wp2_with fail
  go_ret
  exact ⟨by simp [h1], hA⟩
theorem root1 (x : Ob) (rt E : Nat) (w : World) (hx : x.1 < 1000000) (hE : E < w.heap.size) (hc : w.cell? ⟨E, 0, none⟩ = some (.int .u64 (rt : Nat))) :
 Calls Tryz.prog 79 #[.agg #[.int .i64 (x.1 : Nat), .int .i64 (x.2.1 : Nat), .int .i64 (x.2.2.1 : Nat), .int .u64 (x.2.2.2 : Nat)], .pointer (some ⟨E, 0, none⟩)] w fun e w' => e = .returned (.bool (decide (x.1 = rt))) ∧ Below w.heap.size w w' := by
 obtain ⟨p, t, s, n⟩ := x
 simp only [] at hx ⊢
 have z1 : IntKind.u64.wrap (p : Int) = (p : Int) := by rw [IntKind.wrap_u64]; omega
 have hA := bZ w (.cells #[.int .i64 (p : Nat), .int .i64 (t : Nat), .int .i64 (s : Nat), .int .u64 (n : Nat)] 95)
 have hc2 : (w.alloc (.cells #[.int .i64 (p : Nat), .int .i64 (t : Nat), .int .i64 (s : Nat), .int .u64 (n : Nat)] (95 : Nat))).cell? ⟨E, 0, none⟩ = some (.int .u64 (rt : Nat)) := by rw [((bcell hA).1 _ _ hE)]; exact hc
 by_cases h : p = rt
 ·subst h
  rw [decide_eq_true rfl]
  go_enter Tryz.func79, Tryz.ntmps79
  go_wp2_with fail
  go_ret
  exact ⟨by simp, hA⟩
 ·have h1 : ¬ (p : Int) = (rt : Int) := by omega
  have h2 : ((p : Int) == (rt : Int)) = false := beq_eq_false_iff_ne.2 h1
  rw [decide_eq_false h]
  go_enter Tryz.func79, Tryz.ntmps79
  go_wp2_with fail
  go_ret
  exact ⟨by simp [h1, h2], hA⟩
theorem objsP_mem {I : List Nat} {L : Nat} (hW : WL I) (hs : gOk (I.length : Nat) (L : Nat) = true) (hN8 : I.length ≤ 800) {x : Ob} (h : x ∈ objsP I L) : x.1 + 4 ≤ I.length ∧ x.1 < 1000000 ∧ x.2.2.2 < 18446744073709551616 ∧ ∃ b ∈ blI I L, objH I L b = some x := by
 unfold objsP at h
 split at h
 ·rename_i hal
  obtain ⟨b, hb, rfl⟩ := List.mem_map.1 h
  have hsm := List.all_eq_true.1 hal b hb
  have hp := (plc_bd hs hb).2.2.2.2.2.1
  cases ho : objH I L b with
  | none => rw [ho] at hsm; cases hsm
  | some o =>
    have he : objE I L b = o := by unfold objE; rw [ho]; rfl
    rw [he]
    have ho2 := ho
    unfold objH at ho2
    split at ho2
    ·rename_i t s n hd
     split at ho2
     ·cases ho2
      refine ⟨hp, by show plc _ _ _ < _; omega, ?_, b, hb, ho⟩
      show n < _
      unfold hdAt decH at hd
      split at hd
      ·cases hd
      ·split at hd
       ·cases hd
        have hw : WL ((I.drop (plc I.length L b)).take 2) := fun x hx => hW x (List.mem_of_mem_drop (List.mem_of_mem_take hx))
        exact hw.getN 1
       ·cases hd
     ·cases ho2
    ·cases ho2
 ·cases h
theorem epo_any (I : List Nat) (l : List Ob) : (l.all fun o => decide (o.2.2.2 / 4294967296 ≤ I.getD 9 0)) = !(l.any fun o => decide (I.getD 9 0 < o.2.2.2 / 4294967296)) := by
 induction l with
 | nil => rfl
 | cons x l ih =>
   rw [List.all_cons, List.any_cons, ih, Bool.not_or]
   congr 1
   by_cases h : x.2.2.2 / 4294967296 ≤ I.getD 9 0
   ·rw [decide_eq_true h, decide_eq_false (by omega)]; rfl
   ·rw [decide_eq_false h, decide_eq_true (by omega)]; rfl
theorem epochHolds_any {w : World} {g off cap N L : Nat} {I : List Nat} (h : PoolM w g off cap N L I) :
 Calls Tryz.prog 37 #[.agg #[.slice (some ⟨g, off, none⟩) N cap, .int .i64 (N : Nat), .int .i64 (L : Nat)]] w fun e w' => e = .returned (.bool (epoB I (objsP I L))) ∧ Below w.heap.size w w' := by
 have hOb := lh (fun w1 (hb : Below w.heap.size w w1) => (h.keep hb).objs)
 have hlen := objsP_len h.hN h.hN8 h.hs
 have hmem := fun x (hx : x ∈ objsP I L) => objsP_mem h.hW (by rw [h.hN]; exact h.hs) (by rw [h.hN]; exact h.hN8) hx
 have h116 := h.cap.2
 have hcl := lh (fun w1 (hb : Below w.heap.size w w1) => (h.keep hb).cell 9 (by omega))
 have hx64 := h.hW.getN 9
 unfold epoB
 rw [epo_any]
 generalize objsP I L = l at *
 obtain ⟨ep, hep⟩ : ∃ x, I.getD 9 0 = x := ⟨_, rfl⟩
 simp only [hep] at hcl hx64 ⊢
 obtain ⟨ans, hans⟩ : ∃ a, (decide (ep ≤ 4294967295) && !(l.any fun o => decide (ep < o.2.2.2 / 4294967296))) = a := ⟨_, rfl⟩
 rw [hans]
 replace hans := lh hans
 replace hep := lh hep
 clear h
 have hb0 := bZ w (.cells #[.slice (some ⟨g, off, none⟩) N cap, .int .i64 (N : Nat), .int .i64 (L : Nat)] 73)
 have gP := HB.new w #[.slice (some ⟨g, off, none⟩) N cap, .int .i64 (N : Nat), .int .i64 (L : Nat)] 73
 obtain ⟨wb1, hwb1⟩ : ∃ x, w.alloc (.cells #[.slice (some ⟨g, off, none⟩) N cap, .int .i64 (N : Nat), .int .i64 (L : Nat)] 73) = x := ⟨_, rfl⟩
 have hswb1 : wb1.heap.size = w.heap.size + 1 := by rw [← hwb1]; simp
 rw [hwb1] at hb0 gP
 have hB : Below w.heap.size w wb1 := hb0
 clear hb0
 have p0 := (row_cell gP 0).1
 have p1 := (row_cell gP 1).1
 have p2 := (row_cell gP 2).1
 have c9 := hcl.out _ hB
 obtain ⟨w2, hw2⟩ : ∃ x, wb1.alloc (.cells #[.int .u64 (ep : Nat)] (33 : Nat)) = x := ⟨_, rfl⟩
 have e2 := bZ wb1 (.cells #[.int .u64 (ep : Nat)] (33 : Nat))
 have gE := HB.new wb1 #[.int .u64 (ep : Nat)] (33 : Nat)
 rw [hw2] at e2 gE
 rw [hswb1] at gE
 have gP2 := gP.keep e2
 have hB2 := hB.trans (e2.mono hB.size)
 have p0 := (row_cell gP2 0).1
 have p1 := (row_cell gP2 1).1
 have p2 := (row_cell gP2 2).1
 go_enter Tryz.func37, Tryz.ntmps37
 subst hw2 hwb1
 go_wp2_with fail
 refine (hOb.out _ hB2).mono ?_
 rintro e w3 ⟨v3, rfl, ho3, hb3⟩
 have hB3 := hB2.trans (hb3.mono hB2.size)
 have gE3 := gE.keep hb3
 have k0 := (row_cell gE3 0).1
 have hCo := containsOe #[.pointer (some ⟨w.heap.size + 1, 0, none⟩)] (fun o => decide (ep < o.2.2.2 / 4294967296)) v3 l w3 (ho3.el eO_len) (by omega) (fun w1 x hb hx => epoch1 x ep _ w1 (hmem x hx).2.2.1 (Nat.lt_of_lt_of_le gE3.lt hb.size) (by rw [(bcell hb).1 _ _ gE3.lt]; exact k0))
 clear p0 p1 p2 gP gP2 hB hB2 hOb hmem hcl c9
 by_cases h : ep ≤ 4294967295
 ·have h1 : (ep : Int) ≤ 4294967295 := by omega
  have hf := lh (show ans = !(l.any fun o => decide (ep < o.2.2.2 / 4294967296)) from by rw [← hans.out, decide_eq_true h]; rfl)
  go_wp2_with fail
  refine hCo.mono ?_
  rintro e w4 ⟨rfl, hb4⟩
  have hB4 := hB3.trans (hb4.mono hB3.size)
  go_wp2_with fail
  go_ret
  exact ⟨by rw [hf.out]; simp, hB4⟩
 ·have h1 : ¬ (ep : Int) ≤ 4294967295 := by omega
  have hf := lh (show ans = false from by rw [← hans.out, decide_eq_false h]; rfl)
  go_wp2_with fail
  go_ret
  exact ⟨by rw [hf.out]; simp [h1], hB3⟩
theorem rootHolds_any {w : World} {g off cap N L : Nat} {I : List Nat} (h : PoolM w g off cap N L I) :
 Calls Tryz.prog 38 #[.agg #[.slice (some ⟨g, off, none⟩) N cap, .int .i64 (N : Nat), .int .i64 (L : Nat)]] w fun e w' => e = .returned (.bool (rootB I (objsP I L))) ∧ Below w.heap.size w w' := by
 have hOb := lh (fun w1 (hb : Below w.heap.size w w1) => (h.keep hb).objs)
 have hlen := objsP_len h.hN h.hN8 h.hs
 have hmem := fun x (hx : x ∈ objsP I L) => objsP_mem h.hW (by rw [h.hN]; exact h.hs) (by rw [h.hN]; exact h.hN8) hx
 have h116 := h.cap.2
 have hcl := lh (fun w1 (hb : Below w.heap.size w w1) => (h.keep hb).cell 8 (by omega))
 have hx64 := h.hW.getN 8
 unfold rootB
 generalize objsP I L = l at *
 obtain ⟨ep, hep⟩ : ∃ x, I.getD 8 0 = x := ⟨_, rfl⟩
 simp only [hep] at hcl hx64 ⊢
 obtain ⟨ans, hans⟩ : ∃ a, (decide (ep = 0) || l.any fun o => decide (o.1 = ep)) = a := ⟨_, rfl⟩
 rw [hans]
 replace hans := lh hans
 replace hep := lh hep
 clear h
 have hb0 := bZ w (.cells #[.slice (some ⟨g, off, none⟩) N cap, .int .i64 (N : Nat), .int .i64 (L : Nat)] 73)
 have gP := HB.new w #[.slice (some ⟨g, off, none⟩) N cap, .int .i64 (N : Nat), .int .i64 (L : Nat)] 73
 obtain ⟨wb1, hwb1⟩ : ∃ x, w.alloc (.cells #[.slice (some ⟨g, off, none⟩) N cap, .int .i64 (N : Nat), .int .i64 (L : Nat)] 73) = x := ⟨_, rfl⟩
 have hswb1 : wb1.heap.size = w.heap.size + 1 := by rw [← hwb1]; simp
 rw [hwb1] at hb0 gP
 have hB : Below w.heap.size w wb1 := hb0
 clear hb0
 have p0 := (row_cell gP 0).1
 have p1 := (row_cell gP 1).1
 have p2 := (row_cell gP 2).1
 have c9 := hcl.out _ hB
 obtain ⟨w2, hw2⟩ : ∃ x, wb1.alloc (.cells #[.int .u64 (ep : Nat)] (33 : Nat)) = x := ⟨_, rfl⟩
 have e2 := bZ wb1 (.cells #[.int .u64 (ep : Nat)] (33 : Nat))
 have gE := HB.new wb1 #[.int .u64 (ep : Nat)] (33 : Nat)
 rw [hw2] at e2 gE
 rw [hswb1] at gE
 have gP2 := gP.keep e2
 have hB2 := hB.trans (e2.mono hB.size)
 have p0 := (row_cell gP2 0).1
 have p1 := (row_cell gP2 1).1
 have p2 := (row_cell gP2 2).1
 go_enter Tryz.func38, Tryz.ntmps38
 subst hw2 hwb1
 go_wp2_with fail
 refine (hOb.out _ hB2).mono ?_
 rintro e w3 ⟨v3, rfl, ho3, hb3⟩
 have hB3 := hB2.trans (hb3.mono hB2.size)
 have gE3 := gE.keep hb3
 have k0 := (row_cell gE3 0).1
 have hCo := containsOr #[.pointer (some ⟨w.heap.size + 1, 0, none⟩)] (fun o => decide (o.1 = ep)) v3 l w3 (ho3.el eO_len) (by omega) (fun w1 x hb hx => root1 x ep _ w1 (hmem x hx).2.1 (Nat.lt_of_lt_of_le gE3.lt hb.size) (by rw [(bcell hb).1 _ _ gE3.lt]; exact k0))
 clear p0 p1 p2 gP gP2 hB hB2 hOb hmem hcl c9
 by_cases h : ep = 0
 ·have hf := lh (show ans = true from by rw [← hans.out, decide_eq_true h]; rfl)
  subst h
  go_wp2_with fail
  go_ret
  exact ⟨by rw [hf.out]; simp, hB3⟩
 ·have h1 : ¬ (ep : Int) = 0 := by omega
  have h2 : ((ep : Int) == 0) = false := beq_eq_false_iff_ne.2 h1
  have hf := lh (show ans = (l.any fun o => decide (o.1 = ep)) from by rw [← hans.out, decide_eq_false h]; rfl)
  go_wp2_with fail
  refine hCo.mono ?_
  rintro e w4 ⟨rfl, hb4⟩
  have hB4 := hB3.trans (hb4.mono hB3.size)
  go_wp2_with fail
  go_ret
  exact ⟨by rw [hf.out]; simp, hB4⟩
end Go.Proofs.YtdmmbnnejbmdpaaGreatDoor
end
section
namespace Go.Proofs.YtdmmbnnejbmdpaaGreatDoor
open Go.Lib Go.RowKit Go.ChangeShapes Go.WideShapes Go.Deep Go.Shelf
theorem HB.setC {w : World} {b : Nat} {cs : Array Value} {t : TypeId} (h : HB w b cs t) (i : Nat) (v : Value) : HB (w.setCell ⟨b, i, none⟩ v) b (cs.setIfInBounds i v) t := heap_setCell_same w b i cs t v h
theorem mkdec16 (x : Nat) (w : World) (hx : x < 18446744073709551616) :
 Calls Tryz.prog 70 #[.int .u64 (x : Nat)] w fun e w' => e = .returned (.tuple #[.agg #[.int .i64 (if mkOk x = true then (mkS x : Int) else 0), .int .i64 (if mkOk x = true then (mkC x : Int) else 0), .int .u64 (if mkOk x = true then (mkG x : Int) else 0)], .bool (mkOk x)]) ∧ Below w.heap.size w w' := by
 have e : mkOk x = okB ((x : Int) % 4) ((x : Int) / 4 % 16384) ((x : Int) / 65536) := by
  unfold mkOk mkS mkC mkG
  rfl
 cases h : mkOk x with
 | true =>
   refine (decode_t (x : Nat) w (by omega) (by omega) (by rw [← e, h])).mono ?_
   rintro e1 w' ⟨rfl, hb⟩
   refine ⟨?_, hb⟩
   rw [if_pos rfl, if_pos rfl, if_pos rfl, show ((mkS x : Nat) : Int) = (x : Int) % 4 from by unfold mkS; omega, show ((mkC x : Nat) : Int) = (x : Int) / 4 % 16384 from by unfold mkC; omega, show ((mkG x : Nat) : Int) = (x : Int) / 65536 from by unfold mkG; omega]
 | false =>
   refine (decode_f (x : Nat) w (by omega) (by omega) (by rw [← e, h])).mono ?_
   rintro e1 w' ⟨rfl, hb⟩
   exact ⟨rfl, hb⟩
theorem rests_any {w : World} {g off cap N L : Nat} {I : List Nat} (h : PoolM w g off cap N L I) :
 Calls Tryz.prog 33 #[.agg #[.slice (some ⟨g, off, none⟩) N cap, .int .i64 (N : Nat), .int .i64 (L : Nat)]] w fun e w' => e = .returned (.bool (restN I L)) ∧ Below w.heap.size w w' := by
 obtain ⟨s1, s2, s3, s4, s5, s6, s7, s8⟩ := pool_size h.hs
 have hN8 := h.hN8
 have hcl := lh (fun w1 i (hb : Below w.heap.size w w1) (hi : i < N) => (h.keep hb).cell i hi)
 have hx64 := lh (fun i => h.hW.getN i)
 have hMk := lh (fun k (hk : k < L) w1 => show Calls Tryz.prog 71 #[.agg #[.int .i64 (N : Nat), .int .i64 (L : Nat)], .int .i64 (k : Nat)] w1 (fun e w' => e = .returned (.int .i64 ((10 + k : Nat) : Int)) ∧ Below w1.heap.size w1 w') from by
  have h1 := mark_t (N : Nat) (L : Nat) (k : Nat) w1 (by unfold lOk; rw [h.hs, Bool.true_and]; exact decide_eq_true (by omega))
  rw [show ((10 + k : Nat) : Int) = 10 + (k : Int) from by omega]
  exact h1)
 have hst := lh (fun k => restN_succ I k)
 have hnf := lh (fun k (hk : k ≤ L) (hf : restN I k = false) => restN_false hf hk)
 obtain ⟨ans, hans⟩ : ∃ a, restN I L = a := ⟨_, rfl⟩
 rw [hans]
 replace hans := lh hans
 have hLN : 10 + L ≤ N := by omega
 clear h s1 s2 s3 s4 s5 s6 s7 s8
 have hb0 := bZ w (.cells #[.slice (some ⟨g, off, none⟩) N cap, .int .i64 (N : Nat), .int .i64 (L : Nat)] 73)
 have gP := HB.new w #[.slice (some ⟨g, off, none⟩) N cap, .int .i64 (N : Nat), .int .i64 (L : Nat)] 73
 obtain ⟨wb1, hwb1⟩ : ∃ x, w.alloc (.cells #[.slice (some ⟨g, off, none⟩) N cap, .int .i64 (N : Nat), .int .i64 (L : Nat)] 73) = x := ⟨_, rfl⟩
 have hswb1 : wb1.heap.size = w.heap.size + 1 := by rw [← hwb1]; simp
 rw [hwb1] at hb0 gP
 have hB : Below w.heap.size w wb1 := hb0
 clear hb0
 have p0 := (row_cell gP 0).1
 have p1 := (row_cell gP 1).1
 have p2 := (row_cell gP 2).1
 go_enter Tryz.func33, Tryz.ntmps33
 subst hwb1
 go_wp2_with fail
 clear p0 p1 p2
 obtain ⟨wb, hwb⟩ : ∃ x, w.alloc (.cells #[.slice (some ⟨g, off, none⟩) N cap, .int .i64 (N : Nat), .int .i64 (L : Nat)] 73) = x := ⟨_, rfl⟩
 rw [hwb] at hB gP hswb1
 go_loopw [9] (fun i wr => ∃ (j : Nat), j ≤ L ∧ i = .int .i64 (j : Nat) ∧ Hid (restN I j = true) ∧ Below wb.heap.size wb wr) (fun i _ => L + 1 - (intOf i).toNat)
 case atStart => exact ⟨0, Nat.zero_le _, rfl, lh rfl, by first | exact Below.refl _ _ | (rw [← hwb]; exact Below.refl _ _)⟩
 case round =>
  obtain ⟨j, hj, rfl, hrs, hBr⟩ := hrel
  have gPr := gP.keep hBr
  by_cases hlt : j < L
  ·have hlt' : (j : Int) < (L : Int) := by omega
   have hMk1 := lh (hMk.out j hlt)
   obtain ⟨M, hM⟩ : ∃ M, 10 + j = M := ⟨_, rfl⟩
   rw [hM] at hMk1
   have hMN : M < N := by omega
   have hMN' : (M : Int) < (N : Int) := by omega
   obtain ⟨x, hx⟩ : ∃ x, I.getD M 0 = x := ⟨_, rfl⟩
   have hxb := hx64.out M
   rw [hx] at hxb
   have hst1 : restN I (j + 1) = (mkOk x && decide (mkS x = 0)) := by rw [hst.out, hrs.out, hM, hx, Bool.true_and]
   have hCF := lh (fun w' (hb : Below wr.heap.size wr w') => show w'.cell? ⟨w.heap.size, 0, none⟩ = some (.slice (some ⟨g, off, none⟩) N cap) ∧ w'.cell? ⟨w.heap.size, 1, none⟩ = some (.int .i64 (N : Nat)) ∧ w'.cell? ⟨w.heap.size, 2, none⟩ = some (.int .i64 (L : Nat)) ∧ w'.cell? ⟨g, off + M, none⟩ = some (.int .u64 (x : Nat)) from
    ⟨(row_cell (gPr.keep hb) 0).1, (row_cell (gPr.keep hb) 1).1, (row_cell (gPr.keep hb) 2).1, by
      have h1 := hcl.out w' M (hB.trans ((hBr.trans (hb.mono hBr.size)).mono hB.size)) hMN
      rw [hx] at h1
      exact h1⟩)
   have hDc := fun w1 => mkdec16 x w1 hxb
   clear hwb
   cases hok : mkOk x with
   | false =>
     simp only [hok, Bool.false_eq_true, if_false] at hDc
     replace hDc := lh hDc
     have hno := lh (show ans = false from by rw [← hans.out]; exact hnf.out (j + 1) (by omega) (by rw [hst1, hok]; rfl))
     clear hst1 hok hrs gPr
     go_wp2_with fail
     refine wp_region_held_drew (S := (fun w' => Below wr.heap.size wr w')) (by kernel_rfl) (Below.refl _ _).drew (fun hHeld => ?_)
     refine takeH 0 ?_
     refine takeH 1 ?_
     refine takeH 2 ?_
     refine takeH 3 ?_
     refine takeH 4 ?_
     refine twoL 5 12 rfl rfl (by kernel_rfl) (fun K hK => ?_) (fun K hK => ?_)
     ·go_simp
      refine (hMk1.out _).mono ?_; rintro e w5 ⟨rfl, hb⟩
      refine hK.out _ _ (hHeld.trans (hb.mono hHeld.size)) (fun hHeld2 => ?_)
      clear hK K hHeld
      have hHeld := hHeld2
      clear hHeld2
      try simp only [Act.put,sA,sB,sC]
      refine takeH 6 ?_
      refine takeH 7 ?_
      refine twoL 8 12 rfl rfl (by kernel_rfl) (fun K hK => ?_) (fun K hK => ?_)
      ·go_simp
       refine (hDc.out _).mono ?_; rintro e w8 ⟨rfl, hb⟩
       refine hK.out _ _ (hHeld.trans (hb.mono hHeld.size)) (fun hHeld2 => ?_)
       clear hK K hHeld
       have hHeld := hHeld2
       clear hHeld2
       try simp only [Act.put,sA,sB,sC]
       refine takeH 9 ?_
       refine takeH 10 ?_
       refine takeH 11 ?_
       refine oneL 12 rfl (by kernel_rfl) (fun K hK => ?_)
       have hb := bZ w8 (.cells #[.int .i64 0, .int .i64 0, .int .u64 0] 82)
       have gA := HB.new w8 #[.int .i64 0, .int .i64 0, .int .u64 0] 82
       obtain ⟨bz, hbz⟩ : ∃ b, w8.heap.size = b := ⟨_, rfl⟩
       have hbl : wr.heap.size ≤ bz := by rw [← hbz]; exact hHeld.size
       obtain ⟨wA, hwA⟩ : ∃ x, w8.alloc (.cells #[.int .i64 0, .int .i64 0, .int .u64 0] 82) = x := ⟨_, rfl⟩
       rw [hwA] at hb gA
       rw [hbz] at gA
       go_simp
       refine hK.out _ _ (hHeld.trans (hb.mono hHeld.size)) (fun hHeld2 => ?_)
       clear hwA hbz
       clear hK K hHeld
       have hHeld := hHeld2
       clear hHeld2
       try simp only [Act.put,sA,sB,sC]
       obtain ⟨s0, t0⟩ := row_cell gA 0
       obtain ⟨s1, t1⟩ := row_cell gA 1
       obtain ⟨s2, t2⟩ := row_cell gA 2
       refine oneL 13 rfl (by kernel_rfl) (fun K hK => ?_)
       go_simp
       refine hK.out _ _ (((hHeld.setCell (p := ⟨bz, 0, none⟩) hbl _).setCell (p := ⟨bz, 1, none⟩) hbl _).setCell (p := ⟨bz, 2, none⟩) hbl _) (fun hHeld2 => ?_)
       have gZ : HB (((wA.setCell ⟨bz, 0, none⟩ (.int .i64 0)).setCell ⟨bz, 1, none⟩ (.int .i64 0)).setCell ⟨bz, 2, none⟩ (.int .u64 0)) bz #[.int .i64 0, .int .i64 0, .int .u64 0] 82 := (((gA.setC 0 (.int .i64 0)).setC 1 (.int .i64 0)).setC 2 (.int .u64 0))
       generalize (((wA.setCell ⟨bz, 0, none⟩ (.int .i64 0)).setCell ⟨bz, 1, none⟩ (.int .i64 0)).setCell ⟨bz, 2, none⟩ (.int .u64 0)) = wz at *
       clear s0 t0 s1 t1 s2 t2
       clear hK K hHeld
       have hHeld := hHeld2
       clear hHeld2
       try simp only [Act.put,sA,sB,sC]
       refine takeH 14 ?_
       refine wpAnyH_done (by kernel_rfl) ?_ _
       have hBz := hB.trans ((hBr.trans (hHeld.mono hBr.size)).mono hB.size)
       have y0 := (row_cell gZ 0).1
       clear hCF gZ hHeld
       go_wp2_with fail
       go_ret
       exact ⟨by rw [hno.out]; rfl, hBz⟩
      ·have hb := bZ w5 (.cells #[.int .i64 0, .int .i64 0, .int .u64 0] 82)
       have gA := HB.new w5 #[.int .i64 0, .int .i64 0, .int .u64 0] 82
       obtain ⟨bz, hbz⟩ : ∃ b, w5.heap.size = b := ⟨_, rfl⟩
       have hbl : wr.heap.size ≤ bz := by rw [← hbz]; exact hHeld.size
       obtain ⟨wA, hwA⟩ : ∃ x, w5.alloc (.cells #[.int .i64 0, .int .i64 0, .int .u64 0] 82) = x := ⟨_, rfl⟩
       rw [hwA] at hb gA
       rw [hbz] at gA
       go_simp
       refine hK.out _ _ (hHeld.trans (hb.mono hHeld.size)) (fun hHeld2 => ?_)
       clear hwA hbz
       clear hK K hHeld
       have hHeld := hHeld2
       clear hHeld2
       try simp only [Act.put,sA,sB,sC]
       refine oneL 8 rfl (by kernel_rfl) (fun K hK => ?_)
       go_simp
       refine (hDc.out _).mono ?_; rintro e w8 ⟨rfl, hb⟩
       refine hK.out _ _ (hHeld.trans (hb.mono hHeld.size)) (fun hHeld2 => ?_)
       clear hK K hHeld
       have hHeld := hHeld2
       clear hHeld2
       try simp only [Act.put,sA,sB,sC]
       replace gA := gA.keep hb
       refine takeH 9 ?_
       refine takeH 10 ?_
       refine takeH 11 ?_
       obtain ⟨s0, t0⟩ := row_cell gA 0
       obtain ⟨s1, t1⟩ := row_cell gA 1
       obtain ⟨s2, t2⟩ := row_cell gA 2
       refine oneL 13 rfl (by kernel_rfl) (fun K hK => ?_)
       go_simp
       refine hK.out _ _ (((hHeld.setCell (p := ⟨bz, 0, none⟩) hbl _).setCell (p := ⟨bz, 1, none⟩) hbl _).setCell (p := ⟨bz, 2, none⟩) hbl _) (fun hHeld2 => ?_)
       have gZ : HB (((w8.setCell ⟨bz, 0, none⟩ (.int .i64 0)).setCell ⟨bz, 1, none⟩ (.int .i64 0)).setCell ⟨bz, 2, none⟩ (.int .u64 0)) bz #[.int .i64 0, .int .i64 0, .int .u64 0] 82 := (((gA.setC 0 (.int .i64 0)).setC 1 (.int .i64 0)).setC 2 (.int .u64 0))
       generalize (((w8.setCell ⟨bz, 0, none⟩ (.int .i64 0)).setCell ⟨bz, 1, none⟩ (.int .i64 0)).setCell ⟨bz, 2, none⟩ (.int .u64 0)) = wz at *
       clear s0 t0 s1 t1 s2 t2
       clear hK K hHeld
       have hHeld := hHeld2
       clear hHeld2
       try simp only [Act.put,sA,sB,sC]
       refine takeH 14 ?_
       refine wpAnyH_done (by kernel_rfl) ?_ _
       have hBz := hB.trans ((hBr.trans (hHeld.mono hBr.size)).mono hB.size)
       have y0 := (row_cell gZ 0).1
       clear hCF gZ hHeld
       go_wp2_with fail
       go_ret
       exact ⟨by rw [hno.out]; rfl, hBz⟩
     ·have hb := bZ wr.drew (.cells #[.int .i64 0, .int .i64 0, .int .u64 0] 82)
      have gA := HB.new wr.drew #[.int .i64 0, .int .i64 0, .int .u64 0] 82
      obtain ⟨bz, hbz⟩ : ∃ b, wr.drew.heap.size = b := ⟨_, rfl⟩
      have hbl : wr.heap.size ≤ bz := by rw [← hbz]; exact hHeld.size
      obtain ⟨wA, hwA⟩ : ∃ x, wr.drew.alloc (.cells #[.int .i64 0, .int .i64 0, .int .u64 0] 82) = x := ⟨_, rfl⟩
      rw [hwA] at hb gA
      rw [hbz] at gA
      go_simp
      refine hK.out _ _ (hHeld.trans (hb.mono hHeld.size)) (fun hHeld2 => ?_)
      clear hwA hbz
      clear hK K hHeld
      have hHeld := hHeld2
      clear hHeld2
      try simp only [Act.put,sA,sB,sC]
      refine oneL 5 rfl (by kernel_rfl) (fun K hK => ?_)
      go_simp
      refine (hMk1.out _).mono ?_; rintro e w5 ⟨rfl, hb⟩
      refine hK.out _ _ (hHeld.trans (hb.mono hHeld.size)) (fun hHeld2 => ?_)
      clear hK K hHeld
      have hHeld := hHeld2
      clear hHeld2
      try simp only [Act.put,sA,sB,sC]
      replace gA := gA.keep hb
      refine takeH 6 ?_
      refine takeH 7 ?_
      refine oneL 8 rfl (by kernel_rfl) (fun K hK => ?_)
      go_simp
      refine (hDc.out _).mono ?_; rintro e w8 ⟨rfl, hb⟩
      refine hK.out _ _ (hHeld.trans (hb.mono hHeld.size)) (fun hHeld2 => ?_)
      clear hK K hHeld
      have hHeld := hHeld2
      clear hHeld2
      try simp only [Act.put,sA,sB,sC]
      replace gA := gA.keep hb
      refine takeH 9 ?_
      refine takeH 10 ?_
      refine takeH 11 ?_
      obtain ⟨s0, t0⟩ := row_cell gA 0
      obtain ⟨s1, t1⟩ := row_cell gA 1
      obtain ⟨s2, t2⟩ := row_cell gA 2
      refine oneL 13 rfl (by kernel_rfl) (fun K hK => ?_)
      go_simp
      refine hK.out _ _ (((hHeld.setCell (p := ⟨bz, 0, none⟩) hbl _).setCell (p := ⟨bz, 1, none⟩) hbl _).setCell (p := ⟨bz, 2, none⟩) hbl _) (fun hHeld2 => ?_)
      have gZ : HB (((w8.setCell ⟨bz, 0, none⟩ (.int .i64 0)).setCell ⟨bz, 1, none⟩ (.int .i64 0)).setCell ⟨bz, 2, none⟩ (.int .u64 0)) bz #[.int .i64 0, .int .i64 0, .int .u64 0] 82 := (((gA.setC 0 (.int .i64 0)).setC 1 (.int .i64 0)).setC 2 (.int .u64 0))
      generalize (((w8.setCell ⟨bz, 0, none⟩ (.int .i64 0)).setCell ⟨bz, 1, none⟩ (.int .i64 0)).setCell ⟨bz, 2, none⟩ (.int .u64 0)) = wz at *
      clear s0 t0 s1 t1 s2 t2
      clear hK K hHeld
      have hHeld := hHeld2
      clear hHeld2
      try simp only [Act.put,sA,sB,sC]
      refine takeH 14 ?_
      refine wpAnyH_done (by kernel_rfl) ?_ _
      have hBz := hB.trans ((hBr.trans (hHeld.mono hBr.size)).mono hB.size)
      have y0 := (row_cell gZ 0).1
      clear hCF gZ hHeld
      go_wp2_with fail
      go_ret
      exact ⟨by rw [hno.out]; rfl, hBz⟩
   | true =>
     simp only [hok, if_true] at hDc
     obtain ⟨s, hs⟩ : ∃ s, mkS x = s := ⟨_, rfl⟩
     obtain ⟨c, hc⟩ : ∃ s, mkC x = s := ⟨_, rfl⟩
     obtain ⟨gn, hgn⟩ : ∃ s, mkG x = s := ⟨_, rfl⟩
     simp only [hs, hc, hgn] at hDc
     replace hDc := lh hDc
     by_cases hs0 : s = 0
     ·subst hs0
      have hs2 := lh (show restN I (j + 1) = true from by rw [hst1, hok, hs]; rfl)
      clear hst1 hok hrs gPr hs hc hgn
      go_wp2_with fail
      refine wp_region_held_drew (S := (fun w' => Below wr.heap.size wr w')) (by kernel_rfl) (Below.refl _ _).drew (fun hHeld => ?_)
      refine takeH 0 ?_
      refine takeH 1 ?_
      refine takeH 2 ?_
      refine takeH 3 ?_
      refine takeH 4 ?_
      refine twoL 5 12 rfl rfl (by kernel_rfl) (fun K hK => ?_) (fun K hK => ?_)
      ·go_simp
       refine (hMk1.out _).mono ?_; rintro e w5 ⟨rfl, hb⟩
       refine hK.out _ _ (hHeld.trans (hb.mono hHeld.size)) (fun hHeld2 => ?_)
       clear hK K hHeld
       have hHeld := hHeld2
       clear hHeld2
       try simp only [Act.put,sA,sB,sC]
       refine takeH 6 ?_
       refine takeH 7 ?_
       refine twoL 8 12 rfl rfl (by kernel_rfl) (fun K hK => ?_) (fun K hK => ?_)
       ·go_simp
        refine (hDc.out _).mono ?_; rintro e w8 ⟨rfl, hb⟩
        refine hK.out _ _ (hHeld.trans (hb.mono hHeld.size)) (fun hHeld2 => ?_)
        clear hK K hHeld
        have hHeld := hHeld2
        clear hHeld2
        try simp only [Act.put,sA,sB,sC]
        refine takeH 9 ?_
        refine takeH 10 ?_
        refine takeH 11 ?_
        refine oneL 12 rfl (by kernel_rfl) (fun K hK => ?_)
        have hb := bZ w8 (.cells #[.int .i64 0, .int .i64 0, .int .u64 0] 82)
        have gA := HB.new w8 #[.int .i64 0, .int .i64 0, .int .u64 0] 82
        obtain ⟨bz, hbz⟩ : ∃ b, w8.heap.size = b := ⟨_, rfl⟩
        have hbl : wr.heap.size ≤ bz := by rw [← hbz]; exact hHeld.size
        obtain ⟨wA, hwA⟩ : ∃ x, w8.alloc (.cells #[.int .i64 0, .int .i64 0, .int .u64 0] 82) = x := ⟨_, rfl⟩
        rw [hwA] at hb gA
        rw [hbz] at gA
        go_simp
        refine hK.out _ _ (hHeld.trans (hb.mono hHeld.size)) (fun hHeld2 => ?_)
        clear hwA hbz
        clear hK K hHeld
        have hHeld := hHeld2
        clear hHeld2
        try simp only [Act.put,sA,sB,sC]
        obtain ⟨s0, t0⟩ := row_cell gA 0
        obtain ⟨s1, t1⟩ := row_cell gA 1
        obtain ⟨s2, t2⟩ := row_cell gA 2
        refine oneL 13 rfl (by kernel_rfl) (fun K hK => ?_)
        go_simp
        refine hK.out _ _ (((hHeld.setCell (p := ⟨bz, 0, none⟩) hbl _).setCell (p := ⟨bz, 1, none⟩) hbl _).setCell (p := ⟨bz, 2, none⟩) hbl _) (fun hHeld2 => ?_)
        have gZ : HB (((wA.setCell ⟨bz, 0, none⟩ (.int .i64 ((0 : Nat) : Int))).setCell ⟨bz, 1, none⟩ (.int .i64 (c : Nat))).setCell ⟨bz, 2, none⟩ (.int .u64 (gn : Nat))) bz #[.int .i64 ((0 : Nat) : Int), .int .i64 (c : Nat), .int .u64 (gn : Nat)] 82 := (((gA.setC 0 (.int .i64 ((0 : Nat) : Int))).setC 1 (.int .i64 (c : Nat))).setC 2 (.int .u64 (gn : Nat)))
        generalize (((wA.setCell ⟨bz, 0, none⟩ (.int .i64 ((0 : Nat) : Int))).setCell ⟨bz, 1, none⟩ (.int .i64 (c : Nat))).setCell ⟨bz, 2, none⟩ (.int .u64 (gn : Nat))) = wz at *
        clear s0 t0 s1 t1 s2 t2
        clear hK K hHeld
        have hHeld := hHeld2
        clear hHeld2
        try simp only [Act.put,sA,sB,sC]
        refine takeH 14 ?_
        refine wpAnyH_done (by kernel_rfl) ?_ _
        have hBz := hBr.trans (hHeld.mono hBr.size)
        have y0 := (row_cell gZ 0).1
        clear hCF gZ hHeld
        go_wp2_with fail
        go_roundw
        case rel => exact ⟨j + 1, by omega, by go_num, hs2, hBz⟩
        case measure => first | (simp [intOf]; done) | (simp [intOf]; omega)
       ·have hb := bZ w5 (.cells #[.int .i64 0, .int .i64 0, .int .u64 0] 82)
        have gA := HB.new w5 #[.int .i64 0, .int .i64 0, .int .u64 0] 82
        obtain ⟨bz, hbz⟩ : ∃ b, w5.heap.size = b := ⟨_, rfl⟩
        have hbl : wr.heap.size ≤ bz := by rw [← hbz]; exact hHeld.size
        obtain ⟨wA, hwA⟩ : ∃ x, w5.alloc (.cells #[.int .i64 0, .int .i64 0, .int .u64 0] 82) = x := ⟨_, rfl⟩
        rw [hwA] at hb gA
        rw [hbz] at gA
        go_simp
        refine hK.out _ _ (hHeld.trans (hb.mono hHeld.size)) (fun hHeld2 => ?_)
        clear hwA hbz
        clear hK K hHeld
        have hHeld := hHeld2
        clear hHeld2
        try simp only [Act.put,sA,sB,sC]
        refine oneL 8 rfl (by kernel_rfl) (fun K hK => ?_)
        go_simp
        refine (hDc.out _).mono ?_; rintro e w8 ⟨rfl, hb⟩
        refine hK.out _ _ (hHeld.trans (hb.mono hHeld.size)) (fun hHeld2 => ?_)
        clear hK K hHeld
        have hHeld := hHeld2
        clear hHeld2
        try simp only [Act.put,sA,sB,sC]
        replace gA := gA.keep hb
        refine takeH 9 ?_
        refine takeH 10 ?_
        refine takeH 11 ?_
        obtain ⟨s0, t0⟩ := row_cell gA 0
        obtain ⟨s1, t1⟩ := row_cell gA 1
        obtain ⟨s2, t2⟩ := row_cell gA 2
        refine oneL 13 rfl (by kernel_rfl) (fun K hK => ?_)
        go_simp
        refine hK.out _ _ (((hHeld.setCell (p := ⟨bz, 0, none⟩) hbl _).setCell (p := ⟨bz, 1, none⟩) hbl _).setCell (p := ⟨bz, 2, none⟩) hbl _) (fun hHeld2 => ?_)
        have gZ : HB (((w8.setCell ⟨bz, 0, none⟩ (.int .i64 ((0 : Nat) : Int))).setCell ⟨bz, 1, none⟩ (.int .i64 (c : Nat))).setCell ⟨bz, 2, none⟩ (.int .u64 (gn : Nat))) bz #[.int .i64 ((0 : Nat) : Int), .int .i64 (c : Nat), .int .u64 (gn : Nat)] 82 := (((gA.setC 0 (.int .i64 ((0 : Nat) : Int))).setC 1 (.int .i64 (c : Nat))).setC 2 (.int .u64 (gn : Nat)))
        generalize (((w8.setCell ⟨bz, 0, none⟩ (.int .i64 ((0 : Nat) : Int))).setCell ⟨bz, 1, none⟩ (.int .i64 (c : Nat))).setCell ⟨bz, 2, none⟩ (.int .u64 (gn : Nat))) = wz at *
        clear s0 t0 s1 t1 s2 t2
        clear hK K hHeld
        have hHeld := hHeld2
        clear hHeld2
        try simp only [Act.put,sA,sB,sC]
        refine takeH 14 ?_
        refine wpAnyH_done (by kernel_rfl) ?_ _
        have hBz := hBr.trans (hHeld.mono hBr.size)
        have y0 := (row_cell gZ 0).1
        clear hCF gZ hHeld
        go_wp2_with fail
        go_roundw
        case rel => exact ⟨j + 1, by omega, by go_num, hs2, hBz⟩
        case measure => first | (simp [intOf]; done) | (simp [intOf]; omega)
      ·have hb := bZ wr.drew (.cells #[.int .i64 0, .int .i64 0, .int .u64 0] 82)
       have gA := HB.new wr.drew #[.int .i64 0, .int .i64 0, .int .u64 0] 82
       obtain ⟨bz, hbz⟩ : ∃ b, wr.drew.heap.size = b := ⟨_, rfl⟩
       have hbl : wr.heap.size ≤ bz := by rw [← hbz]; exact hHeld.size
       obtain ⟨wA, hwA⟩ : ∃ x, wr.drew.alloc (.cells #[.int .i64 0, .int .i64 0, .int .u64 0] 82) = x := ⟨_, rfl⟩
       rw [hwA] at hb gA
       rw [hbz] at gA
       go_simp
       refine hK.out _ _ (hHeld.trans (hb.mono hHeld.size)) (fun hHeld2 => ?_)
       clear hwA hbz
       clear hK K hHeld
       have hHeld := hHeld2
       clear hHeld2
       try simp only [Act.put,sA,sB,sC]
       refine oneL 5 rfl (by kernel_rfl) (fun K hK => ?_)
       go_simp
       refine (hMk1.out _).mono ?_; rintro e w5 ⟨rfl, hb⟩
       refine hK.out _ _ (hHeld.trans (hb.mono hHeld.size)) (fun hHeld2 => ?_)
       clear hK K hHeld
       have hHeld := hHeld2
       clear hHeld2
       try simp only [Act.put,sA,sB,sC]
       replace gA := gA.keep hb
       refine takeH 6 ?_
       refine takeH 7 ?_
       refine oneL 8 rfl (by kernel_rfl) (fun K hK => ?_)
       go_simp
       refine (hDc.out _).mono ?_; rintro e w8 ⟨rfl, hb⟩
       refine hK.out _ _ (hHeld.trans (hb.mono hHeld.size)) (fun hHeld2 => ?_)
       clear hK K hHeld
       have hHeld := hHeld2
       clear hHeld2
       try simp only [Act.put,sA,sB,sC]
       replace gA := gA.keep hb
       refine takeH 9 ?_
       refine takeH 10 ?_
       refine takeH 11 ?_
       obtain ⟨s0, t0⟩ := row_cell gA 0
       obtain ⟨s1, t1⟩ := row_cell gA 1
       obtain ⟨s2, t2⟩ := row_cell gA 2
       refine oneL 13 rfl (by kernel_rfl) (fun K hK => ?_)
       go_simp
       refine hK.out _ _ (((hHeld.setCell (p := ⟨bz, 0, none⟩) hbl _).setCell (p := ⟨bz, 1, none⟩) hbl _).setCell (p := ⟨bz, 2, none⟩) hbl _) (fun hHeld2 => ?_)
       have gZ : HB (((w8.setCell ⟨bz, 0, none⟩ (.int .i64 ((0 : Nat) : Int))).setCell ⟨bz, 1, none⟩ (.int .i64 (c : Nat))).setCell ⟨bz, 2, none⟩ (.int .u64 (gn : Nat))) bz #[.int .i64 ((0 : Nat) : Int), .int .i64 (c : Nat), .int .u64 (gn : Nat)] 82 := (((gA.setC 0 (.int .i64 ((0 : Nat) : Int))).setC 1 (.int .i64 (c : Nat))).setC 2 (.int .u64 (gn : Nat)))
       generalize (((w8.setCell ⟨bz, 0, none⟩ (.int .i64 ((0 : Nat) : Int))).setCell ⟨bz, 1, none⟩ (.int .i64 (c : Nat))).setCell ⟨bz, 2, none⟩ (.int .u64 (gn : Nat))) = wz at *
       clear s0 t0 s1 t1 s2 t2
       clear hK K hHeld
       have hHeld := hHeld2
       clear hHeld2
       try simp only [Act.put,sA,sB,sC]
       refine takeH 14 ?_
       refine wpAnyH_done (by kernel_rfl) ?_ _
       have hBz := hBr.trans (hHeld.mono hBr.size)
       have y0 := (row_cell gZ 0).1
       clear hCF gZ hHeld
       go_wp2_with fail
       go_roundw
       case rel => exact ⟨j + 1, by omega, by go_num, hs2, hBz⟩
       case measure => first | (simp [intOf]; done) | (simp [intOf]; omega)
     ·have hs1 : ¬ (s : Int) = 0 := by omega
      have hno := lh (show ans = false from by rw [← hans.out]; exact hnf.out (j + 1) (by omega) (by rw [hst1, hok, hs, decide_eq_false hs0]; rfl))
      clear hst1 hok hrs gPr hs hc hgn
      go_wp2_with fail
      refine wp_region_held_drew (S := (fun w' => Below wr.heap.size wr w')) (by kernel_rfl) (Below.refl _ _).drew (fun hHeld => ?_)
      refine takeH 0 ?_
      refine takeH 1 ?_
      refine takeH 2 ?_
      refine takeH 3 ?_
      refine takeH 4 ?_
      refine twoL 5 12 rfl rfl (by kernel_rfl) (fun K hK => ?_) (fun K hK => ?_)
      ·go_simp
       refine (hMk1.out _).mono ?_; rintro e w5 ⟨rfl, hb⟩
       refine hK.out _ _ (hHeld.trans (hb.mono hHeld.size)) (fun hHeld2 => ?_)
       clear hK K hHeld
       have hHeld := hHeld2
       clear hHeld2
       try simp only [Act.put,sA,sB,sC]
       refine takeH 6 ?_
       refine takeH 7 ?_
       refine twoL 8 12 rfl rfl (by kernel_rfl) (fun K hK => ?_) (fun K hK => ?_)
       ·go_simp
        refine (hDc.out _).mono ?_; rintro e w8 ⟨rfl, hb⟩
        refine hK.out _ _ (hHeld.trans (hb.mono hHeld.size)) (fun hHeld2 => ?_)
        clear hK K hHeld
        have hHeld := hHeld2
        clear hHeld2
        try simp only [Act.put,sA,sB,sC]
        refine takeH 9 ?_
        refine takeH 10 ?_
        refine takeH 11 ?_
        refine oneL 12 rfl (by kernel_rfl) (fun K hK => ?_)
        have hb := bZ w8 (.cells #[.int .i64 0, .int .i64 0, .int .u64 0] 82)
        have gA := HB.new w8 #[.int .i64 0, .int .i64 0, .int .u64 0] 82
        obtain ⟨bz, hbz⟩ : ∃ b, w8.heap.size = b := ⟨_, rfl⟩
        have hbl : wr.heap.size ≤ bz := by rw [← hbz]; exact hHeld.size
        obtain ⟨wA, hwA⟩ : ∃ x, w8.alloc (.cells #[.int .i64 0, .int .i64 0, .int .u64 0] 82) = x := ⟨_, rfl⟩
        rw [hwA] at hb gA
        rw [hbz] at gA
        go_simp
        refine hK.out _ _ (hHeld.trans (hb.mono hHeld.size)) (fun hHeld2 => ?_)
        clear hwA hbz
        clear hK K hHeld
        have hHeld := hHeld2
        clear hHeld2
        try simp only [Act.put,sA,sB,sC]
        obtain ⟨s0, t0⟩ := row_cell gA 0
        obtain ⟨s1, t1⟩ := row_cell gA 1
        obtain ⟨s2, t2⟩ := row_cell gA 2
        refine oneL 13 rfl (by kernel_rfl) (fun K hK => ?_)
        go_simp
        refine hK.out _ _ (((hHeld.setCell (p := ⟨bz, 0, none⟩) hbl _).setCell (p := ⟨bz, 1, none⟩) hbl _).setCell (p := ⟨bz, 2, none⟩) hbl _) (fun hHeld2 => ?_)
        have gZ : HB (((wA.setCell ⟨bz, 0, none⟩ (.int .i64 (s : Nat))).setCell ⟨bz, 1, none⟩ (.int .i64 (c : Nat))).setCell ⟨bz, 2, none⟩ (.int .u64 (gn : Nat))) bz #[.int .i64 (s : Nat), .int .i64 (c : Nat), .int .u64 (gn : Nat)] 82 := (((gA.setC 0 (.int .i64 (s : Nat))).setC 1 (.int .i64 (c : Nat))).setC 2 (.int .u64 (gn : Nat)))
        generalize (((wA.setCell ⟨bz, 0, none⟩ (.int .i64 (s : Nat))).setCell ⟨bz, 1, none⟩ (.int .i64 (c : Nat))).setCell ⟨bz, 2, none⟩ (.int .u64 (gn : Nat))) = wz at *
        clear s0 t0 s1 t1 s2 t2
        clear hK K hHeld
        have hHeld := hHeld2
        clear hHeld2
        try simp only [Act.put,sA,sB,sC]
        refine takeH 14 ?_
        refine wpAnyH_done (by kernel_rfl) ?_ _
        have hBz := hB.trans ((hBr.trans (hHeld.mono hBr.size)).mono hB.size)
        have y0 := (row_cell gZ 0).1
        clear hCF gZ hHeld
        go_wp2_with fail
        go_ret
        exact ⟨by rw [hno.out]; rfl, hBz⟩
       ·have hb := bZ w5 (.cells #[.int .i64 0, .int .i64 0, .int .u64 0] 82)
        have gA := HB.new w5 #[.int .i64 0, .int .i64 0, .int .u64 0] 82
        obtain ⟨bz, hbz⟩ : ∃ b, w5.heap.size = b := ⟨_, rfl⟩
        have hbl : wr.heap.size ≤ bz := by rw [← hbz]; exact hHeld.size
        obtain ⟨wA, hwA⟩ : ∃ x, w5.alloc (.cells #[.int .i64 0, .int .i64 0, .int .u64 0] 82) = x := ⟨_, rfl⟩
        rw [hwA] at hb gA
        rw [hbz] at gA
        go_simp
        refine hK.out _ _ (hHeld.trans (hb.mono hHeld.size)) (fun hHeld2 => ?_)
        clear hwA hbz
        clear hK K hHeld
        have hHeld := hHeld2
        clear hHeld2
        try simp only [Act.put,sA,sB,sC]
        refine oneL 8 rfl (by kernel_rfl) (fun K hK => ?_)
        go_simp
        refine (hDc.out _).mono ?_; rintro e w8 ⟨rfl, hb⟩
        refine hK.out _ _ (hHeld.trans (hb.mono hHeld.size)) (fun hHeld2 => ?_)
        clear hK K hHeld
        have hHeld := hHeld2
        clear hHeld2
        try simp only [Act.put,sA,sB,sC]
        replace gA := gA.keep hb
        refine takeH 9 ?_
        refine takeH 10 ?_
        refine takeH 11 ?_
        obtain ⟨s0, t0⟩ := row_cell gA 0
        obtain ⟨s1, t1⟩ := row_cell gA 1
        obtain ⟨s2, t2⟩ := row_cell gA 2
        refine oneL 13 rfl (by kernel_rfl) (fun K hK => ?_)
        go_simp
        refine hK.out _ _ (((hHeld.setCell (p := ⟨bz, 0, none⟩) hbl _).setCell (p := ⟨bz, 1, none⟩) hbl _).setCell (p := ⟨bz, 2, none⟩) hbl _) (fun hHeld2 => ?_)
        have gZ : HB (((w8.setCell ⟨bz, 0, none⟩ (.int .i64 (s : Nat))).setCell ⟨bz, 1, none⟩ (.int .i64 (c : Nat))).setCell ⟨bz, 2, none⟩ (.int .u64 (gn : Nat))) bz #[.int .i64 (s : Nat), .int .i64 (c : Nat), .int .u64 (gn : Nat)] 82 := (((gA.setC 0 (.int .i64 (s : Nat))).setC 1 (.int .i64 (c : Nat))).setC 2 (.int .u64 (gn : Nat)))
        generalize (((w8.setCell ⟨bz, 0, none⟩ (.int .i64 (s : Nat))).setCell ⟨bz, 1, none⟩ (.int .i64 (c : Nat))).setCell ⟨bz, 2, none⟩ (.int .u64 (gn : Nat))) = wz at *
        clear s0 t0 s1 t1 s2 t2
        clear hK K hHeld
        have hHeld := hHeld2
        clear hHeld2
        try simp only [Act.put,sA,sB,sC]
        refine takeH 14 ?_
        refine wpAnyH_done (by kernel_rfl) ?_ _
        have hBz := hB.trans ((hBr.trans (hHeld.mono hBr.size)).mono hB.size)
        have y0 := (row_cell gZ 0).1
        clear hCF gZ hHeld
        go_wp2_with fail
        go_ret
        exact ⟨by rw [hno.out]; rfl, hBz⟩
      ·have hb := bZ wr.drew (.cells #[.int .i64 0, .int .i64 0, .int .u64 0] 82)
       have gA := HB.new wr.drew #[.int .i64 0, .int .i64 0, .int .u64 0] 82
       obtain ⟨bz, hbz⟩ : ∃ b, wr.drew.heap.size = b := ⟨_, rfl⟩
       have hbl : wr.heap.size ≤ bz := by rw [← hbz]; exact hHeld.size
       obtain ⟨wA, hwA⟩ : ∃ x, wr.drew.alloc (.cells #[.int .i64 0, .int .i64 0, .int .u64 0] 82) = x := ⟨_, rfl⟩
       rw [hwA] at hb gA
       rw [hbz] at gA
       go_simp
       refine hK.out _ _ (hHeld.trans (hb.mono hHeld.size)) (fun hHeld2 => ?_)
       clear hwA hbz
       clear hK K hHeld
       have hHeld := hHeld2
       clear hHeld2
       try simp only [Act.put,sA,sB,sC]
       refine oneL 5 rfl (by kernel_rfl) (fun K hK => ?_)
       go_simp
       refine (hMk1.out _).mono ?_; rintro e w5 ⟨rfl, hb⟩
       refine hK.out _ _ (hHeld.trans (hb.mono hHeld.size)) (fun hHeld2 => ?_)
       clear hK K hHeld
       have hHeld := hHeld2
       clear hHeld2
       try simp only [Act.put,sA,sB,sC]
       replace gA := gA.keep hb
       refine takeH 6 ?_
       refine takeH 7 ?_
       refine oneL 8 rfl (by kernel_rfl) (fun K hK => ?_)
       go_simp
       refine (hDc.out _).mono ?_; rintro e w8 ⟨rfl, hb⟩
       refine hK.out _ _ (hHeld.trans (hb.mono hHeld.size)) (fun hHeld2 => ?_)
       clear hK K hHeld
       have hHeld := hHeld2
       clear hHeld2
       try simp only [Act.put,sA,sB,sC]
       replace gA := gA.keep hb
       refine takeH 9 ?_
       refine takeH 10 ?_
       refine takeH 11 ?_
       obtain ⟨s0, t0⟩ := row_cell gA 0
       obtain ⟨s1, t1⟩ := row_cell gA 1
       obtain ⟨s2, t2⟩ := row_cell gA 2
       refine oneL 13 rfl (by kernel_rfl) (fun K hK => ?_)
       go_simp
       refine hK.out _ _ (((hHeld.setCell (p := ⟨bz, 0, none⟩) hbl _).setCell (p := ⟨bz, 1, none⟩) hbl _).setCell (p := ⟨bz, 2, none⟩) hbl _) (fun hHeld2 => ?_)
       have gZ : HB (((w8.setCell ⟨bz, 0, none⟩ (.int .i64 (s : Nat))).setCell ⟨bz, 1, none⟩ (.int .i64 (c : Nat))).setCell ⟨bz, 2, none⟩ (.int .u64 (gn : Nat))) bz #[.int .i64 (s : Nat), .int .i64 (c : Nat), .int .u64 (gn : Nat)] 82 := (((gA.setC 0 (.int .i64 (s : Nat))).setC 1 (.int .i64 (c : Nat))).setC 2 (.int .u64 (gn : Nat)))
       generalize (((w8.setCell ⟨bz, 0, none⟩ (.int .i64 (s : Nat))).setCell ⟨bz, 1, none⟩ (.int .i64 (c : Nat))).setCell ⟨bz, 2, none⟩ (.int .u64 (gn : Nat))) = wz at *
       clear s0 t0 s1 t1 s2 t2
       clear hK K hHeld
       have hHeld := hHeld2
       clear hHeld2
       try simp only [Act.put,sA,sB,sC]
       refine takeH 14 ?_
       refine wpAnyH_done (by kernel_rfl) ?_ _
       have hBz := hB.trans ((hBr.trans (hHeld.mono hBr.size)).mono hB.size)
       have y0 := (row_cell gZ 0).1
       clear hCF gZ hHeld
       go_wp2_with fail
       go_ret
       exact ⟨by rw [hno.out]; rfl, hBz⟩
  ·obtain rfl : L = j := by omega
   have hlt' : ¬ (L : Int) < (L : Int) := by omega
   have hyes := lh (show ans = true from by rw [← hans.out]; exact hrs.out)
   have hBz := hB.trans (hBr.mono hB.size)
   go_wp2_with fail
   go_ret
   exact ⟨by rw [hyes.out]; rfl, hBz⟩
end Go.Proofs.YtdmmbnnejbmdpaaGreatDoor
end
section
namespace Go.Proofs.YtdmmbnnejbmdpaaGreatDoor
open Go.Lib Go.RowKit Go.ChangeShapes Go.WideShapes Go.Deep Go.Shelf
def hadS9 (l : List Nat) (k x : Nat) : Bool := (List.range k).any fun i => decide (l.getD i 0 = x)
theorem grown_belowM {w w' : World} {b M : Nat} (h : w.grownBy w' (some M)) (hb : b ≤ M) (hw : b ≤ w.heap.size) : Below b w w' :=
 ⟨h.os, h.tape, h.output, h.size, fun k hk => h.block k (by omega) (fun e => by cases e; omega)⟩
theorem hadS9_succ (l : List Nat) (k x : Nat) : hadS9 l (k + 1) x = (hadS9 l k x || decide (l.getD k 0 = x)) := by
 unfold hadS9; rw [List.range_succ, List.any_append]; simp
theorem distR_had (l : List Nat) (k : Nat) : distR l (k + 1) = (distR l k && !(hadS9 l k (l.getD k 0))) := by
 rw [distR_succ]
 congr 1
 unfold hadS9
 generalize List.range k = r
 induction r with
 | nil => rfl
 | cons x r ih => rw [List.all_cons, List.any_cons, ih, Bool.not_or]
theorem serO_get {l : List Ob} {k : Nat} (h : k < l.length) : (serO l).getD k 0 = (l.getD k default).2.2.2 := by
 unfold serO
 rw [List.getD_eq_getElem?_getD, List.getElem?_map, List.getElem?_eq_getElem h, List.getD_eq_getElem?_getD, List.getElem?_eq_getElem h]
 rfl
theorem OBO.formO {w : World} {base : Nat} {v : Value} {l : List Ob} {n : Nat} (h : OBO w base v l) (hn : l.length = n) : ∃ A cap, v = .slice A n cap ∧
 ∀ i, i < n → ∃ g off, A = some ⟨g, off, none⟩ ∧ n ≤ cap ∧ g < w.heap.size ∧ w.cell? ⟨g, off + i * 4, none⟩ = some (.int .i64 ((l.getD i default).1 : Nat)) ∧ w.cell? ⟨g, off + i * 4 + 1, none⟩ = some (.int .i64 ((l.getD i default).2.1 : Nat)) ∧ w.cell? ⟨g, off + i * 4 + 2, none⟩ = some (.int .i64 ((l.getD i default).2.2.1 : Nat)) ∧ w.cell? ⟨g, off + i * 4 + 3, none⟩ = some (.int .u64 ((l.getD i default).2.2.2 : Nat)) := by
 obtain ⟨A, cap, hv, h⟩ := EL.form (h.el eO_len) hn
 refine ⟨A, cap, hv, fun i hi => ?_⟩
 obtain ⟨g, off, hA, h1, h2, h3, hc⟩ := h w i (Below.refl _ _) hi
 exact ⟨g, off, hA, h1, h2, hc 0 (by omega), hc 1 (by omega), hc 2 (by omega), hc 3 (by omega)⟩
theorem OBO.kept9 {w w1 : World} {base : Nat} {v : Value} {l : List Ob} {row : Option Nat} (h : OBO w base v l) (hg : w.grownBy w1 row) (hne : v.ownBlock = none ∨ v.ownBlock ≠ row) : OBO w1 base v l := World.ownsRow.kept h hg hne
theorem serials_any {w : World} {g off cap N L : Nat} {I : List Nat} (h : PoolM w g off cap N L I) :
 Calls Tryz.prog 36 #[.agg #[.slice (some ⟨g, off, none⟩) N cap, .int .i64 (N : Nat), .int .i64 (L : Nat)]] w fun e w' => e = .returned (.bool (distR (serO (objsP I L)) (objsP I L).length)) ∧ Below w.heap.size w w' := by
 have hOb := lh (fun w1 (hb : Below w.heap.size w w1) => (h.keep hb).objs)
 have hlen := objsP_len h.hN h.hN8 h.hs
 have hmem := fun x (hx : x ∈ objsP I L) => (objsP_mem h.hW (by rw [h.hN]; exact h.hs) (by rw [h.hN]; exact h.hN8) hx).2.2.1
 generalize objsP I L = l at *
 obtain ⟨n, hn⟩ : ∃ n, l.length = n := ⟨_, rfl⟩
 rw [hn] at hlen ⊢
 have hser := lh (fun k (hk : k < n) => serO_get (l := l) (k := k) (by omega))
 have hsb := lh (fun k (hk : k < n) => hmem (l.getD k default) (by rw [List.getD_eq_getElem?_getD, List.getElem?_eq_getElem (by omega)]; exact List.getElem_mem _))
 obtain ⟨S, hS⟩ : ∃ S, serO l = S := ⟨_, rfl⟩
 simp only [hS] at hser ⊢
 have hds := lh (fun k => distR_had S k)
 have hdn := lh (fun k (hk : k ≤ n) (hf : distR S k = false) => distR_false hf hk)
 have hhs := lh (fun k x => hadS9_succ S k x)
 obtain ⟨ans, hans⟩ : ∃ a, distR S n = a := ⟨_, rfl⟩
 rw [hans]
 replace hans := lh hans
 replace hn := lh hn
 clear h hmem hS
 have hb0 := bZ w (.cells #[.slice (some ⟨g, off, none⟩) N cap, .int .i64 (N : Nat), .int .i64 (L : Nat)] 73)
 have gP := HB.new w #[.slice (some ⟨g, off, none⟩) N cap, .int .i64 (N : Nat), .int .i64 (L : Nat)] 73
 obtain ⟨wb1, hwb1⟩ : ∃ x, w.alloc (.cells #[.slice (some ⟨g, off, none⟩) N cap, .int .i64 (N : Nat), .int .i64 (L : Nat)] 73) = x := ⟨_, rfl⟩
 have hswb1 : wb1.heap.size = w.heap.size + 1 := by rw [← hwb1]; simp
 rw [hwb1] at hb0 gP
 have hB : Below w.heap.size w wb1 := hb0
 clear hb0
 have e2 := bZ wb1 (.map #[] 0)
 have hM := MapK.new wb1
 obtain ⟨w2, hw2⟩ : ∃ x, wb1.alloc (.map #[] 0) = x := ⟨_, rfl⟩
 rw [hw2] at e2 hM
 rw [hswb1] at hM
 have gP2 := gP.keep e2
 have hB2 := hB.trans (e2.mono hB.size)
 have p0 := (row_cell gP2 0).1
 have p1 := (row_cell gP2 1).1
 have p2 := (row_cell gP2 2).1
 have hmm := @run_makeMap Tryz.prog
 go_enter Tryz.func36, Tryz.ntmps36
 go_wp2_with fail
 clear hmm
 refine (hOb.out _ hB2).mono ?_
 rintro e w3 ⟨v3, rfl, ho3, hb3⟩
 have hB3 := hB2.trans (hb3.mono hB2.size)
 have hM3 := hM.keep hb3
 have ho3' : OBO w3 w.heap.size v3 l := ho3.mono hB2.size
 obtain ⟨A3, c3, rfl, -⟩ := OBO.formO ho3 hn.out
 have hne := OwnE_row_ne ho3 hM3
 clear p0 p1 p2 gP gP2 hB hB2 hM e2 hOb hb3 ho3 hw2 hwb1 hswb1
 go_wp2_with fail
 go_loopw [18] (fun i wr => ∃ (j : Nat) (gj : Gk), j ≤ n ∧ i = .int .i64 (j : Nat) ∧ Hid (distR S j = true ∧ ∀ x : Nat, (gj (x : Int)).isSome = hadS9 S j x) ∧ MapK wr (w.heap.size + 1) j gj ∧ OBO wr w.heap.size (.slice A3 n c3) l ∧ Below w.heap.size w wr) (fun i _ => n + 1 - (intOf i).toNat)
 case atStart => exact ⟨0, _, Nat.zero_le _, rfl, lh ⟨rfl, fun x => rfl⟩, hM3, ho3', hB3⟩
 case round =>
  obtain ⟨j, gj, hj, rfl, hg, hMr, hor, hBr⟩ := hrel
  clear hM3 ho3' hB3
  by_cases hlt : j < n
  ·have hlt' : (j : Int) < (n : Int) := by omega
   obtain ⟨A4, c4, hv4, hF⟩ := OBO.formO hor hn.out
   cases hv4
   obtain ⟨g5, o5, rfl, hc5, hg5, k0, k1, k2, k3⟩ := hF j hlt
   have hser1 := hser.out j hlt
   have hsb1 := hsb.out j hlt
   generalize l.getD j default = b at *
   obtain ⟨p, t, s, n9⟩ := b
   simp only [] at k0 k1 k2 k3 hser1 hsb1
   have hds1 := hds.out j
   have hhs1 := fun x => hhs.out j x
   rw [hser1] at hds1 hhs1
   have e4 := bZ wr (.cells #[.int .i64 (p : Nat), .int .i64 (t : Nat), .int .i64 (s : Nat), .int .u64 (n9 : Nat)] 95)
   have gO := HB.new wr #[.int .i64 (p : Nat), .int .i64 (t : Nat), .int .i64 (s : Nat), .int .u64 (n9 : Nat)] 95
   obtain ⟨w4, hw4⟩ : ∃ x, wr.alloc (.cells #[.int .i64 (p : Nat), .int .i64 (t : Nat), .int .i64 (s : Nat), .int .u64 (n9 : Nat)] 95) = x := ⟨_, rfl⟩
   rw [hw4] at e4 gO
   obtain ⟨K, hK⟩ : ∃ K, wr.heap.size = K := ⟨_, rfl⟩
   rw [hK] at gO
   have hM4 := hMr.keep e4
   have ho4 : OBO w4 w.heap.size _ l := hor.keep e4
   have hB4 := hBr.trans (e4.mono hBr.size)
   have hU : U64 (n9 : Int) := ⟨by omega, by omega⟩
   have hlk := hM4.look hU
   have hh := hg.out.2 n9
   have q0 := (row_cell gO 0).1
   have q3 := (row_cell gO 3).1
   clear hF e4
   cases hgj : gj (n9 : Int) with
   | some c =>
     rw [hgj] at hlk hh
     have hno := lh (show ans = false from by
      rw [← hans.out]
      refine hdn.out (j + 1) (by omega) ?_
      rw [hds1, ← hh]
      simp)
     simp only [Option.isSome_some, Option.getD_some] at hlk
     clear hds1 hhs1 hh hgj hg
     go_wp2_with fail
     go_ret
     exact ⟨by rw [hno.out]; rfl, hB4⟩
   | none =>
     rw [hgj] at hlk hh
     simp only [Option.isSome_none, Option.getD_none] at hlk
     obtain ⟨w5, hrun, hM5, hg5'⟩ := hM4.put (key := (n9 : Int)) (f := (p : Int)) hU (by unfold maxLen; omega)
     have ho5 := OBO.kept9 ho4 hg5' (by
      by_cases e : (Value.slice (some ⟨g5, o5, none⟩) n c3).ownBlock = none
      ·exact .inl e
      ·refine .inr (fun q => ?_)
       exact hne _ q rfl)
     have hB5 : Below w.heap.size w w5 := hB4.trans (grown_belowM hg5' (by omega) hB4.size)
     have hg2 := lh (show distR S (j + 1) = true ∧ ∀ x : Nat, ((putK9 gj (n9 : Int) (p : Int)) (x : Int)).isSome = hadS9 S (j + 1) x from by
      refine ⟨?_, fun x => ?_⟩
      ·rw [hds1, hg.out.1, ← hh]; rfl
      ·rw [hhs1, ← hg.out.2 x]
       unfold putK9
       by_cases e : n9 = x
       ·subst e; rw [if_pos rfl, decide_eq_true rfl, Bool.or_true]; rfl
       ·rw [if_neg (by omega), decide_eq_false e, Bool.or_false])
     clear hds1 hhs1 hh hgj hg hM4 ho4 hg5'
     go_wp2_with fail
     go_roundw
     case rel => exact ⟨j + 1, _, by omega, by go_num, hg2, hM5, ho5, hB5⟩
     case measure => first | (simp [intOf]; done) | (simp [intOf]; omega)
  ·obtain rfl : n = j := by omega
   have hlt' : ¬ (n : Int) < (n : Int) := by omega
   have hyes := lh (show ans = true from by rw [← hans.out]; exact hg.out.1)
   go_wp2_with fail
   go_ret
   exact ⟨by rw [hyes.out]; rfl, hBr⟩
end Go.Proofs.YtdmmbnnejbmdpaaGreatDoor
end
