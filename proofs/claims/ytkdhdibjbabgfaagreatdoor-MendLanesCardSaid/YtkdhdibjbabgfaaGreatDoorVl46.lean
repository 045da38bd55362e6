/-
  Part of the proof of MendLanes.
-/
import Derived.Test.YtkdhdibjbabgfaaGreatDoorVl19
import Derived.Test.YtkdhdibjbabgfaaGreatDoorVl33
import Derived.Test.YtkdhdibjbabgfaaGreatDoorVl45
import Derived.Test.YtkdhdibjbabgfaaGreatDoorVl47
import Derived.Lib.SmallJoins
import Derived.Test.YtkdhdibjbabgfaaGreatDoorVl0
set_option maxRecDepth 10000
set_option maxHeartbeats 4000000
set_option linter.unusedVariables false
set_option linter.unusedSimpArgs false
section
namespace Go.Proofs.YtkdhdibjbabgfaaGreatDoor
open Go.Lib Go.RowKit Go.ChangeShapes Go.WideShapes Go.Deep Go.Shelf
theorem EN.at {w : World} {Ae : Option Addr} {ne ce : Nat} {es : List Pe} (h : EN w (.slice Ae ne ce) es) (hl : es.length = ne) (w1 : World) (hb : Below w.heap.size w w1) (k : Nat) (hk : k < ne) :
 ∃ g off a A l c, Ae = some ⟨g, off, none⟩ ∧ ne ≤ ce ∧ g < w.heap.size ∧ es.getD k default = (a, l) ∧ (a, l) ∈ es ∧ KL .u64 w1 (.slice A l.length c) l ∧ (w1.cell? ⟨g, off + k * 2, none⟩ = some (.int .i64 a) ∧ w1.cell? ⟨g, off + k * 2 + 1, none⟩ = some (.slice A l.length c)) := by
 obtain ⟨xs, h1, h2, h3⟩ := h
 have hx : xs.length = ne := by rw [← hl, ← h3, List.length_map]
 obtain ⟨A, c, hv, hc⟩ := EL.form h1 hx
 cases hv
 obtain ⟨g, off, rfl, q1, q2, q3, q4⟩ := hc w1 k hb hk
 have hm : xs.getD k default ∈ xs := by rw [List.getD_eq_getElem?_getD, List.getElem?_eq_getElem (by omega)]; exact List.getElem_mem _
 have hit : es.getD k default = px (xs.getD k default) := by
  rw [← h3, List.getD_eq_getElem?_getD, List.getD_eq_getElem?_getD, List.getElem?_map, List.getElem?_eq_getElem (by omega)]
  rfl
 have hmi : px (xs.getD k default) ∈ es := by rw [← h3]; exact List.mem_map_of_mem hm
 have hK := (h2 _ hm).keep hb
 obtain ⟨q, hq⟩ : ∃ q, xs.getD k default = q := ⟨_, rfl⟩
 rw [hq] at hK hit hmi q4
 obtain ⟨a, v, l⟩ := q
 simp only [] at hK
 obtain ⟨A2, c2, hv2, _⟩ := hK.form rfl
 subst hv2
 exact ⟨g, off, a, A2, l, c2, rfl, q1, q2, hit, hmi, hK, q4 0 (by omega), q4 1 (by omega)⟩
theorem few_any15 (p : Gv) (vT vF vI vS : Value) (xs : List ItV) (w : World) (hM : GvM w vT vF vI vS xs p) :
 Calls Tryz.prog 10 #[gvV p vT vF vI vS] w fun e w' => e = .returned (.bool (fewB p)) ∧ Below w.heap.size w w' := by
 obtain ⟨nT, hnT⟩ : ∃ n, p.tiles.length = n := ⟨_, rfl⟩
 obtain ⟨nF, hnF⟩ : ∃ n, p.fill.length = n := ⟨_, rfl⟩
 obtain ⟨nI, hnI⟩ : ∃ n, p.items.length = n := ⟨_, rfl⟩
 obtain ⟨nS, hnS⟩ : ∃ n, p.spoil.length = n := ⟨_, rfl⟩
 obtain ⟨AT, cT, rfl, -⟩ := hM.t.form hnT
 obtain ⟨AF, cF, rfl, -⟩ := hM.f.form hnF
 obtain ⟨AI, cI, rfl⟩ : ∃ A c, vI = .slice A nI c := by
  obtain ⟨A, c, h⟩ := EL.sl hM.i
  exact ⟨A, c, by rw [h, ← hnI, ← hM.x, List.length_map]⟩
 obtain ⟨AS, cS, rfl, -⟩ := EL.form hM.s hnS
 have hfe : fewB p = (decide (nT ≤ 20 ∧ nF ≤ 40 ∧ nI ≤ 4 ∧ nS ≤ 4) && p.items.all fewI) := by unfold fewB; rw [hnT, hnF, hnI, hnS]
 have hB1 := bZ w (.cells (gvC p (.slice AT nT cT) (.slice AF nF cF) (.slice AI nI cI) (.slice AS nS cS)) 28)
 have gP := HB.new w (gvC p (.slice AT nT cT) (.slice AF nF cF) (.slice AI nI cI) (.slice AS nS cS)) 28
 have hIt := lh (fun w1 (hb : Below w.heap.size w w1) j (hj : j < nI) => hM.item hnI w1 hb j hj)
 have hstep := lh (fun j (hj : j < nI) (h1 : (p.items.take j).all fewI = true) (h2 : fewI (p.items.getD j default) = true) => all_take_succ (l := p.items) (P := fewI) (k := j) (by omega) h1 h2)
 have hbad := lh (fun j (hj : j < nI) (h2 : fewI (p.items.getD j default) = false) => show fewB p = false from by rw [hfe, all_bad (l := p.items) (P := fewI) (k := j) (by omega) h2, Bool.and_false])
 have hall := lh (fun (h1 : nT ≤ 20 ∧ nF ≤ 40 ∧ nI ≤ 4 ∧ nS ≤ 4) (h : (p.items.take nI).all fewI = true) => show fewB p = true from by
  rw [hfe, decide_eq_true h1, Bool.true_and, ← h, List.take_of_length_le (by omega)])
 have hbig := lh (fun (h1 : ¬ (nT ≤ 20 ∧ nF ≤ 40 ∧ nI ≤ 4 ∧ nS ≤ 4)) => show fewB p = false from by rw [hfe, decide_eq_false h1, Bool.false_and])
 unfold gvC at hB1 gP
 unfold gvV
 generalize fewB p = R at *
 generalize p.a = a at *
 generalize p.b = b at *
 generalize p.root = r at *
 generalize p.epoch = ep at *
 have p2 := (row_cell gP 2).1
 have p3 := (row_cell gP 3).1
 have p4 := (row_cell gP 4).1
 have p7 := (row_cell gP 7).1
 obtain ⟨W1, hW1⟩ : ∃ W1, w.alloc (.cells #[.int .u8 (a : Nat), .int .u8 (b : Nat), .slice AT nT cT, .slice AF nF cF, .slice AI nI cI, .int .u64 (r : Nat), .int .u64 (ep : Nat), .slice AS nS cS] 28) = W1 := ⟨_, rfl⟩
 rw [hW1] at p2 p3 p4 p7 hB1
 obtain ⟨C, hC⟩ : ∃ C, w.heap.size = C := ⟨_, rfl⟩
 rw [hC] at p2 p3 p4 p7
 replace hnT := lh hnT
 replace hnF := lh hnF
 replace hnI := lh hnI
 replace hnS := lh hnS
 clear hfe gP hM
 by_cases h1' : 20 < nT
 ·have hno := lh (hbig.out (fun q => by omega))
  have d1 : (20 : Int) < (nT : Int) := by omega
  subst hW1
  go_enter Tryz.func10, Tryz.ntmps10
  go_wp2_with fail
  go_ret
  exact ⟨by rw [hno.out]; rfl, hB1⟩
 have e1 : decide ((20 : Int) < (nT : Int)) = false := decide_eq_false (by omega)
 by_cases h2' : 40 < nF
 ·have hno := lh (hbig.out (fun q => by omega))
  have d1 : (40 : Int) < (nF : Int) := by omega
  subst hW1
  go_enter Tryz.func10, Tryz.ntmps10
  go_wp2_with fail
  go_ret
  exact ⟨by rw [hno.out]; rfl, hB1⟩
 have e2 : decide ((40 : Int) < (nF : Int)) = false := decide_eq_false (by omega)
 by_cases h3' : 4 < nI
 ·have hno := lh (hbig.out (fun q => by omega))
  have d1 : (4 : Int) < (nI : Int) := by omega
  subst hW1
  go_enter Tryz.func10, Tryz.ntmps10
  go_wp2_with fail
  go_ret
  exact ⟨by rw [hno.out]; rfl, hB1⟩
 have e3 : decide ((4 : Int) < (nI : Int)) = false := decide_eq_false (by omega)
 by_cases h4' : 4 < nS
 ·have hno := lh (hbig.out (fun q => by omega))
  have d1 : (4 : Int) < (nS : Int) := by omega
  subst hW1
  go_enter Tryz.func10, Tryz.ntmps10
  go_wp2_with fail
  go_ret
  exact ⟨by rw [hno.out]; rfl, hB1⟩
 have e4 : decide ((4 : Int) < (nS : Int)) = false := decide_eq_false (by omega)
 replace hall := lh (hall.out (by omega))
 clear hbig
 have h0 : Hid ((p.items.take 0).all fewI = true) := lh (by simp)
 go_enter Tryz.func10, Tryz.ntmps10
 rw [hC]
 subst hW1
 go_wp2_with fail
 obtain ⟨W1, hW1⟩ : ∃ W1, w.alloc (.cells #[.int .u8 (a : Nat), .int .u8 (b : Nat), .slice AT nT cT, .slice AF nF cF, .slice AI nI cI, .int .u64 (r : Nat), .int .u64 (ep : Nat), .slice AS nS cS] 28) = W1 := ⟨_, rfl⟩
 rw [hW1] at p2 p3 p4 p7 hB1 ⊢
 clear hW1
 go_loopw [3] (fun i wr => ∃ (j : Nat), j ≤ nI ∧ i = .int .i64 j ∧ Hid ((p.items.take j).all fewI = true) ∧ wr = W1) (fun i _ => nI + 1 - (intOf i).toNat)
 case atStart => exact ⟨0, Nat.zero_le _, rfl, h0, rfl⟩
 case round =>
  obtain ⟨j, hj, rfl, hA, rfl⟩ := hrel
  by_cases hlt : j < nI
  ·have hlt' : (j : Int) < (nI : Int) := by omega
   obtain ⟨g, off, ln, st, gn, Ae, ce, Ao, co, es, ops, rfl, hcI, hg, hit, hmem, hE, hO, c0, c1, c2, c3, c4⟩ := hIt.out wr hB1 j hlt
   obtain ⟨ne, hne⟩ : ∃ n, es.length = n := ⟨_, rfl⟩
   obtain ⟨no, hno⟩ : ∃ n, ops.length = n := ⟨_, rfl⟩
   have hfi : fewI (ln, st, gn, es, ops) = (decide (ne ≤ 12) && decide (no ≤ 22) && es.all fun e => decide (e.2.length ≤ 20)) := by unfold fewI; simp only []; rw [hne, hno]
   rw [hne] at hE c3
   rw [hno] at hO c4
   have hsj := hstep.out j hlt hA.out
   have hbj := hbad.out j hlt
   rw [hit] at hsj hbj
   replace hne := lh hne
   replace hno := lh hno
   by_cases f1 : 12 < ne
   ·have hR := lh (hbj (by rw [hfi, decide_eq_false (by omega)]; rfl))
    have f1' : (12 : Int) < (ne : Int) := by omega
    clear hsj hbj hfi hit
    go_wp2_with fail
    go_ret
    exact ⟨by rw [hR.out]; rfl, by first | exact hB1 | (rw [← hC]; exact hB1)⟩
   by_cases f2 : 22 < no
   ·have hR := lh (hbj (by rw [hfi, decide_eq_false (p := no ≤ 22) (by omega), Bool.and_false]; rfl))
    have f1' : decide ((12 : Int) < (ne : Int)) = false := decide_eq_false (by omega)
    have f2' : (22 : Int) < (no : Int) := by omega
    clear hsj hbj hfi hit
    go_wp2_with fail
    go_ret
    exact ⟨by rw [hR.out]; rfl, by first | exact hB1 | (rw [← hC]; exact hB1)⟩
   have f1' : decide ((12 : Int) < (ne : Int)) = false := decide_eq_false (by omega)
   have f2' : decide ((22 : Int) < (no : Int)) = false := decide_eq_false (by omega)
   have hfi2 : fewI (ln, st, gn, es, ops) = es.all fun e => decide (e.2.length ≤ 20) := by rw [hfi, decide_eq_true (p := no ≤ 22) (by omega), decide_eq_true (p := ne ≤ 12) (by omega)]; rfl
   have hEa := lh (fun k (hk : k < ne) => hE.at hne.out wr (Below.refl _ _) k hk)
   have hst2 := lh (fun k (hk : k < ne) (q1 : (es.take k).all (fun e => decide (e.2.length ≤ 20)) = true) (q2 : decide ((es.getD k default).2.length ≤ 20) = true) => all_take_succ (l := es) (P := fun e => decide (e.2.length ≤ 20)) (k := k) (by have := hne.out; omega) q1 q2)
   have hbd2 := lh (fun k (hk : k < ne) (q2 : decide ((es.getD k default).2.length ≤ 20) = false) => hbj (by rw [hfi2]; exact all_bad (l := es) (P := fun e => decide (e.2.length ≤ 20)) (k := k) (by have := hne.out; omega) q2))
   have hdn := lh (fun (q : (es.take ne).all (fun e => decide (e.2.length ≤ 20)) = true) => hsj (by rw [hfi2, ← q, List.take_of_length_le (by have := hne.out; omega)]))
   have h02 : Hid ((es.take 0).all (fun e => decide (e.2.length ≤ 20)) = true) := lh (by simp)
   have hn12 : ne ≤ 12 := by omega
   clear hsj hbj hfi hfi2 hit hE hO
   go_wp2_with fail
   go_loopw [4] (fun i wq => ∃ (k : Nat), k ≤ ne ∧ i = .int .i64 k ∧ Hid ((es.take k).all (fun e => decide (e.2.length ≤ 20)) = true) ∧ wq = wr) (fun i _ => ne + 1 - (intOf i).toNat)
   case atStart => exact ⟨0, Nat.zero_le _, rfl, h02, rfl⟩
   case round =>
    obtain ⟨k, hk, rfl, hAk, rfl⟩ := hrel
    by_cases hltk : k < ne
    ·have hltk' : (k : Int) < (ne : Int) := by omega
     obtain ⟨ge, oe, ea, eA, el, ec, rfl, q1, q2, q3, q4, q5, d0, d1⟩ := hEa.out k hltk
     obtain ⟨el9, hel⟩ : ∃ n, el.length = n := ⟨_, rfl⟩
     have hs2 := hst2.out k hltk hAk.out
     have hb2 := hbd2.out k hltk
     rw [q3] at hs2 hb2
     simp only [] at hs2 hb2
     rw [hel] at d1 hs2 hb2
     replace hel := lh hel
     by_cases f3 : 20 < el9
     ·have hR := lh (hb2 (decide_eq_false (by omega)))
      have f3' : (20 : Int) < (el9 : Int) := by omega
      clear hs2 hb2 q3
      go_wp2_with fail
      go_ret
      exact ⟨by rw [hR.out]; rfl, by first | exact hB1 | (rw [← hC]; exact hB1)⟩
     ·have hR := lh (hs2 (decide_eq_true (by omega)))
      have f3' : decide ((20 : Int) < (el9 : Int)) = false := decide_eq_false (by omega)
      clear hs2 hb2 q3
      go_wp2_with fail
      go_roundw
      case rel => exact ⟨k + 1, by omega, by go_num, hR, by trivial⟩
      case measure => first | (simp [intOf]; done) | (simp [intOf]; omega)
    ·obtain rfl : k = ne := by omega
     have hR := lh (hdn.out hAk.out)
     have hltk' : decide ((k : Int) < (k : Int)) = false := decide_eq_false (by omega)
     go_wp2_with fail
     go_roundw
     case rel => exact ⟨j + 1, by omega, by go_num, hR, by trivial⟩
     case measure => first | (simp [intOf]; done) | (simp [intOf]; omega)
  ·obtain rfl : j = nI := by omega
   have hR := lh (hall.out hA.out)
   have hlt' : decide ((j : Int) < (j : Int)) = false := decide_eq_false (by omega)
   go_wp2_with fail
   go_ret
   exact ⟨by rw [hR.out]; rfl, by first | exact hB1 | (rw [← hC]; exact hB1)⟩
end Go.Proofs.YtkdhdibjbabgfaaGreatDoor
end
section
namespace Go.Proofs.YtkdhdibjbabgfaaGreatDoor
open Go.Lib Go.RowKit Go.ChangeShapes Go.WideShapes Go.Deep Go.Shelf
theorem scatN_len (I : List Nat) (P : List Int) (ws : List Nat) : ∀ k, (scatN I P ws k).length = I.length
 | 0 => rfl
 | k + 1 => by
   unfold scatN
   split
   ·rw [List.length_set, scatN_len]
   ·exact scatN_len I P ws k
def fillK (X F : List Nat) (a : Nat) : Nat → List Nat
 | 0 => X
 | k + 1 => (fillK X F a k).set (a + k) (F.getD ((a + k) % F.length) 0)
def entW (gn : Nat) (es : List Pe) : List Nat := es.flatMap fun x => if canB x.1 x.2.length = true then encW gn x.1.toNat x.2 else []
def opW (ops : List Ox) : List Nat := if rightB_rd ops = true then encS ops else []
def mkW (s c g : Nat) : Nat := if okB (s : Nat) (c : Nat) (g : Nat) = true then s + c * 4 + g * 65536 else 0
def itemX (N L : Nat) (X : List Nat) (ln st gn : Nat) (es : List Pe) (ops : List Ox) : List Nat :=
 if st = 1 then (scatN X (placesL (logP X (N : Nat) (L : Nat) (ln : Nat))) (entW gn es) (min (placesL (logP X (N : Nat) (L : Nat) (ln : Nat))).length (entW gn es).length)).set (10 + ln) (mkW 1 (entW gn es).length gn)
 else if st = 2 then (putL X (10 + L + ln * 72 + 32) (opW ops)).set (10 + ln) (mkW 2 (min ops.length 19) gn)
 else X.set (10 + ln) (mkW 0 0 gn)
def itemS (N L : Nat) (X : List Nat) (x : Itm) : List Nat := itemX N L X (x.1 % L) (x.2.1 % 3) (x.2.2.1 % 281474976710656) x.2.2.2.1 x.2.2.2.2
def spoilS (X : List Nat) (s : Nat × Nat) : List Nat := X.set (s.1 % X.length) s.2
def make0 (p : Gv) : List Nat := putL (((putL (List.replicate (gvN p) 0) 0 (headW (gvN p) (gvL p) (gvG p))).set 8 p.root).set 9 p.epoch) (10 + 73 * gvL p) (madeT p.tiles (gvG p))
def make1 (p : Gv) : List Nat := if p.fill.length = 0 then make0 p else fillK (make0 p) p.fill (10 + 73 * gvL p + gvG p) (32 * gvG p)
def make2 (p : Gv) : List Nat := p.items.foldl (itemS (gvN p) (gvL p)) (make1 p)
def make3 (p : Gv) : List Nat := p.spoil.foldl spoilS (make2 p)
def makeL (p : Gv) : List Nat := if 0 < p.spoil.length ∧ (p.spoil.getD 0 default).1 % 2 = 0 then (make3 p).set 7 (moreN 0 ((make3 p).take 7)) else make3 p
theorem fillK_len (X F : List Nat) (a : Nat) : ∀ k, (fillK X F a k).length = X.length
 | 0 => rfl
 | k + 1 => by rw [fillK, List.length_set, fillK_len X F a k]
theorem fillK_WL {X F : List Nat} {a : Nat} (hX : WL X) (hF : WL F) : ∀ k, WL (fillK X F a k)
 | 0 => hX
 | k + 1 => (fillK_WL hX hF k).setN _ _ (hF.getN _)
theorem scatN_WL {X : List Nat} {P : List Int} {ws : List Nat} (hX : WL X) (hw : WL ws) : ∀ k, WL (scatN X P ws k)
 | 0 => hX
 | k + 1 => by
   unfold scatN
   split
   ·exact (scatN_WL hX hw k).setN _ _ (hw.getN k)
   ·exact scatN_WL hX hw k
theorem mkW_lt (s c g : Nat) (hs : s ≤ 2) : mkW s c g < 18446744073709551616 := by
 unfold mkW
 split
 ·rename_i h
  unfold okB at h
  have := of_decide_eq_true h
  omega
 ·decide
theorem moreN0_lt (l : List Nat) : moreN 0 l < 18446744073709551616 := by unfold moreN; omega
theorem encW_WL2 {gn a : Nat} {l : List Nat} (ha : a < 1048576) (hm : l.length < 65536) (hl : WL l) : WL (encW gn a l) := fun x hx => by
 unfold encW at hx
 rcases List.mem_append.1 hx with h | h
 ·rcases List.mem_cons.1 h with h | h
  ·rw [h]; exact firstW_lt _ _ _ ha hm
  ·exact hl x h
 ·rw [List.mem_singleton] at h; rw [h]; exact moreN0_lt _
theorem entW_WL {gn : Nat} {es : List Pe} (h : ∀ e ∈ es, WL e.2) : WL (entW gn es) := fun x hx => by
 unfold entW at hx
 obtain ⟨e, he, hx⟩ := List.mem_flatMap.1 hx
 split at hx
 ·rename_i hc
  obtain ⟨c1, c2, c3, c4⟩ := canB_iff.1 hc
  exact encW_WL2 (by omega) (by omega) (h e he) x hx
 ·cases hx
theorem encS_WL {ops : List Ox} (h : OVs ops) (hr : rightB_rd ops = true) : WL (encS ops) := fun x hx => by
 unfold encS at hx
 rcases List.mem_append.1 hx with h1 | h1
 ·unfold encW_rd at h1
  obtain ⟨o, ho, h2⟩ := List.mem_flatMap.1 h1
  have hw : wrongB o = false := by
   unfold rightB_rd at hr
   rw [Bool.and_eq_true] at hr
   have := hr.2
   rw [Bool.not_eq_true', List.any_eq_false] at this
   exact Bool.eq_false_iff.2 (this o ho)
  obtain ⟨w1, w2, w3, w4⟩ := wrongB_f hw
  simp only [List.mem_cons, List.not_mem_nil, or_false] at h2
  rcases h2 with rfl | rfl
  ·unfold wN wordOp; omega
  ·exact h o ho
 ·rw [List.mem_singleton] at h1; rw [h1]; exact moreN0_lt _
theorem opW_WL {ops : List Ox} (h : OVs ops) : WL (opW ops) := by
 unfold opW
 split
 ·rename_i hr; exact encS_WL h hr
 ·intro x hx; cases hx
theorem itemX_len (N L : Nat) (X : List Nat) (ln st gn : Nat) (es : List Pe) (ops : List Ox) : (itemX N L X ln st gn es ops).length = X.length := by
 unfold itemX
 split
 ·rw [List.length_set, scatN_len]
 ·split
  ·rw [List.length_set, putL_len]
  ·rw [List.length_set]
theorem itemX_WL {N L : Nat} {X : List Nat} {ln st gn : Nat} {es : List Pe} {ops : List Ox} (hX : WL X) (he : ∀ e ∈ es, WL e.2) (ho : OVs ops) : WL (itemX N L X ln st gn es ops) := by
 unfold itemX
 split
 ·exact (scatN_WL hX (entW_WL he) _).setN _ _ (mkW_lt _ _ _ (by omega))
 ·split
  ·exact (putL_WL hX (opW_WL ho)).setN _ _ (mkW_lt _ _ _ (by omega))
  ·exact hX.setN _ _ (mkW_lt _ _ _ (by omega))
theorem gv_geo (p : Gv) : gOk (gvN p : Nat) (gvL p : Nat) = true ∧ gN (gvN p : Nat) (gvL p : Nat) = (gvG p : Nat) ∧ gNat (gvN p) (gvL p) = gvG p ∧ 1 ≤ gvL p ∧ gvL p ≤ 3 ∧ 1 ≤ gvG p ∧ gvG p ≤ 8 := by
 have h1 : 1 ≤ gvL p ∧ gvL p ≤ 3 := by unfold gvL; omega
 have h2 : 1 ≤ gvG p ∧ gvG p ≤ 8 := by unfold gvG; omega
 have hN : gvN p = 10 + 73 * gvL p + 33 * gvG p := rfl
 have h3 : gN (gvN p : Nat) (gvL p : Nat) = (gvG p : Nat) := by unfold gN; rw [hN]; omega
 refine ⟨decide_eq_true (by omega), h3, ?_, h1.1, h1.2, h2.1, h2.2⟩
 unfold gNat
 rw [h3]
 rfl
theorem make0_len (p : Gv) : (make0 p).length = gvN p := by unfold make0; rw [putL_len, List.length_set, List.length_set, putL_len, List.length_replicate]
theorem make1_len (p : Gv) : (make1 p).length = gvN p := by unfold make1; split; exact make0_len p; rw [fillK_len, make0_len]
theorem foldl_len {α : Type} {f : List Nat → α → List Nat} (hf : ∀ X a, (f X a).length = X.length) : ∀ (l : List α) (X : List Nat), (l.foldl f X).length = X.length
 | [], _ => rfl
 | a :: l, X => by rw [List.foldl_cons, foldl_len hf l, hf]
theorem make2_len (p : Gv) : (make2 p).length = gvN p := by unfold make2; rw [foldl_len (f := itemS (gvN p) (gvL p)) (fun X a => itemX_len _ _ X _ _ _ _ _), make1_len]
theorem make3_len (p : Gv) : (make3 p).length = gvN p := by unfold make3; rw [foldl_len (f := spoilS) (fun X a => List.length_set), make2_len]
theorem makeL_len (p : Gv) : (makeL p).length = gvN p := by unfold makeL; split; rw [List.length_set, make3_len]; exact make3_len p
theorem foldl_WL {α : Type} {f : List Nat → α → List Nat} : ∀ (l : List α) (X : List Nat), (∀ X, WL X → ∀ a ∈ l, WL (f X a)) → WL X → WL (l.foldl f X)
 | [], _, _, h => h
 | a :: l, X, hf, h => by
   rw [List.foldl_cons]
   exact foldl_WL l _ (fun X hX b hb => hf X hX b (List.mem_cons_of_mem _ hb)) (hf X h a (List.mem_cons_self))
theorem rightT_WL15 {t : List Nat} (h : rightT t = true) : WL t := fun x hx => by
 unfold rightT at h
 rw [Bool.and_eq_true] at h
 have := okN_t (List.all_eq_true.1 h.1 x hx)
 unfold RightN at this
 omega
theorem headW_WL15 (W L G : Nat) (h1 : W < 18446744073709551616) (h2 : L < 18446744073709551616) (h3 : G < 18446744073709551616) : WL (headW W L G) := fun x hx => by
 unfold headW headL at hx
 simp only [List.cons_append, List.nil_append, List.mem_cons, List.not_mem_nil, or_false] at hx
 have := moreN0_lt [6076272092419149644, 1, W, L, G, 0, 0]
 rcases hx with rfl | rfl | rfl | rfl | rfl | rfl | rfl | rfl <;> first | assumption | decide
theorem make0_WL {p : Gv} (h : GvB p) (ht : rightT (madeT p.tiles (gvG p)) = true) : WL (make0 p) := by
 unfold make0
 have hg := gv_geo p
 have hz : WL (List.replicate (gvN p) 0) := fun x hx => by rw [List.eq_of_mem_replicate hx]; decide
 refine putL_WL (((putL_WL hz (headW_WL15 _ _ _ (by unfold gvN; omega) (by omega) (by omega))).setN _ _ h.r).setN _ _ h.e) (rightT_WL15 ht)
theorem make1_WL {p : Gv} (h : GvB p) (ht : rightT (madeT p.tiles (gvG p)) = true) : WL (make1 p) := by
 unfold make1
 split
 ·exact make0_WL h ht
 ·exact fillK_WL (make0_WL h ht) h.f _
theorem itemS_WL {p : Gv} (h : GvB p) (X : List Nat) (hX : WL X) (x : Itm) (hx : x ∈ p.items) : WL (itemS (gvN p) (gvL p) X x) := itemX_WL hX (h.i x hx).2.2.2.1 (h.i x hx).2.2.2.2
theorem make2_WL {p : Gv} (h : GvB p) (ht : rightT (madeT p.tiles (gvG p)) = true) : WL (make2 p) := foldl_WL _ _ (fun X hX x hx => itemS_WL h X hX x hx) (make1_WL h ht)
theorem make3_WL {p : Gv} (h : GvB p) (ht : rightT (madeT p.tiles (gvG p)) = true) : WL (make3 p) := foldl_WL _ _ (fun X hX s hs => hX.setN _ _ (h.s s hs).2) (make2_WL h ht)
theorem makeL_WL {p : Gv} (h : GvB p) (ht : rightT (madeT p.tiles (gvG p)) = true) : WL (makeL p) := by
 unfold makeL
 split
 ·exact (make3_WL h ht).setN _ _ (moreN0_lt _)
 ·exact make3_WL h ht
end Go.Proofs.YtkdhdibjbabgfaaGreatDoor
end
section
namespace Go.Proofs.YtkdhdibjbabgfaaGreatDoor
open Go.RowKit Go.ChangeShapes Go.WideShapes Go.Deep
theorem refEnc_own (v : Value) (l : List Ox) (w : World) (hv : OPL w v l) (ho : OVs l) (hr : rightB_rd l = true) :
 Calls Tryz.prog 32 #[v] w fun e w' => ∃ v', e = .returned (.tuple #[v', .int .i64 0]) ∧ OwnU w' w.heap.size v' (encS l) ∧ Below w.heap.size w w' := by
 obtain ⟨hl19, hall⟩ := rightB_t hr
 have hW := lh (fun k (hk : k < l.length) => show wrongB (l.getD k default) = false from hall _ (by rw [List.getD_eq_getElem?_getD, List.getElem?_eq_getElem (by omega)]; exact List.getElem_mem _))
 have hOf := lh (fun v' w1 (h : OwnU w1 w.heap.size v' (encW_rd l)) => refOf_any v' (encW_rd l) w1 (encW_WL hall ho) (by rw [encW_len]; omega) h.kl.sl)
 have hEs := lh (show encW_rd l ++ [moreN 0 (encW_rd l)] = encS l from rfl)
 have hmn := moreN_lt 0 (encW_rd l)
 clear hr hall
 obtain ⟨n, hn⟩ : ∃ n, l.length = n := ⟨_, rfl⟩
 obtain ⟨A, cap, rfl, hC⟩ := hv.form hn
 have hS := lh (fun k (hk : k < n) => show encW_rd (l.take (k + 1)) = encW_rd (l.take k) ++ [wN (l.getD k default), (l.getD k default).2.2] from encW_take l k (by omega))
 have hE := lh (show encW_rd (l.take n) = encW_rd l from by rw [List.take_of_length_le (by omega)])
 have hZ := lh (show encW_rd (l.take 0) = [] from by simp [encW_rd])
 have hLn := lh (fun k (hk : k ≤ n) => show (encW_rd (l.take k)).length = 2 * k from by rw [encW_len, List.length_take]; omega)
 have hV := lh (fun k (hk : k < n) => ho.at k (by omega))
 replace hC := lh hC
 have hn9 : n ≤ 19 := by omega
 have h' : (n : Int) ≤ 19 := by omega
 replace hn := lh hn
 clear hv ho hl19
 go_enter Tryz.func32, Tryz.ntmps32
 go_wp2_with fail
 go_loopw [5, 4] (fun i wd wr => ∃ (k : Nat) (J : List Nat), k ≤ n ∧ i = .int .i64 k ∧ Hid (J = encW_rd (l.take k)) ∧ OwnU wr w.heap.size wd J ∧ Below w.heap.size w wr) (fun i _ _ => n + 1 - (intOf i).toNat)
 case atStart => exact ⟨0, [], Nat.zero_le _, rfl, lh hZ.out.symm, World.ownsRow_nil _ _ _ _, Below.refl _ _⟩
 case round =>
  obtain ⟨k, J, hk, rfl, hJ, hown, hB⟩ := hrel
  by_cases hlt : k < n
  ·obtain ⟨g, off, rfl, hcap, hgw, hg, c0, c1, c2⟩ := hC.out wr k hB hlt
   have hlt' : (k : Int) < (n : Int) := by omega
   have hs1 := hS.out k hlt
   have hJl : J.length = 2 * k := by rw [hJ.out]; exact hLn.out k hk
   have hov := hV.out k hlt
   rw [← hJ.out] at hs1
   have hw1 := hW.out k (by have := hn.out; omega)
   generalize l.getD k default = o at *
   have hCa := fun w => can_any_rd o w
   rw [hw1] at hCa
   simp only [Bool.not_false] at hCa
   obtain ⟨p1, p2, p3, p4⟩ := wrongB_f hw1
   have hWd := wN_eq hw1
   unfold wordOp at hWd
   generalize wN o = wd at *
   obtain ⟨x, a, y⟩ := o
   unfold opV at hCa
   simp only [] at c0 c1 c2 hov hs1 hCa p1 p2 p3 p4 hWd
   replace hCa := lh hCa
   replace hs1 := lh hs1
   have fa : IntKind.u64.wrap a = a := by rw [IntKind.wrap_u64]; omega
   have fk : IntKind.u64.wrap x = x := by rw [IntKind.wrap_u64]; omega
   have fm : IntKind.u64.wrap (4 * a) = 4 * a := by rw [IntKind.wrap_u64]; omega
   have fs : IntKind.u64.wrap (4 * a + x) = (wd : Int) := by rw [IntKind.wrap_u64, ← hWd]; omega
   replace hWd := lh hWd
   clear hw1
   go_wp2_with fail
   refine (hCa.out _).mono ?_
   rintro e W ⟨rfl, hbC⟩
   have b0 := cellK c0 hbC
   have b1 := cellK c1 hbC
   have b2 := cellK c2 hbC
   have hownW := hown.keep hbC
   have hBW := hB.trans (hbC.mono hB.size)
   clear hown hB hbC
   go_wp2_with fail
   refine wp_region_tail (S := (fun w' => w'.cell? ⟨g, off + k * 3, none⟩ = some (.int .i64 x) ∧ w'.cell? ⟨g, off + k * 3 + 1, none⟩ = some (.int .i64 a) ∧ w'.cell? ⟨g, off + k * 3 + 2, none⟩ = some (.int .u64 (y : Nat)) ∧ Below W.heap.size W w')) (n := 21) (by kernel_rfl) ?_ (fun hHeld hInv => ?_) (by decide)
   ·(try dsimp only)
    (first | assumption | (exact ⟨b0, b1, b2, (Below.refl _ _).drew⟩) | ((try go_split_ands); exact ⟨cellK (by assumption) hb, cellK (by assumption) hb, cellK (by assumption) hb, Below.trans (by assumption) (hb.mono (Below.size (by assumption)))⟩))
   refine takeVS 0 hInv ?_; clear hInv; intro hInv
   refine takeVS 1 hInv ?_; clear hInv; intro hInv
   refine takeVS 2 hInv ?_; clear hInv; intro hInv
   refine takeVS 3 hInv ?_; clear hInv; intro hInv
   refine takeVS 4 hInv ?_; clear hInv; intro hInv
   refine takeVS 5 hInv ?_; clear hInv; intro hInv
   refine takeVS 6 hInv ?_; clear hInv; intro hInv
   refine takeVS 7 hInv ?_; clear hInv; intro hInv
   refine takeVS 8 hInv ?_; clear hInv; intro hInv
   refine takeVS 9 hInv ?_; clear hInv; intro hInv
   refine takeVS 10 hInv ?_; clear hInv; intro hInv
   refine takeVS 11 hInv ?_; clear hInv; intro hInv
   refine takeVS 12 hInv ?_; clear hInv; intro hInv
   refine takeVS 13 hInv ?_; clear hInv; intro hInv
   refine takeVS 14 hInv ?_; clear hInv; intro hInv
   refine takeVS 15 hInv ?_; clear hInv; intro hInv
   refine takeVS 16 hInv ?_; clear hInv; intro hInv
   refine takeVS 17 hInv ?_; clear hInv; intro hInv
   refine takeVS 18 hInv ?_; clear hInv; intro hInv
   refine takeVS 19 hInv ?_; clear hInv; intro hInv
   refine oneS 20 hInv (by decide) rfl (by kernel_rfl) (fun K hK => ?_)
   go_simp
   have hb := bZ W.drew (.cells #[.int .u64 (wd : Nat), .int .u64 (y : Nat)] (25 : Nat))
   refine hK.out _ _ ?_ (fun hHeld2 hInv2 => ?_)
   ·(try dsimp only)
    (first | assumption | (exact ⟨b0, b1, b2, (Below.refl _ _).drew⟩) | ((try go_split_ands); exact ⟨cellK (by assumption) hb, cellK (by assumption) hb, cellK (by assumption) hb, Below.trans (by assumption) (hb.mono (Below.size (by assumption)))⟩))
   clear hK K hHeld hInv
   have hHeld := hHeld2
   have hInv := hInv2
   clear hHeld2 hInv2
   try simp only [Act.put,sA,sB,sC] at hInv ⊢
   refine lastS 21 rfl (by decide) (by kernel_rfl) (fun K hK => ?_)
   obtain ⟨_, _, _, hbL⟩ := id hHeld
   have hB8 := hBW.trans (hbL.mono hBW.size)
   obtain ⟨v', w4, hrun, ho, hb4⟩ := appW (hownW.keep hbL) (KL.two W.drew wd y (25 : Nat)) hB8.size (by omega) (by simp)
   rw [hs1.out.symm] at ho
   obtain ⟨J2, hJ2⟩ : ∃ J2, J2 = encW_rd (l.take (k + 1)) := ⟨_, rfl⟩
   rw [← hJ2] at ho
   replace hJ2 := lh hJ2
   have hBN := hB8.trans hb4
   clear hHeld hb4 hbL hs1 hownW hBW
   rw [if_pos (by rfl)]
   refine wp_append_run _ _ _ _ rfl _ _ _ rfl rfl hrun ?_
   refine hK.out _ _ ?_
   clear hK K
   try simp only [Act.put,sA,sB,sC]
   refine lastS 22 rfl (by decide) (by kernel_rfl) (fun K hK => ?_)
   go_simp
   refine hK.out _ _ ?_
   clear hK K
   try simp only [Act.put,sA,sB,sC]
   refine wpAnyS_done (by kernel_rfl) ?_ _
   clear hInv hrun hB8
   go_wp2_with fail
   go_roundw
   case rel => exact ⟨k + 1, _, by omega, by go_num, hJ2, ho, hBN⟩
   case measure => simp [intOf]; omega
  ·have hkn : k = n := by omega
   obtain rfl := hkn
   have hR : J = encW_rd l := by rw [hJ.out, hE.out]
   subst hR
   clear hJ
   go_wp2_with fail
   refine (hOf.out _ _ hown).mono ?_
   rintro e w9 ⟨rfl, hb9⟩
   have ho9 := hown.keep hb9
   have hB9 := hB.trans (hb9.mono hB.size)
   generalize hmm : moreN 0 (encW_rd l) = m at *
   have f32 : IntKind.u64.wrap (m : Int) = (m : Int) := by rw [IntKind.wrap_u64]; omega
   obtain ⟨v', w4, hrun, ho4, hb4⟩ := appW (ho9.keep (bZ _ (.cells #[.int .u64 (m : Nat)] (25 : Nat)))) (KL.one w9 m (25 : Nat)) (by have := hB9.size; simp; omega) (by have := hLn.out k (Nat.le_refl _); rw [hE.out] at this; omega) (by simp)
   rw [hEs.out] at ho4
   have hBN := (hB9.alloc hB9.size (.cells #[.int .u64 (m : Nat)] (25 : Nat))).trans hb4
   have hs4 := ho4
   clear hb4 ho4 ho9 hown hB hB9 hb9
   replace hmm := lh hmm
   go_wp2_with (at_builtin; refine wpList_append_run rfl _ _ 23 rfl _ _ _ rfl rfl hrun ?_)
   go_ret2
   exact ⟨_, rfl, hs4, hBN⟩
theorem KL.chg {K : IntKind} {S : Nat → Prop} {w w1 : World} {v : Value} {l : List Nat} (h : KL K w v l) (hc : Chg S w w1) (hn : ∀ g o m c, v = .slice (some ⟨g, o, none⟩) m c → 0 < l.length → ¬ S g) : KL K w1 v l := by
 obtain ⟨A, cap, hv, h⟩ := h
 refine ⟨A, cap, hv, fun hl => ?_⟩
 obtain ⟨g, off, rfl, hg1, hcp, hi⟩ := h hl
 refine ⟨g, off, rfl, Nat.lt_of_lt_of_le hg1 hc.size, hcp, fun i hil => ?_⟩
 rw [← hi i hil]
 exact World.cell?_of_block (hc.block g hg1 (hn g off _ _ hv hl))
theorem zeros_ne {w : World} {base B N g o x : Nat} (h : OwnU w base (.slice (some ⟨B, 0, none⟩) N N) (List.replicate N 0)) (hc : w.cell? ⟨g, o, none⟩ = some (.int .u64 (x : Nat))) (hx : x ≠ 0) : g ≠ B := by
 rintro rfl
 have ho : o < N := by
  rcases h.2 with ⟨q, _⟩ | ⟨g', cap', cur, q, _, hg, _, _, hs, _⟩
  ·cases q
  ·simp only [Value.slice.injEq, Option.some.injEq, Addr.mk.injEq, and_true] at q
   obtain ⟨rfl, -, rfl⟩ := q
   unfold World.cell? at hc
   rw [hg] at hc
   simp only [] at hc
   have := (Array.getElem?_eq_some_iff.1 hc).1
   omega
 have h2 := (h.cell (i := o) List.length_replicate ho).1
 rw [h2] at hc
 rw [List.getD_eq_getElem?_getD, List.getElem?_replicate, if_pos ho] at hc
 simp at hc
 omega
end Go.Proofs.YtkdhdibjbabgfaaGreatDoor
end
section
namespace Go.Proofs.YtkdhdibjbabgfaaGreatDoor
open Go.RowKit Go.ChangeShapes Go.WideShapes Go.Deep
theorem halves_open {H : Type} {enc : TypeId × Value → H} {P : Program} {W : World} {t e : TypeId} (ht : P.underlying t = some (.slice e)) (he : P.underlying e = some (.int .u16)) (hc : P.cellsOf e = 1) {ad : Option Addr} {len cap : Nat} {d : DataW H} {p : List MemPlace}
 (h : DataW.Trod enc P W 0 (fun _ => true) true t (.slice ad len cap) d p) : ∃ l : List Nat, HL l ∧ KL .u16 W (.slice ad len cap) l := by
 obtain ⟨fuel, hf⟩ := h
 rcases open_ints ht he hc hf with ⟨hcs, _⟩ | ⟨a, len', cap', zs, hcs, _, hl, hm, hz, _, hcell, hwz⟩
 ·simp [Value.cells] at hcs
  obtain ⟨rfl, rfl, rfl⟩ := hcs
  exact ⟨[], fun x hx => by simp at hx, none, 0, rfl, fun h => by simp at h⟩
 ·simp [Value.cells] at hcs
  obtain ⟨rfl, rfl, rfl⟩ := hcs
  simp only [if_true] at hz
  have hb : ∀ z ∈ zs, 0 ≤ z ∧ z ≤ 65535 := fun z hz => bounds_u16 (hwz z hz)
  have hlen : ((zs.take len).map Int.toNat).length = len := by simp; omega
  refine ⟨(zs.take len).map Int.toNat, fun x hx => ?_, some a, cap, by rw [hlen], fun h0 => ?_⟩
  ·obtain ⟨z, hz1, rfl⟩ := List.mem_map.1 hx
   have := hb z (List.mem_of_mem_take hz1)
   omega
  ·rw [hlen] at h0 ⊢
   have hc0 := hcell 0 (by omega)
   have hsp : a.spot = none := by
    have := spot_none hc0
    unfold Addr.add at this
    simpa using this
   obtain ⟨g, off, sp⟩ := a
   simp only at hsp
   subst hsp
   refine ⟨g, off, rfl, ?_, by omega, fun i hil => ?_⟩
   ·have := World.block_lt_of_cell? _ _ hc0
    simpa [add_plain] using this
   ·have := hcell i (by omega)
    rw [add_plain] at this
    rw [this]
    have hzi : i < zs.length := by omega
    have e1 : ((zs.take len).map Int.toNat).getD i 0 = (zs[i]).toNat := by
     rw [List.getD_eq_getElem?_getD, List.getElem?_map, List.getElem?_take, if_pos hil, List.getElem?_eq_getElem hzi]
     rfl
    have e2 : zs.getD i 0 = zs[i] := by rw [List.getD_eq_getElem?_getD, List.getElem?_eq_getElem hzi]; rfl
    rw [e1, e2, Int.toNat_of_nonneg (hb _ (List.getElem_mem hzi)).1]
def XOk (W : World) (x : Ex) : Prop := WL x.2.2 ∧ KL .u64 W x.2.1 x.2.2
def XL (W : World) (l : List Ex) : Prop := l.length ≤ 9223372036854775807 ∧ ∀ x ∈ l, XOk W x
def XPL (w : World) (v : Value) (l : List Ex) : Prop := EL 2 eS w v l
theorem XL.en {W : World} {v : Value} {l : List Ex} (h : XL W l) (hv : XPL W v l) : EN W v (l.map px) := ⟨l, hv, fun x hx => (h.2 x hx).2, rfl⟩
theorem XL.len {W : World} {l : List Ex} (h : XL W l) : (l.map px).length ≤ 9223372036854775807 := by rw [List.length_map]; exact h.1
theorem XL.wl {W : World} {l : List Ex} (h : XL W l) : ∀ x ∈ l.map px, WL x.2 := fun x hx => by
 obtain ⟨y, hy, rfl⟩ := List.mem_map.1 hx
 exact (h.2 y hy).1
theorem ci : Tryz.prog.cellsOf 3 = 1 := by kernel_rfl
theorem cl64 : Tryz.prog.cellsOf 23 = 1 := by kernel_rfl
theorem cEn : Tryz.prog.cellsOf 64 = 2 := by kernel_rfl
theorem entry_read {H : Type} {enc : TypeId × Value → H} {W : World} {fuel : Nat} {cs : List Value} {x : DataW H × List MemPlace} (hl : cs.length = 2) (h : DataW.trod enc Tryz.prog W 0 (fun _ => true) true fuel 64 cs = some x) :
 ∃ o : Ex, XOk W o ∧ cs = eS o := by
 obtain ⟨xs, n, _, rfl, _, hxl, hf⟩ := DataW.trod_struct Tryz.underlying64 h
 match xs, hxl, cs, hl with
 | [y0, y1], _, [u0, u1], _ =>
   have g0 : DataW.trod enc Tryz.prog W 0 (fun _ => true) true n 3 ((([u0, u1] : List Value).drop 0).take (Tryz.prog.cellsOf 3)) = some y0 := hf 0 _ rfl
   have g1 : DataW.trod enc Tryz.prog W 0 (fun _ => true) true n 23 ((([u0, u1] : List Value).drop 1).take (Tryz.prog.cellsOf 23)) = some y1 := hf 1 _ rfl
   rw [ci] at g0
   rw [cl64] at g1
   obtain ⟨a0, e0, rfl, w0⟩ := DataW.trod_int Tryz.underlying3 g0
   simp at e0
   subst e0
   have hs : ∃ ad len cap, u1 = .slice ad len cap := by
    rcases open_slice Tryz.underlying23 g1 with ⟨hcs, _⟩ | ⟨a, len', cap', m, n', D, Pl, hcs, _⟩
    ·simp at hcs; exact ⟨none, 0, 0, hcs⟩
    ·simp at hcs; exact ⟨some a, len', cap', hcs⟩
   obtain ⟨ad, len, cap, rfl⟩ := hs
   obtain ⟨d1, p1⟩ := y1
   have hT : DataW.Trod enc Tryz.prog W 0 (fun _ => true) true 23 (.slice ad len cap) d1 p1 := ⟨n, by simpa [Value.cells] using g1⟩
   obtain ⟨l, hl, hk⟩ := wordsK_open Tryz.underlying23 Tryz.underlying25 (by kernel_rfl) hT
   exact ⟨(a0, .slice ad len cap, l), ⟨hl, hk⟩, rfl⟩
theorem ents_open {H : Type} {enc : TypeId × Value → H} {W : World} {ad : Option Addr} {len cap : Nat} {d : DataW H} {p : List MemPlace}
 (h : DataW.Trod enc Tryz.prog W 0 (fun _ => true) true 60 (.slice ad len cap) d p) : ∃ l : List Ex, XL W l ∧ XPL W (.slice ad len cap) l :=
 els_open (Ok := XOk W) Tryz.underlying60 cEn (by decide) (fun fuel cs x hl hx => entry_read hl hx) h
def OB (o : Ox) : Prop := -9223372036854775808 ≤ o.1 ∧ o.1 ≤ 9223372036854775807 ∧ -9223372036854775808 ≤ o.2.1 ∧ o.2.1 ≤ 9223372036854775807 ∧ o.2.2 < 18446744073709551616
def OL (l : List Ox) : Prop := l.length ≤ 9223372036854775807 ∧ ∀ o ∈ l, OB o
theorem OL.ov {l : List Ox} (h : OL l) : ∀ o ∈ l, o.2.2 < 18446744073709551616 := fun o ho => (h.2 o ho).2.2.2.2
theorem ops_open {H : Type} {enc : TypeId × Value → H} {W : World} {ad : Option Addr} {len cap : Nat} {d : DataW H} {p : List MemPlace}
 (h : DataW.Trod enc Tryz.prog W 0 (fun _ => true) true 35 (.slice ad len cap) d p) : ∃ l : List Ox, OL l ∧ OPL W (.slice ad len cap) l := by
 refine els_open (Ok := OB) Tryz.underlying35 (by kernel_rfl) (by decide) (fun fuel cs x hl hx => ?_) h
 obtain ⟨xs, n, _, _, _, hxl, hf⟩ := DataW.trod_struct Tryz.underlying53 hx
 match xs, hxl, cs, hl with
 | [y0, y1, y2], _, [v0, v1, v2], _ =>
   have ci : Tryz.prog.cellsOf 3 = 1 := by kernel_rfl
   have cu : Tryz.prog.cellsOf 25 = 1 := by kernel_rfl
   have g0 : DataW.trod enc Tryz.prog W 0 (fun _ => true) true n 3 ((([v0, v1, v2] : List Value).drop 0).take (Tryz.prog.cellsOf 3)) = some y0 := hf 0 _ rfl
   have g1 : DataW.trod enc Tryz.prog W 0 (fun _ => true) true n 3 ((([v0, v1, v2] : List Value).drop 1).take (Tryz.prog.cellsOf 3)) = some y1 := hf 1 _ rfl
   have g2 : DataW.trod enc Tryz.prog W 0 (fun _ => true) true n 25 ((([v0, v1, v2] : List Value).drop 2).take (Tryz.prog.cellsOf 25)) = some y2 := hf 2 _ rfl
   rw [ci] at g0 g1
   rw [cu] at g2
   obtain ⟨a0, e0, _, w0⟩ := DataW.trod_int Tryz.underlying3 g0
   obtain ⟨a1, e1, _, w1⟩ := DataW.trod_int Tryz.underlying3 g1
   obtain ⟨a2, e2, _, w2⟩ := DataW.trod_int Tryz.underlying25 g2
   simp at e0 e1 e2
   subst e0 e1 e2
   have b0 := bounds_i64 w0
   have b1 := bounds_i64 w1
   have b2 := bounds_u64 w2
   obtain ⟨n2, rfl⟩ := Int.eq_ofNat_of_zero_le (show 0 ≤ a2 by omega)
   exact ⟨(a0, a1, n2), ⟨by simp only []; omega, by simp only []; omega, by simp only []; omega, by simp only []; omega, by simp only []; omega⟩, rfl⟩
theorem sl_cell {H : Type} {enc : TypeId × Value → H} {P : Program} {W : World} {n : Nat} {t e : TypeId} {u : Value} {y : DataW H × List MemPlace} (ht : P.underlying t = some (.slice e)) (h : DataW.trod enc P W 0 (fun _ => true) true n t [u] = some y) :
 ∃ ad len cap, u = .slice ad len cap ∧ DataW.Trod enc P W 0 (fun _ => true) true t (.slice ad len cap) y.1 y.2 := by
 have hs : ∃ ad len cap, u = .slice ad len cap := by
  obtain ⟨d, p⟩ := y
  rcases open_slice ht h with ⟨hcs, _⟩ | ⟨a, len', cap', m, n', D, Pl, hcs, _⟩
  ·simp at hcs; exact ⟨none, 0, 0, hcs⟩
  ·simp at hcs; exact ⟨some a, len', cap', hcs⟩
 obtain ⟨ad, len, cap, rfl⟩ := hs
 exact ⟨ad, len, cap, rfl, ⟨n, by obtain ⟨d, p⟩ := y; simpa [Value.cells] using h⟩⟩
def ItOk (W : World) (x : ItV) : Prop := x.1 < 256 ∧ x.2.1 < 256 ∧ x.2.2.1 < 18446744073709551616 ∧ EN W x.2.2.2.1.1 x.2.2.2.1.2 ∧ (∀ e ∈ x.2.2.2.1.2, WL e.2) ∧ OPL W x.2.2.2.2.1 x.2.2.2.2.2 ∧ OVs x.2.2.2.2.2
def SlOk (x : Nat × Nat) : Prop := x.1 < 65536 ∧ x.2 < 18446744073709551616
theorem c8 : Tryz.prog.cellsOf 5 = 1 := by kernel_rfl
theorem c16 : Tryz.prog.cellsOf 48 = 1 := by kernel_rfl
theorem c64 : Tryz.prog.cellsOf 25 = 1 := by kernel_rfl
theorem cls : Tryz.prog.cellsOf 60 = 1 ∧ Tryz.prog.cellsOf 35 = 1 ∧ Tryz.prog.cellsOf 22 = 1 ∧ Tryz.prog.cellsOf 24 = 1 ∧ Tryz.prog.cellsOf 26 = 1 := by refine ⟨?_, ?_, ?_, ?_, ?_⟩ <;> kernel_rfl
theorem item_read {H : Type} {enc : TypeId × Value → H} {W : World} {fuel : Nat} {cs : List Value} {x : DataW H × List MemPlace} (hl : cs.length = 5) (h : DataW.trod enc Tryz.prog W 0 (fun _ => true) true fuel 62 cs = some x) :
 ∃ o : ItV, ItOk W o ∧ cs = eIt o := by
 obtain ⟨xs, n, _, rfl, _, hxl, hf⟩ := DataW.trod_struct Tryz.underlying62 h
 match xs, hxl, cs, hl with
 | [y0, y1, y2, y3, y4], _, [u0, u1, u2, u3, u4], _ =>
   have g0 : DataW.trod enc Tryz.prog W 0 (fun _ => true) true n 5 ((([u0, u1, u2, u3, u4] : List Value).drop 0).take (Tryz.prog.cellsOf 5)) = some y0 := hf 0 _ rfl
   have g1 : DataW.trod enc Tryz.prog W 0 (fun _ => true) true n 5 ((([u0, u1, u2, u3, u4] : List Value).drop 1).take (Tryz.prog.cellsOf 5)) = some y1 := hf 1 _ rfl
   have g2 : DataW.trod enc Tryz.prog W 0 (fun _ => true) true n 25 ((([u0, u1, u2, u3, u4] : List Value).drop 2).take (Tryz.prog.cellsOf 25)) = some y2 := hf 2 _ rfl
   have g3 : DataW.trod enc Tryz.prog W 0 (fun _ => true) true n 60 ((([u0, u1, u2, u3, u4] : List Value).drop 3).take (Tryz.prog.cellsOf 60)) = some y3 := hf 3 _ rfl
   have g4 : DataW.trod enc Tryz.prog W 0 (fun _ => true) true n 35 ((([u0, u1, u2, u3, u4] : List Value).drop 4).take (Tryz.prog.cellsOf 35)) = some y4 := hf 4 _ rfl
   rw [c8] at g0 g1
   rw [c64] at g2
   rw [cls.1] at g3
   rw [cls.2.1] at g4
   obtain ⟨a0, e0, _, w0⟩ := DataW.trod_int Tryz.underlying5 g0
   obtain ⟨a1, e1, _, w1⟩ := DataW.trod_int Tryz.underlying5 g1
   obtain ⟨a2, e2, _, w2⟩ := DataW.trod_int Tryz.underlying25 g2
   simp at e0 e1 e2
   subst e0 e1 e2
   have b0 := bounds_u8 w0
   have b1 := bounds_u8 w1
   have b2 := bounds_u64 w2
   obtain ⟨n0, rfl⟩ := Int.eq_ofNat_of_zero_le (show 0 ≤ a0 by omega)
   obtain ⟨n1, rfl⟩ := Int.eq_ofNat_of_zero_le (show 0 ≤ a1 by omega)
   obtain ⟨n2, rfl⟩ := Int.eq_ofNat_of_zero_le (show 0 ≤ a2 by omega)
   obtain ⟨A3, l3, c3, rfl, T3⟩ := sl_cell Tryz.underlying60 g3
   obtain ⟨A4, l4, c4, rfl, T4⟩ := sl_cell Tryz.underlying35 g4
   obtain ⟨es, h3, k3⟩ := ents_open T3
   obtain ⟨os, h4, k4⟩ := ops_open T4
   exact ⟨(n0, n1, n2, (.slice A3 l3 c3, es.map px), (.slice A4 l4 c4, os)), ⟨by simp only []; omega, by simp only []; omega, by simp only []; omega, h3.en k3, h3.wl, k4, h4.ov⟩, rfl⟩
theorem spoil_read {H : Type} {enc : TypeId × Value → H} {W : World} {fuel : Nat} {cs : List Value} {x : DataW H × List MemPlace} (hl : cs.length = 2) (h : DataW.trod enc Tryz.prog W 0 (fun _ => true) true fuel 79 cs = some x) :
 ∃ o : Nat × Nat, SlOk o ∧ cs = eSl o := by
 obtain ⟨xs, n, _, rfl, _, hxl, hf⟩ := DataW.trod_struct Tryz.underlying79 h
 match xs, hxl, cs, hl with
 | [y0, y1], _, [u0, u1], _ =>
   have g0 : DataW.trod enc Tryz.prog W 0 (fun _ => true) true n 48 ((([u0, u1] : List Value).drop 0).take (Tryz.prog.cellsOf 48)) = some y0 := hf 0 _ rfl
   have g1 : DataW.trod enc Tryz.prog W 0 (fun _ => true) true n 25 ((([u0, u1] : List Value).drop 1).take (Tryz.prog.cellsOf 25)) = some y1 := hf 1 _ rfl
   rw [c16] at g0
   rw [c64] at g1
   obtain ⟨a0, e0, _, w0⟩ := DataW.trod_int Tryz.underlying48 g0
   obtain ⟨a1, e1, _, w1⟩ := DataW.trod_int Tryz.underlying25 g1
   simp at e0 e1
   subst e0 e1
   have b0 := bounds_u16 w0
   have b1 := bounds_u64 w1
   obtain ⟨n0, rfl⟩ := Int.eq_ofNat_of_zero_le (show 0 ≤ a0 by omega)
   obtain ⟨n1, rfl⟩ := Int.eq_ofNat_of_zero_le (show 0 ≤ a1 by omega)
   exact ⟨(n0, n1), ⟨by simp only []; omega, by simp only []; omega⟩, rfl⟩
abbrev Gx := (Value × Value × Value × Value) × List ItV × Gv
def GOk (W : World) (g : Gx) : Prop := GvM W g.1.1 g.1.2.1 g.1.2.2.1 g.1.2.2.2 g.2.1 g.2.2 ∧ GvB g.2.2
def gxV (g : Gx) : Value := gvV g.2.2 g.1.1 g.1.2.1 g.1.2.2.1 g.1.2.2.2
theorem given_open {H : Type} {enc : TypeId × Value → H} {W : World} {r : Reach} {b1 : Nat} {v : Value} {d : DataW H} {p : List MemPlace} (hv : Value.okWide Tryz.prog W r b1 28 v) (h : DataW.Trod enc Tryz.prog W 0 (fun _ => true) true 28 v d p) :
 ∃ g : Gx, GOk W g ∧ v = gxV g := by
 obtain ⟨cs, rfl, hsz⟩ := okWide_struct Tryz.underlying28 hv
 obtain ⟨fuel, h⟩ := h
 rw [show Tryz.prog.cellsOf 28 = 8 by kernel_rfl] at hsz
 obtain ⟨xs, n, _, _, _, hxl, hf⟩ := DataW.trod_struct Tryz.underlying28 h
 have hl : (Value.agg cs).cells.toList.length = 8 := by simpa [Value.cells] using hsz
 have hcs : (Value.agg cs).cells.toList = cs.toList := rfl
 rw [hcs] at hf hl
 obtain ⟨ls, hls⟩ : ∃ ls, cs.toList = ls := ⟨_, rfl⟩
 rw [hls] at hf hl
 match xs, hxl, ls, hl, hls with
 | [y0, y1, y2, y3, y4, y5, y6, y7], _, [u0, u1, u2, u3, u4, u5, u6, u7], _, hls =>
   have g0 : DataW.trod enc Tryz.prog W 0 (fun _ => true) true n 5 ((([u0, u1, u2, u3, u4, u5, u6, u7] : List Value).drop 0).take (Tryz.prog.cellsOf 5)) = some y0 := hf 0 _ rfl
   have g1 : DataW.trod enc Tryz.prog W 0 (fun _ => true) true n 5 ((([u0, u1, u2, u3, u4, u5, u6, u7] : List Value).drop 1).take (Tryz.prog.cellsOf 5)) = some y1 := hf 1 _ rfl
   have g2 : DataW.trod enc Tryz.prog W 0 (fun _ => true) true n 22 ((([u0, u1, u2, u3, u4, u5, u6, u7] : List Value).drop 2).take (Tryz.prog.cellsOf 22)) = some y2 := hf 2 _ rfl
   have g3 : DataW.trod enc Tryz.prog W 0 (fun _ => true) true n 23 ((([u0, u1, u2, u3, u4, u5, u6, u7] : List Value).drop 3).take (Tryz.prog.cellsOf 23)) = some y3 := hf 3 _ rfl
   have g4 : DataW.trod enc Tryz.prog W 0 (fun _ => true) true n 24 ((([u0, u1, u2, u3, u4, u5, u6, u7] : List Value).drop 4).take (Tryz.prog.cellsOf 24)) = some y4 := hf 4 _ rfl
   have g5 : DataW.trod enc Tryz.prog W 0 (fun _ => true) true n 25 ((([u0, u1, u2, u3, u4, u5, u6, u7] : List Value).drop 5).take (Tryz.prog.cellsOf 25)) = some y5 := hf 5 _ rfl
   have g6 : DataW.trod enc Tryz.prog W 0 (fun _ => true) true n 25 ((([u0, u1, u2, u3, u4, u5, u6, u7] : List Value).drop 6).take (Tryz.prog.cellsOf 25)) = some y6 := hf 6 _ rfl
   have g7 : DataW.trod enc Tryz.prog W 0 (fun _ => true) true n 26 ((([u0, u1, u2, u3, u4, u5, u6, u7] : List Value).drop 7).take (Tryz.prog.cellsOf 26)) = some y7 := hf 7 _ rfl
   rw [c8] at g0 g1
   rw [cls.2.2.1] at g2
   rw [cl64] at g3
   rw [cls.2.2.2.1] at g4
   rw [c64] at g5 g6
   rw [cls.2.2.2.2] at g7
   obtain ⟨a0, e0, _, w0⟩ := DataW.trod_int Tryz.underlying5 g0
   simp at e0
   subst e0
   have b0 := bounds_u8 w0
   obtain ⟨n0, rfl⟩ := Int.eq_ofNat_of_zero_le (show 0 ≤ a0 by omega)
   obtain ⟨a1, e1, _, w1⟩ := DataW.trod_int Tryz.underlying5 g1
   simp at e1
   subst e1
   have b1 := bounds_u8 w1
   obtain ⟨n1, rfl⟩ := Int.eq_ofNat_of_zero_le (show 0 ≤ a1 by omega)
   obtain ⟨a5, e5, _, w5⟩ := DataW.trod_int Tryz.underlying25 g5
   simp at e5
   subst e5
   have b5 := bounds_u64 w5
   obtain ⟨n5, rfl⟩ := Int.eq_ofNat_of_zero_le (show 0 ≤ a5 by omega)
   obtain ⟨a6, e6, _, w6⟩ := DataW.trod_int Tryz.underlying25 g6
   simp at e6
   subst e6
   have b6 := bounds_u64 w6
   obtain ⟨n6, rfl⟩ := Int.eq_ofNat_of_zero_le (show 0 ≤ a6 by omega)
   obtain ⟨A2, l2, c2, rfl, T2⟩ := sl_cell Tryz.underlying22 g2
   obtain ⟨A3, l3, c3, rfl, T3⟩ := sl_cell Tryz.underlying23 g3
   obtain ⟨A4, l4, c4, rfl, T4⟩ := sl_cell Tryz.underlying24 g4
   obtain ⟨A7, l7, c7, rfl, T7⟩ := sl_cell Tryz.underlying26 g7
   obtain ⟨lt, ht, kt⟩ := halves_open Tryz.underlying22 Tryz.underlying48 (by kernel_rfl) T2
   obtain ⟨lf, hf2, kf⟩ := wordsK_open Tryz.underlying23 Tryz.underlying25 (by kernel_rfl) T3
   obtain ⟨li, hi, ki⟩ := els_open (Ok := ItOk W) Tryz.underlying24 (show Tryz.prog.cellsOf 62 = 5 by kernel_rfl) (by decide) (fun fuel cs x hl hx => item_read hl hx) T4
   obtain ⟨ls7, hs, ks⟩ := els_open (Ok := SlOk) Tryz.underlying26 (show Tryz.prog.cellsOf 79 = 2 by kernel_rfl) (by decide) (fun fuel cs x hl hx => spoil_read hl hx) T7
   refine ⟨((.slice A2 l2 c2, .slice A3 l3 c3, .slice A4 l4 c4, .slice A7 l7 c7), li, ⟨n0, n1, lt, lf, li.map itm, n5, n6, ls7⟩), ⟨⟨kt, kf, ki, fun x hx => (hi.2 x hx).2.2.2.1, fun x hx => (hi.2 x hx).2.2.2.2.2.1, rfl, ks⟩, ⟨by simp only []; omega, by simp only []; omega, ht, hf2, fun x hx => ?_, by simp only []; omega, by simp only []; omega, fun x hx => hs.2 x hx⟩⟩, ?_⟩
   ·obtain ⟨y, hy, rfl⟩ := List.mem_map.1 hx
    obtain ⟨h1, h2, h3, h4, h5, h6, h7⟩ := hi.2 y hy
    exact ⟨h1, h2, h3, h5, h7⟩
   ·show Value.agg cs = Value.agg _
    congr 1
    rw [← Array.toList_inj, hls]
end Go.Proofs.YtkdhdibjbabgfaaGreatDoor
end
