/-
  Part of the proof of JournalUndo.
-/
import Derived.Test.YtkkbngcgphlikaaGreatDoorJu10
import Derived.Test.YtkkbngcgphlikaaGreatDoorJu2
import Derived.Test.YtkkbngcgphlikaaGreatDoorJu3
import Derived.Lib.AppendZerosOnto
import Derived.Test.YtkkbngcgphlikaaGreatDoorJu0
set_option maxRecDepth 10000
set_option maxHeartbeats 1000000
set_option linter.unusedVariables false
set_option linter.unusedSimpArgs false
section
namespace Go.Proofs.YtkkbngcgphlikaaGreatDoor
open Go.RowKit
theorem own_ge {w : World} {base e n : Nat} {v : Value} {xs : List Value} (h : w.ownsRow base e 1 v n xs) : ∀ k, v.ownBlock = some k → base ≤ k := by
 intro k hk
 rcases h.2 with ⟨hv, _⟩ | ⟨g, cap, cur, hv, hb, hg, _⟩
 ·subst hv; simp [Value.ownBlock] at hk
 subst hv; simp [Value.ownBlock] at hk; omega
theorem wv_succ (l : List Nat) (x : Nat) : wv (l ++ [x]) = wv l ++ [.int .u64 (x : Int)] := by simp [wv]
theorem SL.of_owns {w : World} {base e : Nat} {v : Value} {l : List Nat} (h : w.ownsRow base e 1 v l.length (wv l)) : SL w v l := by
 have h' := h
 rcases h.2 with ⟨hv, hn⟩ | ⟨g, cap, cur, hv, hb, hg, h1, h2, h3, h4⟩
 ·exact .inl ⟨List.length_eq_zero_iff.1 hn, none, 0, by rw [hv]⟩
 subst hv
 refine .inr ⟨g, 0, cap, rfl, (Array.getElem?_eq_some_iff.1 hg).1, h1, fun i hi => ?_⟩
 rw [Nat.zero_add, h'.cellAt i (by omega), wv_at l i hi]
end Go.Proofs.YtkkbngcgphlikaaGreatDoor
end
section
namespace Go.Proofs.YtkkbngcgphlikaaGreatDoor
open Go.RowKit
theorem append_sum {w5 : World} {base gx n cx gb m : Nat} {xs : List Nat} (hown : w5.ownsRow base 40 1 (.slice (some ⟨gx, 0, none⟩) n cx) n (wv xs)) (hn : xs.length = n) (hcell : w5.cell? ⟨gb, 0, none⟩ = some (.int .u64 (m : Nat))) (hbase : base ≤ w5.heap.size) (hsm : n ≤ 40) (hpos : 0 < n) :
 ∃ v3 w6, (Builtin.append_ #[25, 25] 25 #[.slice (some ⟨gx, 0, none⟩) n cx, .slice (some ⟨gb, 0, none⟩) 1 1]).run Tryz.prog w5 = .ok v3 w6 ∧ SL w6 v3 (xs ++ [m]) ∧ SL w6 (.slice (some ⟨gx, 0, none⟩) n cx) xs ∧ Below base w5 w6 := by
 obtain ⟨i0, hi, hz0, hz1, hz2⟩ := info_parts infoU64
 have hnews : ∀ j u, [Value.int .u64 (m : Int)][j]? = some u → w5.cell? ((⟨gb, 0, none⟩ : Addr).add j) = some u := fun j u hj => by
  have h0 : j = 0 := by
   have := (List.getElem?_eq_some_iff.1 hj).1
   simp at this
   omega
  subst h0
  simp only [List.getElem?_cons_zero] at hj
  rw [← hj]
  simpa [Addr.add] using hcell
 have h1 : ∀ u ∈ [Value.int .u64 (m : Int)], u.oneCell' = true := fun u hu => by simp at hu; subst hu; rfl
 have hlx : (xs ++ [m]).length = n + 1 := by simp [hn]
 have hge := own_ge hown gx rfl
 by_cases hroom : n + 1 ≤ cx
 ·obtain ⟨w6, hrun, ho6, hg6⟩ := run_append_fits (P := Tryz.prog) w5 base 25 25 40 i0 1 Tryz.underlying25 hi hz1 gx n cx (wv xs) hown ⟨gb, 0, none⟩ 1 1 [.int .u64 (m : Int)] rfl hnews h1 hroom
  rw [← wv_succ, ← hlx] at ho6
  have hS := SL.of_owns ho6
  refine ⟨_, w6, hrun, by rw [← hlx]; exact hS, ?_, (Below.refl _ _).grown hg6 hbase (fun k hk => by simp at hk; omega)⟩
  obtain ⟨g3, o3, c3, hv3, hg3, hc3, hcells⟩ := hS.pos hlx
  rw [hlx] at hv3
  simp only [Value.slice.injEq, Option.some.injEq, Addr.mk.injEq, and_true, true_and] at hv3
  obtain ⟨⟨rfl, rfl⟩, rfl⟩ := hv3
  refine .inr ⟨gx, 0, cx, by rw [hn], hg3, by omega, fun i hi => ?_⟩
  have := hcells i (by omega)
  rw [this, List.getD_eq_getElem?_getD, List.getD_eq_getElem?_getD, List.getElem?_append_left hi]
 have hold := hown.cells (g := gx) rfl
 obtain ⟨v3, w6, hrun, ho6, hg6⟩ := run_append_arg_grows (P := Tryz.prog) w5 25 25 40 i0 (.int .u64 0) 1 8 Tryz.underlying25 hi hz0 hz1 hz2 rfl (by decide) ⟨gx, 0, none⟩ n cx (wv xs) (by rw [wv_len]; omega) hold ⟨gb, 0, none⟩ 1 1 [.int .u64 (m : Int)] rfl hnews (by omega) (by unfold maxLen; omega) (by omega)
 rw [← wv_succ, ← hlx] at ho6
 have hB6 : Below w5.heap.size w5 w6 := (Below.refl _ _).grown hg6 (Nat.le_refl _) (by simp)
 have hX : SL w5 (.slice (some ⟨gx, 0, none⟩) xs.length cx) xs := SL.of_owns (by rw [hn]; exact hown)
 rw [hn] at hX
 exact ⟨v3, w6, hrun, SL.of_owns ho6, hX.keep hB6, hB6.mono hbase⟩
end Go.Proofs.YtkkbngcgphlikaaGreatDoor
end
section
namespace Go.Proofs.YtkkbngcgphlikaaGreatDoor
open Go.RowKit
def Rw (w : World) (g : Nat) (l : List Nat) : Prop := w.heap[g]? = some (.cells (wv l).toArray 40 (0, 0))
theorem Rw.keep {w w1 : World} {g B : Nat} {l : List Nat} (h : Rw w g l) (hb : Below B w w1) (hg : g < B) : Rw w1 g l := (hb.block g hg).trans h
theorem Rw.lt {w : World} {g : Nat} {l : List Nat} (h : Rw w g l) : g < w.heap.size := (Array.getElem?_eq_some_iff.1 h).1
theorem Rw.sl {w : World} {g : Nat} {l : List Nat} (h : Rw w g l) : SL w (.slice (some ⟨g, 0, none⟩) l.length l.length) l :=
 .inr ⟨g, 0, _, rfl, h.lt, Nat.le_refl _, fun i hi => by
  rw [(row_cell h _).1, Nat.zero_add, List.getElem?_toArray, wv_at l i hi]⟩
theorem Rw.own {w : World} {g : Nat} {l : List Nat} (h : Rw w g l) (hl : l.length ≤ 100000) : w.ownsRow g 40 1 (.slice (some ⟨g, 0, none⟩) l.length l.length) l.length (wv l) :=
 ⟨by rw [wv_len, Nat.mul_one], .inr ⟨g, _, _, rfl, Nat.le_refl _, h, Nat.le_refl _, by unfold maxLen; omega, by simp [wv_len], by simp [wv_len, List.take_of_length_le]⟩⟩
theorem wv_append (a b : List Nat) : wv (a ++ b) = wv a ++ wv b := by simp [wv]
theorem seal_own (v : Value) (l : List Nat) (w : World) (hl : WL l) (hlen : l.length ≤ 900) (hv : SL w v l) :
 Calls Tryz.prog 112 #[v] w fun e w' => e = .returned (.slice (some ⟨w.heap.size, 0, none⟩) (l.length + 1) (l.length + 1)) ∧ Rw w' w.heap.size (l ++ [moreN 0 l]) ∧ Below w.heap.size w w' := by
 obtain ⟨i0, hi, hz0, hz1, hz2⟩ := info_parts infoU64
 have hvv := hv
 have hv1 : ∃ sp cap, v = .slice sp l.length cap := by
  rcases hv with ⟨rfl, sp, cap, rfl⟩ | ⟨g, off, cap, rfl, _⟩
  ·exact ⟨_, _, rfl⟩
  exact ⟨_, _, rfl⟩
 obtain ⟨sp, cap, rfl⟩ := hv1
 have hn1 := lh (show ((l.length : Int) + 1) = ((l.length + 1 : Nat) : Int) by omega)
 go_enter Tryz.func112, Tryz.ntmps112
 go_wp2_with (at_make; refine wpList_make_full _ rfl _ _ 25 rfl w.heap.size 40 i0 (.int .u64 0) 1 Tryz.underlying25 hi hz0 hz1 .i64 .i64 _ _ (l.length + 1) rfl rfl hn1.out hn1.out (by rw [hz2]; omega) (by unfold maxLen; omega) (Nat.le_refl _) ?_; intro w1 hown hgr)
 have hrow := row_of_owns hown rfl
 rw [show (madeCells (Value.int IntKind.u64 0).cells ((l.length + 1) * 1)).toList = List.replicate (l.length + 1) (Value.int .u64 0) by
  rw [Nat.mul_one]; exact toList_madeCells_one _ _] at hrow
 have hB1 : Below w.heap.size w w1 := (Below.refl _ _).grown hgr (Nat.le_refl _) (by simp)
 obtain ⟨w2, hrun, hrow2, hb2⟩ := copyW l hrow (hvv.keep hB1)
 rw [show Nat.min l.length (l.length + 1) = l.length from Nat.min_eq_left (by omega), List.take_of_length_le (Nat.le_refl _), show l.length + 1 - l.length = 1 by omega] at hrow2
 rw [hrun]
 have hB2 : Below w.heap.size w w2 := hB1.trans hb2
 have hg2 : w.heap.size < w2.heap.size := (Array.getElem?_eq_some_iff.1 hrow2).1
 have hO := lh (of_any _ l w2 hl (by omega) (hvv.keep hB2))
 have hS2 := lh (hvv.keep hB2)
 have hR := lh (row_cell hrow2)
 replace hrow2 := lh hrow2
 clear hrun hrow hown hgr hvv hb2 hB1
 go_wp2_with fail
 refine hO.out.mono ?_
 rintro e w3 ⟨rfl, hb3⟩
 have hB3 : Below w.heap.size w w3 := hB2.trans (hb3.mono hB2.size)
 have hc3 : w3.cell? ⟨w.heap.size, l.length, none⟩ = some (.int .u64 0) := by
  rw [(bcell hb3).1 _ _ hg2, (hR.out l.length).1]
  simp [wv]
 have hf3 : w3.frozen? ⟨w.heap.size, l.length, none⟩ = false := by rw [(bcell hb3).2 _ _ hg2]; exact (hR.out l.length).2
 have hrow3 := lh ((hb3.block w.heap.size hg2).trans hrow2.out)
 have hm := moreN_lt 0 l
 generalize hmm : moreN 0 l = m at *
 replace hmm := lh hmm
 go_wp2_with fail
 go_ret
 refine ⟨rfl, ?_, hB3.setCell (Nat.le_refl _) _⟩
 unfold Rw
 rw [heap_setCell_same w3 _ _ _ _ _ hrow3.out, wv_append]
 congr 3
 apply Array.ext'
 simp only [Array.toList_setIfInBounds, List.replicate_one]
 rw [show l.length = (wv l).length by rw [wv_len], hmm.out]
 simp [wv]
end Go.Proofs.YtkkbngcgphlikaaGreatDoor
end
section
namespace Go.Proofs.YtkkbngcgphlikaaGreatDoor
section
variable {P : Program} {L : List Oper} {Q : Exit → Act → World → Prop} {md : Region.Mode} {S : World → Prop} {n : Nat}
theorem takeH (i : Nat) {o : Oper} {v : Value} {fuel : Nat} {listed l' : Array Bool} {a a' : Act} {w : World} (h : wpAnyH P md L.toArray Q S fuel l' a' w)
 (hi : L[i]? = some o := by rfl)
 (hs : Region.noSelect L.toArray = true := by kernel_rfl) (hf : Region.free md L.toArray listed i = true := by kernel_rfl) (hr : (Region.ready md L.toArray listed).contains i = true := by kernel_rfl)
 (hQ : ∀ c a w, Q (.panic c) (a.put o.dst v) w → Q (.panic c) a w := by (intro _ _ _ h; exact h)) (hw : Region.wanted o (yielded L.toArray a.tmps) = true := by rfl) (hS : S w := by assumption)
 (hy : ∀ w, S w → (execOp a.eval o).run P w = .ok (.value v) w := by (intro w hSw; (try dsimp only at hSw); have zz := hCF.out _ hSw; (try go_split_ands); go_simp <;> with_reducible rfl))
 (ha : a.put o.dst v = a' := by ((try simp only [Act.put,sA,sB,sC]); try rfl))
 (hl : listed.setIfInBounds i true = l' := by ((try simp only [List.setIfInBounds_toArray, List.set_cons_zero, List.set_cons_succ]); try rfl)) : wpAnyH P md L.toArray Q S (fuel + 1) listed a w :=
 takeL i hi hs hf hr hQ hw hS hy (by rw [ha, hl]; exact h)
theorem takeHS (i : Nat) {o : Oper} {v : Value} {fuel : Nat} {listed l' : Array Bool} {a a' : Act} {w : World} (inv : HeadInv md L.toArray n listed) (h : HeadInv md L.toArray n l' → wpAnyS P md L.toArray Q S n fuel l' a' w)
 (T : TailAt md L.toArray n := by exact (tailAt (by kernel_rfl))) (hin : i < n := by decide)
 (hi : L[i]? = some o := by rfl)
 (hs : Region.noSelect L.toArray = true := by kernel_rfl) (hf : Region.free md L.toArray listed i = true := by kernel_rfl) (hr : (Region.ready md L.toArray listed).contains i = true := by kernel_rfl)
 (hQ : ∀ c a w, Q (.panic c) (a.put o.dst v) w → Q (.panic c) a w := by (intro _ _ _ h; exact h)) (hw : Region.wanted o (yielded L.toArray a.tmps) = true := by rfl) (hS : S w := by assumption)
 (hy : ∀ w, S w → (execOp a.eval o).run P w = .ok (.value v) w := by (intro w hSw; (try dsimp only at hSw); have zz := hCF.out _ hSw; (try go_split_ands); go_simp <;> with_reducible rfl))
 (ha : a.put o.dst v = a' := by ((try simp only [Act.put,sA,sB,sC]); try rfl))
 (hl : listed.setIfInBounds i true = l' := by ((try simp only [List.setIfInBounds_toArray, List.set_cons_zero, List.set_cons_succ]); try rfl)) : wpAnyS P md L.toArray Q S n (fuel + 1) listed a w :=
 takeS i T inv hin hi hs hf hr hQ hw hS hy (fun q => by rw [ha, hl]; exact h (by rw [← hl]; exact q))
end
end Go.Proofs.YtkkbngcgphlikaaGreatDoor
end
section
namespace Go.Proofs.YtkkbngcgphlikaaGreatDoor
open Go.RowKit Go.ChangeShapes Go.WideShapes
section
variable {P : Program} {L : List Oper} {Q : Exit → Act → World → Prop} {md : Region.Mode} {W : World} {fuel : Nat} {listed l' l2 : Array Bool} {a a' : Act} {w : World}
theorem step_enter {o : Oper} {f : FuncId} {args : Array Value} {v : Value} {K : Act → World → Prop} (hw : Region.wanted o (yielded L.toArray a.tmps) = true)
 (he : (execOp a.eval o).run P w = .ok (.enter f args) w) (hc : Calls P f args w fun e w' => e = .returned v ∧ Below w.heap.size w w') (hH : Below W.heap.size W w)
 (h : ∀ w', Below w.heap.size w w' → Below W.heap.size W w' → wpAnyH P md L.toArray Q (fun w' => Below W.heap.size W w') fuel l' (a.put o.dst v) w')
 (hK : Shut (∀ a w, Below W.heap.size W w → (Below W.heap.size W w → wpAnyH P md L.toArray Q (fun w' => Below W.heap.size W w') fuel l' a w) → K a w)) :
 if Region.wanted o (yielded L.toArray a.tmps) = true then Oper.wp P o a w K Q else K (a.put o.dst undef) w := by
 rw [if_pos hw]
 show o.upon P a K Q ((execOp a.eval o).run P w)
 rw [he, Oper.upon_enter]
 refine hc.mono ?_
 rintro e w' ⟨rfl, hb⟩
 exact hK.out _ _ (hH.trans (hb.mono hH.size)) (fun q => h w' hb q)
theorem step_alloc {o : Oper} {ob : Obj} {K : Act → World → Prop} (hw : Region.wanted o (yielded L.toArray a.tmps) = true)
 (he : (execOp a.eval o).run P w = .ok (.value (.pointer (some ⟨w.heap.size, 0, none⟩))) (w.alloc ob)) (hH : Below W.heap.size W w)
 (h : Below W.heap.size W (w.alloc ob) → wpAnyH P md L.toArray Q (fun w' => Below W.heap.size W w') fuel l' (a.put o.dst (.pointer (some ⟨w.heap.size, 0, none⟩))) (w.alloc ob))
 (hK : Shut (∀ a w, Below W.heap.size W w → (Below W.heap.size W w → wpAnyH P md L.toArray Q (fun w' => Below W.heap.size W w') fuel l' a w) → K a w)) :
 if Region.wanted o (yielded L.toArray a.tmps) = true then Oper.wp P o a w K Q else K (a.put o.dst undef) w := by
 rw [if_pos hw]
 show o.upon P a K Q ((execOp a.eval o).run P w)
 rw [he, Oper.upon_value]
 exact hK.out _ _ (hH.alloc hH.size _) h
theorem callC (i : Nat) {o : Oper} {f : FuncId} {args : Array Value} {v : Value} (hc : ∀ w, Below W.heap.size W w → Calls P f args w fun e w' => e = .returned v ∧ Below w.heap.size w w') (hH : Below W.heap.size W w)
 (h : ∀ w', Below w.heap.size w w' → Below W.heap.size W w' → wpAnyH P md L.toArray Q (fun w' => Below W.heap.size W w') fuel l' a' w')
 (hi : L[i]? = some o := by rfl) (hr : Region.ready md L.toArray listed = [i] := by kernel_rfl) (hw : Region.wanted o (yielded L.toArray a.tmps) = true := by rfl)
 (he : (execOp a.eval o).run P w = .ok (.enter f args) w := by (go_simp <;> with_reducible rfl))
 (ha : a.put o.dst v = a' := by ((try simp only [Act.put,sA,sB,sC]); try rfl))
 (hl : listed.setIfInBounds i true = l' := by ((try simp only [List.setIfInBounds_toArray, List.set_cons_zero, List.set_cons_succ]); try rfl)) : wpAnyH P md L.toArray Q (fun w' => Below W.heap.size W w') (fuel + 1) listed a w :=
 oneL i hi hr (fun K hK => step_enter hw he (hc w hH) hH (fun w' h1 h2 => by rw [ha]; exact h w' h1 h2) (by rw [hl] at hK; exact hK))
theorem allocC (i : Nat) {o : Oper} (ob : Obj) (hH : Below W.heap.size W w)
 (h : Below W.heap.size W (w.alloc ob) → wpAnyH P md L.toArray Q (fun w' => Below W.heap.size W w') fuel l' a' (w.alloc ob))
 (hi : L[i]? = some o := by rfl) (hr : Region.ready md L.toArray listed = [i] := by kernel_rfl) (hw : Region.wanted o (yielded L.toArray a.tmps) = true := by rfl)
 (he : (execOp a.eval o).run P w = .ok (.value (.pointer (some ⟨w.heap.size, 0, none⟩))) (w.alloc ob) := by (go_simp <;> with_reducible rfl))
 (ha : a.put o.dst (.pointer (some ⟨w.heap.size, 0, none⟩)) = a' := by ((try simp only [Act.put,sA,sB,sC]); try rfl))
 (hl : listed.setIfInBounds i true = l' := by ((try simp only [List.setIfInBounds_toArray, List.set_cons_zero, List.set_cons_succ]); try rfl)) : wpAnyH P md L.toArray Q (fun w' => Below W.heap.size W w') (fuel + 1) listed a w :=
 oneL i hi hr (fun K hK => step_alloc hw he hH (fun q => by rw [ha]; exact h q) (by rw [hl] at hK; exact hK))
theorem twoC (i j : Nat) {o o' : Oper} {f : FuncId} {args : Array Value} {v : Value} {a2 : Act} (ob : Obj) (hc : ∀ w, Below W.heap.size W w → Calls P f args w fun e w' => e = .returned v ∧ Below w.heap.size w w') (hH : Below W.heap.size W w)
 (h : ∀ w', Below w.heap.size w w' → Below W.heap.size W w' → wpAnyH P md L.toArray Q (fun w' => Below W.heap.size W w') fuel l' a' w')
 (h2 : Below W.heap.size W (w.alloc ob) → wpAnyH P md L.toArray Q (fun w' => Below W.heap.size W w') fuel l2 a2 (w.alloc ob))
 (hi : L[i]? = some o := by rfl) (hj : L[j]? = some o' := by rfl) (hr : Region.ready md L.toArray listed = [i, j] := by kernel_rfl) (hw : Region.wanted o (yielded L.toArray a.tmps) = true := by rfl) (hw2 : Region.wanted o' (yielded L.toArray a.tmps) = true := by rfl)
 (he : (execOp a.eval o).run P w = .ok (.enter f args) w := by (go_simp <;> with_reducible rfl))
 (he2 : (execOp a.eval o').run P w = .ok (.value (.pointer (some ⟨w.heap.size, 0, none⟩))) (w.alloc ob) := by (go_simp <;> with_reducible rfl))
 (ha : a.put o.dst v = a' := by ((try simp only [Act.put,sA,sB,sC]); try rfl))
 (hl : listed.setIfInBounds i true = l' := by ((try simp only [List.setIfInBounds_toArray, List.set_cons_zero, List.set_cons_succ]); try rfl))
 (ha2 : a.put o'.dst (.pointer (some ⟨w.heap.size, 0, none⟩)) = a2 := by ((try simp only [Act.put,sA,sB,sC]); try rfl))
 (hl2 : listed.setIfInBounds j true = l2 := by ((try simp only [List.setIfInBounds_toArray, List.set_cons_zero, List.set_cons_succ]); try rfl)) : wpAnyH P md L.toArray Q (fun w' => Below W.heap.size W w') (fuel + 1) listed a w :=
 twoL i j hi hj hr (fun K hK => step_enter hw he (hc w hH) hH (fun w' h1 h2 => by rw [ha]; exact h w' h1 h2) (by rw [hl] at hK; exact hK)) (fun K hK => step_alloc hw2 he2 hH (fun q => by rw [ha2]; exact h2 q) (by rw [hl2] at hK; exact hK))
end
end Go.Proofs.YtkkbngcgphlikaaGreatDoor
end
section
namespace Go.Proofs.YtkkbngcgphlikaaGreatDoor
open Go.RowKit
theorem get_stage (x : Int) (w : World) (h0 : 0 ≤ x) (h1 : x < 18446744073709551616) :
 Calls Tryz.prog 165 #[.int .u64 x, .int .i64 0, .int .i64 2] w fun e w' => e = .returned (.int .u64 (x % 4)) ∧ w = w' := by
 refine (get_yes x 0 2 w h0 h1 (by omega) (by omega) (by omega) (by omega)).mono ?_
 rintro e w' ⟨rfl, rfl⟩
 refine ⟨?_, rfl⟩
 obtain ⟨X, rfl⟩ := Int.eq_ofNat_of_zero_le h0
 simp [getI, getN]
theorem get_count (x : Int) (w : World) (h0 : 0 ≤ x) (h1 : x < 18446744073709551616) :
 Calls Tryz.prog 165 #[.int .u64 x, .int .i64 2, .int .i64 14] w fun e w' => e = .returned (.int .u64 (x / 4 % 16384)) ∧ w = w' := by
 refine (get_yes x 2 14 w h0 h1 (by omega) (by omega) (by omega) (by omega)).mono ?_
 rintro e w' ⟨rfl, rfl⟩
 refine ⟨?_, rfl⟩
 obtain ⟨X, rfl⟩ := Int.eq_ofNat_of_zero_le h0
 simp [getI, getN]
theorem get_gen (x : Int) (w : World) (h0 : 0 ≤ x) (h1 : x < 18446744073709551616) :
 Calls Tryz.prog 165 #[.int .u64 x, .int .i64 16, .int .i64 48] w fun e w' => e = .returned (.int .u64 (x / 65536)) ∧ w = w' := by
 refine (get_yes x 16 48 w h0 h1 (by omega) (by omega) (by omega) (by omega)).mono ?_
 rintro e w' ⟨rfl, rfl⟩
 refine ⟨?_, rfl⟩
 obtain ⟨X, rfl⟩ := Int.eq_ofNat_of_zero_le h0
 have e : X / 65536 % 281474976710656 = X / 65536 := Nat.mod_eq_of_lt (by omega)
 simp [getI, getN, e]
theorem put_stage (v : Int) (w : World) (h0 : 0 ≤ v) (h1 : v < 4) :
 Calls Tryz.prog 156 #[.int .u64 0, .int .i64 0, .int .i64 2, .int .u64 v] w fun e w' => e = .returned (.int .u64 v) ∧ w = w' := by
 refine (put_yes 0 0 2 v w (by omega) (by omega) (by omega) (by omega) (by omega) (by omega) h0 (by omega)).mono ?_
 rintro e w' ⟨rfl, rfl⟩
 refine ⟨?_, rfl⟩
 obtain ⟨V, rfl⟩ := Int.eq_ofNat_of_zero_le h0
 have e : V % 4 = V := Nat.mod_eq_of_lt (by omega)
 simp [putI, putN, e]
theorem put_count (x v : Int) (w : World) (hx0 : 0 ≤ x) (hx1 : x < 4) (h0 : 0 ≤ v) (h1 : v < 16384) :
 Calls Tryz.prog 156 #[.int .u64 x, .int .i64 2, .int .i64 14, .int .u64 v] w fun e w' => e = .returned (.int .u64 (x + v * 4)) ∧ w = w' := by
 refine (put_yes x 2 14 v w (by omega) (by omega) (by omega) (by omega) (by omega) (by omega) h0 (by omega)).mono ?_
 rintro e w' ⟨rfl, rfl⟩
 refine ⟨?_, rfl⟩
 obtain ⟨V, rfl⟩ := Int.eq_ofNat_of_zero_le h0
 obtain ⟨X, rfl⟩ := Int.eq_ofNat_of_zero_le hx0
 have e : V % 16384 = V := Nat.mod_eq_of_lt (by omega)
 have e2 : X % 4 = X := Nat.mod_eq_of_lt (by omega)
 have e3 : X / 65536 = 0 := by omega
 simp [putI, putN, e, e2, e3]
theorem put_gen_mk (x v : Int) (w : World) (hx0 : 0 ≤ x) (hx1 : x < 65536) (h0 : 0 ≤ v) (h1 : v < 281474976710656) :
 Calls Tryz.prog 156 #[.int .u64 x, .int .i64 16, .int .i64 48, .int .u64 v] w fun e w' => e = .returned (.int .u64 (x + v * 65536)) ∧ w = w' := by
 refine (put_yes x 16 48 v w (by omega) (by omega) (by omega) (by omega) (by omega) (by omega) h0 (by omega)).mono ?_
 rintro e w' ⟨rfl, rfl⟩
 refine ⟨?_, rfl⟩
 obtain ⟨V, rfl⟩ := Int.eq_ofNat_of_zero_le h0
 obtain ⟨X, rfl⟩ := Int.eq_ofNat_of_zero_le hx0
 have e : V % 281474976710656 = V := Nat.mod_eq_of_lt (by omega)
 have e2 : X % 65536 = X := Nat.mod_eq_of_lt (by omega)
 have e3 : X / 18446744073709551616 = 0 := by omega
 simp [putI, putN, e, e2, e3]
theorem encode_t (s c g : Int) (w : World) (h : okB s c g = true) (hg : 0 ≤ g) :
 Calls Tryz.prog 124 #[.agg #[.int .i64 s, .int .i64 c, .int .u64 g]] w fun e w' => e = .returned (.tuple #[.int .u64 (s + c * 4 + g * 65536), .int .i64 0]) ∧ Below w.heap.size w w' := by
 obtain ⟨h1, h2, h3, h4, h5, h6⟩ := okB_t h
 clear h6
 have H := lh h
 clear h
 go_enter Tryz.func124, Tryz.ntmps124
 go_wp2_with fail
 refine (right_t_mk _ _ _ _ H.out).mono ?_
 rintro e w1 ⟨rfl, hb⟩
 obtain ⟨hc, hf⟩ := bcell hb
 go_wp2_with (first
  | (go_at_call 156; ((with_reducible refine (put_stage s _ (by omega) (by omega)).mono ?_); rintro e w' ⟨rfl, rfl⟩))
  | (go_at_call 156; ((with_reducible refine (put_count s c _ (by omega) (by omega) (by omega) (by omega)).mono ?_); rintro e w' ⟨rfl, rfl⟩))
  | (go_at_call 156; ((with_reducible refine (put_gen_mk (s + c * 4) g _ (by omega) (by omega) (by omega) (by omega)).mono ?_); rintro e w' ⟨rfl, rfl⟩)))
 go_ret2
 exact ⟨rfl, (bZ _ _).trans (hb.mono (by simp))⟩
theorem decode_t (x : Int) (w : World) (h0 : 0 ≤ x) (h1 : x < 18446744073709551616) (h : okB (x % 4) (x / 4 % 16384) (x / 65536) = true) :
 Calls Tryz.prog 123 #[.int .u64 x] w fun e w' => e = .returned (.tuple #[.agg #[.int .i64 (x % 4), .int .i64 (x / 4 % 16384), .int .u64 (x / 65536)], .bool true]) ∧ Below w.heap.size w w' := by
 have H := lh h
 clear h
 go_enter Tryz.func123, Tryz.ntmps123
 go_wp2_with (first
  | (go_at_call 165; ((with_reducible refine (get_stage x _ h0 h1).mono ?_); rintro e w' ⟨rfl, rfl⟩))
  | (go_at_call 165; ((with_reducible refine (get_count x _ h0 h1).mono ?_); rintro e w' ⟨rfl, rfl⟩))
  | (go_at_call 165; ((with_reducible refine (get_gen x _ h0 h1).mono ?_); rintro e w' ⟨rfl, rfl⟩))
  | fail)
 refine (right_t_mk _ _ _ _ H.out).mono ?_
 rintro e w1 ⟨rfl, hb⟩
 obtain ⟨hc, hf⟩ := bcell hb
 have hz : w.heap.size + 1 < w1.heap.size := by have := hb.size; simp at this; omega
 have d0 : w1.cell? ⟨w.heap.size, 0, none⟩ = some (.int .i64 0) := by rw [hc _ _ (by simp; omega)]; simp [go_sem]
 have d1 : w1.cell? ⟨w.heap.size, 1, none⟩ = some (.int .i64 0) := by rw [hc _ _ (by simp; omega)]; simp [go_sem]
 have d2 : w1.cell? ⟨w.heap.size, 2, none⟩ = some (.int .u64 0) := by rw [hc _ _ (by simp; omega)]; simp [go_sem]
 have hB : Below w.heap.size w w1 := ((bZ _ _).alloc (by simp) _).trans (hb.mono (by simp; omega))
 go_wp2_with fail
 refine bodyPost_ret (v := .tuple #[.agg #[.int .i64 (x % 4), .int .i64 (x / 4 % 16384), .int .u64 (x / 65536)], .bool true]) (by simp [results, Tryz.results123, go_sem, d0, d1, d2]) rfl ⟨rfl, ?_⟩
 go_grown
theorem decode_f (x : Int) (w : World) (h0 : 0 ≤ x) (h1 : x < 18446744073709551616) (h : okB (x % 4) (x / 4 % 16384) (x / 65536) = false) :
 Calls Tryz.prog 123 #[.int .u64 x] w fun e w' => e = .returned (.tuple #[.agg #[.int .i64 0, .int .i64 0, .int .u64 0], .bool false]) ∧ Below w.heap.size w w' := by
 have H := lh h
 clear h
 go_enter Tryz.func123, Tryz.ntmps123
 go_wp2_with (first
  | (go_at_call 165; ((with_reducible refine (get_stage x _ h0 h1).mono ?_); rintro e w' ⟨rfl, rfl⟩))
  | (go_at_call 165; ((with_reducible refine (get_count x _ h0 h1).mono ?_); rintro e w' ⟨rfl, rfl⟩))
  | (go_at_call 165; ((with_reducible refine (get_gen x _ h0 h1).mono ?_); rintro e w' ⟨rfl, rfl⟩))
  | fail)
 refine (right_f_mk _ _ _ _ H.out).mono ?_
 rintro e w1 ⟨rfl, hb⟩
 obtain ⟨hc, hf⟩ := bcell hb
 have hz : w.heap.size + 1 < w1.heap.size := by have := hb.size; simp at this; omega
 have d0 : w1.cell? ⟨w.heap.size, 0, none⟩ = some (.int .i64 0) := by rw [hc _ _ (by simp; omega)]; simp [go_sem]
 have d1 : w1.cell? ⟨w.heap.size, 1, none⟩ = some (.int .i64 0) := by rw [hc _ _ (by simp; omega)]; simp [go_sem]
 have d2 : w1.cell? ⟨w.heap.size, 2, none⟩ = some (.int .u64 0) := by rw [hc _ _ (by simp; omega)]; simp [go_sem]
 have hB : Below w.heap.size w w1 := ((bZ _ _).alloc (by simp) _).trans (hb.mono (by simp; omega))
 go_wp2_with fail
 refine bodyPost_ret (v := .tuple #[.agg #[.int .i64 0, .int .i64 0, .int .u64 0], .bool false]) (by simp [results, Tryz.results123, go_sem, d0, d1, d2]) rfl ⟨rfl, ?_⟩
 go_grown
def nextG (g : Int) : Int := if g = 281474976710655 then 0 else g + 1
theorem begin_any (s c g : Int) (w : World) (h0 : 0 ≤ g) (h1 : g ≤ 281474976710655) :
 Calls Tryz.prog 105 #[.agg #[.int .i64 s, .int .i64 c, .int .u64 g]] w fun e w' => e = .returned (.agg #[.int .i64 1, .int .i64 0, .int .u64 (nextG g)]) ∧ Below w.heap.size w w' := by
 go_enter Tryz.func105, Tryz.ntmps105
 go_wp2
 go_returns
 refine ⟨?_, by go_grown⟩
 obtain ⟨G, rfl⟩ := Int.eq_ofNat_of_zero_le h0
 have e : ((G : Int) + 1) = ((G + 1 : Nat) : Int) := by omega
 have e2 : bits .and .u64 ((G : Int) + 1) 281474976710655 = nextG G := by
  rw [e, show (281474976710655 : Int) = ((281474976710655 : Nat) : Int) from rfl, u64_and_nat (G + 1) 281474976710655 (by omega) (by omega), nat_mask48]
  unfold nextG
  split <;> omega
 rw [← e2]
end Go.Proofs.YtkkbngcgphlikaaGreatDoor
end
section
namespace Go.Proofs.YtkkbngcgphlikaaGreatDoor
def runU : List Nat → Nat → Option Nat
 | [], r => some r
 | x :: u, r => (stepT x r).bind (runU u)
theorem runU_of (t : List Nat) : ∀ d k, k + d = t.length → (runT t k).bind (runU (t.drop k)) = runT t t.length
 | 0, k, h => by
   have e : k = t.length := by omega
   subst e
   rw [List.drop_length]
   cases runT t t.length <;> rfl
 | d + 1, k, h => by
   rw [← runU_of t d (k + 1) (by omega), List.drop_eq_getElem_cons (show k < t.length by omega)]
   rw [runT]
   have e : t.getD k 0 = t[k]'(by omega) := by rw [List.getD_eq_getElem?_getD, List.getElem?_eq_getElem (by omega)]; rfl
   rw [e]
   cases runT t k with
   | none => rfl
   | some r => rfl
theorem live_asc (b m : Nat) : (liveL b m).Pairwise (· < ·) := by unfold liveL; exact List.Pairwise.filter _ List.pairwise_lt_range
theorem live_in {b m j : Nat} (h : j ∈ liveL b m) : j < m := by unfold liveL at h; exact List.mem_range.1 (List.mem_filter.1 h).1
theorem logsR_in {t : List Nat} {lane : Int} {m x : Nat} (h : x ∈ logsR t lane m) : x < t.length ∧ kN (t.getD x 0) = 4 ∧ ((lnN (t.getD x 0) : Nat) : Int) = lane := by
 unfold logsR logsN isLog at h
 simp only [List.mem_filter, List.mem_range, List.mem_flatMap, Bool.and_eq_true, decide_eq_true_eq] at h
 obtain ⟨_, _, h1, ⟨h2, h3⟩, _⟩ := h
 exact ⟨h1, h2, h3⟩
end Go.Proofs.YtkkbngcgphlikaaGreatDoor
end
