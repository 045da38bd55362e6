/-
  Part of the proof of JournalSteps.
-/
import Derived.Test.YtkkbngcgphlikaaGreatDoorJt31
import Derived.Test.YtkkbngcgphlikaaGreatDoorJt34
import Derived.Test.YtkkbngcgphlikaaGreatDoorRows
import Derived.Test.YtkkbngcgphlikaaGreatDoorJt0
set_option maxRecDepth 10000
set_option maxHeartbeats 1000000
set_option linter.unusedVariables false
set_option linter.unusedSimpArgs false
section
namespace Go.Proofs.YtkkbngcgphlikaaGreatDoor
theorem ext_getD_md {a b : List Nat} (h : a.length = b.length) (hi : ∀ i, i < a.length → a.getD i 0 = b.getD i 0) : a = b := by
 apply List.ext_getElem h
 intro i h1 h2
 have := hi i h1
 rwa [List.getD_eq_getElem?_getD, List.getD_eq_getElem?_getD, List.getElem?_eq_getElem h1, List.getElem?_eq_getElem h2] at this
theorem getD_set_md (l : List Nat) (i a p : Nat) : (l.set i a).getD p 0 = if i = p ∧ p < l.length then a else l.getD p 0 := by
 rw [List.getD_eq_getElem?_getD, List.getD_eq_getElem?_getD, List.getElem?_set]
 by_cases h : i = p
 ·rw [if_pos h]
  by_cases h2 : p < l.length
  ·rw [if_pos (h ▸ h2), if_pos ⟨h, h2⟩]; rfl
  rw [if_neg (by omega), if_neg (fun q => h2 q.2), List.getElem?_eq_none (by omega)]
 rw [if_neg h, if_neg (fun q => h q.1)]
theorem apOne_other (I : List Nat) (o : Ox) (p : Nat) (h : o.2.1 ≠ (p : Int)) : (apOne I o).getD p 0 = I.getD p 0 := by
 unfold apOne
 split
 ·rw [getD_set_md, if_neg (fun q => h (by omega))]
 rfl
theorem apply_other (p : Nat) : ∀ (l : List Ox) (I : List Nat), (∀ o ∈ l, o.2.1 ≠ (p : Int)) → (applyL I l).getD p 0 = I.getD p 0
 | [], I, _ => rfl
 | o :: l, I, h => by
   have : applyL I (o :: l) = applyL (apOne I o) l := rfl
   rw [this, apply_other p l _ (fun x hx => h x (List.mem_cons_of_mem _ hx)), apOne_other I o p (h o (List.mem_cons_self))]
theorem idlesL_get (I : List Nat) (p : Nat) (hp : p < I.length) : ∀ k, (idlesL I k).getD p 0 = if 10 ≤ p ∧ p < 10 + k then endN (I.getD p 0) else I.getD p 0
 | 0 => by rw [idlesL, if_neg (by omega)]
 | k + 1 => by
   rw [idlesL, getD_set_md, idlesL_len, idlesL_get I p hp k]
   by_cases h : 10 + k = p
   ·subst h
    rw [if_pos ⟨rfl, hp⟩, if_pos ⟨by omega, by omega⟩, idlesL_get I (10 + k) hp k, if_neg (by omega)]
   ·rw [if_neg (fun q => h q.1)]
    by_cases h2 : 10 ≤ p ∧ p < 10 + k
    ·rw [if_pos h2, if_pos (by omega)]
    ·rw [if_neg h2, if_neg (by omega)]
theorem clrL_get (I : List Nat) (L p : Nat) (hp : p < I.length) : ∀ k, (clrL I L k).getD p 0 = if 10 + 73 * L ≤ p ∧ p < 10 + 73 * L + k then noLog (I.getD p 0) else I.getD p 0
 | 0 => by rw [clrL, if_neg (by omega)]
 | k + 1 => by
   rw [clrL, getD_set_md, clrL_len, clrL_get I L p hp k]
   by_cases h : 10 + 73 * L + k = p
   ·subst h
    rw [if_pos ⟨rfl, hp⟩, if_pos ⟨by omega, by omega⟩, clrL_get I L _ hp k, if_neg (by omega)]
   ·rw [if_neg (fun q => h q.1)]
    by_cases h2 : 10 + 73 * L ≤ p ∧ p < 10 + 73 * L + k
    ·rw [if_pos h2, if_pos (by omega)]
    ·rw [if_neg h2, if_neg (by omega)]
theorem restL_get (I : List Nat) (L p : Nat) (hp : p < I.length) : (restL I L).getD p 0 = if 10 + 73 * L ≤ p ∧ p < 10 + 73 * L + gNat I.length L then noLog (I.getD p 0) else if 10 ≤ p ∧ p < 10 + L then endN (I.getD p 0) else I.getD p 0 := by
 unfold restL
 rw [clrL_get _ _ _ (by rw [idlesL_len]; exact hp), idlesL_get I p hp]
 by_cases h : 10 + 73 * L ≤ p ∧ p < 10 + 73 * L + gNat I.length L
 ·rw [if_pos h, if_pos h, if_neg (by omega)]
 rw [if_neg h, if_neg h]
theorem take_getD (I : List Nat) (n i : Nat) (h : i < n) : (I.take n).getD i 0 = I.getD i 0 := by
 rw [List.getD_eq_getElem?_getD, List.getD_eq_getElem?_getD, List.getElem?_take, if_pos h]
end Go.Proofs.YtkkbngcgphlikaaGreatDoor
end
section
namespace Go.Proofs.YtkkbngcgphlikaaGreatDoor
open Go.Lib Go.RowKit Go.ChangeShapes Go.WideShapes Go.Deep Go.Shelf
theorem fieldQ (x y : Int) (w : World) : (Instr.field 70 (.agg #[.int .i64 x, .int .i64 y]) 0).run Tryz.prog w = .ok (.int .i64 x) w := by kernel_rfl
theorem refPlace_any (N L c j m : Nat) (w : World) (hg : gOk (N : Nat) (L : Nat) = true) (h1 : c < gNat N L) (h2 : j * m ≤ 1000) (h3 : j ≤ 100) (h4 : m ≤ 300000) :
 Calls Tryz.prog 50 #[.agg #[.int .i64 (N : Nat), .int .i64 (L : Nat)], .agg #[.int .i64 (c : Nat), .int .i64 (j : Nat), .int .i64 (m : Nat)]] w fun e w' => e = .returned (.int .i64 (plc N L (c, j, m) : Nat)) ∧ Below w.heap.size w w' := by
 obtain ⟨s1, s2, s3, s4, s5, s6, s7, s8⟩ := pool_size hg
 obtain ⟨F, hF⟩ : ∃ F, 10 + 73 * L + gNat N L + c * 32 = F := ⟨_, rfl⟩
 have hCh := lh (fun w1 => show Calls Tryz.prog 36 #[.agg #[.int .i64 (N : Nat), .int .i64 (L : Nat)], .int .i64 (c : Nat)] w1 (fun e w' => e = .returned (.agg #[.int .i64 (F : Nat), .int .i64 32]) ∧ Below w1.heap.size w1 w') from by
  have h := refChunk_yes (N : Nat) (L : Nat) (c : Nat) w1 hg (by omega) (by omega)
  unfold cFrom at h
  rw [show ((F : Nat) : Int) = 10 + 73 * (L : Int) + gN (N : Nat) (L : Nat) + (c : Int) * 32 from by omega]
  exact h)
 obtain ⟨Q, hQ⟩ : ∃ Q, j * m = Q := ⟨_, rfl⟩
 have hQ1 : (m : Int) * (j : Int) = (Q : Int) := by rw [← hQ]; simp [Int.mul_comm]
 have hQ2 : IntKind.i64.wrap (Q : Int) = (Q : Int) := wrapQ_so _ (by omega) (by omega)
 obtain ⟨R, hR⟩ : ∃ R, F + Q = R := ⟨_, rfl⟩
 have hR1 : (F : Int) + (Q : Int) = (R : Int) := by omega
 have hR2 : IntKind.i64.wrap (R : Int) = (R : Int) := wrapQ_so _ (by omega) (by omega)
 have e : plc N L (c, j, m) = R := by
  show 10 + 73 * L + gNat N L + c * 32 + j * m = R
  omega
 rw [e]
 clear e hR hF hQ hg s1 s2 s3 s4 s5 s6 s7 s8 h1
 have hb0 := bZ w (.cells #[.int .i64 (N : Nat), .int .i64 (L : Nat)] 37)
 have gG := HB.new w #[.int .i64 (N : Nat), .int .i64 (L : Nat)] 37
 obtain ⟨wb1, hwb1⟩ : ∃ x, w.alloc (.cells #[.int .i64 (N : Nat), .int .i64 (L : Nat)] 37) = x := ⟨_, rfl⟩
 have hswb1 : wb1.heap.size = w.heap.size + 1 := by rw [← hwb1]; simp
 rw [hwb1] at hb0 gG
 have hB : Below w.heap.size w wb1 := hb0
 have hb1 := bZ wb1 (.cells #[.int .i64 (c : Nat), .int .i64 (j : Nat), .int .i64 (m : Nat)] 93)
 have gK := HB.new wb1 #[.int .i64 (c : Nat), .int .i64 (j : Nat), .int .i64 (m : Nat)] 93
 obtain ⟨wb2, hwb2⟩ : ∃ x, wb1.alloc (.cells #[.int .i64 (c : Nat), .int .i64 (j : Nat), .int .i64 (m : Nat)] 93) = x := ⟨_, rfl⟩
 have hswb2 : wb2.heap.size = w.heap.size + 2 := by rw [← hwb2]; simp; omega
 rw [hwb2] at hb1 gK
 rw [hswb1] at gK
 replace gG := gG.keep hb1
 replace hB := hB.trans (hb1.mono (by omega))
 obtain ⟨C, hC⟩ : ∃ C, w.heap.size = C := ⟨_, rfl⟩
 rw [hC] at gG gK hswb1 hswb2
 clear hb0 hb1
 have hCF := lh (fun w' (hb : Below wb2.heap.size wb2 w') => show w'.cell? ⟨C, 0, none⟩ = some (.int .i64 (N : Nat)) ∧ w'.cell? ⟨C, 1, none⟩ = some (.int .i64 (L : Nat)) ∧ w'.cell? ⟨C + 1, 0, none⟩ = some (.int .i64 (c : Nat)) ∧ w'.cell? ⟨C + 1, 1, none⟩ = some (.int .i64 (j : Nat)) ∧ w'.cell? ⟨C + 1, 2, none⟩ = some (.int .i64 (m : Nat)) from
  ⟨(gG.keep hb).c2.1, (gG.keep hb).c2.2, (row_cell (gK.keep hb) 0).1, (row_cell (gK.keep hb) 1).1, (row_cell (gK.keep hb) 2).1⟩)
 have hfd := fun w1 => fieldQ (F : Nat) 32 w1
 go_enter Tryz.func50, Tryz.ntmps50
 go_wp2_with fail
 refine wp_region_held_drew (S := (fun w' => Below wb2.heap.size wb2 w')) (by kernel_rfl) (Below.refl _ _).drew (fun hHeld => ?_)
 refine takeH 0 ?_
 refine takeH 1 ?_
 refine takeH 2 ?_
 refine takeH 5 ?_
 refine takeH 6 ?_
 refine takeH 7 ?_
 refine takeH 8 ?_
 refine takeH 9 ?_
 refine oneL 3 rfl (by kernel_rfl) (fun K hK => ?_)
 go_simp
 refine (hCh.out _).mono ?_; rintro e w5 ⟨rfl, hb⟩
 refine hK.out _ _ (hHeld.trans (hb.mono hHeld.size)) (fun hHeld2 => ?_)
 clear hK K hHeld
 have hHeld := hHeld2
 clear hHeld2
 try simp only [Act.put,sA,sB,sC]
 refine takeH 4 ?_
 refine takeH 10 ?_
 refine takeH 11 ?_
 refine wpAnyH_done (by kernel_rfl) ?_ _
 have hBe := hB.trans (hHeld.mono hB.size)
 go_wp2_with fail
 go_ret
 exact ⟨rfl, by first | exact hBe | (rw [hC] at hBe; exact hBe)⟩
end Go.Proofs.YtkkbngcgphlikaaGreatDoor
end
section
namespace Go.Proofs.YtkkbngcgphlikaaGreatDoor
open Go.Lib Go.RowKit Go.ChangeShapes Go.WideShapes Go.Deep Go.Shelf
attribute [local go_sem] Oper.semAt_some
def noPan (Q : Exit → Act → World → Prop) : Exit → Act → World → Prop
 | .panic _, _, _ => False
 | e, a, w => Q e a w
theorem noPan_ret (Q : Exit → Act → World → Prop) (a : Act) (w : World) : noPan Q .ret a w = Q .ret a w := rfl
attribute [local go_sem] noPan_ret
end Go.Proofs.YtkkbngcgphlikaaGreatDoor
end
