/-
  Part of the proof of SoundPlaces.
-/
import Derived.Test.YtdmmbnnejbmdpaaGreatDoorVs43
import Derived.Test.YtdmmbnnejbmdpaaGreatDoorVs44
import Derived.Test.YtdmmbnnejbmdpaaGreatDoorVs0
set_option maxRecDepth 10000
set_option maxHeartbeats 8000000
set_option linter.unusedVariables false
set_option linter.unusedSimpArgs false
section
namespace Go.Proofs.YtdmmbnnejbmdpaaGreatDoor
open Go.Lib Go.RowKit Go.ChangeShapes Go.WideShapes Go.Deep Go.Shelf
def hadS9 (l : List Nat) (k x : Nat) : Bool := (List.range k).any fun i => decide (l.getD i 0 = x)
theorem grown_belowM {w w' : World} {b M : Nat} (h : w.grownBy w' (some M)) (hb : b ≤ M) (hw : b ≤ w.heap.size) : Below b w w' :=
 ⟨h.os, h.tape, h.output, h.size, fun k hk => h.block k (by omega) (fun e => by cases e; omega)⟩
theorem hadS9_succ (l : List Nat) (k x : Nat) : hadS9 l (k + 1) x = (hadS9 l k x || decide (l.getD k 0 = x)) := by
 unfold hadS9; rw [List.range_succ, List.any_append]; simp
theorem distR_had (l : List Nat) (k : Nat) : distR l (k + 1) = (distR l k && !(hadS9 l k (l.getD k 0))) := by
 rw [distR_succ]
 congr 1
 unfold hadS9
 generalize List.range k = r
 induction r with
 | nil => rfl
 | cons x r ih => rw [List.all_cons, List.any_cons, ih, Bool.not_or]
theorem serO_get {l : List Ob} {k : Nat} (h : k < l.length) : (serO l).getD k 0 = (l.getD k default).2.2.2 := by
 unfold serO
 rw [List.getD_eq_getElem?_getD, List.getElem?_map, List.getElem?_eq_getElem h, List.getD_eq_getElem?_getD, List.getElem?_eq_getElem h]
 rfl
theorem OBO.formO {w : World} {base : Nat} {v : Value} {l : List Ob} {n : Nat} (h : OBO w base v l) (hn : l.length = n) : ∃ A cap, v = .slice A n cap ∧
 ∀ i, i < n → ∃ g off, A = some ⟨g, off, none⟩ ∧ n ≤ cap ∧ g < w.heap.size ∧ w.cell? ⟨g, off + i * 4, none⟩ = some (.int .i64 ((l.getD i default).1 : Nat)) ∧ w.cell? ⟨g, off + i * 4 + 1, none⟩ = some (.int .i64 ((l.getD i default).2.1 : Nat)) ∧ w.cell? ⟨g, off + i * 4 + 2, none⟩ = some (.int .i64 ((l.getD i default).2.2.1 : Nat)) ∧ w.cell? ⟨g, off + i * 4 + 3, none⟩ = some (.int .u64 ((l.getD i default).2.2.2 : Nat)) := by
 obtain ⟨A, cap, hv, h⟩ := EL.form (h.el eO_len) hn
 refine ⟨A, cap, hv, fun i hi => ?_⟩
 obtain ⟨g, off, hA, h1, h2, h3, hc⟩ := h w i (Below.refl _ _) hi
 exact ⟨g, off, hA, h1, h2, hc 0 (by omega), hc 1 (by omega), hc 2 (by omega), hc 3 (by omega)⟩
theorem OBO.kept9 {w w1 : World} {base : Nat} {v : Value} {l : List Ob} {row : Option Nat} (h : OBO w base v l) (hg : w.grownBy w1 row) (hne : v.ownBlock = none ∨ v.ownBlock ≠ row) : OBO w1 base v l := World.ownsRow.kept h hg hne
theorem serials_any {w : World} {g off cap N L : Nat} {I : List Nat} (h : PoolM w g off cap N L I) :
 Calls Tryz.prog 36 #[.agg #[.slice (some ⟨g, off, none⟩) N cap, .int .i64 (N : Nat), .int .i64 (L : Nat)]] w fun e w' => e = .returned (.bool (distR (serO (objsP I L)) (objsP I L).length)) ∧ Below w.heap.size w w' := by
 have hOb := lh (fun w1 (hb : Below w.heap.size w w1) => (h.keep hb).objs)
 have hlen := objsP_len h.hN h.hN8 h.hs
 have hmem := fun x (hx : x ∈ objsP I L) => (objsP_mem h.hW (by rw [h.hN]; exact h.hs) (by rw [h.hN]; exact h.hN8) hx).2.2.1
 generalize objsP I L = l at *
 obtain ⟨n, hn⟩ : ∃ n, l.length = n := ⟨_, rfl⟩
 rw [hn] at hlen ⊢
 have hser := lh (fun k (hk : k < n) => serO_get (l := l) (k := k) (by omega))
 have hsb := lh (fun k (hk : k < n) => hmem (l.getD k default) (by rw [List.getD_eq_getElem?_getD, List.getElem?_eq_getElem (by omega)]; exact List.getElem_mem _))
 obtain ⟨S, hS⟩ : ∃ S, serO l = S := ⟨_, rfl⟩
 simp only [hS] at hser ⊢
 have hds := lh (fun k => distR_had S k)
 have hdn := lh (fun k (hk : k ≤ n) (hf : distR S k = false) => distR_false hf hk)
 have hhs := lh (fun k x => hadS9_succ S k x)
 obtain ⟨ans, hans⟩ : ∃ a, distR S n = a := ⟨_, rfl⟩
 rw [hans]
 replace hans := lh hans
 replace hn := lh hn
 clear h hmem hS
 have hb0 := bZ w (.cells #[.slice (some ⟨g, off, none⟩) N cap, .int .i64 (N : Nat), .int .i64 (L : Nat)] 73)
 have gP := HB.new w #[.slice (some ⟨g, off, none⟩) N cap, .int .i64 (N : Nat), .int .i64 (L : Nat)] 73
 obtain ⟨wb1, hwb1⟩ : ∃ x, w.alloc (.cells #[.slice (some ⟨g, off, none⟩) N cap, .int .i64 (N : Nat), .int .i64 (L : Nat)] 73) = x := ⟨_, rfl⟩
 have hswb1 : wb1.heap.size = w.heap.size + 1 := by rw [← hwb1]; simp
 rw [hwb1] at hb0 gP
 have hB : Below w.heap.size w wb1 := hb0
 clear hb0
 have e2 := bZ wb1 (.map #[] 0)
 have hM := MapK.new wb1
 obtain ⟨w2, hw2⟩ : ∃ x, wb1.alloc (.map #[] 0) = x := ⟨_, rfl⟩
 rw [hw2] at e2 hM
 rw [hswb1] at hM
 have gP2 := gP.keep e2
 have hB2 := hB.trans (e2.mono hB.size)
 have p0 := (row_cell gP2 0).1
 have p1 := (row_cell gP2 1).1
 have p2 := (row_cell gP2 2).1
 have hmm := @run_makeMap Tryz.prog
 go_enter Tryz.func36, Tryz.ntmps36
 go_wp2_with fail
 clear hmm
 refine (hOb.out _ hB2).mono ?_
 rintro e w3 ⟨v3, rfl, ho3, hb3⟩
 have hB3 := hB2.trans (hb3.mono hB2.size)
 have hM3 := hM.keep hb3
 have ho3' : OBO w3 w.heap.size v3 l := ho3.mono hB2.size
 obtain ⟨A3, c3, rfl, -⟩ := OBO.formO ho3 hn.out
 have hne := OwnE_row_ne ho3 hM3
 clear p0 p1 p2 gP gP2 hB hB2 hM e2 hOb hb3 ho3 hw2 hwb1 hswb1
 go_wp2_with fail
 go_loopw [18] (fun i wr => ∃ (j : Nat) (gj : Gk), j ≤ n ∧ i = .int .i64 (j : Nat) ∧ Hid (distR S j = true ∧ ∀ x : Nat, (gj (x : Int)).isSome = hadS9 S j x) ∧ MapK wr (w.heap.size + 1) j gj ∧ OBO wr w.heap.size (.slice A3 n c3) l ∧ Below w.heap.size w wr) (fun i _ => n + 1 - (intOf i).toNat)
 case atStart => exact ⟨0, _, Nat.zero_le _, rfl, lh ⟨rfl, fun x => rfl⟩, hM3, ho3', hB3⟩
 case round =>
  obtain ⟨j, gj, hj, rfl, hg, hMr, hor, hBr⟩ := hrel
  clear hM3 ho3' hB3
  by_cases hlt : j < n
  ·have hlt' : (j : Int) < (n : Int) := by omega
   obtain ⟨A4, c4, hv4, hF⟩ := OBO.formO hor hn.out
   cases hv4
   obtain ⟨g5, o5, rfl, hc5, hg5, k0, k1, k2, k3⟩ := hF j hlt
   have hser1 := hser.out j hlt
   have hsb1 := hsb.out j hlt
   generalize l.getD j default = b at *
   obtain ⟨p, t, s, n9⟩ := b
   simp only [] at k0 k1 k2 k3 hser1 hsb1
   have hds1 := hds.out j
   have hhs1 := fun x => hhs.out j x
   rw [hser1] at hds1 hhs1
   have e4 := bZ wr (.cells #[.int .i64 (p : Nat), .int .i64 (t : Nat), .int .i64 (s : Nat), .int .u64 (n9 : Nat)] 95)
   have gO := HB.new wr #[.int .i64 (p : Nat), .int .i64 (t : Nat), .int .i64 (s : Nat), .int .u64 (n9 : Nat)] 95
   obtain ⟨w4, hw4⟩ : ∃ x, wr.alloc (.cells #[.int .i64 (p : Nat), .int .i64 (t : Nat), .int .i64 (s : Nat), .int .u64 (n9 : Nat)] 95) = x := ⟨_, rfl⟩
   rw [hw4] at e4 gO
   obtain ⟨K, hK⟩ : ∃ K, wr.heap.size = K := ⟨_, rfl⟩
   rw [hK] at gO
   have hM4 := hMr.keep e4
   have ho4 : OBO w4 w.heap.size _ l := hor.keep e4
   have hB4 := hBr.trans (e4.mono hBr.size)
   have hU : U64 (n9 : Int) := ⟨by omega, by omega⟩
   have hlk := hM4.look hU
   have hh := hg.out.2 n9
   have q0 := (row_cell gO 0).1
   have q3 := (row_cell gO 3).1
   clear hF e4
   cases hgj : gj (n9 : Int) with
   | some c =>
     rw [hgj] at hlk hh
     have hno := lh (show ans = false from by
      rw [← hans.out]
      refine hdn.out (j + 1) (by omega) ?_
      rw [hds1, ← hh]
      simp)
     simp only [Option.isSome_some, Option.getD_some] at hlk
     clear hds1 hhs1 hh hgj hg
     go_wp2_with fail
     go_ret
     exact ⟨by rw [hno.out]; rfl, hB4⟩
   | none =>
     rw [hgj] at hlk hh
     simp only [Option.isSome_none, Option.getD_none] at hlk
     obtain ⟨w5, hrun, hM5, hg5'⟩ := hM4.put (key := (n9 : Int)) (f := (p : Int)) hU (by unfold maxLen; omega)
     have ho5 := OBO.kept9 ho4 hg5' (by
      by_cases e : (Value.slice (some ⟨g5, o5, none⟩) n c3).ownBlock = none
      ·exact .inl e
      ·refine .inr (fun q => ?_)
       exact hne _ q rfl)
     have hB5 : Below w.heap.size w w5 := hB4.trans (grown_belowM hg5' (by omega) hB4.size)
     have hg2 := lh (show distR S (j + 1) = true ∧ ∀ x : Nat, ((putK9 gj (n9 : Int) (p : Int)) (x : Int)).isSome = hadS9 S (j + 1) x from by
      refine ⟨?_, fun x => ?_⟩
      ·rw [hds1, hg.out.1, ← hh]; rfl
      ·rw [hhs1, ← hg.out.2 x]
       unfold putK9
       by_cases e : n9 = x
       ·subst e; rw [if_pos rfl, decide_eq_true rfl, Bool.or_true]; rfl
       ·rw [if_neg (by omega), decide_eq_false e, Bool.or_false])
     clear hds1 hhs1 hh hgj hg hM4 ho4 hg5'
     go_wp2_with fail
     go_roundw
     case rel => exact ⟨j + 1, _, by omega, by go_num, hg2, hM5, ho5, hB5⟩
     case measure => first | (simp [intOf]; done) | (simp [intOf]; omega)
  ·obtain rfl : n = j := by omega
   have hlt' : ¬ (n : Int) < (n : Int) := by omega
   have hyes := lh (show ans = true from by rw [← hans.out]; exact hg.out.1)
   go_wp2_with fail
   go_ret
   exact ⟨by rw [hyes.out]; rfl, hBr⟩
end Go.Proofs.YtdmmbnnejbmdpaaGreatDoor
end
section
namespace Go.Proofs.YtdmmbnnejbmdpaaGreatDoor
open Go.Lib Go.RowKit Go.ChangeShapes Go.WideShapes Go.Deep Go.Shelf
def rulesB (I : List Nat) : List Bool := [true, restN I (I.getD 3 0), rightT (tabW I (I.getD 3 0)) && calmT (tabW I (I.getD 3 0)), allO I (I.getD 3 0) (blI I (I.getD 3 0)), distR (serO (objsP I (I.getD 3 0))) (objsP I (I.getD 3 0)).length, epoB I (objsP I (I.getD 3 0)), rootB I (objsP I (I.getD 3 0))]
theorem soundB_rules {I : List Nat} (h : sOk I = true) : soundB I = (rulesB I).all id := by
 unfold soundB rulesB
 rw [h]
 simp only [List.all_cons, List.all_nil, id_eq, Bool.and_true, Bool.true_and]
theorem soundB_no {I : List Nat} (h : sOk I = false) : soundB I = false := by unfold soundB; rw [h]; rfl
theorem pool_of {w : World} {v : Value} {I : List Nat} (hw : Lw w) (hW : WL I) (hv : KL .u64 w v I) (hN8 : I.length ≤ 800) (hs : sOk I = true) : ∃ g off cap, v = .slice (some ⟨g, off, none⟩) I.length cap ∧ PoolM w g off cap I.length (I.getD 3 0) I := by
 have hg := (gOk_pool hs).2
 obtain ⟨s1, s2, s3, s4, s5, s6, s7, s8⟩ := pool_size hg
 obtain ⟨g, off, cap, rfl, h1, h2⟩ := hv.addr rfl (by omega)
 exact ⟨g, off, cap, rfl, ⟨hw, hW, hv, rfl, hN8, rfl, hg⟩⟩
theorem rules_take {l : List Bool} {k : Nat} (h : k < l.length) : (l.take (k + 1)).all id = ((l.take k).all id && l.getD k false) := by
 rw [List.take_succ_eq_append_getElem h, List.all_append, List.getD_eq_getElem?_getD, List.getElem?_eq_getElem h]
 simp
theorem rules_no {l : List Bool} {k : Nat} (h : k < l.length) (hf : l.getD k false = false) : l.all id = false := by
 refine List.all_eq_false.2 ⟨l[k], List.getElem_mem h, ?_⟩
 rw [List.getD_eq_getElem?_getD, List.getElem?_eq_getElem h] at hf
 simpa using hf
theorem sound_f (v : Value) (I : List Nat) (w : World) (hW : WL I) (hv : KL .u64 w v I) (hs : sOk I = false) :
 Calls Tryz.prog 13 #[v] w fun e w' => e = .returned (.int .i64 7) ∧ Below w.heap.size w w' := by
 have hR := read_f v I w hW hv hs
 obtain ⟨A, c, hve, -⟩ := hv.form rfl
 generalize I.length = N at hve
 subst hve
 clear hs hW hv
 go_enter Tryz.func13, Tryz.ntmps13
 go_wp2_with fail
 refine hR.mono ?_
 rintro e w1 ⟨rfl, hb1⟩
 have e2 := bZ w1 (.cells #[.slice A N c, .int .i64 0, .int .i64 0] 73)
 have gP := HB.new w1 #[.slice A N c, .int .i64 0, .int .i64 0] 73
 obtain ⟨w2, hw2⟩ : ∃ x, w1.alloc (.cells #[.slice A N c, .int .i64 0, .int .i64 0] 73) = x := ⟨_, rfl⟩
 rw [hw2] at e2 gP
 have hs2 : w2.heap.size = w1.heap.size + 1 := by rw [← hw2]; simp
 have e3 := bZ w2 (.cells #[.func (.func 32) #[] #[], .func (.func 33) #[] #[], .func (.func 34) #[] #[], .func (.func 35) #[] #[], .func (.func 36) #[] #[], .func (.func 37) #[] #[], .func (.func 38) #[] #[]] 77)
 have gR := HB.new w2 #[.func (.func 32) #[] #[], .func (.func 33) #[] #[], .func (.func 34) #[] #[], .func (.func 35) #[] #[], .func (.func 36) #[] #[], .func (.func 37) #[] #[], .func (.func 38) #[] #[]] 77
 obtain ⟨w3, hw3⟩ : ∃ x, w2.alloc (.cells #[.func (.func 32) #[] #[], .func (.func 33) #[] #[], .func (.func 34) #[] #[], .func (.func 35) #[] #[], .func (.func 36) #[] #[], .func (.func 37) #[] #[], .func (.func 38) #[] #[]] 77) = x := ⟨_, rfl⟩
 rw [hw3] at e3 gR
 rw [hs2] at gR
 obtain ⟨K, hK⟩ : ∃ K, w1.heap.size = K := ⟨_, rfl⟩
 rw [hK] at gP gR hs2
 have hB3 := (hb1.trans (e2.mono hb1.size)).trans (e3.mono (hb1.trans (e2.mono hb1.size)).size)
 have gP3 := gP.keep e3
 clear gP e2 e3 hR
 subst hw3 hw2
 go_wp2_with fail
 have hH0 := lh (fun w1 (hb : Below w.heap.size w w1) => hasHead_f (.slice A N c) w1 rfl)
 go_loopw [19] (fun i wr => i = .int .i64 0 ∧ HB wr K #[.slice A N c, .int .i64 0, .int .i64 0] 73 ∧ HB wr (K + 1) #[.func (.func 32) #[] #[], .func (.func 33) #[] #[], .func (.func 34) #[] #[], .func (.func 35) #[] #[], .func (.func 36) #[] #[], .func (.func 37) #[] #[], .func (.func 38) #[] #[]] 77 ∧ Below w.heap.size w wr) (fun _ _ => 0)
 case atStart => exact ⟨rfl, gP3, gR, hB3⟩
 case round =>
  clear gP3 gR hB3
  obtain ⟨rfl, gP, gR, hBr⟩ := hrel
  have r0 := (row_cell gR 0).1
  have e4 := bZ wr (.cells #[.func (.func 32) #[] #[]] 77)
  have gT := HB.new wr #[.func (.func 32) #[] #[]] 77
  have gP4 := gP.keep e4
  have gR4 := gR.keep e4
  have hB4 := hBr.trans (e4.mono hBr.size)
  obtain ⟨w4, hw4⟩ : ∃ x, wr.alloc (.cells #[.func (.func 32) #[] #[]] 77) = x := ⟨_, rfl⟩
  rw [hw4] at gT gP4 gR4 hB4
  obtain ⟨K4, hK4⟩ : ∃ K, wr.heap.size = K := ⟨_, rfl⟩
  rw [hK4] at gT
  have q0 := (row_cell gT 0).1
  have p0 := (row_cell gP4 0).1
  have p1 := (row_cell gP4 1).1
  have p2 := (row_cell gP4 2).1
  have hH1 := hH0.out w4 hB4
  clear gP gR hBr e4 gT
  go_wp2_with (go_at_call 32; (with_reducible refine hH1.mono ?_); rintro e w5 ⟨rfl, hb5⟩)
  have hB5 := hB4.trans (hb5.mono hB4.size)
  have gP5 := gP4.keep hb5
  have gR5 := gR4.keep hb5
  go_ret
  exact ⟨rfl, hB5⟩
theorem sound_t (v : Value) (I : List Nat) (w : World) (hw : Lw w) (hW : WL I) (hv : KL .u64 w v I) (hN8 : I.length ≤ 800) (hs : sOk I = true) :
 Calls Tryz.prog 13 #[v] w fun e w' => e = .returned (.int .i64 (if (rulesB I).all id = true then 0 else 7)) ∧ Below w.heap.size w w' := by
 have hR := read_t v I w hW hv hs
 obtain ⟨g, off, cap, rfl, hp⟩ := pool_of hw hW hv hN8 hs
 obtain ⟨N, hN⟩ : ∃ N, I.length = N := ⟨_, rfl⟩
 obtain ⟨L, hL⟩ : ∃ L, I.getD 3 0 = L := ⟨_, rfl⟩
 rw [hN, hL] at hR hp
 rw [hN]
 have hru : rulesB I = [true, restN I L, rightT (tabW I L) && calmT (tabW I L), allO I L (blI I L), distR (serO (objsP I L)) (objsP I L).length, epoB I (objsP I L), rootB I (objsP I L)] := by unfold rulesB; rw [hL]
 have hH0 := lh (fun w1 (hb : Below w.heap.size w w1) => show Calls Tryz.prog 32 #[.agg #[.slice (some ⟨g, off, none⟩) N cap, .int .i64 (N : Nat), .int .i64 (L : Nat)]] w1 (fun e w' => e = .returned (.bool ((rulesB I).getD 0 false)) ∧ Below w1.heap.size w1 w') from by rw [hru]; exact hasHead_t _ N L w1 rfl hp.hs)
 have hH1 := lh (fun w1 (hb : Below w.heap.size w w1) => show Calls Tryz.prog 33 #[.agg #[.slice (some ⟨g, off, none⟩) N cap, .int .i64 (N : Nat), .int .i64 (L : Nat)]] w1 (fun e w' => e = .returned (.bool ((rulesB I).getD 1 false)) ∧ Below w1.heap.size w1 w') from by rw [hru]; exact rests_any (hp.keep hb))
 have hH2 := lh (fun w1 (hb : Below w.heap.size w w1) => show Calls Tryz.prog 34 #[.agg #[.slice (some ⟨g, off, none⟩) N cap, .int .i64 (N : Nat), .int .i64 (L : Nat)]] w1 (fun e w' => e = .returned (.bool ((rulesB I).getD 2 false)) ∧ Below w1.heap.size w1 w') from by rw [hru]; exact isTiled_any (hp.keep hb))
 have hH3 := lh (fun w1 (hb : Below w.heap.size w w1) => show Calls Tryz.prog 35 #[.agg #[.slice (some ⟨g, off, none⟩) N cap, .int .i64 (N : Nat), .int .i64 (L : Nat)]] w1 (fun e w' => e = .returned (.bool ((rulesB I).getD 3 false)) ∧ Below w1.heap.size w1 w') from by rw [hru]; exact hasObjects_any (hp.keep hb))
 have hH4 := lh (fun w1 (hb : Below w.heap.size w w1) => show Calls Tryz.prog 36 #[.agg #[.slice (some ⟨g, off, none⟩) N cap, .int .i64 (N : Nat), .int .i64 (L : Nat)]] w1 (fun e w' => e = .returned (.bool ((rulesB I).getD 4 false)) ∧ Below w1.heap.size w1 w') from by rw [hru]; exact serials_any (hp.keep hb))
 have hH5 := lh (fun w1 (hb : Below w.heap.size w w1) => show Calls Tryz.prog 37 #[.agg #[.slice (some ⟨g, off, none⟩) N cap, .int .i64 (N : Nat), .int .i64 (L : Nat)]] w1 (fun e w' => e = .returned (.bool ((rulesB I).getD 5 false)) ∧ Below w1.heap.size w1 w') from by rw [hru]; exact epochHolds_any (hp.keep hb))
 have hH6 := lh (fun w1 (hb : Below w.heap.size w w1) => show Calls Tryz.prog 38 #[.agg #[.slice (some ⟨g, off, none⟩) N cap, .int .i64 (N : Nat), .int .i64 (L : Nat)]] w1 (fun e w' => e = .returned (.bool ((rulesB I).getD 6 false)) ∧ Below w1.heap.size w1 w') from by rw [hru]; exact rootHolds_any (hp.keep hb))
 obtain ⟨er, her⟩ : ∃ r : Int, (if (rulesB I).all id = true then 0 else 7) = r := ⟨_, rfl⟩
 rw [her]
 replace her := lh her
 clear hru hp hs hv hW hN8
 replace hN := lh hN
 replace hL := lh hL
 go_enter Tryz.func13, Tryz.ntmps13
 go_wp2_with fail
 refine hR.mono ?_
 rintro e w1 ⟨rfl, hb1⟩
 have e2 := bZ w1 (.cells #[.slice (some ⟨g, off, none⟩) N cap, .int .i64 (N : Nat), .int .i64 (L : Nat)] 73)
 have gP := HB.new w1 #[.slice (some ⟨g, off, none⟩) N cap, .int .i64 (N : Nat), .int .i64 (L : Nat)] 73
 obtain ⟨w2, hw2⟩ : ∃ x, w1.alloc (.cells #[.slice (some ⟨g, off, none⟩) N cap, .int .i64 (N : Nat), .int .i64 (L : Nat)] 73) = x := ⟨_, rfl⟩
 rw [hw2] at e2 gP
 have hs2 : w2.heap.size = w1.heap.size + 1 := by rw [← hw2]; simp
 have e3 := bZ w2 (.cells #[.func (.func 32) #[] #[], .func (.func 33) #[] #[], .func (.func 34) #[] #[], .func (.func 35) #[] #[], .func (.func 36) #[] #[], .func (.func 37) #[] #[], .func (.func 38) #[] #[]] 77)
 have gR := HB.new w2 #[.func (.func 32) #[] #[], .func (.func 33) #[] #[], .func (.func 34) #[] #[], .func (.func 35) #[] #[], .func (.func 36) #[] #[], .func (.func 37) #[] #[], .func (.func 38) #[] #[]] 77
 obtain ⟨w3, hw3⟩ : ∃ x, w2.alloc (.cells #[.func (.func 32) #[] #[], .func (.func 33) #[] #[], .func (.func 34) #[] #[], .func (.func 35) #[] #[], .func (.func 36) #[] #[], .func (.func 37) #[] #[], .func (.func 38) #[] #[]] 77) = x := ⟨_, rfl⟩
 rw [hw3] at e3 gR
 rw [hs2] at gR
 obtain ⟨K, hK⟩ : ∃ K, w1.heap.size = K := ⟨_, rfl⟩
 rw [hK] at gP gR hs2
 have hB3 := (hb1.trans (e2.mono hb1.size)).trans (e3.mono (hb1.trans (e2.mono hb1.size)).size)
 have gP3 := gP.keep e3
 clear gP e2 e3 hR
 subst hw3 hw2
 go_wp2_with fail
 go_loopw [19] (fun i wr => ∃ (j : Nat), j ≤ 7 ∧ i = .int .i64 (j : Nat) ∧ Hid (((rulesB I).take j).all id = true) ∧ HB wr K #[.slice (some ⟨g, off, none⟩) N cap, .int .i64 (N : Nat), .int .i64 (L : Nat)] 73 ∧ HB wr (K + 1) #[.func (.func 32) #[] #[], .func (.func 33) #[] #[], .func (.func 34) #[] #[], .func (.func 35) #[] #[], .func (.func 36) #[] #[], .func (.func 37) #[] #[], .func (.func 38) #[] #[]] 77 ∧ Below w.heap.size w wr) (fun i _ => 8 - (intOf i).toNat)
 case atStart => exact ⟨0, by omega, rfl, lh rfl, gP3, gR, hB3⟩
 case round =>
  clear gP3 gR hB3
  obtain ⟨j, hj, rfl, hst, gP, gR, hBr⟩ := hrel
  have hj8 : j = 0 ∨ j = 1 ∨ j = 2 ∨ j = 3 ∨ j = 4 ∨ j = 5 ∨ j = 6 ∨ j = 7 := by omega
  rcases hj8 with rfl | rfl | rfl | rfl | rfl | rfl | rfl | rfl
  ·have r0 := (row_cell gR 0).1
   have e4 := bZ wr (.cells #[.func (.func 32) #[] #[]] 77)
   have gT := HB.new wr #[.func (.func 32) #[] #[]] 77
   have gP4 := gP.keep e4
   have gR4 := gR.keep e4
   have hB4 := hBr.trans (e4.mono hBr.size)
   obtain ⟨w4, hw4⟩ : ∃ x, wr.alloc (.cells #[.func (.func 32) #[] #[]] 77) = x := ⟨_, rfl⟩
   rw [hw4] at gT gP4 gR4 hB4
   obtain ⟨K4, hK4⟩ : ∃ K, wr.heap.size = K := ⟨_, rfl⟩
   rw [hK4] at gT
   have q0 := (row_cell gT 0).1
   have p0 := (row_cell gP4 0).1
   have p1 := (row_cell gP4 1).1
   have p2 := (row_cell gP4 2).1
   have hH1 := hH0.out w4 hB4
   clear gP gR hBr e4 gT
   cases hr : (rulesB I).getD 0 false with
   | true =>
     have hs2 := lh (show ((rulesB I).take 1).all id = true from by rw [rules_take (by show 0 < 7; decide), hst.out, hr]; rfl)
     change (rulesB I).getD 0 false = true at hr
     rw [hr] at hH1
     clear hst hr
     go_wp2_with (go_at_call 32; (with_reducible refine hH1.mono ?_); rintro e w5 ⟨rfl, hb5⟩)
     have hB5 := hB4.trans (hb5.mono hB4.size)
     have gP5 := gP4.keep hb5
     have gR5 := gR4.keep hb5
     go_roundw
     case rel => exact ⟨1, by omega, by go_num, hs2, gP5, gR5, hB5⟩
     case measure => first | (simp [intOf]; done) | (simp [intOf]; omega) | decide
   | false =>
     have hno := lh (show (rulesB I).all id = false from rules_no (k := 0) (by show 0 < 7; decide) hr)
     rw [hr] at hH1
     clear hst hr
     go_wp2_with (go_at_call 32; (with_reducible refine hH1.mono ?_); rintro e w5 ⟨rfl, hb5⟩)
     have hB5 := hB4.trans (hb5.mono hB4.size)
     have gP5 := gP4.keep hb5
     have gR5 := gR4.keep hb5
     go_ret
     exact ⟨by rw [← her.out, hno.out]; rfl, hB5⟩
  ·have r0 := (row_cell gR 1).1
   have e4 := bZ wr (.cells #[.func (.func 33) #[] #[]] 77)
   have gT := HB.new wr #[.func (.func 33) #[] #[]] 77
   have gP4 := gP.keep e4
   have gR4 := gR.keep e4
   have hB4 := hBr.trans (e4.mono hBr.size)
   obtain ⟨w4, hw4⟩ : ∃ x, wr.alloc (.cells #[.func (.func 33) #[] #[]] 77) = x := ⟨_, rfl⟩
   rw [hw4] at gT gP4 gR4 hB4
   obtain ⟨K4, hK4⟩ : ∃ K, wr.heap.size = K := ⟨_, rfl⟩
   rw [hK4] at gT
   have q0 := (row_cell gT 0).1
   have p0 := (row_cell gP4 0).1
   have p1 := (row_cell gP4 1).1
   have p2 := (row_cell gP4 2).1
   have hH1 := hH1.out w4 hB4
   clear gP gR hBr e4 gT
   cases hr : (rulesB I).getD 1 false with
   | true =>
     have hs2 := lh (show ((rulesB I).take 2).all id = true from by rw [rules_take (by show 1 < 7; decide), hst.out, hr]; rfl)
     change (rulesB I).getD 1 false = true at hr
     rw [hr] at hH1
     clear hst hr
     go_wp2_with (go_at_call 33; (with_reducible refine hH1.mono ?_); rintro e w5 ⟨rfl, hb5⟩)
     have hB5 := hB4.trans (hb5.mono hB4.size)
     have gP5 := gP4.keep hb5
     have gR5 := gR4.keep hb5
     go_roundw
     case rel => exact ⟨2, by omega, by go_num, hs2, gP5, gR5, hB5⟩
     case measure => first | (simp [intOf]; done) | (simp [intOf]; omega) | decide
   | false =>
     have hno := lh (show (rulesB I).all id = false from rules_no (k := 1) (by show 1 < 7; decide) hr)
     rw [hr] at hH1
     clear hst hr
     go_wp2_with (go_at_call 33; (with_reducible refine hH1.mono ?_); rintro e w5 ⟨rfl, hb5⟩)
     have hB5 := hB4.trans (hb5.mono hB4.size)
     have gP5 := gP4.keep hb5
     have gR5 := gR4.keep hb5
     go_ret
     exact ⟨by rw [← her.out, hno.out]; rfl, hB5⟩
  ·have r0 := (row_cell gR 2).1
   have e4 := bZ wr (.cells #[.func (.func 34) #[] #[]] 77)
   have gT := HB.new wr #[.func (.func 34) #[] #[]] 77
   have gP4 := gP.keep e4
   have gR4 := gR.keep e4
   have hB4 := hBr.trans (e4.mono hBr.size)
   obtain ⟨w4, hw4⟩ : ∃ x, wr.alloc (.cells #[.func (.func 34) #[] #[]] 77) = x := ⟨_, rfl⟩
   rw [hw4] at gT gP4 gR4 hB4
   obtain ⟨K4, hK4⟩ : ∃ K, wr.heap.size = K := ⟨_, rfl⟩
   rw [hK4] at gT
   have q0 := (row_cell gT 0).1
   have p0 := (row_cell gP4 0).1
   have p1 := (row_cell gP4 1).1
   have p2 := (row_cell gP4 2).1
   have hH1 := hH2.out w4 hB4
   clear gP gR hBr e4 gT
   cases hr : (rulesB I).getD 2 false with
   | true =>
     have hs2 := lh (show ((rulesB I).take 3).all id = true from by rw [rules_take (by show 2 < 7; decide), hst.out, hr]; rfl)
     change (rulesB I).getD 2 false = true at hr
     rw [hr] at hH1
     clear hst hr
     go_wp2_with (go_at_call 34; (with_reducible refine hH1.mono ?_); rintro e w5 ⟨rfl, hb5⟩)
     have hB5 := hB4.trans (hb5.mono hB4.size)
     have gP5 := gP4.keep hb5
     have gR5 := gR4.keep hb5
     go_roundw
     case rel => exact ⟨3, by omega, by go_num, hs2, gP5, gR5, hB5⟩
     case measure => first | (simp [intOf]; done) | (simp [intOf]; omega) | decide
   | false =>
     have hno := lh (show (rulesB I).all id = false from rules_no (k := 2) (by show 2 < 7; decide) hr)
     rw [hr] at hH1
     clear hst hr
     go_wp2_with (go_at_call 34; (with_reducible refine hH1.mono ?_); rintro e w5 ⟨rfl, hb5⟩)
     have hB5 := hB4.trans (hb5.mono hB4.size)
     have gP5 := gP4.keep hb5
     have gR5 := gR4.keep hb5
     go_ret
     exact ⟨by rw [← her.out, hno.out]; rfl, hB5⟩
  ·have r0 := (row_cell gR 3).1
   have e4 := bZ wr (.cells #[.func (.func 35) #[] #[]] 77)
   have gT := HB.new wr #[.func (.func 35) #[] #[]] 77
   have gP4 := gP.keep e4
   have gR4 := gR.keep e4
   have hB4 := hBr.trans (e4.mono hBr.size)
   obtain ⟨w4, hw4⟩ : ∃ x, wr.alloc (.cells #[.func (.func 35) #[] #[]] 77) = x := ⟨_, rfl⟩
   rw [hw4] at gT gP4 gR4 hB4
   obtain ⟨K4, hK4⟩ : ∃ K, wr.heap.size = K := ⟨_, rfl⟩
   rw [hK4] at gT
   have q0 := (row_cell gT 0).1
   have p0 := (row_cell gP4 0).1
   have p1 := (row_cell gP4 1).1
   have p2 := (row_cell gP4 2).1
   have hH1 := hH3.out w4 hB4
   clear gP gR hBr e4 gT
   cases hr : (rulesB I).getD 3 false with
   | true =>
     have hs2 := lh (show ((rulesB I).take 4).all id = true from by rw [rules_take (by show 3 < 7; decide), hst.out, hr]; rfl)
     change (rulesB I).getD 3 false = true at hr
     rw [hr] at hH1
     clear hst hr
     go_wp2_with (go_at_call 35; (with_reducible refine hH1.mono ?_); rintro e w5 ⟨rfl, hb5⟩)
     have hB5 := hB4.trans (hb5.mono hB4.size)
     have gP5 := gP4.keep hb5
     have gR5 := gR4.keep hb5
     go_roundw
     case rel => exact ⟨4, by omega, by go_num, hs2, gP5, gR5, hB5⟩
     case measure => first | (simp [intOf]; done) | (simp [intOf]; omega) | decide
   | false =>
     have hno := lh (show (rulesB I).all id = false from rules_no (k := 3) (by show 3 < 7; decide) hr)
     rw [hr] at hH1
     clear hst hr
     go_wp2_with (go_at_call 35; (with_reducible refine hH1.mono ?_); rintro e w5 ⟨rfl, hb5⟩)
     have hB5 := hB4.trans (hb5.mono hB4.size)
     have gP5 := gP4.keep hb5
     have gR5 := gR4.keep hb5
     go_ret
     exact ⟨by rw [← her.out, hno.out]; rfl, hB5⟩
  ·have r0 := (row_cell gR 4).1
   have e4 := bZ wr (.cells #[.func (.func 36) #[] #[]] 77)
   have gT := HB.new wr #[.func (.func 36) #[] #[]] 77
   have gP4 := gP.keep e4
   have gR4 := gR.keep e4
   have hB4 := hBr.trans (e4.mono hBr.size)
   obtain ⟨w4, hw4⟩ : ∃ x, wr.alloc (.cells #[.func (.func 36) #[] #[]] 77) = x := ⟨_, rfl⟩
   rw [hw4] at gT gP4 gR4 hB4
   obtain ⟨K4, hK4⟩ : ∃ K, wr.heap.size = K := ⟨_, rfl⟩
   rw [hK4] at gT
   have q0 := (row_cell gT 0).1
   have p0 := (row_cell gP4 0).1
   have p1 := (row_cell gP4 1).1
   have p2 := (row_cell gP4 2).1
   have hH1 := hH4.out w4 hB4
   clear gP gR hBr e4 gT
   cases hr : (rulesB I).getD 4 false with
   | true =>
     have hs2 := lh (show ((rulesB I).take 5).all id = true from by rw [rules_take (by show 4 < 7; decide), hst.out, hr]; rfl)
     change (rulesB I).getD 4 false = true at hr
     rw [hr] at hH1
     clear hst hr
     go_wp2_with (go_at_call 36; (with_reducible refine hH1.mono ?_); rintro e w5 ⟨rfl, hb5⟩)
     have hB5 := hB4.trans (hb5.mono hB4.size)
     have gP5 := gP4.keep hb5
     have gR5 := gR4.keep hb5
     go_roundw
     case rel => exact ⟨5, by omega, by go_num, hs2, gP5, gR5, hB5⟩
     case measure => first | (simp [intOf]; done) | (simp [intOf]; omega) | decide
   | false =>
     have hno := lh (show (rulesB I).all id = false from rules_no (k := 4) (by show 4 < 7; decide) hr)
     rw [hr] at hH1
     clear hst hr
     go_wp2_with (go_at_call 36; (with_reducible refine hH1.mono ?_); rintro e w5 ⟨rfl, hb5⟩)
     have hB5 := hB4.trans (hb5.mono hB4.size)
     have gP5 := gP4.keep hb5
     have gR5 := gR4.keep hb5
     go_ret
     exact ⟨by rw [← her.out, hno.out]; rfl, hB5⟩
  ·have r0 := (row_cell gR 5).1
   have e4 := bZ wr (.cells #[.func (.func 37) #[] #[]] 77)
   have gT := HB.new wr #[.func (.func 37) #[] #[]] 77
   have gP4 := gP.keep e4
   have gR4 := gR.keep e4
   have hB4 := hBr.trans (e4.mono hBr.size)
   obtain ⟨w4, hw4⟩ : ∃ x, wr.alloc (.cells #[.func (.func 37) #[] #[]] 77) = x := ⟨_, rfl⟩
   rw [hw4] at gT gP4 gR4 hB4
   obtain ⟨K4, hK4⟩ : ∃ K, wr.heap.size = K := ⟨_, rfl⟩
   rw [hK4] at gT
   have q0 := (row_cell gT 0).1
   have p0 := (row_cell gP4 0).1
   have p1 := (row_cell gP4 1).1
   have p2 := (row_cell gP4 2).1
   have hH1 := hH5.out w4 hB4
   clear gP gR hBr e4 gT
   cases hr : (rulesB I).getD 5 false with
   | true =>
     have hs2 := lh (show ((rulesB I).take 6).all id = true from by rw [rules_take (by show 5 < 7; decide), hst.out, hr]; rfl)
     change (rulesB I).getD 5 false = true at hr
     rw [hr] at hH1
     clear hst hr
     go_wp2_with (go_at_call 37; (with_reducible refine hH1.mono ?_); rintro e w5 ⟨rfl, hb5⟩)
     have hB5 := hB4.trans (hb5.mono hB4.size)
     have gP5 := gP4.keep hb5
     have gR5 := gR4.keep hb5
     go_roundw
     case rel => exact ⟨6, by omega, by go_num, hs2, gP5, gR5, hB5⟩
     case measure => first | (simp [intOf]; done) | (simp [intOf]; omega) | decide
   | false =>
     have hno := lh (show (rulesB I).all id = false from rules_no (k := 5) (by show 5 < 7; decide) hr)
     rw [hr] at hH1
     clear hst hr
     go_wp2_with (go_at_call 37; (with_reducible refine hH1.mono ?_); rintro e w5 ⟨rfl, hb5⟩)
     have hB5 := hB4.trans (hb5.mono hB4.size)
     have gP5 := gP4.keep hb5
     have gR5 := gR4.keep hb5
     go_ret
     exact ⟨by rw [← her.out, hno.out]; rfl, hB5⟩
  ·have r0 := (row_cell gR 6).1
   have e4 := bZ wr (.cells #[.func (.func 38) #[] #[]] 77)
   have gT := HB.new wr #[.func (.func 38) #[] #[]] 77
   have gP4 := gP.keep e4
   have gR4 := gR.keep e4
   have hB4 := hBr.trans (e4.mono hBr.size)
   obtain ⟨w4, hw4⟩ : ∃ x, wr.alloc (.cells #[.func (.func 38) #[] #[]] 77) = x := ⟨_, rfl⟩
   rw [hw4] at gT gP4 gR4 hB4
   obtain ⟨K4, hK4⟩ : ∃ K, wr.heap.size = K := ⟨_, rfl⟩
   rw [hK4] at gT
   have q0 := (row_cell gT 0).1
   have p0 := (row_cell gP4 0).1
   have p1 := (row_cell gP4 1).1
   have p2 := (row_cell gP4 2).1
   have hH1 := hH6.out w4 hB4
   clear gP gR hBr e4 gT
   cases hr : (rulesB I).getD 6 false with
   | true =>
     have hs2 := lh (show ((rulesB I).take 7).all id = true from by rw [rules_take (by show 6 < 7; decide), hst.out, hr]; rfl)
     change (rulesB I).getD 6 false = true at hr
     rw [hr] at hH1
     clear hst hr
     go_wp2_with (go_at_call 38; (with_reducible refine hH1.mono ?_); rintro e w5 ⟨rfl, hb5⟩)
     have hB5 := hB4.trans (hb5.mono hB4.size)
     have gP5 := gP4.keep hb5
     have gR5 := gR4.keep hb5
     go_roundw
     case rel => exact ⟨7, by omega, by go_num, hs2, gP5, gR5, hB5⟩
     case measure => first | (simp [intOf]; done) | (simp [intOf]; omega) | decide
   | false =>
     have hno := lh (show (rulesB I).all id = false from rules_no (k := 6) (by show 6 < 7; decide) hr)
     rw [hr] at hH1
     clear hst hr
     go_wp2_with (go_at_call 38; (with_reducible refine hH1.mono ?_); rintro e w5 ⟨rfl, hb5⟩)
     have hB5 := hB4.trans (hb5.mono hB4.size)
     have gP5 := gP4.keep hb5
     have gR5 := gR4.keep hb5
     go_ret
     exact ⟨by rw [← her.out, hno.out]; rfl, hB5⟩
  ·have hyes := lh (show (rulesB I).all id = true from hst.out)
   go_wp2_with fail
   go_ret
   exact ⟨by rw [← her.out, hyes.out]; rfl, hBr⟩
theorem sound_any (v : Value) (I : List Nat) (w : World) (hw : Lw w) (hW : WL I) (hv : KL .u64 w v I) (hN8 : I.length ≤ 800) :
 Calls Tryz.prog 13 #[v] w fun e w' => e = .returned (.int .i64 (if soundB I = true then 0 else 7)) ∧ Below w.heap.size w w' := by
 cases hs : sOk I with
 | true => rw [soundB_rules hs]; exact sound_t v I w hw hW hv hN8 hs
 | false => rw [soundB_no hs]; exact sound_f v I w hW hv hs
end Go.Proofs.YtdmmbnnejbmdpaaGreatDoor
end
section
namespace Go.Proofs.YtdmmbnnejbmdpaaGreatDoor
open Go.Lib Go.RowKit Go.ChangeShapes Go.WideShapes Go.Deep Go.Shelf
abbrev Oj := (Nat × Nat × Nat) × List Nat
abbrev Jx := Nat × Nat × Nat × Value
def eJ (x : Jx) : List Value := [.int .i64 (x.1 : Nat), .int .i64 (x.2.1 : Nat), .int .u64 (x.2.2.1 : Nat), slV x.2.2.2]
theorem eJ_len (x : Jx) : (eJ x).length = 4 := rfl
theorem infoJ : (Tryz.prog.info? 64).map (fun i => (i.zero, i.size, i.bytes)) = some (some (.agg #[.int .i64 0, .int .i64 0, .int .u64 0, .slice none 0 0]), 4, 48) := by kernel_rfl
instance : Inhabited Jx := ⟨(0, 0, 0, .slice none 0 0)⟩
theorem own_ne {α : Type} {e : TypeId} {sz : Nat} {en : α → List Value} {w : World} {b1 b2 : Nat} {u v : Value} {l : List Nat} {xs : List α} (h : OwnU w b1 u l) (k : OwnE e sz en w b2 v xs) (ht : e ≠ 33) : u.ownBlock = none ∨ u.ownBlock ≠ v.ownBlock := by
 rcases h.2 with ⟨rfl, _⟩ | ⟨g, cap, cur, rfl, _, hg, _⟩
 ·exact .inl rfl
 ·right
  intro q
  rcases k.2 with ⟨rfl, _⟩ | ⟨g2, cap2, cur2, rfl, _, hg2, _⟩
  ·cases q
  ·cases q
   rw [hg] at hg2
   cases hg2
   exact ht rfl
def JL (w : World) (base : Nat) (xs : List Jx) (l : List Oj) : Prop := xs.length = l.length ∧ ∀ k, k < l.length → ((xs.getD k default).1, (xs.getD k default).2.1, (xs.getD k default).2.2.1) = (l.getD k default).1 ∧ OwnU w base (xs.getD k default).2.2.2 (l.getD k default).2
theorem JL.keep {w w1 : World} {base : Nat} {xs : List Jx} {l : List Oj} (h : JL w base xs l) (hb : Below w.heap.size w w1) : JL w1 base xs l := ⟨h.1, fun k hk => ⟨(h.2 k hk).1, (h.2 k hk).2.keep hb⟩⟩
theorem JL.mono {w : World} {base b2 : Nat} {xs : List Jx} {l : List Oj} (h : JL w base xs l) (hb : b2 ≤ base) : JL w b2 xs l := ⟨h.1, fun k hk => ⟨(h.2 k hk).1, (h.2 k hk).2.mono hb⟩⟩
theorem JL.nil (w : World) (base : Nat) : JL w base [] [] := ⟨rfl, fun k h => by cases h⟩
theorem getD_app_lt {α : Type} {d : α} {l m : List α} {k : Nat} (h : k < l.length) : (l ++ m).getD k d = l.getD k d := by
 rw [List.getD_eq_getElem?_getD, List.getElem?_append_left h, List.getD_eq_getElem?_getD]
theorem getD_app_eq {α : Type} {d x : α} {l : List α} {k : Nat} (h : k = l.length) : (l ++ [x]).getD k d = x := by
 subst h
 rw [List.getD_eq_getElem?_getD, List.getElem?_append_right (Nat.le_refl _), Nat.sub_self]
 rfl
theorem JL.snoc {w : World} {base : Nat} {xs : List Jx} {l : List Oj} {x : Jx} {y : Oj} (h : JL w base xs l) (h1 : (x.1, x.2.1, x.2.2.1) = y.1) (h2 : OwnU w base x.2.2.2 y.2) : JL w base (xs ++ [x]) (l ++ [y]) := by
 refine ⟨by rw [List.length_append, List.length_append, h.1]; rfl, fun k hk => ?_⟩
 rw [List.length_append] at hk
 by_cases e : k < l.length
 ·rw [getD_app_lt e, getD_app_lt (by rw [h.1]; exact e)]
  exact h.2 k e
 ·have e2 : k = l.length := by simp at hk; omega
  rw [getD_app_eq e2, getD_app_eq (by rw [h.1]; exact e2)]
  exact ⟨h1, h2⟩
def OJO (w : World) (base : Nat) (v : Value) (l : List Oj) : Prop := ∃ xs, OwnE 64 4 eJ w base v xs ∧ JL w base xs l
theorem OJO.keep {w w1 : World} {base : Nat} {v : Value} {l : List Oj} (h : OJO w base v l) (hb : Below w.heap.size w w1) : OJO w1 base v l := by
 obtain ⟨xs, h1, h2⟩ := h
 exact ⟨xs, h1.keep hb, h2.keep hb⟩
theorem OJO.nil (w : World) (base : Nat) : OJO w base (.slice none 0 0) [] := ⟨[], World.ownsRow_nil _ _ _ _, JL.nil w base⟩
theorem OJO.mono {w : World} {base b2 : Nat} {v : Value} {l : List Oj} (h : OJO w base v l) (hb : b2 ≤ base) : OJO w b2 v l := by
 obtain ⟨xs, h1, h2⟩ := h
 exact ⟨xs, h1.mono hb, h2.mono hb⟩
theorem slV_one9 (v : Value) : (slV v).oneCell' = true := by unfold slV; split <;> rfl
theorem jT : ElT Tryz.prog 39 64 4 48 eJ :=
 ⟨Tryz.underlying39, by obtain ⟨i0, h1, h2, h3, h4⟩ := info_parts infoJ; exact ⟨i0, _, h1, h2, h3, h4, rfl⟩, eJ_len, fun x u hu => by simp only [eJ, List.mem_cons, List.not_mem_nil, or_false] at hu; rcases hu with rfl | rfl | rfl | rfl <;> first | rfl | exact slV_one9 _, by decide, by decide⟩
theorem jRun {v : Value} {w : World} {base : Nat} {l : List Oj} (h : OJO w base v l) (hb : base ≤ w.heap.size) (hlen : l.length ≤ 1000000) (p t n9 : Nat) (v8 : Value) (d : List Nat) (hd : OwnU w base v8 d) :
 ∃ v' w', (Builtin.append_ #[39, 39] 39 #[v, .slice (some ⟨w.heap.size, 0, none⟩) 1 1]).run Tryz.prog (w.alloc (.cells #[.int .i64 (p : Nat), .int .i64 (t : Nat), .int .u64 (n9 : Nat), v8] (64 : Nat))) = .ok v' w' ∧ OJO w' base v' (l ++ [((p, t, n9), d)]) ∧ Below base w w' := by
 obtain ⟨xs, h1, h2⟩ := h
 have hsv : slV v8 = v8 := hd.kl.slV
 have hlit : EL 4 eJ (w.alloc (.cells #[.int .i64 (p : Nat), .int .i64 (t : Nat), .int .u64 (n9 : Nat), v8] (64 : Nat))) (.slice (some ⟨w.heap.size, 0, none⟩) 1 1) [((p, t, n9, v8) : Jx)] := (OwnE.lit 64 eJ_len w [((p, t, n9, v8) : Jx)] _ (by simp [eJ, hsv]) (by simp)).el eJ_len
 obtain ⟨v', w1, hrun, ho, hg, hl2, hnn⟩ := appE jT (h1.alloc _) hlit (by simp; omega) (by have := h2.1; omega) (by simp)
 have e1 := bZ w (.cells #[.int .i64 (p : Nat), .int .i64 (t : Nat), .int .u64 (n9 : Nat), v8] (64 : Nat))
 have hk : ∀ {u : Value} {m : List Nat}, OwnU w base u m → OwnU w1 base u m := fun {u m} hu => World.ownsRow.kept (hu.keep e1) hg (own_ne (hu.keep e1) (h1.alloc _) (by decide))
 refine ⟨v', w1, hrun, ⟨_, ho, ?_⟩, (e1.mono hb).trans (grown_below hg (by simp; omega) (fun k q => (h1.lt k q).1))⟩
 refine JL.snoc ⟨h2.1, fun k hk2 => ⟨(h2.2 k hk2).1, hk (h2.2 k hk2).2⟩⟩ rfl (hk hd)
end Go.Proofs.YtdmmbnnejbmdpaaGreatDoor
end
