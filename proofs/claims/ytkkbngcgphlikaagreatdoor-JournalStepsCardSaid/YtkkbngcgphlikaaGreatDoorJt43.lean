/-
  Part of the proof of JournalSteps.
-/
import Derived.Test.YtkkbngcgphlikaaGreatDoorJt41
import Derived.Test.YtkkbngcgphlikaaGreatDoorJt42
import Derived.Test.YtkkbngcgphlikaaGreatDoorRows
import Derived.Test.YtkkbngcgphlikaaGreatDoorJt0
set_option maxRecDepth 10000
set_option maxHeartbeats 4000000
set_option linter.unusedVariables false
set_option linter.unusedSimpArgs false
section
namespace Go.Proofs.YtkkbngcgphlikaaGreatDoor
open Go.Lib Go.RowKit Go.ChangeShapes Go.WideShapes Go.Deep Go.Shelf
def fillK (X F : List Nat) (a : Nat) : Nat → List Nat
 | 0 => X
 | k + 1 => (fillK X F a k).set (a + k) (F.getD ((a + k) % F.length) 0)
def entW (gn : Nat) (es : List Pe) : List Nat := es.flatMap fun x => if canB x.1 x.2.length = true then encW gn x.1.toNat x.2 else []
def opW (ops : List Ox) : List Nat := if rightB_rd ops = true then encS ops else []
def mkW (s c g : Nat) : Nat := if okB (s : Nat) (c : Nat) (g : Nat) = true then s + c * 4 + g * 65536 else 0
def itemX (N L : Nat) (X : List Nat) (ln st gn : Nat) (es : List Pe) (ops : List Ox) : List Nat :=
 if st = 1 then (scatN X (placesL (logP X (N : Nat) (L : Nat) (ln : Nat))) (entW gn es) (min (placesL (logP X (N : Nat) (L : Nat) (ln : Nat))).length (entW gn es).length)).set (10 + ln) (mkW 1 (entW gn es).length gn)
 else if st = 2 then (putL X (10 + L + ln * 72 + 32) (opW ops)).set (10 + ln) (mkW 2 (min ops.length 19) gn)
 else X.set (10 + ln) (mkW 0 0 gn)
def itemS (N L : Nat) (X : List Nat) (x : Itm) : List Nat := itemX N L X (x.1 % L) (x.2.1 % 3) (x.2.2.1 % 281474976710656) x.2.2.2.1 x.2.2.2.2
def spoilS (X : List Nat) (s : Nat × Nat) : List Nat := X.set (s.1 % X.length) s.2
def make0 (p : Gv) : List Nat := putL (((putL (List.replicate (gvN p) 0) 0 (headW (gvN p) (gvL p) (gvG p))).set 8 p.root).set 9 p.epoch) (10 + 73 * gvL p) (madeT p.tiles (gvG p))
def make1 (p : Gv) : List Nat := if p.fill.length = 0 then make0 p else fillK (make0 p) p.fill (10 + 73 * gvL p + gvG p) (32 * gvG p)
def make2 (p : Gv) : List Nat := p.items.foldl (itemS (gvN p) (gvL p)) (make1 p)
def make3 (p : Gv) : List Nat := p.spoil.foldl spoilS (make2 p)
def makeL (p : Gv) : List Nat := if 0 < p.spoil.length ∧ (p.spoil.getD 0 default).1 % 2 = 0 then (make3 p).set 7 (moreN 0 ((make3 p).take 7)) else make3 p
theorem fillK_len (X F : List Nat) (a : Nat) : ∀ k, (fillK X F a k).length = X.length
 | 0 => rfl
 | k + 1 => by rw [fillK, List.length_set, fillK_len X F a k]
theorem fillK_WL {X F : List Nat} {a : Nat} (hX : WL X) (hF : WL F) : ∀ k, WL (fillK X F a k)
 | 0 => hX
 | k + 1 => (fillK_WL hX hF k).setN _ _ (hF.getN _)
theorem scatN_WL {X : List Nat} {P : List Int} {ws : List Nat} (hX : WL X) (hw : WL ws) : ∀ k, WL (scatN X P ws k)
 | 0 => hX
 | k + 1 => by
   unfold scatN
   split
   ·exact (scatN_WL hX hw k).setN _ _ (hw.getN k)
   ·exact scatN_WL hX hw k
theorem mkW_lt (s c g : Nat) (hs : s ≤ 2) : mkW s c g < 18446744073709551616 := by
 unfold mkW
 split
 ·rename_i h
  unfold okB at h
  have := of_decide_eq_true h
  omega
 decide
theorem moreN0_lt (l : List Nat) : moreN 0 l < 18446744073709551616 := by unfold moreN; omega
theorem encW_WL2 {gn a : Nat} {l : List Nat} (ha : a < 1048576) (hm : l.length < 65536) (hl : WL l) : WL (encW gn a l) := fun x hx => by
 unfold encW at hx
 rcases List.mem_append.1 hx with h | h
 ·rcases List.mem_cons.1 h with h | h
  ·rw [h]; exact firstW_lt _ _ _ ha hm
  ·exact hl x h
 ·rw [List.mem_singleton] at h; rw [h]; exact moreN0_lt _
theorem entW_WL {gn : Nat} {es : List Pe} (h : ∀ e ∈ es, WL e.2) : WL (entW gn es) := fun x hx => by
 unfold entW at hx
 obtain ⟨e, he, hx⟩ := List.mem_flatMap.1 hx
 split at hx
 ·rename_i hc
  obtain ⟨c1, c2, c3, c4⟩ := canB_iff.1 hc
  exact encW_WL2 (by omega) (by omega) (h e he) x hx
 ·cases hx
theorem encS_WL_md {ops : List Ox} (h : OVs ops) (hr : rightB_rd ops = true) : WL (encS ops) := fun x hx => by
 unfold encS at hx
 rcases List.mem_append.1 hx with h1 | h1
 ·unfold encW_rd at h1
  obtain ⟨o, ho, h2⟩ := List.mem_flatMap.1 h1
  have hw : wrongB o = false := by
   unfold rightB_rd at hr
   rw [Bool.and_eq_true] at hr
   have := hr.2
   rw [Bool.not_eq_true', List.any_eq_false] at this
   exact Bool.eq_false_iff.2 (this o ho)
  obtain ⟨w1, w2, w3, w4⟩ := wrongB_f hw
  simp only [List.mem_cons, List.not_mem_nil, or_false] at h2
  rcases h2 with rfl | rfl
  ·unfold wN wordOp; omega
  ·exact h o ho
 ·rw [List.mem_singleton] at h1; rw [h1]; exact moreN0_lt _
theorem opW_WL {ops : List Ox} (h : OVs ops) : WL (opW ops) := by
 unfold opW
 split
 ·rename_i hr; exact encS_WL_md h hr
 intro x hx; cases hx
theorem itemX_len (N L : Nat) (X : List Nat) (ln st gn : Nat) (es : List Pe) (ops : List Ox) : (itemX N L X ln st gn es ops).length = X.length := by
 unfold itemX
 split
 ·rw [List.length_set, scatN_len]
 split
 ·rw [List.length_set, putL_len]
 rw [List.length_set]
theorem itemX_WL {N L : Nat} {X : List Nat} {ln st gn : Nat} {es : List Pe} {ops : List Ox} (hX : WL X) (he : ∀ e ∈ es, WL e.2) (ho : OVs ops) : WL (itemX N L X ln st gn es ops) := by
 unfold itemX
 split
 ·exact (scatN_WL hX (entW_WL he) _).setN _ _ (mkW_lt _ _ _ (by omega))
 split
 ·exact (putL_WL hX (opW_WL ho)).setN _ _ (mkW_lt _ _ _ (by omega))
 exact hX.setN _ _ (mkW_lt _ _ _ (by omega))
theorem gv_geo (p : Gv) : gOk (gvN p : Nat) (gvL p : Nat) = true ∧ gN (gvN p : Nat) (gvL p : Nat) = (gvG p : Nat) ∧ gNat (gvN p) (gvL p) = gvG p ∧ 1 ≤ gvL p ∧ gvL p ≤ 3 ∧ 1 ≤ gvG p ∧ gvG p ≤ 8 := by
 have h1 : 1 ≤ gvL p ∧ gvL p ≤ 3 := by unfold gvL; omega
 have h2 : 1 ≤ gvG p ∧ gvG p ≤ 8 := by unfold gvG; omega
 have hN : gvN p = 10 + 73 * gvL p + 33 * gvG p := rfl
 have h3 : gN (gvN p : Nat) (gvL p : Nat) = (gvG p : Nat) := by unfold gN; rw [hN]; omega
 refine ⟨decide_eq_true (by omega), h3, ?_, h1.1, h1.2, h2.1, h2.2⟩
 unfold gNat
 rw [h3]
 rfl
theorem make0_len (p : Gv) : (make0 p).length = gvN p := by unfold make0; rw [putL_len, List.length_set, List.length_set, putL_len, List.length_replicate]
theorem make1_len (p : Gv) : (make1 p).length = gvN p := by unfold make1; split; exact make0_len p; rw [fillK_len, make0_len]
theorem foldl_len {α : Type} {f : List Nat → α → List Nat} (hf : ∀ X a, (f X a).length = X.length) : ∀ (l : List α) (X : List Nat), (l.foldl f X).length = X.length
 | [], _ => rfl
 | a :: l, X => by rw [List.foldl_cons, foldl_len hf l, hf]
theorem make2_len (p : Gv) : (make2 p).length = gvN p := by unfold make2; rw [foldl_len (f := itemS (gvN p) (gvL p)) (fun X a => itemX_len _ _ X _ _ _ _ _), make1_len]
theorem make3_len (p : Gv) : (make3 p).length = gvN p := by unfold make3; rw [foldl_len (f := spoilS) (fun X a => List.length_set), make2_len]
theorem makeL_len (p : Gv) : (makeL p).length = gvN p := by unfold makeL; split; rw [List.length_set, make3_len]; exact make3_len p
theorem foldl_WL {α : Type} {f : List Nat → α → List Nat} : ∀ (l : List α) (X : List Nat), (∀ X, WL X → ∀ a ∈ l, WL (f X a)) → WL X → WL (l.foldl f X)
 | [], _, _, h => h
 | a :: l, X, hf, h => by
   rw [List.foldl_cons]
   exact foldl_WL l _ (fun X hX b hb => hf X hX b (List.mem_cons_of_mem _ hb)) (hf X h a (List.mem_cons_self))
theorem rightT_WL15 {t : List Nat} (h : rightT t = true) : WL t := fun x hx => by
 unfold rightT at h
 rw [Bool.and_eq_true] at h
 have := okN_t (List.all_eq_true.1 h.1 x hx)
 unfold RightN at this
 omega
theorem headW_WL15 (W L G : Nat) (h1 : W < 18446744073709551616) (h2 : L < 18446744073709551616) (h3 : G < 18446744073709551616) : WL (headW W L G) := fun x hx => by
 unfold headW headL at hx
 simp only [List.cons_append, List.nil_append, List.mem_cons, List.not_mem_nil, or_false] at hx
 have := moreN0_lt [6076272092419149644, 1, W, L, G, 0, 0]
 rcases hx with rfl | rfl | rfl | rfl | rfl | rfl | rfl | rfl <;> first | assumption | decide
theorem make0_WL {p : Gv} (h : GvB p) (ht : rightT (madeT p.tiles (gvG p)) = true) : WL (make0 p) := by
 unfold make0
 have hg := gv_geo p
 have hz : WL (List.replicate (gvN p) 0) := fun x hx => by rw [List.eq_of_mem_replicate hx]; decide
 refine putL_WL (((putL_WL hz (headW_WL15 _ _ _ (by unfold gvN; omega) (by omega) (by omega))).setN _ _ h.r).setN _ _ h.e) (rightT_WL15 ht)
theorem make1_WL {p : Gv} (h : GvB p) (ht : rightT (madeT p.tiles (gvG p)) = true) : WL (make1 p) := by
 unfold make1
 split
 ·exact make0_WL h ht
 exact fillK_WL (make0_WL h ht) h.f _
theorem itemS_WL {p : Gv} (h : GvB p) (X : List Nat) (hX : WL X) (x : Itm) (hx : x ∈ p.items) : WL (itemS (gvN p) (gvL p) X x) := itemX_WL hX (h.i x hx).2.2.2.1 (h.i x hx).2.2.2.2
theorem make2_WL {p : Gv} (h : GvB p) (ht : rightT (madeT p.tiles (gvG p)) = true) : WL (make2 p) := foldl_WL _ _ (fun X hX x hx => itemS_WL h X hX x hx) (make1_WL h ht)
theorem make3_WL {p : Gv} (h : GvB p) (ht : rightT (madeT p.tiles (gvG p)) = true) : WL (make3 p) := foldl_WL _ _ (fun X hX s hs => hX.setN _ _ (h.s s hs).2) (make2_WL h ht)
theorem makeL_WL {p : Gv} (h : GvB p) (ht : rightT (madeT p.tiles (gvG p)) = true) : WL (makeL p) := by
 unfold makeL
 split
 ·exact (make3_WL h ht).setN _ _ (moreN0_lt _)
 exact make3_WL h ht
end Go.Proofs.YtkkbngcgphlikaaGreatDoor
end
section
namespace Go.Proofs.YtkkbngcgphlikaaGreatDoor
open Go.RowKit Go.ChangeShapes Go.WideShapes Go.Deep
theorem refEnc_own (v : Value) (l : List Ox) (w : World) (hv : OPL w v l) (ho : OVs l) (hr : rightB_rd l = true) :
 Calls Tryz.prog 83 #[v] w fun e w' => ∃ v', e = .returned (.tuple #[v', .int .i64 0]) ∧ OwnU w' w.heap.size v' (encS l) ∧ Below w.heap.size w w' := by
 obtain ⟨hl19, hall⟩ := rightB_t hr
 have hW := lh (fun k (hk : k < l.length) => show wrongB (l.getD k default) = false from hall _ (by rw [List.getD_eq_getElem?_getD, List.getElem?_eq_getElem (by omega)]; exact List.getElem_mem _))
 have hOf := lh (fun v' w1 (h : OwnU w1 w.heap.size v' (encW_rd l)) => refOf_any v' (encW_rd l) w1 (encW_WL hall ho) (by rw [encW_len]; omega) h.kl.sl)
 have hEs := lh (show encW_rd l ++ [moreN 0 (encW_rd l)] = encS l from rfl)
 have hmn := moreN_lt 0 (encW_rd l)
 clear hr hall
 obtain ⟨n, hn⟩ : ∃ n, l.length = n := ⟨_, rfl⟩
 obtain ⟨A, cap, rfl, hC⟩ := hv.form hn
 have hS := lh (fun k (hk : k < n) => show encW_rd (l.take (k + 1)) = encW_rd (l.take k) ++ [wN (l.getD k default), (l.getD k default).2.2] from encW_take l k (by omega))
 have hE := lh (show encW_rd (l.take n) = encW_rd l from by rw [List.take_of_length_le (by omega)])
 have hZ := lh (show encW_rd (l.take 0) = [] from by simp [encW_rd])
 have hLn := lh (fun k (hk : k ≤ n) => show (encW_rd (l.take k)).length = 2 * k from by rw [encW_len, List.length_take]; omega)
 have hV := lh (fun k (hk : k < n) => ho.at k (by omega))
 replace hC := lh hC
 have hn9 : n ≤ 19 := by omega
 have h' : (n : Int) ≤ 19 := by omega
 replace hn := lh hn
 clear hv ho hl19
 go_enter Tryz.func83, Tryz.ntmps83
 go_wp2_with fail
 go_loopw [5, 4] (fun i wd wr => ∃ (k : Nat) (J : List Nat), k ≤ n ∧ i = .int .i64 k ∧ Hid (J = encW_rd (l.take k)) ∧ OwnU wr w.heap.size wd J ∧ Below w.heap.size w wr) (fun i _ _ => n + 1 - (intOf i).toNat)
 case atStart => exact ⟨0, [], Nat.zero_le _, rfl, lh hZ.out.symm, World.ownsRow_nil _ _ _ _, Below.refl _ _⟩
 obtain ⟨k, J, hk, rfl, hJ, hown, hB⟩ := hrel
 by_cases hlt : k < n
 rotate_left
 ·have hkn : k = n := by omega
  obtain rfl := hkn
  have hR : J = encW_rd l := by rw [hJ.out, hE.out]
  subst hR
  clear hJ
  go_wp2_with fail
  refine (hOf.out _ _ hown).mono ?_
  rintro e w9 ⟨rfl, hb9⟩
  have ho9 := hown.keep hb9
  have hB9 := hB.trans (hb9.mono hB.size)
  generalize hmm : moreN 0 (encW_rd l) = m at *
  have f32 : IntKind.u64.wrap (m : Int) = (m : Int) := by rw [IntKind.wrap_u64]; omega
  obtain ⟨v', w4, hrun, ho4, hb4⟩ := appW (ho9.keep (bZ _ (.cells #[.int .u64 (m : Nat)] (40 : Nat)))) (KL.one w9 m (40 : Nat)) (by have := hB9.size; simp; omega) (by have := hLn.out k (Nat.le_refl _); rw [hE.out] at this; omega) (by simp)
  rw [hEs.out] at ho4
  have hBN := (hB9.alloc hB9.size (.cells #[.int .u64 (m : Nat)] (40 : Nat))).trans hb4
  have hs4 := ho4
  clear hb4 ho4 ho9 hown hB hB9 hb9
  replace hmm := lh hmm
  go_wp2_with (at_builtin; refine wpList_append_run rfl _ _ 25 rfl _ _ _ rfl rfl hrun ?_)
  go_ret2
  exact ⟨_, rfl, hs4, hBN⟩
 obtain ⟨g, off, rfl, hcap, hgw, hg, c0, c1, c2⟩ := hC.out wr k hB hlt
 have hlt' : (k : Int) < (n : Int) := by omega
 have hs1 := hS.out k hlt
 have hJl : J.length = 2 * k := by rw [hJ.out]; exact hLn.out k hk
 have hov := hV.out k hlt
 rw [← hJ.out] at hs1
 have hw1 := hW.out k (by have := hn.out; omega)
 generalize l.getD k default = o at *
 have hCa := fun w => can_any_rd o w
 rw [hw1] at hCa
 simp only [Bool.not_false] at hCa
 obtain ⟨p1, p2, p3, p4⟩ := wrongB_f hw1
 have hWd := wN_eq hw1
 unfold wordOp at hWd
 generalize wN o = wd at *
 obtain ⟨x, a, y⟩ := o
 unfold opV at hCa
 simp only [] at c0 c1 c2 hov hs1 hCa p1 p2 p3 p4 hWd
 replace hCa := lh hCa
 replace hs1 := lh hs1
 have fa : IntKind.u64.wrap a = a := by rw [IntKind.wrap_u64]; omega
 have fk : IntKind.u64.wrap x = x := by rw [IntKind.wrap_u64]; omega
 have fm : IntKind.u64.wrap (4 * a) = 4 * a := by rw [IntKind.wrap_u64]; omega
 have fs : IntKind.u64.wrap (4 * a + x) = (wd : Int) := by rw [IntKind.wrap_u64, ← hWd]; omega
 replace hWd := lh hWd
 clear hw1
 go_wp2_with fail
 refine (hCa.out _).mono ?_
 rintro e W ⟨rfl, hbC⟩
 have b0 := cellK c0 hbC
 have b1 := cellK c1 hbC
 have b2 := cellK c2 hbC
 have hownW := hown.keep hbC
 have hBW := hB.trans (hbC.mono hB.size)
 clear hown hB hbC
 go_wp2_with fail
 refine wp_region_tail (S := (fun w' => w'.cell? ⟨g, off + k * 3, none⟩ = some (.int .i64 x) ∧ w'.cell? ⟨g, off + k * 3 + 1, none⟩ = some (.int .i64 a) ∧ w'.cell? ⟨g, off + k * 3 + 2, none⟩ = some (.int .u64 (y : Nat)) ∧ Below W.heap.size W w')) (n := 21) (by kernel_rfl) ?_ (fun hHeld hInv => ?_) (by decide)
 ·(try dsimp only)
  (first | assumption | (exact ⟨b0, b1, b2, (Below.refl _ _).drew⟩) | ((try go_split_ands); exact ⟨cellK (by assumption) hb, cellK (by assumption) hb, cellK (by assumption) hb, Below.trans (by assumption) (hb.mono (Below.size (by assumption)))⟩))
 refine takeVS 0 hInv ?_; clear hInv; intro hInv
 refine takeVS 1 hInv ?_; clear hInv; intro hInv
 refine takeVS 2 hInv ?_; clear hInv; intro hInv
 refine takeVS 3 hInv ?_; clear hInv; intro hInv
 refine takeVS 4 hInv ?_; clear hInv; intro hInv
 refine takeVS 5 hInv ?_; clear hInv; intro hInv
 refine takeVS 6 hInv ?_; clear hInv; intro hInv
 refine takeVS 7 hInv ?_; clear hInv; intro hInv
 refine takeVS 8 hInv ?_; clear hInv; intro hInv
 refine takeVS 9 hInv ?_; clear hInv; intro hInv
 refine takeVS 10 hInv ?_; clear hInv; intro hInv
 refine takeVS 11 hInv ?_; clear hInv; intro hInv
 refine takeVS 12 hInv ?_; clear hInv; intro hInv
 refine takeVS 13 hInv ?_; clear hInv; intro hInv
 refine takeVS 14 hInv ?_; clear hInv; intro hInv
 refine takeVS 15 hInv ?_; clear hInv; intro hInv
 refine takeVS 16 hInv ?_; clear hInv; intro hInv
 refine takeVS 17 hInv ?_; clear hInv; intro hInv
 refine takeVS 18 hInv ?_; clear hInv; intro hInv
 refine takeVS 19 hInv ?_; clear hInv; intro hInv
 refine oneS 20 hInv (by decide) rfl (by kernel_rfl) (fun K hK => ?_)
 go_simp
 have hb := bZ W.drew (.cells #[.int .u64 (wd : Nat), .int .u64 (y : Nat)] (40 : Nat))
 refine hK.out _ _ ?_ (fun hHeld2 hInv2 => ?_)
 ·(try dsimp only)
  (first | assumption | (exact ⟨b0, b1, b2, (Below.refl _ _).drew⟩) | ((try go_split_ands); exact ⟨cellK (by assumption) hb, cellK (by assumption) hb, cellK (by assumption) hb, Below.trans (by assumption) (hb.mono (Below.size (by assumption)))⟩))
 clear hK K hHeld hInv
 have hHeld := hHeld2
 have hInv := hInv2
 clear hHeld2 hInv2
 try simp only [Act.put,sA,sB,sC] at hInv ⊢
 refine lastS 21 rfl (by decide) (by kernel_rfl) (fun K hK => ?_)
 obtain ⟨_, _, _, hbL⟩ := id hHeld
 have hB8 := hBW.trans (hbL.mono hBW.size)
 obtain ⟨v', w4, hrun, ho, hb4⟩ := appW (hownW.keep hbL) (KL.two W.drew wd y (40 : Nat)) hB8.size (by omega) (by simp)
 rw [hs1.out.symm] at ho
 obtain ⟨J2, hJ2⟩ : ∃ J2, J2 = encW_rd (l.take (k + 1)) := ⟨_, rfl⟩
 rw [← hJ2] at ho
 replace hJ2 := lh hJ2
 have hBN := hB8.trans hb4
 clear hHeld hb4 hbL hs1 hownW hBW
 rw [if_pos (by rfl)]
 refine wp_append_run _ _ _ _ rfl _ _ _ rfl rfl hrun ?_
 refine hK.out _ _ ?_
 clear hK K
 try simp only [Act.put,sA,sB,sC]
 refine lastS 22 rfl (by decide) (by kernel_rfl) (fun K hK => ?_)
 go_simp
 refine hK.out _ _ ?_
 clear hK K
 try simp only [Act.put,sA,sB,sC]
 refine wpAnyS_done (by kernel_rfl) ?_ _
 clear hInv hrun hB8
 go_wp2_with fail
 go_roundw
 case rel => exact ⟨k + 1, _, by omega, by go_num, hJ2, ho, hBN⟩
 simp [intOf]; omega
theorem KL.chg {K : IntKind} {S : Nat → Prop} {w w1 : World} {v : Value} {l : List Nat} (h : KL K w v l) (hc : Chg S w w1) (hn : ∀ g o m c, v = .slice (some ⟨g, o, none⟩) m c → 0 < l.length → ¬ S g) : KL K w1 v l := by
 obtain ⟨A, cap, hv, h⟩ := h
 refine ⟨A, cap, hv, fun hl => ?_⟩
 obtain ⟨g, off, rfl, hg1, hcp, hi⟩ := h hl
 refine ⟨g, off, rfl, Nat.lt_of_lt_of_le hg1 hc.size, hcp, fun i hil => ?_⟩
 rw [← hi i hil]
 exact World.cell?_of_block (hc.block g hg1 (hn g off _ _ hv hl))
theorem zeros_ne {w : World} {base B N g o x : Nat} (h : OwnU w base (.slice (some ⟨B, 0, none⟩) N N) (List.replicate N 0)) (hc : w.cell? ⟨g, o, none⟩ = some (.int .u64 (x : Nat))) (hx : x ≠ 0) : g ≠ B := by
 rintro rfl
 have ho : o < N := by
  rcases h.2 with ⟨q, _⟩ | ⟨g', cap', cur, q, _, hg, _, _, hs, _⟩
  ·cases q
  simp only [Value.slice.injEq, Option.some.injEq, Addr.mk.injEq, and_true] at q
  obtain ⟨rfl, -, rfl⟩ := q
  unfold World.cell? at hc
  rw [hg] at hc
  simp only [] at hc
  have := (Array.getElem?_eq_some_iff.1 hc).1
  omega
 have h2 := (h.cell (i := o) List.length_replicate ho).1
 rw [h2] at hc
 rw [List.getD_eq_getElem?_getD, List.getElem?_replicate, if_pos ho] at hc
 simp at hc
 omega
end Go.Proofs.YtkkbngcgphlikaaGreatDoor
end
