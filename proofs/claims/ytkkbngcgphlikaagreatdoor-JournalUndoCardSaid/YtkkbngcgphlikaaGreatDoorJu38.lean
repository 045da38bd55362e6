/-
  Part of the proof of JournalUndo.
-/
import Derived.Test.YtkkbngcgphlikaaGreatDoorJu36
import Derived.Test.YtkkbngcgphlikaaGreatDoorJu37
import Derived.Test.YtkkbngcgphlikaaGreatDoorRows
import Derived.Test.YtkkbngcgphlikaaGreatDoorJu0
set_option linter.unusedVariables false
set_option linter.unusedSimpArgs false
section
namespace Go.Proofs.YtkkbngcgphlikaaGreatDoor
open Go.Lib Go.RowKit Go.ChangeShapes Go.WideShapes Go.Deep Go.Shelf
def fillK (X F : List Nat) (a : Nat) : Nat → List Nat
 | 0 => X
 | k + 1 => (fillK X F a k).set (a + k) (F.getD ((a + k) % F.length) 0)
def entW (gn : Nat) (es : List Pe) : List Nat := es.flatMap fun x => if canB x.1 x.2.length = true then encW gn x.1.toNat x.2 else []
def opW (ops : List Ox) : List Nat := if rightB_rd ops = true then encS ops else []
def mkW (s c g : Nat) : Nat := if okB (s : Nat) (c : Nat) (g : Nat) = true then s + c * 4 + g * 65536 else 0
def itemX (N L : Nat) (X : List Nat) (ln st gn : Nat) (es : List Pe) (ops : List Ox) : List Nat :=
 if st = 1 then (scatN X (placesL (logP X (N : Nat) (L : Nat) (ln : Nat))) (entW gn es) (min (placesL (logP X (N : Nat) (L : Nat) (ln : Nat))).length (entW gn es).length)).set (10 + ln) (mkW 1 (entW gn es).length gn)
 else if st = 2 then (putL X (10 + L + ln * 72 + 32) (opW ops)).set (10 + ln) (mkW 2 (min ops.length 19) gn)
 else X.set (10 + ln) (mkW 0 0 gn)
def itemS (N L : Nat) (X : List Nat) (x : Itm) : List Nat := itemX N L X (x.1 % L) (x.2.1 % 3) (x.2.2.1 % 281474976710656) x.2.2.2.1 x.2.2.2.2
def spoilS (X : List Nat) (s : Nat × Nat) : List Nat := X.set (s.1 % X.length) s.2
def make0 (p : Gv) : List Nat := putL (((putL (List.replicate (gvN p) 0) 0 (headW (gvN p) (gvL p) (gvG p))).set 8 p.root).set 9 p.epoch) (10 + 73 * gvL p) (madeT p.tiles (gvG p))
def make1 (p : Gv) : List Nat := if p.fill.length = 0 then make0 p else fillK (make0 p) p.fill (10 + 73 * gvL p + gvG p) (32 * gvG p)
def make2 (p : Gv) : List Nat := p.items.foldl (itemS (gvN p) (gvL p)) (make1 p)
def make3 (p : Gv) : List Nat := p.spoil.foldl spoilS (make2 p)
def makeL (p : Gv) : List Nat := if 0 < p.spoil.length ∧ (p.spoil.getD 0 default).1 % 2 = 0 then (make3 p).set 7 (moreN 0 ((make3 p).take 7)) else make3 p
theorem fillK_len (X F : List Nat) (a : Nat) : ∀ k, (fillK X F a k).length = X.length
 | 0 => rfl
 | k + 1 => by rw [fillK, List.length_set, fillK_len X F a k]
theorem fillK_WL {X F : List Nat} {a : Nat} (hX : WL X) (hF : WL F) : ∀ k, WL (fillK X F a k)
 | 0 => hX
 | k + 1 => (fillK_WL hX hF k).setN _ _ (hF.getN _)
theorem scatN_WL {X : List Nat} {P : List Int} {ws : List Nat} (hX : WL X) (hw : WL ws) : ∀ k, WL (scatN X P ws k)
 | 0 => hX
 | k + 1 => by
   unfold scatN
   split
   ·exact (scatN_WL hX hw k).setN _ _ (hw.getN k)
   ·exact scatN_WL hX hw k
theorem mkW_lt (s c g : Nat) (hs : s ≤ 2) : mkW s c g < 18446744073709551616 := by
 unfold mkW
 split
 ·rename_i h
  unfold okB at h
  have := of_decide_eq_true h
  omega
 decide
theorem moreN0_lt (l : List Nat) : moreN 0 l < 18446744073709551616 := by unfold moreN; omega
theorem encW_WL2 {gn a : Nat} {l : List Nat} (ha : a < 1048576) (hm : l.length < 65536) (hl : WL l) : WL (encW gn a l) := fun x hx => by
 unfold encW at hx
 rcases List.mem_append.1 hx with h | h
 ·rcases List.mem_cons.1 h with h | h
  ·rw [h]; exact firstW_lt _ _ _ ha hm
  ·exact hl x h
 ·rw [List.mem_singleton] at h; rw [h]; exact moreN0_lt _
theorem entW_WL {gn : Nat} {es : List Pe} (h : ∀ e ∈ es, WL e.2) : WL (entW gn es) := fun x hx => by
 unfold entW at hx
 obtain ⟨e, he, hx⟩ := List.mem_flatMap.1 hx
 split at hx
 ·rename_i hc
  obtain ⟨c1, c2, c3, c4⟩ := canB_iff.1 hc
  exact encW_WL2 (by omega) (by omega) (h e he) x hx
 ·cases hx
theorem encS_WL_md {ops : List Ox} (h : OVs ops) (hr : rightB_rd ops = true) : WL (encS ops) := fun x hx => by
 unfold encS at hx
 rcases List.mem_append.1 hx with h1 | h1
 ·unfold encW_rd at h1
  obtain ⟨o, ho, h2⟩ := List.mem_flatMap.1 h1
  have hw : wrongB o = false := by
   unfold rightB_rd at hr
   rw [Bool.and_eq_true] at hr
   have := hr.2
   rw [Bool.not_eq_true', List.any_eq_false] at this
   exact Bool.eq_false_iff.2 (this o ho)
  obtain ⟨w1, w2, w3, w4⟩ := wrongB_f hw
  simp only [List.mem_cons, List.not_mem_nil, or_false] at h2
  rcases h2 with rfl | rfl
  ·unfold wN wordOp; omega
  ·exact h o ho
 ·rw [List.mem_singleton] at h1; rw [h1]; exact moreN0_lt _
theorem opW_WL {ops : List Ox} (h : OVs ops) : WL (opW ops) := by
 unfold opW
 split
 ·rename_i hr; exact encS_WL_md h hr
 intro x hx; cases hx
theorem itemX_len (N L : Nat) (X : List Nat) (ln st gn : Nat) (es : List Pe) (ops : List Ox) : (itemX N L X ln st gn es ops).length = X.length := by
 unfold itemX
 split
 ·rw [List.length_set, scatN_len]
 split
 ·rw [List.length_set, putL_len]
 rw [List.length_set]
theorem itemX_WL {N L : Nat} {X : List Nat} {ln st gn : Nat} {es : List Pe} {ops : List Ox} (hX : WL X) (he : ∀ e ∈ es, WL e.2) (ho : OVs ops) : WL (itemX N L X ln st gn es ops) := by
 unfold itemX
 split
 ·exact (scatN_WL hX (entW_WL he) _).setN _ _ (mkW_lt _ _ _ (by omega))
 split
 ·exact (putL_WL hX (opW_WL ho)).setN _ _ (mkW_lt _ _ _ (by omega))
 exact hX.setN _ _ (mkW_lt _ _ _ (by omega))
theorem gv_geo (p : Gv) : gOk (gvN p : Nat) (gvL p : Nat) = true ∧ gN (gvN p : Nat) (gvL p : Nat) = (gvG p : Nat) ∧ gNat (gvN p) (gvL p) = gvG p ∧ 1 ≤ gvL p ∧ gvL p ≤ 3 ∧ 1 ≤ gvG p ∧ gvG p ≤ 8 := by
 have h1 : 1 ≤ gvL p ∧ gvL p ≤ 3 := by unfold gvL; omega
 have h2 : 1 ≤ gvG p ∧ gvG p ≤ 8 := by unfold gvG; omega
 have hN : gvN p = 10 + 73 * gvL p + 33 * gvG p := rfl
 have h3 : gN (gvN p : Nat) (gvL p : Nat) = (gvG p : Nat) := by unfold gN; rw [hN]; omega
 refine ⟨decide_eq_true (by omega), h3, ?_, h1.1, h1.2, h2.1, h2.2⟩
 unfold gNat
 rw [h3]
 rfl
theorem make0_len (p : Gv) : (make0 p).length = gvN p := by unfold make0; rw [putL_len, List.length_set, List.length_set, putL_len, List.length_replicate]
theorem make1_len (p : Gv) : (make1 p).length = gvN p := by unfold make1; split; exact make0_len p; rw [fillK_len, make0_len]
theorem foldl_len {α : Type} {f : List Nat → α → List Nat} (hf : ∀ X a, (f X a).length = X.length) : ∀ (l : List α) (X : List Nat), (l.foldl f X).length = X.length
 | [], _ => rfl
 | a :: l, X => by rw [List.foldl_cons, foldl_len hf l, hf]
theorem make2_len (p : Gv) : (make2 p).length = gvN p := by unfold make2; rw [foldl_len (f := itemS (gvN p) (gvL p)) (fun X a => itemX_len _ _ X _ _ _ _ _), make1_len]
theorem make3_len (p : Gv) : (make3 p).length = gvN p := by unfold make3; rw [foldl_len (f := spoilS) (fun X a => List.length_set), make2_len]
theorem makeL_len (p : Gv) : (makeL p).length = gvN p := by unfold makeL; split; rw [List.length_set, make3_len]; exact make3_len p
theorem foldl_WL {α : Type} {f : List Nat → α → List Nat} : ∀ (l : List α) (X : List Nat), (∀ X, WL X → ∀ a ∈ l, WL (f X a)) → WL X → WL (l.foldl f X)
 | [], _, _, h => h
 | a :: l, X, hf, h => by
   rw [List.foldl_cons]
   exact foldl_WL l _ (fun X hX b hb => hf X hX b (List.mem_cons_of_mem _ hb)) (hf X h a (List.mem_cons_self))
theorem rightT_WL15 {t : List Nat} (h : rightT t = true) : WL t := fun x hx => by
 unfold rightT at h
 rw [Bool.and_eq_true] at h
 have := okN_t (List.all_eq_true.1 h.1 x hx)
 unfold RightN at this
 omega
theorem headW_WL15 (W L G : Nat) (h1 : W < 18446744073709551616) (h2 : L < 18446744073709551616) (h3 : G < 18446744073709551616) : WL (headW W L G) := fun x hx => by
 unfold headW headL at hx
 simp only [List.cons_append, List.nil_append, List.mem_cons, List.not_mem_nil, or_false] at hx
 have := moreN0_lt [6076272092419149644, 1, W, L, G, 0, 0]
 rcases hx with rfl | rfl | rfl | rfl | rfl | rfl | rfl | rfl <;> first | assumption | decide
theorem make0_WL {p : Gv} (h : GvB p) (ht : rightT (madeT p.tiles (gvG p)) = true) : WL (make0 p) := by
 unfold make0
 have hg := gv_geo p
 have hz : WL (List.replicate (gvN p) 0) := fun x hx => by rw [List.eq_of_mem_replicate hx]; decide
 refine putL_WL (((putL_WL hz (headW_WL15 _ _ _ (by unfold gvN; omega) (by omega) (by omega))).setN _ _ h.r).setN _ _ h.e) (rightT_WL15 ht)
theorem make1_WL {p : Gv} (h : GvB p) (ht : rightT (madeT p.tiles (gvG p)) = true) : WL (make1 p) := by
 unfold make1
 split
 ·exact make0_WL h ht
 exact fillK_WL (make0_WL h ht) h.f _
theorem itemS_WL {p : Gv} (h : GvB p) (X : List Nat) (hX : WL X) (x : Itm) (hx : x ∈ p.items) : WL (itemS (gvN p) (gvL p) X x) := itemX_WL hX (h.i x hx).2.2.2.1 (h.i x hx).2.2.2.2
theorem make2_WL {p : Gv} (h : GvB p) (ht : rightT (madeT p.tiles (gvG p)) = true) : WL (make2 p) := foldl_WL _ _ (fun X hX x hx => itemS_WL h X hX x hx) (make1_WL h ht)
theorem make3_WL {p : Gv} (h : GvB p) (ht : rightT (madeT p.tiles (gvG p)) = true) : WL (make3 p) := foldl_WL _ _ (fun X hX s hs => hX.setN _ _ (h.s s hs).2) (make2_WL h ht)
theorem makeL_WL {p : Gv} (h : GvB p) (ht : rightT (madeT p.tiles (gvG p)) = true) : WL (makeL p) := by
 unfold makeL
 split
 ·exact (make3_WL h ht).setN _ _ (moreN0_lt _)
 exact make3_WL h ht
end Go.Proofs.YtkkbngcgphlikaaGreatDoor
end
section
namespace Go.Proofs.YtkkbngcgphlikaaGreatDoor
open Go.RowKit Go.ChangeShapes Go.WideShapes Go.Deep
theorem KL.chg {K : IntKind} {S : Nat → Prop} {w w1 : World} {v : Value} {l : List Nat} (h : KL K w v l) (hc : Chg S w w1) (hn : ∀ g o m c, v = .slice (some ⟨g, o, none⟩) m c → 0 < l.length → ¬ S g) : KL K w1 v l := by
 obtain ⟨A, cap, hv, h⟩ := h
 refine ⟨A, cap, hv, fun hl => ?_⟩
 obtain ⟨g, off, rfl, hg1, hcp, hi⟩ := h hl
 refine ⟨g, off, rfl, Nat.lt_of_lt_of_le hg1 hc.size, hcp, fun i hil => ?_⟩
 rw [← hi i hil]
 exact World.cell?_of_block (hc.block g hg1 (hn g off _ _ hv hl))
theorem zeros_ne {w : World} {base B N g o x : Nat} (h : OwnU w base (.slice (some ⟨B, 0, none⟩) N N) (List.replicate N 0)) (hc : w.cell? ⟨g, o, none⟩ = some (.int .u64 (x : Nat))) (hx : x ≠ 0) : g ≠ B := by
 rintro rfl
 have ho : o < N := by
  rcases h.2 with ⟨q, _⟩ | ⟨g', cap', cur, q, _, hg, _, _, hs, _⟩
  ·cases q
  simp only [Value.slice.injEq, Option.some.injEq, Addr.mk.injEq, and_true] at q
  obtain ⟨rfl, -, rfl⟩ := q
  unfold World.cell? at hc
  rw [hg] at hc
  simp only [] at hc
  have := (Array.getElem?_eq_some_iff.1 hc).1
  omega
 have h2 := (h.cell (i := o) List.length_replicate ho).1
 rw [h2] at hc
 rw [List.getD_eq_getElem?_getD, List.getElem?_replicate, if_pos ho] at hc
 simp at hc
 omega
end Go.Proofs.YtkkbngcgphlikaaGreatDoor
end
