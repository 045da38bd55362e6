/-
  Part of the proof of JournalSaves.
-/
import Derived.Test.YtkkbngcgphlikaaGreatDoorJv3
import Derived.Test.YtkkbngcgphlikaaGreatDoorJv31
import Derived.Test.YtkkbngcgphlikaaGreatDoorJv0
set_option maxRecDepth 10000
set_option maxHeartbeats 4000000
set_option linter.unusedVariables false
set_option linter.unusedSimpArgs false
section
namespace Go.Proofs.YtkkbngcgphlikaaGreatDoor
open Go.RowKit Go.ChangeShapes Go.WideShapes Go.Deep Go.Maps Go.Sort Go.Shelf
attribute [local go_sem] Oper.semAt_some
theorem dirty_in (n : Nat) (hn : 3 ≤ n) (B : Nat) (F : Nat → Prop) (s : Dv) (w : World) (h : DvAt w B F s) (hg : GoodD s) :
 CallsIn Fence.wide n Tryz.prog 44 #[.pointer (some ⟨B, 0, none⟩)] w fun e w' => ∃ v, e = .returned v ∧ OwnE 3 1 iE w' w.heap.size v (keysL s.L.length s.c) ∧ Below w.heap.size w w' := by
 have hn1 : 1 ≤ n := by omega
 obtain ⟨C, M, v0, hR⟩ := h
 obtain ⟨⟨c0, c1, c2, c3, c4, c5⟩, fz⟩ := hR.cells
 have hKs := lh (keysL_keys s.L.length s.c hg.cin)
 have hKl := keysL_len s.L.length s.c
 have hlen := hg.len
 have hsn := lh hg.n
 generalize keysL s.L.length s.c = K0 at *
 have hK2 := keysOf_map s.c K0 hKs.out
 generalize keysOf s.c K0 hKs.out = K at *
 subst hK2
 rw [List.length_map] at hKl
 have hCm := lh hR.cach
 have hCl := lh (hR.lt _ hR.fC)
 have hBlt := hR.lt _ hR.fB
 clear hR fz c0 c2 c3 c4 c5 hg
 refine callsIn_of_wp_marks Tryz.func44 rfl trivial ?_ rfl
 simp only [Tryz.ntmps44, List.size_toArray, List.length_cons, List.length_nil, Nat.reduceAdd, Nat.reduceSub, Array.replicate_succ, Array.replicate_zero, List.push_toArray, List.append_toArray, List.nil_append, List.cons_append]
 gi_wp2
 refine ⟨trivial, (places_in_pm (n - 1) C _).mono ?_⟩
 rintro e w' ⟨rfl, rfl⟩
 gi_wp2
 have bO := (Boxed.new w 84 (.slice none 0 0)).alloc (.cells #[.map (some C)] 101)
 have bM := Boxed.new (w.alloc (.cells #[.slice none 0 0] 84)) 101 (.map (some C))
 have hB0 : Below w.heap.size w ((w.alloc (.cells #[.slice none 0 0] 84)).alloc (.cells #[.map (some C)] 101)) := (bZ w _).alloc (by simp) _
 have hsz : ((w.alloc (.cells #[.slice none 0 0] 84)).alloc (.cells #[.map (some C)] 101)).heap.size = w.heap.size + 2 := by simp
 simp only [World.size_alloc] at bO bM
 obtain ⟨W0, hW0⟩ : ∃ W0, W0 = (((w.alloc (.cells #[.slice none 0 0] 84)).alloc (.cells #[.map (some C)] 101)) : World) := ⟨_, rfl⟩
 rw [← hW0] at bO bM hB0 hsz ⊢
 clear hW0
 have hCm0 := hCm.out.keep hB0
 refine wpIn_rangeFunc_ownG rfl hn1 (gf := 151) (lb := #[.pointer (some ⟨w.heap.size + 1, 0, none⟩)]) rfl trivial (enters_of Tryz.func151 (by kernel_rfl) rfl)
  (pl_stops_pm (n - 1) (by omega) w.heap.size (w.heap.size + 1) (w.heap.size + 2) C s.n s.c K hKs.out W0 (by omega) (ownLt_of bO (by simp [Value.ownBlock])) bM.cell hCm0 (by have := hsn.out; omega) (by omega))
  kq_t (kq_b (by omega)) (Below.refl _ _) (fun _ => rfl)
  (fun pre W => (∃ v, Boxed W w.heap.size 84 v ∧ W.ownsRow w.heap.size 3 1 v (pre : List (Key_pm s.c)).length ((pre.map fun y => y.1).flatMap iE) ∧ True) ∧ Below w.heap.size w W)
  (fun _ _ _ => False)
  (OwnFrom.and (Own.from (holdsRow_own w.heap.size w.heap.size 84 3 1 (fun pre : List (Key_pm s.c) => pre.length) (fun pre => (pre.map fun y => y.1).flatMap iE) (fun pre v => True)) _) (ownFrom_below (Nat.le_refl _) (by omega)))
  (fun _ _ _ _ _ hs _ _ => hs)
  ⟨⟨_, bO, World.ownsRow_nil _ _ _ _, trivial⟩, hB0⟩
  (fun y => { tmps := #[.pointer (some ⟨B, 0, none⟩), undef, .slice none 0 0, .pointer (some ⟨w.heap.size, 0, none⟩), .int .i64 y.1, .pointer (some ⟨B, 0, none⟩), .pointer (some ⟨B, 0, none⟩), .pointer (some ⟨B, 1, none⟩), .map (some C), .func (.func 151) #[] #[.pointer (some ⟨w.heap.size + 1, 0, none⟩)], .int .i64 y.1, undef, undef, undef, undef, undef], defers := [] }) ?assign ?body ?done ?stop
 case assign =>
  intro l y W Kc hK
  gi_wp2
  simpa using hK
 case body =>
  rintro l pre y W ⟨⟨v, hv, hrow, _⟩, hB⟩ hlt
  have hc := hv.cell
  have hpl : pre.length ≤ 1000000 := by omega
  have hne := hv.not_row (e := 3) (by decide) hrow
  have hrow' : OwnE 3 1 iE (W.alloc (.cells #[.int .i64 y.1] (3 : Nat))) w.heap.size v (pre.map fun y => y.1) := by
   refine OwnE.alloc ?_ _
   unfold OwnE
   rw [List.length_map]
   exact hrow
  obtain ⟨v', w1, hrun, hown', hgrow, hl2, _⟩ := appE iT_pm hrow' (one_int W y.1) (by have := hB.size; simp; omega) (by rw [List.length_map]; exact hpl) (by simp)
  obtain ⟨g', cap', rfl, _⟩ := hown'.form (by simp)
  unfold OwnE at hown'
  rw [show (pre.map fun y => y.1) ++ [y.1] = (pre ++ [y]).map fun y => y.1 by rw [List.map_append]; rfl, List.length_map] at *
  obtain ⟨hv1, hv2, hr2, hk2, hb2⟩ := hv.appended (by decide) hrow hB.size (Nat.le_refl _) hown' hgrow
  have hkq := kq_body (n₀ := w.heap.size + 2) hv (by omega) hgrow hl2 hne (fun g q => (hown'.lt g q).2)
  have hc1 := hv1.cell
  have hf1 := hv1.frozen
  clear hgrow hrow' hown'
  rw [List.length_append, List.length_singleton] at *
  gi_wp2_with (gi_at_builtin; refine wpListIn_append_run rfl _ _ 84 rfl _ _ _ rfl rfl hrun ?_)
  exact ⟨hk2.from _, hkq, ⟨_, hv2, by rw [List.length_append, List.length_singleton]; exact hr2, trivial⟩, hB.trans hb2⟩
 case done =>
  rintro D ys W hD rfl ⟨⟨v, hv, hrow, _⟩, hB⟩ hK
  have hc := hv.cell
  gi_wp2
  refine ⟨by simp, .inl ⟨_, _, rfl, run_takeDeferred hK, ?_⟩⟩
  exact ⟨_, results_tmp rfl _ _ _, v, rfl, (by unfold OwnE; rw [List.length_map]; exact ownsRow_putObj hrow (.deferred none) hK rfl), hB.trans (belowK_b (w := w) (Nat.le_refl _) W D _ _ (by omega) hK rfl rfl)⟩
 case stop =>
  rintro D c pre W _ _ h _
  exact h.elim
theorem dDirty (B : Nat) (F : Nat → Prop) (s : Dv) (w : World) (h : DvAt w B F s) (hg : GoodD s) :
 Calls Tryz.prog 44 #[.pointer (some ⟨B, 0, none⟩)] w fun e w' => ∃ v, e = .returned v ∧ OwnE 3 1 iE w' w.heap.size v (keysL s.L.length s.c) ∧ Below w.heap.size w w' := callsIn_wide.1 (dirty_in 3 (by omega) B F s w h hg)
end Go.Proofs.YtkkbngcgphlikaaGreatDoor
end
section
namespace Go.Proofs.YtkkbngcgphlikaaGreatDoor
open Go.RowKit Go.ChangeShapes Go.WideShapes Go.Deep Go.Maps Go.Sort Go.Shelf
attribute [local go_sem] Oper.semAt_some
def fenOne (s : Dv) (x : Int) : Dv := { s with L := s.L.set x.toNat ((s.f x).getD 0), c := if (s.c x).getD 0 = (s.f x).getD 0 then delU s.c x else s.c }
def fenceD (s : Dv) : Dv := if doneD s then { (keysL s.L.length s.f).foldl fenOne (stepD s) with f := fun _ => none } else stepD s
theorem fen_same : ∀ (K : List Int) (s : Dv), (K.foldl fenOne s).f = s.f ∧ (K.foldl fenOne s).n = s.n ∧ (K.foldl fenOne s).L.length = s.L.length
 | [], s => ⟨rfl, rfl, rfl⟩
 | x :: K, s => by
   obtain ⟨h1, h2, h3⟩ := fen_same K (fenOne s x)
   rw [List.foldl_cons]
   exact ⟨h1, h2, by rw [h3]; simp [fenOne]⟩
theorem chg_drew (S : Nat → Prop) (w : World) : Chg S w w.drew := Chg.of_below S (Below.refl _ _).drew
theorem chg_put {S : Nat → Prop} (w : World) (D : Nat) (o : Obj) (h : S D) : Chg S w (w.putObj D o) := Chg.of_grown (grownBy_putObj' w D o) (fun k e => by cases e; exact .inl h)
theorem keepsFrom_chg {S : Nat → Prop} {B : Nat} {w w' : World} (h : Chg S w w') (hS : ∀ k, S k → k < B) : KeepsFrom B w w' :=
 ⟨h.size, fun k o hB hk _ => (h.block k (Array.getElem?_eq_some_iff.1 hk).1 (fun q => by have := hS k q; omega)).trans hk⟩
theorem boxed_chg {S : Nat → Prop} {w w' : World} {b : Nat} {t : TypeId} {v : Value} (h : Boxed w b t v) (hc : Chg S w w') (hn : ¬ S b) : Boxed w' b t v := (hc.block b h.lt hn).trans h
theorem ownG_I {α : Type} {B0 : Nat} {Kp : World → World → Prop} {I : List α → World → Prop} {J : World → Prop} {Ix : Code → List α → World → Prop} {xs : List α} {W : World} (h : I xs = J) :
 ownPostG B0 Kp I Ix xs W = ownPostG B0 Kp (fun _ => J) Ix xs W := by
 funext e a W'
 cases e <;> simp only [ownPostG]
 rw [h]
def FenI (x B C M : Nat) (v0 : Value) (F : Nat → Prop) (W0 : World) (s1 : Dv) (pre : List Int) (W : World) : Prop :=
 Boxed W x 44 (.pointer (some ⟨B, 0, none⟩)) ∧ DvR W B C M v0 F (pre.foldl fenOne s1) ∧ Chg F W0 W
theorem FenI.chg {x B C M : Nat} {v0 : Value} {F : Nat → Prop} {W0 : World} {s1 : Dv} {pre : List Int} {W W' : World} {S : Nat → Prop} (h : FenI x B C M v0 F W0 s1 pre W) (hc : Chg S W W') (hx : ¬ S x) (hF : ∀ k, F k → ¬ S k) (h0 : ∀ k, S k → W0.heap.size ≤ k) : FenI x B C M v0 F W0 s1 pre W' :=
 ⟨boxed_chg h.1 hc hx, h.2.1.chg hc hF, h.2.2.trans hc (fun j q => .inr (h0 j q))⟩
theorem fenI_own {β : Type} {x B C M : Nat} {v0 : Value} {F : Nat → Prop} {W0 : World} {s1 : Dv} (g : β → List Int) (hx : x < W0.heap.size) (hF : ∀ k, F k → k < W0.heap.size) : OwnFrom W0.heap.size (fun (pre : β) W => FenI x B C M v0 F W0 s1 (g pre) W) := by
 intro pre W W' row h hg hr
 refine h.chg (S := fun k => W0.heap.size ≤ k) (Chg.of_grown hg (fun k e => .inl (hr k e).1)) (by omega) (fun k e => by have := hF k e; omega) (fun k e => e)
theorem fence_in (n : Nat) (hn : 3 ≤ n) (B : Nat) (F : Nat → Prop) (s : Dv) (w : World) (h : DvAt w B F s) (hg : GoodD s) :
 CallsIn Fence.wide n Tryz.prog 76 #[.pointer (some ⟨B, 0, none⟩)] w fun e w' => e = .returned (.tuple #[]) ∧ DvAt w' B F (fenceD s) ∧ Chg F w w' := by
 have hn1 : 1 ≤ n := by omega
 have hA1 : Below w.heap.size w (w.alloc (.cells #[.pointer (some ⟨B, 0, none⟩)] 44)) := bZ w _
 have hS := dStep B F s _ (h.keep hA1) hg
 have hFl := lh h.lt
 have hlen := lh hg.len
 have hsn := lh hg.n
 have hse := lh (stepD_same s)
 have hfr := lh (show ∀ x a, s.f x = some a → 0 ≤ x ∧ x < s.L.length from fun x a q => by
  obtain ⟨b, hb⟩ := hg.fin x a q
  exact hg.cin x b hb)
 have hKs := lh (keysL_keys s.L.length s.f hfr.out)
 have b0 := Boxed.new w 44 (.pointer (some ⟨B, 0, none⟩))
 clear h hg
 unfold fenceD
 cases hd : doneD s with
 | false =>
   rw [hd] at hS
   rw [if_neg (by simp)]
   refine callsIn_of_wp_marks Tryz.func76 rfl trivial ?_ rfl
   simp only [Tryz.ntmps76, List.size_toArray, List.length_cons, List.length_nil, Nat.reduceAdd, Nat.reduceSub, Array.replicate_succ, Array.replicate_zero, List.push_toArray, List.append_toArray, List.nil_append, List.cons_append]
   gi_wp2
   refine ⟨trivial, (callsIn_wide.2 hS).mono ?_⟩
   rintro e w2 ⟨rfl, h2, hc2⟩
   have b2 := boxed_chg b0 hc2 (fun q => by have := hFl.out _ q; omega)
   have hcw := lh ((Chg.of_below F hA1).trans hc2 (fun j q => .inl q))
   have hs2 : w.heap.size + 1 ≤ w2.heap.size := by have := hc2.size; simpa using this
   clear hS b0 hA1 hc2
   replace h2 := lh h2
   gi_wp2
   exact ⟨_, results_none rfl _ _ _, rfl, h2.out, hcw.out⟩
 | true =>
   rw [hd] at hS
   rw [if_pos rfl]
   refine callsIn_of_wp_marks Tryz.func76 rfl trivial ?_ rfl
   simp only [Tryz.ntmps76, List.size_toArray, List.length_cons, List.length_nil, Nat.reduceAdd, Nat.reduceSub, Array.replicate_succ, Array.replicate_zero, List.push_toArray, List.append_toArray, List.nil_append, List.cons_append]
   gi_wp2
   refine ⟨trivial, (callsIn_wide.2 hS).mono ?_⟩
   rintro e w2 ⟨rfl, h2, hc2⟩
   have b2 := boxed_chg b0 hc2 (fun q => by have := hFl.out _ q; omega)
   have hcw := lh ((Chg.of_below F hA1).trans hc2 (fun j q => .inl q))
   have hs2 : w.heap.size + 1 ≤ w2.heap.size := by have := hc2.size; simpa using this
   clear hS b0 hA1 hc2
   obtain ⟨C, M, v0, hR⟩ := h2
   obtain ⟨⟨c0, c1, c2, c3, c4, c5⟩, fz⟩ := hR.cells
   have cb2 := b2.cell
   have hMl := hFl.out _ hR.fM
   have hCl := hFl.out _ hR.fC
   have hBl := hFl.out _ hR.fB
   have hBl2 : B < w2.heap.size := by omega
   clear c0 c1 c3 c4 c5 fz
   gi_wp2
   refine ⟨trivial, (places_in_pm (n - 1) M _).mono ?_⟩
   rintro e w' ⟨rfl, rfl⟩
   have hA2 : Below w2.heap.size w2 (w2.alloc (.cells #[.map (some M)] 101)) := bZ w2 _
   have hR0 := hR.keep hA2
   have hf0 : MapU (w2.alloc (.cells #[.map (some M)] 101)) M s.n s.f := by
    have := hR0.flus
    rwa [hse.out.2.2.1, hse.out.2.2.2] at this
   have bM := Boxed.new w2 101 (.map (some M))
   have b3 := b2.alloc (.cells #[.map (some M)] 101)
   have hs3 : (w2.alloc (.cells #[.map (some M)] 101)).heap.size = w2.heap.size + 1 := by simp
   have hcw3 := lh (hcw.out.trans (Chg.of_below F hA2) (fun j q => .inl q))
   have cbm := bM.cell
   obtain ⟨W0, hW0⟩ : ∃ W0, W0 = w2.alloc (.cells #[.map (some M)] 101) := ⟨_, rfl⟩
   gi_wp2
   rw [← hW0] at hR0 hf0 bM b3 hs3 hcw3 ⊢
   clear hW0 hA2 hR b2 hcw c2 cb2 cbm
   have hK2 := keysOf_map s.f (keysL s.L.length s.f) hKs.out
   generalize keysOf s.f (keysL s.L.length s.f) hKs.out = K at *
   have hKs2 := hKs.out
   rw [← hK2] at hKs2
   have hF0 := lh (show ∀ k, F k → k < W0.heap.size ∧ k ≠ w.heap.size from fun k q => by have := hFl.out k q; omega)
   have hI0 : FenI w.heap.size B C M v0 F W0 (stepD s) (([] : List (Key_pm s.f)).map fun y => y.1) W0 := ⟨b3, hR0, Chg.refl _ _⟩
   replace hR0 := lh hR0
   refine wpIn_rangeFunc_ownG rfl hn1 (gf := 151) (lb := #[.pointer (some ⟨w2.heap.size, 0, none⟩)]) rfl trivial (enters_of Tryz.func151 (by kernel_rfl) rfl)
    (pl_stops_pm (n - 1) (by omega) w.heap.size w2.heap.size W0.heap.size M s.n s.f K hKs2 W0 (by omega) (ownLt_of b3 (by simp [Value.ownBlock])) bM.cell hf0 (by have := hsn.out; omega) (Nat.le_refl _))
    kq_t (kq_b (by omega)) (Below.refl _ _) (fun _ => rfl)
    (fun pre W => FenI w.heap.size B C M v0 F W0 (stepD s) (pre.map fun y => y.1) W)
    (fun _ _ _ => False)
    (fenI_own (fun pre : List (Key_pm s.f) => pre.map fun y => y.1) (by omega) (fun k q => (hF0.out k q).1))
    (fun _ _ _ _ _ hs _ _ => hs)
    hI0
    (fun y => { tmps := #[.pointer (some ⟨B, 0, none⟩), .pointer (some ⟨w.heap.size, 0, none⟩), .int .i64 y.1, .pointer (some ⟨B, 0, none⟩), .bool true, .bool false, .pointer (some ⟨B, 0, none⟩), .pointer (some ⟨B, 0, none⟩), .pointer (some ⟨B, 2, none⟩), .map (some M), .func (.func 151) #[] #[.pointer (some ⟨w2.heap.size, 0, none⟩)], .int .i64 y.1, undef, undef, undef, undef, undef, undef, undef, undef, undef, undef, undef, undef, undef, undef, undef, undef, undef, undef, undef, undef, undef, undef, undef, undef, undef, undef, undef, undef, undef, undef, undef, undef, undef, undef], defers := [] }) ?assign ?body ?done ?stop
   case assign =>
    intro l y W Kc hK
    gi_wp2
    simpa using hK
   case body =>
    clear hI0
    rintro l pre y W ⟨bx, hRW, hcW⟩ hlt
    obtain ⟨y, a, hya⟩ := y
    have hpm : (pre ++ [(⟨y, a, hya⟩ : Key_pm s.f)]).map (fun z => z.1) = (pre.map fun z => z.1) ++ [y] := by rw [List.map_append]; rfl
    rw [ownG_I (I := fun (pre : List (Key_pm s.f)) W => FenI w.heap.size B C M v0 F W0 (stepD s) (pre.map fun y => y.1) W) (xs := pre ++ [(⟨y, a, hya⟩ : Key_pm s.f)]) (J := fun W => Boxed W w.heap.size 44 (.pointer (some ⟨B, 0, none⟩)) ∧ DvR W B C M v0 F (fenOne ((pre.map fun y => y.1).foldl fenOne (stepD s)) y) ∧ Chg F W0 W) (by
     rw [hpm]
     unfold FenI
     rw [List.foldl_append]; rfl)]
    generalize (pre.map fun z => z.1) = P at *
    clear hpm hlt
    obtain ⟨q1, q2, q3⟩ := fen_same P (stepD s)
    rw [hse.out.2.2.1] at q1
    rw [hse.out.2.2.2] at q2
    rw [hse.out.1] at q3
    generalize P.foldl fenOne (stepD s) = sP at *
    obtain ⟨hy0, hyN⟩ := hfr.out y a hya
    rw [← q3] at hyN
    rw [← q1] at hya
    obtain ⟨i, rfl⟩ := Int.eq_ofNat_of_zero_le hy0
    have hi : i < sP.L.length := by omega
    have hx64 : I64 (i : Int) := by have := hlen.out; constructor <;> omega
    obtain ⟨A, cap, rfl, hA⟩ := hRW.last.form
    obtain ⟨g, rfl, _, hgl⟩ := hA (by omega)
    have hgF := hRW.f0 g rfl
    have hgn := (hF0.out g hgF)
    have hRd := hRW.keep (Below.refl _ _).drew
    obtain ⟨⟨c0, c1, c2, _⟩, _⟩ := hRd.cells
    have cb : W.drew.cell? ⟨w.heap.size, 0, none⟩ = some (.pointer (some ⟨B, 0, none⟩)) := bx.cell
    have hlk := hRd.flus.look1 hx64
    obtain ⟨e0, f0⟩ := hRd.last.cell rfl hi
    rw [hya] at hlk
    obtain ⟨W3, hW3, hR2, hch2⟩ : ∃ W3, W3 = (W.drew.setCell ⟨g, i, none⟩ (.int .u64 (a : Nat))).drew ∧ DvR W3 B C M (.slice (some ⟨g, 0, none⟩) sP.L.length cap) F { sP with L := sP.L.set i a } ∧ Hid (Chg F W W3) :=
     ⟨_, rfl, (hRd.lTo (x := a) rfl hi).keep (Below.refl _ _).drew, lh (((chg_drew F W).trans (Chg.setCell _ _ _ _ hgF) (fun j q => .inl q)).trans (chg_drew F _) (fun j q => .inl q))⟩
    have hBX := hF0.out B hRW.fB
    have bx2 : Boxed W3 w.heap.size 44 (.pointer (some ⟨B, 0, none⟩)) := boxed_chg bx hch2.out (fun q => (hF0.out _ q).2 rfl)
    have hi2 : (i : Int) < (sP.L.length : Int) := by omega
    obtain ⟨⟨d0, d1, d2, _⟩, _⟩ := hR2.cells
    have cbx := bx2.cell
    have hlk2 := hR2.flus.look1 hx64
    have hlk3 := hR2.cach.look1 hx64
    simp only [] at hlk2 hlk3
    rw [hya] at hlk2
    have hone : fenOne sP (i : Int) = { sP with L := sP.L.set i a, c := if (sP.c (i : Int)).getD 0 = a then delU sP.c (i : Int) else sP.c } := by
     unfold fenOne
     rw [hya]; rfl
    rw [hone]
    simp only [Option.getD_some] at hlk hlk2
    replace hone := lh hone
    replace hya := lh hya
    obtain ⟨z, hz⟩ : ∃ z, (sP.c (i : Int)).getD 0 = z := ⟨_, rfl⟩
    rw [hz] at hlk3 ⊢
    replace hz := lh hz
    replace hRW := lh hRW
    replace hRd := lh hRd
    replace hR2 := lh hR2
    replace hcW := lh hcW
    replace bx := lh bx
    replace bx2 := lh bx2
    obtain ⟨x0, e0⟩ : ∃ x, W.drew.cell? ⟨g, i, none⟩ = some x := ⟨_, e0⟩
    clear hA q1 q2 q3
    gi_wp2
    refine wpIn_region_tail_wr (S := (fun w' => w' = W.drew)) (n := 12) (by kernel_rfl) (by kernel_rfl) (by rintro ⟨_, _, h⟩; exact h) ?_ (fun hHeld hInv => ?_) (by decide)
    ·(try dsimp only)
     all_goals rfl
    refine takeUS 0 hInv ?_; clear hInv; intro hInv
    refine takeUS 1 hInv ?_; clear hInv; intro hInv
    refine takeUS 2 hInv ?_; clear hInv; intro hInv
    refine takeUS 3 hInv ?_; clear hInv; intro hInv
    refine takeUS 4 hInv ?_; clear hInv; intro hInv
    refine takeUS 5 hInv ?_; clear hInv; intro hInv
    refine takeUS 6 hInv ?_; clear hInv; intro hInv
    refine takeUS 7 hInv ?_; clear hInv; intro hInv
    refine takeUS 8 hInv ?_; clear hInv; intro hInv
    refine takeUS 9 hInv ?_; clear hInv; intro hInv
    refine takeUS 10 hInv ?_; clear hInv; intro hInv
    refine takeUS 11 hInv ?_; clear hInv; intro hInv
    refine lastS 12 rfl (by decide) (by kernel_rfl) (fun K hK => ?_)
    go_simp
    refine hK.out _ _ ?_
    clear hK K
    refine wpAnyS_done (by kernel_rfl) ?_ _
    gi_wp2
    have hWW : (W.setCell ⟨g, i, none⟩ (.int .u64 (a : Nat))).drew.drew = W3 := by rw [hW3]; rfl
    replace hW3 := lh hW3
    refine wpIn_region_held_wr (S := (fun w' => w' = W3)) (by kernel_rfl) (by kernel_rfl) (by rintro ⟨_, _, h⟩; exact h) ?_ (fun hHeld => ?_)
    ·(try dsimp only)
     exact hWW
    refine takeU 0 ?_
    refine takeU 1 ?_
    refine takeU 2 ?_
    refine takeU 3 ?_
    refine takeU 4 ?_
    refine takeU 5 ?_
    refine takeU 6 ?_
    refine takeU 7 ?_
    refine takeU 8 ?_
    refine takeU 9 ?_
    refine takeU 10 ?_
    refine takeU 11 ?_
    refine takeU 12 ?_
    refine wpAnyH_done (by kernel_rfl) ?_ _
    rw [hWW]
    clear hHeld hlk hlk2 hlk3 d0 d2 c0 c1 c2 e0 f0 cb
    by_cases hza : z = a
    ·subst hza
     obtain ⟨W4, hdel, hm4, hg4⟩ := hR2.out.cach.drop hx64 0
     have hR4 := hR2.out.cTo hg4 hm4 (Nat.le_refl _)
     have hFC := hR2.out.fC
     have hc4 := lh (hch2.out.trans (Chg.of_grown (S := F) hg4 (fun k e => by cases e; exact .inl hFC)) (fun j q => .inl q))
     have bx4 := boxed_chg bx.out hc4.out (fun q => (hF0.out _ q).2 rfl)
     clear hm4 hg4
     gi_wp2
     exact ⟨keepsFrom_chg hc4.out (fun k q => by have := (hF0.out k q).1; omega), kq_chg hc4.out (fun k q => ⟨by have := (hF0.out k q).1; omega, (hF0.out k q).2⟩) bx.out.lt, bx4, (by first | exact hR4 | (rw [if_pos rfl]; exact hR4)), hcW.out.trans hc4.out (fun j q => .inl q)⟩
    ·have hzf : ((z : Nat) : Int) ≠ ((a : Nat) : Int) := by omega
     have hzb : (((z : Nat) : Int) == ((a : Nat) : Int)) = false := by simpa using hzf
     gi_wp2
     exact ⟨keepsFrom_chg hch2.out (fun k q => by have := (hF0.out k q).1; omega), kq_chg hch2.out (fun k q => ⟨by have := (hF0.out k q).1; omega, (hF0.out k q).2⟩) bx.out.lt, bx2.out, (by first | exact hR2.out | (rw [if_neg hza]; exact hR2.out)), hcW.out.trans hch2.out (fun j q => .inl q)⟩
   case done =>
    rintro D ys W hD rfl ⟨bx, hRW, hcW⟩ hK
    rw [hK2] at hRW
    obtain ⟨p1, p2, p3⟩ := fen_same (keysL s.L.length s.f) (stepD s)
    rw [hse.out.2.2.2] at p2
    obtain ⟨sP, hsP⟩ : ∃ sP, (keysL s.L.length s.f).foldl fenOne (stepD s) = sP := ⟨_, rfl⟩
    rw [hsP] at hRW p1 p2 p3
    obtain ⟨⟨c0, c1, c2, _⟩, _⟩ := hRW.cells
    have cb := bx.cell
    obtain ⟨W5, hrun, hm5, hg5⟩ := hRW.flus.clear 0
    have hR5 := hRW.fTo hg5 (hm5.mono (Nat.zero_le sP.n)) (Nat.le_refl _)
    have hFM := hRW.fM
    have hc5 := (hcW.trans (Chg.of_grown (S := F) hg5 (fun k e => by cases e; exact .inl hFM)) (fun j q => .inl q))
    have hMD : M ≠ D := fun e => by have := (hF0.out M hFM).1; omega
    have hDl := (Array.getElem?_eq_some_iff.1 hK).1
    have hK5 : W5.heap[D]? = some (.deferred (some [])) := (hg5.block D hDl (fun e => hMD (by cases e; rfl))).trans hK
    have hcD : Chg (fun k => k = D) W5 (W5.putObj D (.deferred none)) := chg_put _ _ _ rfl
    have hR6 := lh (hR5.chg hcD (fun k q e => by have := (hF0.out k q).1; omega))
    have hc6 := lh ((hcw3.out.trans hc5 (fun j q => .inl q)).trans hcD (fun j q => .inr (by have := hcw3.out.size; omega)))
    clear hRW bx hm5 hg5 hR5 hc5 hcD c0 c1
    gi_wp2
    refine ⟨by simp, .inl ⟨_, _, rfl, run_takeDeferred hK5, ?_⟩⟩
    subst hsP
    exact ⟨_, results_none rfl _ _ _, rfl, ⟨_, _, _, hR6.out⟩, hc6.out⟩
   case stop =>
    rintro D c pre W _ _ h _
    exact h.elim
end Go.Proofs.YtkkbngcgphlikaaGreatDoor
end
section
namespace Go.Proofs.YtkkbngcgphlikaaGreatDoor
open Go.RowKit Go.ChangeShapes Go.WideShapes Go.Deep Go.Maps
theorem DvR.mono {F : Nat → Prop} {w : World} {B C M n : Nat} {v0 : Value} {s : Dv} (h : DvR w B C M v0 F s) (hn : s.n ≤ n) : DvR w B C M v0 F { s with n := n } :=
 ⟨h.blk, h.last, h.cach.mono hn, h.flus.mono hn, h.ne, h.fB, h.fC, h.fM, h.f0, h.lt⟩
def fl (s : Dv) (lo i : Int) : Gu := fun x => if lo ≤ x ∧ x < i then (match s.c x with | some v => some v | none => s.f x) else s.f x
theorem fl_none {s : Dv} {lo i : Int} (h : s.c i = none) : fl s lo (i + 1) = fl s lo i := by
 funext x
 unfold fl
 by_cases e : x = i
 ·subst e
  rw [h, if_neg (show ¬ (lo ≤ x ∧ x < x) by omega)]
  split <;> rfl
 ·have : (lo ≤ x ∧ x < i + 1) ↔ (lo ≤ x ∧ x < i) := by omega
  simp only [this]
theorem fl_some {s : Dv} {lo i : Int} {v : Nat} (hl : lo ≤ i) (h : s.c i = some v) : fl s lo (i + 1) = putU (fl s lo i) i v := by
 funext x
 unfold fl putU
 by_cases e : x = i
 ·subst e
  rw [h, if_pos (by omega), if_pos rfl]
 ·have : (lo ≤ x ∧ x < i + 1) ↔ (lo ≤ x ∧ x < i) := by omega
  simp only [this, if_neg e]
theorem fl_far {s : Dv} {lo i : Int} (h : i ≤ lo) : fl s lo i = s.f := by
 funext x
 unfold fl
 rw [if_neg (by omega)]
def flushD (s : Dv) (x many : Int) : Dv := if doneD s then { stepD s with f := fl s (max x 0) (min (x + many) s.L.length), n := s.n + s.L.length } else stepD s
theorem dFlush (B : Nat) (F : Nat → Prop) (s : Dv) (x many : Int) (w : World) (h : DvAt w B F s) (hg : GoodD s) (hx : -1099511627776 ≤ x ∧ x ≤ 1099511627776) (hm : -1099511627776 ≤ many ∧ many ≤ 1099511627776) :
 Calls Tryz.prog 75 #[.pointer (some ⟨B, 0, none⟩), .int .i64 x, .int .i64 many] w fun e w' => e = .returned (.tuple #[]) ∧ DvAt w' B F (flushD s x many) ∧ Chg F w w' := by
 have hS := dStep B F s w h hg
 have hse := lh (stepD_same s)
 unfold flushD
 cases hd : doneD s with
 | false =>
   rw [hd] at hS
   rw [if_neg (by simp)]
   clear h
   go_enter Tryz.func75, Tryz.ntmps75
   go_wp2_with (go_at_call 100; refine hS.mono ?_; rintro e w2 ⟨rfl, h2, hc2⟩; clear hS)
   refine bodyPost_ret (results_none rfl _ _ _) rfl ?_
   exact ⟨rfl, h2, hc2⟩
 | true =>
   rw [hd] at hS
   rw [if_pos rfl]
   clear h
   have hlen := hg.len
   have hsn := lh hg.n
   obtain ⟨lo, hlo⟩ : ∃ lo, max x 0 = lo := ⟨_, rfl⟩
   have hlo0 : 0 ≤ lo := by omega
   have hlox : x ≤ lo := by omega
   have hlob : lo ≤ 1099511627776 := by omega
   obtain ⟨N, hN⟩ : ∃ N, s.L.length = N := ⟨_, rfl⟩
   obtain ⟨hi, hhi⟩ : ∃ hi, min (x + many) (N : Int) = hi := ⟨_, rfl⟩
   have hhiN : hi ≤ N := by omega
   rw [hlo, hN, hhi]
   rw [hN] at hlen
   have hm1 : (if x < 0 then (0 : Int) else x) = lo := by rw [← hlo]; split <;> omega
   have hm2 : (if (0 : Int) ≤ x then x else (0 : Int)) = lo := by rw [← hlo]; split <;> omega
   have hm3 : (if x ≤ 0 then (0 : Int) else x) = lo := by rw [← hlo]; split <;> omega
   have hn1 : (if (N : Int) < x + many then (N : Int) else x + many) = hi := by rw [← hhi]; split <;> omega
   have hn2 : (if x + many < (N : Int) then x + many else (N : Int)) = hi := by rw [← hhi]; split <;> omega
   have hn3 : (if x + many ≤ (N : Int) then x + many else (N : Int)) = hi := by rw [← hhi]; split <;> omega
   clear hg
   go_enter Tryz.func75, Tryz.ntmps75
   go_wp2_with (go_at_call 100; refine hS.mono ?_; rintro e w2 ⟨rfl, h2, hc2⟩; clear hS)
   have hRel : ∃ C M v0, DvR w2 B C M v0 F { stepD s with f := fl s lo lo, n := s.n + (lo - lo).toNat } := by
    obtain ⟨C, M, v0, hR⟩ := h2
    refine ⟨C, M, v0, ?_⟩
    rw [fl_far (Int.le_refl lo), ← hse.out.2.2.1, ← hse.out.2.2.2, Int.sub_self]
    exact hR
   obtain ⟨C, M, v0, hR⟩ := hRel
   replace hR := lh hR
   replace hc2 := lh hc2
   clear h2
   go_loopw [6] (fun i wr => ∃ p : Int, lo ≤ p ∧ (p = lo ∨ p ≤ hi) ∧ i = .int .i64 p ∧ Hid (DvR wr B C M v0 F { stepD s with f := fl s lo p, n := s.n + (p - lo).toNat }) ∧ Hid (Chg F w wr)) (fun i _ => (N + 1 - (intOf i)).toNat)
   case atStart => exact ⟨lo, Int.le_refl _, .inl rfl, rfl, hR, hc2⟩
   case round =>
    clear hR hc2
    obtain ⟨p, hp1, hp2, rfl, hRh, hc⟩ := hrel
    have hR := hRh.out
    obtain ⟨⟨c0, c1, c2, c3, c4, c5⟩, fz⟩ := hR.cells
    obtain ⟨A, cap, rfl, _⟩ := hR.last.form
    simp only [hse.out.1, hN] at c0
    by_cases hlt : p < hi
    ·have hx64 : I64 p := by constructor <;> omega
     have hlk := hR.cach.look hx64
     simp only [hse.out.2.1] at hlk
     cases hcx : s.c p with
     | none =>
       rw [hcx] at hlk
       simp only [Option.getD_none, Option.isSome_none] at hlk
       have hfl := lh (fl_none (lo := lo) hcx)
       clear hR c2 c3 c4 c5 fz
       go_wp2_with fail
       go_roundw
       case rel => exact ⟨p + 1, by omega, by omega, by go_num, by rw [hfl.out]; exact lh (hRh.out.mono (n := s.n + (p + 1 - lo).toNat) (by simp only []; omega)), hc⟩
       case measure => simp [intOf]; omega
     | some v =>
       rw [hcx] at hlk
       simp only [Option.getD_some, Option.isSome_some] at hlk
       have hfl := lh (fl_some (lo := lo) hp1 hcx)
       obtain ⟨w3, hrun, hm3, hg3⟩ := hR.flus.put (f := v) hx64 (by simp only []; have := hsn.out; unfold maxLen; omega)
       have hFM := hR.fM
       have hR3 := lh (hR.fTo hg3 hm3 (Nat.le_succ _))
       have hc3 := lh (hc.out.trans (Chg.of_grown (S := F) hg3 (fun k e => by cases e; exact .inl hFM)) (fun j q => .inl q))
       clear hR c3 c4 c5 fz hm3 hg3
       go_wp2_with fail
       go_roundw
       case rel =>
        refine ⟨p + 1, by omega, by omega, by go_num, ?_, hc3⟩
        rw [hfl.out]
        exact lh (hR3.out.mono (n := s.n + (p + 1 - lo).toNat) (by simp only []; omega))
       case measure => simp [intOf]; omega
    ·have hge : hi ≤ p := by omega
     have hfin : fl s lo p = fl s lo hi := by
      rcases hp2 with e | e
      ·rw [fl_far (by omega), fl_far (by omega)]
      ·rw [show p = hi by omega]
     have hRf := lh (hR.mono (n := s.n + N) (by simp only []; omega))
     rw [hfin] at hRf
     clear hR c1 c2 c3 c4 c5 fz hfin
     go_wp2_with fail
     go_end0
     exact ⟨rfl, ⟨_, _, _, hRf.out⟩, hc.out⟩
end Go.Proofs.YtkkbngcgphlikaaGreatDoor
end
section
namespace Go.Proofs.YtkkbngcgphlikaaGreatDoor
open Go.RowKit Go.ChangeShapes Go.WideShapes Go.Deep Go.Maps
def crStep (s : Dv) (keep : List Nat) (D : List Int) (L : List Nat) (j : Nat) : List Nat :=
 if keep.getD j 0 % 3 = 1 then (match s.f (D.getD j 0) with | some v => L.set (D.getD j 0).toNat v | none => L)
 else if keep.getD j 0 % 3 = 2 then L.set (D.getD j 0).toNat ((s.c (D.getD j 0)).getD 0) else L
def crL (s : Dv) (keep : List Nat) (D : List Int) (k : Nat) : List Nat := (List.range k).foldl (crStep s keep D) s.L
theorem crL_succ (s : Dv) (keep : List Nat) (D : List Int) (k : Nat) : crL s keep D (k + 1) = crStep s keep D (crL s keep D k) k := by
 unfold crL
 rw [List.range_succ, List.foldl_append]; rfl
theorem crL_len (s : Dv) (keep : List Nat) (D : List Int) (k : Nat) : (crL s keep D k).length = s.L.length := by
 induction k with
 | zero => rfl
 | succ k ih =>
   rw [crL_succ]
   unfold crStep
   split
   ·split
    ·rw [List.length_set, ih]
    ·exact ih
   ·split
    ·rw [List.length_set, ih]
    ·exact ih
theorem crL_far (s : Dv) (keep : List Nat) (D : List Int) (k j : Nat) (h : keep.length ≤ k) : crL s keep D (k + j) = crL s keep D k := by
 induction j with
 | zero => rfl
 | succ j ih =>
   rw [← Nat.add_assoc, crL_succ, ih]
   unfold crStep
   rw [show keep.getD (k + j) 0 = 0 from by rw [List.getD_eq_getElem?_getD, List.getElem?_eq_none (by omega)]; rfl]
   rfl
def crashD (s : Dv) (keep : List Nat) : Dv := { s with L := crL s keep (keysL s.L.length s.c) (keysL s.L.length s.c).length, c := fun _ => none, f := fun _ => none, dead := false, fuse := 0 }
theorem crash_tail {F : Nat → Prop} {w : World} {B C M : Nat} {v0 : Value} {s : Dv} (h : DvR w B C M v0 F s) :
 ∃ w3 w4, (Builtin.clear_ #[101] 0 #[.map (some C)]).run Tryz.prog w = .ok (.tuple #[]) w3 ∧ (Builtin.clear_ #[101] 0 #[.map (some M)]).run Tryz.prog w3 = .ok (.tuple #[]) w4 ∧
   w.cell? ⟨B, 1, none⟩ = some (.map (some C)) ∧ w3.cell? ⟨B, 2, none⟩ = some (.map (some M)) ∧ w4.cell? ⟨B, 3, none⟩ = some (.bool s.dead) ∧ w4.cell? ⟨B, 4, none⟩ = some (.int .i64 s.fuse) ∧ w4.frozen? ⟨B, 3, none⟩ = false ∧ w4.frozen? ⟨B, 4, none⟩ = false ∧
   Hid (DvR ((w4.setCell ⟨B, 3, none⟩ (.bool false)).setCell ⟨B, 4, none⟩ (.int .i64 0)) B C M v0 F { s with c := fun _ => none, f := fun _ => none, dead := false, fuse := 0 }) ∧ Hid (Chg F w ((w4.setCell ⟨B, 3, none⟩ (.bool false)).setCell ⟨B, 4, none⟩ (.int .i64 0))) := by
 obtain ⟨⟨c0, c1, c2, c3, c4, c5⟩, fz⟩ := h.cells
 obtain ⟨w3, hr1, hm3, hg3⟩ := h.cach.clear 0
 have h3 := h.cTo hg3 (hm3.mono (Nat.zero_le s.n)) (Nat.le_refl _)
 obtain ⟨⟨_, _, d2, _⟩, _⟩ := h3.cells
 obtain ⟨w4, hr2, hm4, hg4⟩ := h3.flus.clear 0
 have h4 := h3.fTo hg4 (hm4.mono (Nat.zero_le s.n)) (Nat.le_refl _)
 obtain ⟨⟨_, _, _, e3, e4, _⟩, fe⟩ := h4.cells
 have h5 := (h4.put (o := 3) (u := .bool false) (s' := { s with c := fun _ => none, f := fun _ => none, dead := false }) rfl rfl rfl rfl rfl).put (o := 4) (u := .int .i64 0) (s' := { s with c := fun _ => none, f := fun _ => none, dead := false, fuse := 0 }) rfl rfl rfl rfl rfl
 have hc := ((((Chg.of_grown (S := F) hg3 (fun k e => by cases e; exact .inl h.fC)).trans (Chg.of_grown (S := F) hg4 (fun k e => by cases e; exact .inl h.fM)) (fun j q => .inl q)).trans (Chg.setCell w4 B 3 (.bool false) h.fB) (fun j q => .inl q)).trans (Chg.setCell _ B 4 (.int .i64 0) h.fB) (fun j q => .inl q))
 exact ⟨w3, w4, hr1, hr2, c1, d2, e3, e4, fe 3, fe 4, h5, hc⟩
theorem dCrash (B : Nat) (F : Nat → Prop) (s : Dv) (vk : Value) (keep : List Nat) (w : World) (h : DvAt w B F s) (hg : GoodD s) (hbl : BL keep) (hkl : keep.length ≤ 1000) (hK : ∀ w', Chg F w w' → KL .u8 w' vk keep) :
 Calls Tryz.prog 20 #[.pointer (some ⟨B, 0, none⟩), vk] w fun e w' => e = .returned (.tuple #[]) ∧ DvAt w' B F (crashD s keep) ∧ Chg F w w' := by
 have hDr := dDirty B F s w h hg
 have hKs := lh (keysL_keys s.L.length s.c hg.cin)
 have hKl := keysL_len s.L.length s.c
 have hlen := hg.len
 have hsn := lh hg.n
 have hcin := lh hg.cin
 obtain ⟨C, M, v0, hR⟩ := h
 have hFl := lh hR.lt
 obtain ⟨A, cap, rfl, hA⟩ := hR.last.form
 obtain ⟨g, rfl, _, hgl⟩ := hA hg.len0
 obtain ⟨Ak, capk, rfl, _⟩ := (hK w (Chg.refl _ _)).form rfl
 have hgF := lh (hR.f0 g rfl)
 replace hR := lh hR
 replace hK := lh hK
 obtain ⟨nk, hnk⟩ : ∃ nk, keep.length = nk := ⟨_, rfl⟩
 obtain ⟨N, hN⟩ : ∃ N, s.L.length = N := ⟨_, rfl⟩
 obtain ⟨D, hD⟩ : ∃ D, keysL s.L.length s.c = D := ⟨_, rfl⟩
 have hcr : crashD s keep = { s with L := crL s keep D D.length, c := fun _ => none, f := fun _ => none, dead := false, fuse := 0 } := by unfold crashD; rw [hD]
 rw [hcr, hnk]
 rw [hD] at hDr hKs hKl
 rw [hN] at hR hKl hlen hcin
 obtain ⟨m, hm⟩ : ∃ m, D.length = m := ⟨_, rfl⟩
 rw [hm] at hKl ⊢
 rw [hnk] at hkl
 replace hnk := lh hnk
 replace hm := lh hm
 replace hN := lh hN
 replace hbl := lh hbl
 clear hg hA hcr hD hgl
 go_enter Tryz.func20, Tryz.ntmps20
 go_wp2_with (go_at_call 44; refine hDr.mono ?_; rintro e w1 ⟨v, rfl, hO, hb⟩; obtain ⟨AD, capD, rfl, _⟩ := (hO.el iE_len).form hm.out; clear hDr)
 have hR1 := lh (hR.out.keep hb)
 have hc1 := lh (Chg.of_below F hb)
 have hb1 := lh hb
 replace hO := lh hO
 clear hR hb
 have hcrl := lh (fun k => crL_len s keep D k)
 go_loopw [11] (fun i wr => ∃ k : Nat, k ≤ m ∧ i = .int .i64 k ∧ Hid (DvR wr B C M (.slice (some ⟨g, 0, none⟩) N cap) F { s with L := crL s keep D k }) ∧ Hid (Chg F w wr) ∧ Hid (Chg F w1 wr)) (fun i _ => m + 1 - (intOf i).toNat)
 case atStart => exact ⟨0, Nat.zero_le _, rfl, hR1, hc1, Chg.refl _ _⟩
 case round =>
  clear hR1 hc1
  obtain ⟨k, hk, rfl, hRh, hc, hcD⟩ := hrel
  by_cases hlt : k < m
  ·have hlt' : (k : Int) < (m : Int) := by omega
   by_cases hkk : k < nk
   ·have hkk' : ¬ ((nk : Int) ≤ (k : Int)) := by omega
    -- the dirty word's place
    obtain ⟨x, hx⟩ : ∃ x, D.getD k 0 = x := ⟨_, rfl⟩
    have hxm : x ∈ D := by
     rw [← hx, List.getD_eq_getElem?_getD, List.getElem?_eq_getElem (by rw [hm.out]; exact hlt)]
     exact List.getElem_mem _
    obtain ⟨z, hz⟩ := (hKs.out.mem x).1 hxm
    obtain ⟨hx0, hxN⟩ := hcin.out x z hz
    have hOw := hO.out.chg hcD.out (fun q e qF => by have := hFl.out q qF; have := (hO.out.lt q e).1; omega)
    obtain ⟨gD, capD2, he, hbD, hgD, hcapD⟩ := hOw.form (by rw [hm.out]; omega)
    rw [hm.out] at he hcapD
    cases he
    have hcDc := hOw.cell iE_len hm.out hlt (j := 0) (by decide)
    have e0 : wr.cell? ⟨gD, k, none⟩ = some (.int .i64 x) := by
     have q := hcDc.1
     rw [Nat.mul_one, Nat.add_zero] at q
     rw [q, ← hx]; rfl
    obtain ⟨Ak2, capk2, he2, hCk⟩ := (hK.out wr hc.out).form hnk.out
    obtain ⟨gk, ok, hAk, hcapk, hgk, e1⟩ := hCk wr k (Below.refl _ _) hkk
    cases he2
    subst hAk
    have hbb := hbl.out.at k (by rw [hnk.out]; exact hkk)
    have hsucc := crL_succ s keep D k
    unfold crStep at hsucc
    rw [hx] at hsucc
    have hLl := hcrl.out k
    rw [hN.out] at hLl
    generalize crL s keep D k = L at *
    generalize keep.getD k 0 = b at *
    have hR := hRh.out
    obtain ⟨⟨c0, c1, c2, c3, c4, c5⟩, fz⟩ := hR.cells
    have hx64 : I64 x := by constructor <;> omega
    obtain ⟨i, rfl⟩ := Int.eq_ofNat_of_zero_le hx0
    have hi : i < N := by omega
    obtain ⟨x1, f1⟩ := hR.last.cell hLl hi
    replace hx := lh hx
    replace hK := lh hK.out
    have hwb : ((b : Nat) : Int) < 256 := by omega
    clear hCk hcDc hOw c3 c4 c5 fz hbD hgD hz hxm
    have hr3 : b % 3 = 0 ∨ b % 3 = 1 ∨ b % 3 = 2 := by omega
    rcases hr3 with hr | hr | hr
    ·have hm3 : ((b : Nat) : Int) % 3 = 0 := by omega
     have hm4 : Int.tmod ((b : Nat) : Int) 3 = 0 := by rw [Int.tmod_eq_emod_of_nonneg (by omega)]; exact hm3
     rw [if_neg (by omega), if_neg (by omega)] at hsucc
     replace hsucc := lh hsucc
     replace hr := lh hr
     clear hR
     go_wp2_with fail
     go_roundw
     case rel => exact ⟨k + 1, by omega, by go_num, (by rw [hsucc.out]; exact hRh), hc, hcD⟩
     case measure => simp [intOf]; omega
    ·have hm3 : ((b : Nat) : Int) % 3 = 1 := by omega
     have hm4 : Int.tmod ((b : Nat) : Int) 3 = 1 := by rw [Int.tmod_eq_emod_of_nonneg (by omega)]; exact hm3
     rw [if_pos hr] at hsucc
     have hlk := hR.flus.look hx64
     simp only [] at hlk
     replace hr := lh hr
     cases hfx : s.f (i : Int) with
     | none =>
       rw [hfx] at hsucc hlk
       simp only [Option.getD_none, Option.isSome_none] at hlk
       simp only [] at hsucc
       replace hsucc := lh hsucc
       clear hR
       go_wp2_with fail
       go_roundw
       case rel => exact ⟨k + 1, by omega, by go_num, (by rw [hsucc.out]; exact hRh), hc, hcD⟩
       case measure => simp [intOf]; omega
     | some v =>
       rw [hfx] at hsucc hlk
       simp only [Option.getD_some, Option.isSome_some] at hlk
       simp only [Int.toNat_natCast] at hsucc
       replace hsucc := lh hsucc
       have hR3 := lh (hR.lTo (x := v) hLl hi)
       have hcs := lh (Chg.setCell (S := F) wr g i (.int .u64 (v : Nat)) hgF.out)
       clear hR
       go_wp2_with fail
       go_roundw
       case rel => exact ⟨k + 1, by omega, by go_num, (by rw [hsucc.out]; exact hR3), hc.out.trans hcs.out (fun j q => .inl q), hcD.out.trans hcs.out (fun j q => .inl q)⟩
       case measure => simp [intOf]; omega
    ·have hm3 : ((b : Nat) : Int) % 3 = 2 := by omega
     have hm4 : Int.tmod ((b : Nat) : Int) 3 = 2 := by rw [Int.tmod_eq_emod_of_nonneg (by omega)]; exact hm3
     rw [if_neg (by omega), if_pos hr] at hsucc
     replace hr := lh hr
     have hRd := hR.keep (Below.refl _ _).drew
     obtain ⟨⟨d0, d1, _⟩, _⟩ := hRd.cells
     have hlk := hRd.cach.look1 hx64
     simp only [] at hlk
     generalize (s.c (i : Int)).getD 0 = z at *
     simp only [Int.toNat_natCast] at hsucc
     replace hsucc := lh hsucc
     obtain ⟨x2, f2⟩ := hRd.last.cell hLl hi
     obtain ⟨y2, x2⟩ : ∃ y, wr.drew.cell? ⟨g, i, none⟩ = some y := ⟨_, x2⟩
     have hR3 := lh (hRd.lTo (x := z) hLl hi)
     have hcs := lh ((chg_drew F wr).trans (Chg.setCell (S := F) wr.drew g i (.int .u64 (z : Nat)) hgF.out) (fun j q => .inl q))
     have hi2 : (i : Int) < (N : Int) := by omega
     clear hR hRd
     go_wp2_with fail
     refine wp_region_tail (S := (fun w' => w' = wr.drew)) (n := 12) (by kernel_rfl) ?_ (fun hHeld hInv => ?_) (by decide)
     ·(try dsimp only)
      all_goals rfl
     refine takeUS 0 hInv ?_; clear hInv; intro hInv
     refine takeUS 1 hInv ?_; clear hInv; intro hInv
     refine takeUS 2 hInv ?_; clear hInv; intro hInv
     refine takeUS 3 hInv ?_; clear hInv; intro hInv
     refine takeUS 4 hInv ?_; clear hInv; intro hInv
     refine takeUS 5 hInv ?_; clear hInv; intro hInv
     refine takeUS 6 hInv ?_; clear hInv; intro hInv
     refine takeUS 7 hInv ?_; clear hInv; intro hInv
     refine takeUS 8 hInv ?_; clear hInv; intro hInv
     refine takeUS 9 hInv ?_; clear hInv; intro hInv
     refine takeUS 10 hInv ?_; clear hInv; intro hInv
     refine takeUS 11 hInv ?_; clear hInv; intro hInv
     refine lastS 12 rfl (by decide) (by kernel_rfl) (fun K hK => ?_)
     go_simp
     refine hK.out _ _ ?_
     clear hK K
     refine wpAnyS_done (by kernel_rfl) ?_ _
     go_wp2_with fail
     go_roundw
     case rel => exact ⟨k + 1, by omega, by go_num, (by rw [hsucc.out]; exact hR3), hc.out.trans hcs.out (fun j q => .inl q), hcD.out.trans hcs.out (fun j q => .inl q)⟩
     case measure => simp [intOf]; omega
   ·have hkk' : (nk : Int) ≤ (k : Int) := by omega
    have hfar := crL_far s keep D k (m - k) (by rw [hnk.out]; omega)
    rw [show k + (m - k) = m by omega] at hfar
    have hRe := hRh.out
    rw [← hfar] at hRe
    have hOw := hO.out.chg hcD.out (fun q e qF => by have := hFl.out q qF; have := (hO.out.lt q e).1; omega)
    obtain ⟨gD, capD2, he, hbD, hgD, hcapD⟩ := hOw.form (by rw [hm.out]; omega)
    rw [hm.out] at he hcapD
    cases he
    have hcDc := hOw.cell iE_len hm.out hlt (j := 0) (by decide)
    obtain ⟨x, e0⟩ : ∃ x, wr.cell? ⟨gD, k, none⟩ = some (.int .i64 x) := by
     have q := hcDc.1
     rw [Nat.mul_one, Nat.add_zero] at q
     exact ⟨_, q⟩
    clear hfar hcDc hOw hbD hgD
    obtain ⟨w3, w4, hrun1, hrun2, d1, d2, d3, d4, f3, f4, hRf, hcf⟩ := crash_tail hRe
    replace hRe := lh hRe
    go_wp2_with fail
    go_end0
    exact ⟨rfl, ⟨_, _, _, hRf.out⟩, hc.out.trans hcf.out (fun j q => .inl q)⟩
  ·obtain rfl : k = m := by omega
   have hRe := hRh.out
   obtain ⟨w3, w4, hrun1, hrun2, d1, d2, d3, d4, f3, f4, hRf, hcf⟩ := crash_tail hRe
   replace hRe := lh hRe
   go_wp2_with fail
   go_end0
   exact ⟨rfl, ⟨_, _, _, hRf.out⟩, hc.out.trans hcf.out (fun j q => .inl q)⟩
end Go.Proofs.YtkkbngcgphlikaaGreatDoor
end
