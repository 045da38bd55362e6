/-
  Part of the proof of JournalSteps.
-/
import Derived.Test.YtkkbngcgphlikaaGreatDoorJt33
import Derived.Test.YtkkbngcgphlikaaGreatDoorJt0
set_option maxRecDepth 10000
set_option maxHeartbeats 4000000
set_option linter.unusedVariables false
set_option linter.unusedSimpArgs false
section
namespace Go.Proofs.YtkkbngcgphlikaaGreatDoor
open Go.RowKit Go.ChangeShapes Go.WideShapes Go.Deep Go.Maps Go.Sort Go.Shelf
attribute [local go_sem] Oper.semAt_some
def fenOne (s : Dv) (x : Int) : Dv := { s with L := s.L.set x.toNat ((s.f x).getD 0), c := if (s.c x).getD 0 = (s.f x).getD 0 then delU s.c x else s.c }
def fenceD (s : Dv) : Dv := if doneD s then { (keysL s.L.length s.f).foldl fenOne (stepD s) with f := fun _ => none } else stepD s
theorem fen_same : ∀ (K : List Int) (s : Dv), (K.foldl fenOne s).f = s.f ∧ (K.foldl fenOne s).n = s.n ∧ (K.foldl fenOne s).L.length = s.L.length
 | [], s => ⟨rfl, rfl, rfl⟩
 | x :: K, s => by
   obtain ⟨h1, h2, h3⟩ := fen_same K (fenOne s x)
   rw [List.foldl_cons]
   exact ⟨h1, h2, by rw [h3]; simp [fenOne]⟩
theorem chg_drew (S : Nat → Prop) (w : World) : Chg S w w.drew := Chg.of_below S (Below.refl _ _).drew
theorem chg_put {S : Nat → Prop} (w : World) (D : Nat) (o : Obj) (h : S D) : Chg S w (w.putObj D o) := Chg.of_grown (grownBy_putObj' w D o) (fun k e => by cases e; exact .inl h)
theorem keepsFrom_chg {S : Nat → Prop} {B : Nat} {w w' : World} (h : Chg S w w') (hS : ∀ k, S k → k < B) : KeepsFrom B w w' :=
 ⟨h.size, fun k o hB hk _ => (h.block k (Array.getElem?_eq_some_iff.1 hk).1 (fun q => by have := hS k q; omega)).trans hk⟩
theorem boxed_chg {S : Nat → Prop} {w w' : World} {b : Nat} {t : TypeId} {v : Value} (h : Boxed w b t v) (hc : Chg S w w') (hn : ¬ S b) : Boxed w' b t v := (hc.block b h.lt hn).trans h
theorem ownG_I {α : Type} {B0 : Nat} {Kp : World → World → Prop} {I : List α → World → Prop} {J : World → Prop} {Ix : Code → List α → World → Prop} {xs : List α} {W : World} (h : I xs = J) :
 ownPostG B0 Kp I Ix xs W = ownPostG B0 Kp (fun _ => J) Ix xs W := by
 funext e a W'
 cases e <;> simp only [ownPostG]
 rw [h]
def FenI (x B C M : Nat) (v0 : Value) (F : Nat → Prop) (W0 : World) (s1 : Dv) (pre : List Int) (W : World) : Prop :=
 Boxed W x 44 (.pointer (some ⟨B, 0, none⟩)) ∧ DvR W B C M v0 F (pre.foldl fenOne s1) ∧ Chg F W0 W
theorem FenI.chg {x B C M : Nat} {v0 : Value} {F : Nat → Prop} {W0 : World} {s1 : Dv} {pre : List Int} {W W' : World} {S : Nat → Prop} (h : FenI x B C M v0 F W0 s1 pre W) (hc : Chg S W W') (hx : ¬ S x) (hF : ∀ k, F k → ¬ S k) (h0 : ∀ k, S k → W0.heap.size ≤ k) : FenI x B C M v0 F W0 s1 pre W' :=
 ⟨boxed_chg h.1 hc hx, h.2.1.chg hc hF, h.2.2.trans hc (fun j q => .inr (h0 j q))⟩
theorem fenI_own {β : Type} {x B C M : Nat} {v0 : Value} {F : Nat → Prop} {W0 : World} {s1 : Dv} (g : β → List Int) (hx : x < W0.heap.size) (hF : ∀ k, F k → k < W0.heap.size) : OwnFrom W0.heap.size (fun (pre : β) W => FenI x B C M v0 F W0 s1 (g pre) W) := by
 intro pre W W' row h hg hr
 refine h.chg (S := fun k => W0.heap.size ≤ k) (Chg.of_grown hg (fun k e => .inl (hr k e).1)) (by omega) (fun k e => by have := hF k e; omega) (fun k e => e)
theorem fence_in (n : Nat) (hn : 3 ≤ n) (B : Nat) (F : Nat → Prop) (s : Dv) (w : World) (h : DvAt w B F s) (hg : GoodD s) :
 CallsIn Fence.wide n Tryz.prog 76 #[.pointer (some ⟨B, 0, none⟩)] w fun e w' => e = .returned (.tuple #[]) ∧ DvAt w' B F (fenceD s) ∧ Chg F w w' := by
 have hn1 : 1 ≤ n := by omega
 have hA1 : Below w.heap.size w (w.alloc (.cells #[.pointer (some ⟨B, 0, none⟩)] 44)) := bZ w _
 have hS := dStep B F s _ (h.keep hA1) hg
 have hFl := lh h.lt
 have hlen := lh hg.len
 have hsn := lh hg.n
 have hse := lh (stepD_same s)
 have hfr := lh (show ∀ x a, s.f x = some a → 0 ≤ x ∧ x < s.L.length from fun x a q => by
  obtain ⟨b, hb⟩ := hg.fin x a q
  exact hg.cin x b hb)
 have hKs := lh (keysL_keys s.L.length s.f hfr.out)
 have b0 := Boxed.new w 44 (.pointer (some ⟨B, 0, none⟩))
 clear h hg
 unfold fenceD
 cases hd : doneD s with
 | false =>
   rw [hd] at hS
   rw [if_neg (by simp)]
   refine callsIn_of_wp_marks Tryz.func76 rfl trivial ?_ rfl
   simp only [Tryz.ntmps76, List.size_toArray, List.length_cons, List.length_nil, Nat.reduceAdd, Nat.reduceSub, Array.replicate_succ, Array.replicate_zero, List.push_toArray, List.append_toArray, List.nil_append, List.cons_append]
   gi_wp2
   refine ⟨trivial, (callsIn_wide.2 hS).mono ?_⟩
   rintro e w2 ⟨rfl, h2, hc2⟩
   have b2 := boxed_chg b0 hc2 (fun q => by have := hFl.out _ q; omega)
   have hcw := lh ((Chg.of_below F hA1).trans hc2 (fun j q => .inl q))
   have hs2 : w.heap.size + 1 ≤ w2.heap.size := by have := hc2.size; simpa using this
   clear hS b0 hA1 hc2
   replace h2 := lh h2
   gi_wp2
   exact ⟨_, results_none rfl _ _ _, rfl, h2.out, hcw.out⟩
 | true =>
   rw [hd] at hS
   rw [if_pos rfl]
   refine callsIn_of_wp_marks Tryz.func76 rfl trivial ?_ rfl
   simp only [Tryz.ntmps76, List.size_toArray, List.length_cons, List.length_nil, Nat.reduceAdd, Nat.reduceSub, Array.replicate_succ, Array.replicate_zero, List.push_toArray, List.append_toArray, List.nil_append, List.cons_append]
   gi_wp2
   refine ⟨trivial, (callsIn_wide.2 hS).mono ?_⟩
   rintro e w2 ⟨rfl, h2, hc2⟩
   have b2 := boxed_chg b0 hc2 (fun q => by have := hFl.out _ q; omega)
   have hcw := lh ((Chg.of_below F hA1).trans hc2 (fun j q => .inl q))
   have hs2 : w.heap.size + 1 ≤ w2.heap.size := by have := hc2.size; simpa using this
   clear hS b0 hA1 hc2
   obtain ⟨C, M, v0, hR⟩ := h2
   obtain ⟨⟨c0, c1, c2, c3, c4, c5⟩, fz⟩ := hR.cells
   have cb2 := b2.cell
   have hMl := hFl.out _ hR.fM
   have hCl := hFl.out _ hR.fC
   have hBl := hFl.out _ hR.fB
   have hBl2 : B < w2.heap.size := by omega
   clear c0 c1 c3 c4 c5 fz
   gi_wp2
   refine ⟨trivial, (places_in_pm (n - 1) M _).mono ?_⟩
   rintro e w' ⟨rfl, rfl⟩
   have hA2 : Below w2.heap.size w2 (w2.alloc (.cells #[.map (some M)] 101)) := bZ w2 _
   have hR0 := hR.keep hA2
   have hf0 : MapU (w2.alloc (.cells #[.map (some M)] 101)) M s.n s.f := by
    have := hR0.flus
    rwa [hse.out.2.2.1, hse.out.2.2.2] at this
   have bM := Boxed.new w2 101 (.map (some M))
   have b3 := b2.alloc (.cells #[.map (some M)] 101)
   have hs3 : (w2.alloc (.cells #[.map (some M)] 101)).heap.size = w2.heap.size + 1 := by simp
   have hcw3 := lh (hcw.out.trans (Chg.of_below F hA2) (fun j q => .inl q))
   have cbm := bM.cell
   obtain ⟨W0, hW0⟩ : ∃ W0, W0 = w2.alloc (.cells #[.map (some M)] 101) := ⟨_, rfl⟩
   gi_wp2
   rw [← hW0] at hR0 hf0 bM b3 hs3 hcw3 ⊢
   clear hW0 hA2 hR b2 hcw c2 cb2 cbm
   have hK2 := keysOf_map s.f (keysL s.L.length s.f) hKs.out
   generalize keysOf s.f (keysL s.L.length s.f) hKs.out = K at *
   have hKs2 := hKs.out
   rw [← hK2] at hKs2
   have hF0 := lh (show ∀ k, F k → k < W0.heap.size ∧ k ≠ w.heap.size from fun k q => by have := hFl.out k q; omega)
   have hI0 : FenI w.heap.size B C M v0 F W0 (stepD s) (([] : List (Key_pm s.f)).map fun y => y.1) W0 := ⟨b3, hR0, Chg.refl _ _⟩
   replace hR0 := lh hR0
   refine wpIn_rangeFunc_ownG rfl hn1 (gf := 151) (lb := #[.pointer (some ⟨w2.heap.size, 0, none⟩)]) rfl trivial (enters_of Tryz.func151 (by kernel_rfl) rfl)
    (pl_stops_pm (n - 1) (by omega) w.heap.size w2.heap.size W0.heap.size M s.n s.f K hKs2 W0 (by omega) (ownLt_of b3 (by simp [Value.ownBlock])) bM.cell hf0 (by have := hsn.out; omega) (Nat.le_refl _))
    kq_t (kq_b (by omega)) (Below.refl _ _) (fun _ => rfl)
    (fun pre W => FenI w.heap.size B C M v0 F W0 (stepD s) (pre.map fun y => y.1) W)
    (fun _ _ _ => False)
    (fenI_own (fun pre : List (Key_pm s.f) => pre.map fun y => y.1) (by omega) (fun k q => (hF0.out k q).1))
    (fun _ _ _ _ _ hs _ _ => hs)
    hI0
    (fun y => { tmps := #[.pointer (some ⟨B, 0, none⟩), .pointer (some ⟨w.heap.size, 0, none⟩), .int .i64 y.1, .pointer (some ⟨B, 0, none⟩), .bool true, .bool false, .pointer (some ⟨B, 0, none⟩), .pointer (some ⟨B, 0, none⟩), .pointer (some ⟨B, 2, none⟩), .map (some M), .func (.func 151) #[] #[.pointer (some ⟨w2.heap.size, 0, none⟩)], .int .i64 y.1, undef, undef, undef, undef, undef, undef, undef, undef, undef, undef, undef, undef, undef, undef, undef, undef, undef, undef, undef, undef, undef, undef, undef, undef, undef, undef, undef, undef, undef, undef, undef, undef, undef, undef], defers := [] }) ?assign ?body ?done ?stop
   case assign =>
    intro l y W Kc hK
    gi_wp2
    simpa using hK
   case body =>
    clear hI0
    rintro l pre y W ⟨bx, hRW, hcW⟩ hlt
    obtain ⟨y, a, hya⟩ := y
    have hpm : (pre ++ [(⟨y, a, hya⟩ : Key_pm s.f)]).map (fun z => z.1) = (pre.map fun z => z.1) ++ [y] := by rw [List.map_append]; rfl
    rw [ownG_I (I := fun (pre : List (Key_pm s.f)) W => FenI w.heap.size B C M v0 F W0 (stepD s) (pre.map fun y => y.1) W) (xs := pre ++ [(⟨y, a, hya⟩ : Key_pm s.f)]) (J := fun W => Boxed W w.heap.size 44 (.pointer (some ⟨B, 0, none⟩)) ∧ DvR W B C M v0 F (fenOne ((pre.map fun y => y.1).foldl fenOne (stepD s)) y) ∧ Chg F W0 W) (by
     rw [hpm]
     unfold FenI
     rw [List.foldl_append]; rfl)]
    generalize (pre.map fun z => z.1) = P at *
    clear hpm hlt
    obtain ⟨q1, q2, q3⟩ := fen_same P (stepD s)
    rw [hse.out.2.2.1] at q1
    rw [hse.out.2.2.2] at q2
    rw [hse.out.1] at q3
    generalize P.foldl fenOne (stepD s) = sP at *
    obtain ⟨hy0, hyN⟩ := hfr.out y a hya
    rw [← q3] at hyN
    rw [← q1] at hya
    obtain ⟨i, rfl⟩ := Int.eq_ofNat_of_zero_le hy0
    have hi : i < sP.L.length := by omega
    have hx64 : I64 (i : Int) := by have := hlen.out; constructor <;> omega
    obtain ⟨A, cap, rfl, hA⟩ := hRW.last.form
    obtain ⟨g, rfl, _, hgl⟩ := hA (by omega)
    have hgF := hRW.f0 g rfl
    have hgn := (hF0.out g hgF)
    have hRd := hRW.keep (Below.refl _ _).drew
    obtain ⟨⟨c0, c1, c2, _⟩, _⟩ := hRd.cells
    have cb : W.drew.cell? ⟨w.heap.size, 0, none⟩ = some (.pointer (some ⟨B, 0, none⟩)) := bx.cell
    have hlk := hRd.flus.look1 hx64
    obtain ⟨e0, f0⟩ := hRd.last.cell rfl hi
    rw [hya] at hlk
    obtain ⟨W3, hW3, hR2, hch2⟩ : ∃ W3, W3 = (W.drew.setCell ⟨g, i, none⟩ (.int .u64 (a : Nat))).drew ∧ DvR W3 B C M (.slice (some ⟨g, 0, none⟩) sP.L.length cap) F { sP with L := sP.L.set i a } ∧ Hid (Chg F W W3) :=
     ⟨_, rfl, (hRd.lTo (x := a) rfl hi).keep (Below.refl _ _).drew, lh (((chg_drew F W).trans (Chg.setCell _ _ _ _ hgF) (fun j q => .inl q)).trans (chg_drew F _) (fun j q => .inl q))⟩
    have hBX := hF0.out B hRW.fB
    have bx2 : Boxed W3 w.heap.size 44 (.pointer (some ⟨B, 0, none⟩)) := boxed_chg bx hch2.out (fun q => (hF0.out _ q).2 rfl)
    have hi2 : (i : Int) < (sP.L.length : Int) := by omega
    obtain ⟨⟨d0, d1, d2, _⟩, _⟩ := hR2.cells
    have cbx := bx2.cell
    have hlk2 := hR2.flus.look1 hx64
    have hlk3 := hR2.cach.look1 hx64
    simp only [] at hlk2 hlk3
    rw [hya] at hlk2
    have hone : fenOne sP (i : Int) = { sP with L := sP.L.set i a, c := if (sP.c (i : Int)).getD 0 = a then delU sP.c (i : Int) else sP.c } := by
     unfold fenOne
     rw [hya]; rfl
    rw [hone]
    simp only [Option.getD_some] at hlk hlk2
    replace hone := lh hone
    replace hya := lh hya
    obtain ⟨z, hz⟩ : ∃ z, (sP.c (i : Int)).getD 0 = z := ⟨_, rfl⟩
    rw [hz] at hlk3 ⊢
    replace hz := lh hz
    replace hRW := lh hRW
    replace hRd := lh hRd
    replace hR2 := lh hR2
    replace hcW := lh hcW
    replace bx := lh bx
    replace bx2 := lh bx2
    obtain ⟨x0, e0⟩ : ∃ x, W.drew.cell? ⟨g, i, none⟩ = some x := ⟨_, e0⟩
    clear hA q1 q2 q3
    gi_wp2
    refine wpIn_region_tail_wr (S := (fun w' => w' = W.drew)) (n := 12) (by kernel_rfl) (by kernel_rfl) (by rintro ⟨_, _, h⟩; exact h) ?_ (fun hHeld hInv => ?_) (by decide)
    ·(try dsimp only)
     all_goals rfl
    refine takeUS 0 hInv ?_; clear hInv; intro hInv
    refine takeUS 1 hInv ?_; clear hInv; intro hInv
    refine takeUS 2 hInv ?_; clear hInv; intro hInv
    refine takeUS 3 hInv ?_; clear hInv; intro hInv
    refine takeUS 4 hInv ?_; clear hInv; intro hInv
    refine takeUS 5 hInv ?_; clear hInv; intro hInv
    refine takeUS 6 hInv ?_; clear hInv; intro hInv
    refine takeUS 7 hInv ?_; clear hInv; intro hInv
    refine takeUS 8 hInv ?_; clear hInv; intro hInv
    refine takeUS 9 hInv ?_; clear hInv; intro hInv
    refine takeUS 10 hInv ?_; clear hInv; intro hInv
    refine takeUS 11 hInv ?_; clear hInv; intro hInv
    refine lastS 12 rfl (by decide) (by kernel_rfl) (fun K hK => ?_)
    go_simp
    refine hK.out _ _ ?_
    clear hK K
    refine wpAnyS_done (by kernel_rfl) ?_ _
    gi_wp2
    have hWW : (W.setCell ⟨g, i, none⟩ (.int .u64 (a : Nat))).drew.drew = W3 := by rw [hW3]; rfl
    replace hW3 := lh hW3
    refine wpIn_region_held_wr (S := (fun w' => w' = W3)) (by kernel_rfl) (by kernel_rfl) (by rintro ⟨_, _, h⟩; exact h) ?_ (fun hHeld => ?_)
    ·(try dsimp only)
     exact hWW
    refine takeU 0 ?_
    refine takeU 1 ?_
    refine takeU 2 ?_
    refine takeU 3 ?_
    refine takeU 4 ?_
    refine takeU 5 ?_
    refine takeU 6 ?_
    refine takeU 7 ?_
    refine takeU 8 ?_
    refine takeU 9 ?_
    refine takeU 10 ?_
    refine takeU 11 ?_
    refine takeU 12 ?_
    refine wpAnyH_done (by kernel_rfl) ?_ _
    rw [hWW]
    clear hHeld hlk hlk2 hlk3 d0 d2 c0 c1 c2 e0 f0 cb
    by_cases hza : z = a
    ·subst hza
     obtain ⟨W4, hdel, hm4, hg4⟩ := hR2.out.cach.drop hx64 0
     have hR4 := hR2.out.cTo hg4 hm4 (Nat.le_refl _)
     have hFC := hR2.out.fC
     have hc4 := lh (hch2.out.trans (Chg.of_grown (S := F) hg4 (fun k e => by cases e; exact .inl hFC)) (fun j q => .inl q))
     have bx4 := boxed_chg bx.out hc4.out (fun q => (hF0.out _ q).2 rfl)
     clear hm4 hg4
     gi_wp2
     exact ⟨keepsFrom_chg hc4.out (fun k q => by have := (hF0.out k q).1; omega), kq_chg hc4.out (fun k q => ⟨by have := (hF0.out k q).1; omega, (hF0.out k q).2⟩) bx.out.lt, bx4, (by first | exact hR4 | (rw [if_pos rfl]; exact hR4)), hcW.out.trans hc4.out (fun j q => .inl q)⟩
    have hzf : ((z : Nat) : Int) ≠ ((a : Nat) : Int) := by omega
    have hzb : (((z : Nat) : Int) == ((a : Nat) : Int)) = false := by simpa using hzf
    gi_wp2
    exact ⟨keepsFrom_chg hch2.out (fun k q => by have := (hF0.out k q).1; omega), kq_chg hch2.out (fun k q => ⟨by have := (hF0.out k q).1; omega, (hF0.out k q).2⟩) bx.out.lt, bx2.out, (by first | exact hR2.out | (rw [if_neg hza]; exact hR2.out)), hcW.out.trans hch2.out (fun j q => .inl q)⟩
   case done =>
    rintro D ys W hD rfl ⟨bx, hRW, hcW⟩ hK
    rw [hK2] at hRW
    obtain ⟨p1, p2, p3⟩ := fen_same (keysL s.L.length s.f) (stepD s)
    rw [hse.out.2.2.2] at p2
    obtain ⟨sP, hsP⟩ : ∃ sP, (keysL s.L.length s.f).foldl fenOne (stepD s) = sP := ⟨_, rfl⟩
    rw [hsP] at hRW p1 p2 p3
    obtain ⟨⟨c0, c1, c2, _⟩, _⟩ := hRW.cells
    have cb := bx.cell
    obtain ⟨W5, hrun, hm5, hg5⟩ := hRW.flus.clear 0
    have hR5 := hRW.fTo hg5 (hm5.mono (Nat.zero_le sP.n)) (Nat.le_refl _)
    have hFM := hRW.fM
    have hc5 := (hcW.trans (Chg.of_grown (S := F) hg5 (fun k e => by cases e; exact .inl hFM)) (fun j q => .inl q))
    have hMD : M ≠ D := fun e => by have := (hF0.out M hFM).1; omega
    have hDl := (Array.getElem?_eq_some_iff.1 hK).1
    have hK5 : W5.heap[D]? = some (.deferred (some [])) := (hg5.block D hDl (fun e => hMD (by cases e; rfl))).trans hK
    have hcD : Chg (fun k => k = D) W5 (W5.putObj D (.deferred none)) := chg_put _ _ _ rfl
    have hR6 := lh (hR5.chg hcD (fun k q e => by have := (hF0.out k q).1; omega))
    have hc6 := lh ((hcw3.out.trans hc5 (fun j q => .inl q)).trans hcD (fun j q => .inr (by have := hcw3.out.size; omega)))
    clear hRW bx hm5 hg5 hR5 hc5 hcD c0 c1
    gi_wp2
    refine ⟨by simp, .inl ⟨_, _, rfl, run_takeDeferred hK5, ?_⟩⟩
    subst hsP
    exact ⟨_, results_none rfl _ _ _, rfl, ⟨_, _, _, hR6.out⟩, hc6.out⟩
   rintro D c pre W _ _ h _
   exact h.elim
end Go.Proofs.YtkkbngcgphlikaaGreatDoor
end
section
namespace Go.Proofs.YtkkbngcgphlikaaGreatDoor
def PV (s : Dv) (i v : Nat) : Prop := v = s.L.getD i 0 ∨ s.f (i : Int) = some v ∨ s.c (i : Int) = some v
def Al (A : Nat → Nat → Prop) (s : Dv) : Prop := ∀ i, i < s.L.length → ∀ v, PV s i v → A i v
theorem Al.mono {A A' : Nat → Nat → Prop} {s : Dv} (h : Al A s) (hA : ∀ i v, A i v → A' i v) : Al A' s := fun i hi v hv => hA i v (h i hi v hv)
theorem Al.same {A : Nat → Nat → Prop} {s s' : Dv} (h : Al A s) (hL : s'.L = s.L) (hc : s'.c = s.c) (hf : s'.f = s.f) : Al A s' := fun i hi v hv => by
 unfold PV at hv
 rw [hL, hc, hf] at hv
 rw [hL] at hi
 exact h i hi v hv
theorem Al.step {A : Nat → Nat → Prop} {s : Dv} (h : Al A s) : Al A (stepD s) := by
 obtain ⟨q1, q2, q3, -⟩ := stepD_same s
 exact h.same q1 q2 q3
theorem done_of {s : Dv} (h : (stepD s).dead = false) : doneD s = true := by
 unfold stepD at h
 unfold doneD
 split at h
 ·rename_i hd; rw [hd] at h; cases h
 rename_i hd
 split at h
 ·cases h
 rename_i hf
 rw [decide_eq_false hf]
 cases hs : s.dead with
 | true => exact absurd hs hd
 | false => rfl
theorem dead_step {s : Dv} (h : s.dead = true) : stepD s = s ∧ doneD s = false := by
 unfold stepD doneD
 rw [h]
 exact ⟨rfl, rfl⟩
theorem dead_store {s : Dv} (h : s.dead = true) (x : Int) (v : Nat) : storeD s x v = s := by
 obtain ⟨h1, h2⟩ := dead_step h
 unfold storeD
 rw [h2, h1]
 simp
theorem dead_flush {s : Dv} (h : s.dead = true) (x m : Int) : flushD s x m = s := by
 obtain ⟨h1, h2⟩ := dead_step h
 unfold flushD
 rw [h2, h1]
 rfl
theorem dead_fence {s : Dv} (h : s.dead = true) : fenceD s = s := by
 obtain ⟨h1, h2⟩ := dead_step h
 unfold fenceD
 rw [h2, h1]
 rfl
theorem store_of {s : Dv} {x : Int} {v : Nat} (h : (storeD s x v).dead = false) (hx : hasD s x = true) : doneD s = true ∧ (storeD s x v).L = s.L ∧ (storeD s x v).c = putU s.c x v ∧ (storeD s x v).f = s.f ∧ s.dead = false := by
 obtain ⟨q1, q2, q3, -⟩ := stepD_same s
 cases hd : doneD s with
 | true =>
   have hds : s.dead = false := by
    unfold doneD at hd
    cases hh : s.dead with
    | true => rw [hh] at hd; cases hd
    | false => rfl
   unfold storeD
   rw [if_pos hx, if_pos hd]
   exact ⟨rfl, q1, rfl, q3, hds⟩
 | false =>
   exfalso
   unfold storeD at h
   rw [if_pos hx, if_neg (by rw [hd]; decide)] at h
   rw [done_of h] at hd
   cases hd
theorem store_L (s : Dv) (x : Int) (v : Nat) : (storeD s x v).L = s.L ∧ (storeD s x v).f = s.f ∧ ∀ y, ¬ y = x → (storeD s x v).c y = s.c y := by
 obtain ⟨q1, q2, q3, -⟩ := stepD_same s
 unfold storeD
 split
 ·split
  ·refine ⟨q1, q3, fun y hy => ?_⟩
   show putU s.c x v y = s.c y
   unfold putU
   rw [if_neg hy]
  exact ⟨q1, q3, fun y _ => by rw [q2]⟩
 exact ⟨rfl, rfl, fun _ _ => rfl⟩
theorem Al.store {A : Nat → Nat → Prop} {s : Dv} (h : Al A s) (x : Int) (v : Nat) (hA : ∀ i : Nat, x = (i : Int) → i < s.L.length → A i v) : Al A (storeD s x v) := fun i hi u hu => by
 obtain ⟨q1, q2, q3⟩ := store_L s x v
 rw [q1] at hi
 unfold PV at hu
 rw [q1, q2] at hu
 by_cases e : (i : Int) = x
 ·rcases hu with hu | hu | hu
  ·exact h i hi u (.inl hu)
  ·exact h i hi u (.inr (.inl hu))
  ·by_cases hd : (storeD s x v).c (i : Int) = s.c (i : Int)
   ·rw [hd] at hu
    exact h i hi u (.inr (.inr hu))
   ·obtain ⟨p1, p2, p3, -⟩ := stepD_same s
    unfold storeD at hu hd
    split at hu
    ·rename_i hx
     rw [if_pos hx] at hd
     split at hu
     ·have hu2 : putU s.c x v (i : Int) = some u := hu
      unfold putU at hu2
      rw [if_pos e] at hu2
      cases hu2
      exact hA i e.symm hi
     ·rename_i hdn
      rw [if_neg hdn, p2] at hd
      exact absurd rfl hd
    ·rename_i hx
     rw [if_neg hx] at hd
     exact absurd rfl hd
 ·rw [q3 _ e] at hu
  exact h i hi u hu
theorem flush_L (s : Dv) (x m : Int) : (flushD s x m).L = s.L ∧ (flushD s x m).c = s.c := by
 obtain ⟨q1, q2, q3, -⟩ := stepD_same s
 unfold flushD
 split
 ·exact ⟨q1, q2⟩
 exact ⟨q1, q2⟩
theorem flush_f (s : Dv) (x m : Int) (y : Int) (u : Nat) (h : (flushD s x m).f y = some u) : s.f y = some u ∨ s.c y = some u := by
 obtain ⟨q1, q2, q3, -⟩ := stepD_same s
 unfold flushD at h
 split at h
 rotate_left
 ·rw [q3] at h
  exact .inl h
 have h2 : fl s (max x 0) (min (x + m) s.L.length) y = some u := h
 unfold fl at h2
 split at h2
 ·split at h2
  ·rename_i w hw
   cases h2
   exact .inr hw
  exact .inl h2
 exact .inl h2
theorem Al.flush {A : Nat → Nat → Prop} {s : Dv} (h : Al A s) (x m : Int) : Al A (flushD s x m) := fun i hi u hu => by
 obtain ⟨q1, q2⟩ := flush_L s x m
 rw [q1] at hi
 unfold PV at hu
 rw [q1, q2] at hu
 rcases hu with hu | hu | hu
 ·exact h i hi u (.inl hu)
 ·rcases flush_f s x m _ u hu with q | q
  ·exact h i hi u (.inr (.inl q))
  ·exact h i hi u (.inr (.inr q))
 ·exact h i hi u (.inr (.inr hu))
theorem flush_of {s : Dv} {x m : Int} (h : (flushD s x m).dead = false) : (flushD s x m).f = fl s (max x 0) (min (x + m) s.L.length) ∧ s.dead = false := by
 cases hd : doneD s with
 | true =>
   have hds : s.dead = false := by
    unfold doneD at hd
    cases hh : s.dead with
    | true => rw [hh] at hd; cases hd
    | false => rfl
   unfold flushD
   rw [if_pos hd]
   exact ⟨rfl, hds⟩
 | false =>
   exfalso
   unfold flushD at h
   rw [if_neg (by rw [hd]; decide)] at h
   rw [done_of h] at hd
   cases hd
theorem flush_in {s : Dv} {x m : Int} (h : (flushD s x m).dead = false) {i v : Nat} (hi : i < s.L.length) (h1 : x ≤ (i : Int)) (h2 : (i : Int) < x + m) (hc : s.c (i : Int) = some v) : (flushD s x m).f (i : Int) = some v := by
 rw [(flush_of h).1]
 unfold fl
 rw [if_pos (by omega), hc]
theorem flush_stay {s : Dv} (x m : Int) {y : Int} {v : Nat} (hf : s.f y = some v) (hc : s.c y = some v) : (flushD s x m).f y = some v := by
 obtain ⟨q1, q2, q3, -⟩ := stepD_same s
 unfold flushD
 split
 ·show fl s (max x 0) (min (x + m) s.L.length) y = some v
  unfold fl
  split
  ·rw [hc]
  exact hf
 rw [q3]; exact hf
theorem fen_L : ∀ (K : List Int) (s : Dv), (∀ x ∈ K, 0 ≤ x ∧ x < s.L.length) → ∀ i : Nat, (K.foldl fenOne s).L.getD i 0 = if (i : Int) ∈ K then (s.f (i : Int)).getD 0 else s.L.getD i 0
 | [], s, _, i => by simp
 | x :: K, s, hK, i => by
   obtain ⟨h1, h2⟩ := hK x (List.mem_cons_self ..)
   have hlen : (fenOne s x).L.length = s.L.length := by simp [fenOne]
   rw [List.foldl_cons, fen_L K (fenOne s x) (fun y hy => by rw [hlen]; exact hK y (List.mem_cons_of_mem _ hy)) i]
   have hf : (fenOne s x).f = s.f := rfl
   have hg : (fenOne s x).L.getD i 0 = if (i : Int) = x then (s.f x).getD 0 else s.L.getD i 0 := by
    show (s.L.set x.toNat ((s.f x).getD 0)).getD i 0 = _
    rw [List.getD_eq_getElem?_getD, List.getElem?_set, List.getD_eq_getElem?_getD]
    by_cases e : (i : Int) = x
    ·rw [if_pos e, if_pos (by omega), if_pos (by omega)]; rfl
    ·rw [if_neg e, if_neg (by omega)]
   rw [hf, hg]
   by_cases m : (i : Int) ∈ K
   ·rw [if_pos m, if_pos (List.mem_cons_of_mem _ m)]
   ·rw [if_neg m]
    by_cases e : (i : Int) = x
    ·rw [if_pos e, if_pos (by rw [e]; exact List.mem_cons_self ..), e]
    ·rw [if_neg e, if_neg (fun q => by
      rcases List.mem_cons.1 q with q | q
      ·exact e q
      ·exact m q)]
theorem fen_C : ∀ (K : List Int) (s : Dv) (y : Int), (K.foldl fenOne s).c y = if y ∈ K ∧ (s.c y).getD 0 = (s.f y).getD 0 then none else s.c y
 | [], s, y => by simp
 | x :: K, s, y => by
   rw [List.foldl_cons, fen_C K (fenOne s x) y]
   have hf : (fenOne s x).f = s.f := rfl
   have hg : (fenOne s x).c y = if y = x ∧ (s.c y).getD 0 = (s.f y).getD 0 then none else s.c y := by
    show (if (s.c x).getD 0 = (s.f x).getD 0 then delU s.c x else s.c) y = _
    by_cases e : y = x
    ·subst e
     by_cases q : (s.c y).getD 0 = (s.f y).getD 0
     ·rw [if_pos q, if_pos ⟨rfl, q⟩]; unfold delU; rw [if_pos rfl]
     ·rw [if_neg q, if_neg (fun z => q z.2)]
    ·by_cases q : (s.c x).getD 0 = (s.f x).getD 0
     ·rw [if_pos q, if_neg (fun z => e z.1)]; unfold delU; rw [if_neg e]
     ·rw [if_neg q, if_neg (fun z => e z.1)]
   rw [hf, hg]
   by_cases e : y = x ∧ (s.c y).getD 0 = (s.f y).getD 0
   ·rw [if_pos e, if_pos (show y ∈ x :: K ∧ (s.c y).getD 0 = (s.f y).getD 0 from ⟨by rw [e.1]; exact List.mem_cons_self .., e.2⟩)]
    split <;> rfl
   ·rw [if_neg e]
    by_cases m : y ∈ K ∧ (s.c y).getD 0 = (s.f y).getD 0
    ·rw [if_pos m, if_pos ⟨List.mem_cons_of_mem _ m.1, m.2⟩]
    ·rw [if_neg m, if_neg (fun q => by
      rcases List.mem_cons.1 q.1 with z | z
      ·exact e ⟨z, q.2⟩
      ·exact m ⟨z, q.2⟩)]
theorem keys_in (N : Nat) (g : Gu) (x : Int) : x ∈ keysL N g ↔ (0 ≤ x ∧ x < N ∧ (g x).isSome = true) := by
 unfold keysL
 rw [List.mem_filter, List.mem_map]
 constructor
 ·rintro ⟨⟨i, hi, rfl⟩, h⟩
  have := List.mem_range.1 hi
  exact ⟨Int.natCast_nonneg i, by show (i : Int) < N; omega, h⟩
 rintro ⟨h1, h2, h3⟩
 exact ⟨⟨x.toNat, List.mem_range.2 (by omega), by show ((x.toNat : Nat) : Int) = x; omega⟩, h3⟩
theorem fence_of {s : Dv} (hd : doneD s = true) : (fenceD s).f = (fun _ => none) ∧ (∀ i : Nat, i < s.L.length → (fenceD s).L.getD i 0 = (s.f (i : Int)).getD (s.L.getD i 0)) ∧ (∀ i : Nat, i < s.L.length → (fenceD s).c (i : Int) = if (s.f (i : Int)).isSome = true ∧ (s.c (i : Int)).getD 0 = (s.f (i : Int)).getD 0 then none else s.c (i : Int)) ∧ (fenceD s).L.length = s.L.length := by
 obtain ⟨q1, q2, q3, -⟩ := stepD_same s
 unfold fenceD
 rw [if_pos hd]
 refine ⟨rfl, fun i hi => ?_, fun i hi => ?_, ?_⟩
 ·show ((keysL s.L.length s.f).foldl fenOne (stepD s)).L.getD i 0 = _
  rw [fen_L _ _ (fun x hx => by rw [q1]; have := (keys_in _ _ _).1 hx; exact ⟨this.1, this.2.1⟩), q1, q3]
  by_cases m : (i : Int) ∈ keysL s.L.length s.f
  ·rw [if_pos m]
   have := ((keys_in _ _ _).1 m).2.2
   cases hf : s.f (i : Int) with
   | none => rw [hf] at this; cases this
   | some v => rfl
  rw [if_neg m]
  cases hf : s.f (i : Int) with
  | none => rfl
  | some v => exact absurd ((keys_in _ _ _).2 ⟨by omega, by omega, by rw [hf]; rfl⟩) m
 ·show ((keysL s.L.length s.f).foldl fenOne (stepD s)).c (i : Int) = _
  rw [fen_C, q2, q3]
  have hk : (i : Int) ∈ keysL s.L.length s.f ↔ (s.f (i : Int)).isSome = true := by
   rw [keys_in]
   exact ⟨fun q => q.2.2, fun q => ⟨by omega, by omega, q⟩⟩
  by_cases m : (s.f (i : Int)).isSome = true ∧ (s.c (i : Int)).getD 0 = (s.f (i : Int)).getD 0
  ·rw [if_pos m, if_pos ⟨hk.2 m.1, m.2⟩]
  rw [if_neg m, if_neg (fun q => m ⟨hk.1 q.1, q.2⟩)]
 show ((keysL s.L.length s.f).foldl fenOne (stepD s)).L.length = _
 rw [(fen_same _ _).2.2, q1]
theorem fence_len (s : Dv) : (fenceD s).L.length = s.L.length := by
 obtain ⟨q1, q2, q3, -⟩ := stepD_same s
 cases hd : doneD s with
 | true => exact (fence_of hd).2.2.2
 | false => unfold fenceD; rw [if_neg (by rw [hd]; decide), q1]
theorem Al.fence {A : Nat → Nat → Prop} {s : Dv} (h : Al A s) : Al A (fenceD s) := by
 cases hd : doneD s with
 | false =>
   unfold fenceD
   rw [if_neg (by rw [hd]; decide)]
   exact h.step
 | true =>
   obtain ⟨h1, h2, h3, h4⟩ := fence_of hd
   intro i hi u hu
   rw [h4] at hi
   unfold PV at hu
   rw [h1, h2 i hi, h3 i hi] at hu
   rcases hu with hu | hu | hu
   ·cases hf : s.f (i : Int) with
    | none => rw [hf] at hu; exact h i hi u (.inl hu)
    | some v => rw [hf] at hu; exact h i hi u (.inr (.inl (by rw [hf, hu]; rfl)))
   ·cases hu
   split at hu
   ·cases hu
   exact h i hi u (.inr (.inr hu))
theorem fence_cl {s : Dv} (h : (fenceD s).dead = false) {i v : Nat} (hi : i < s.L.length) (hf : s.f (i : Int) = some v) (hc : s.c (i : Int) = some v) : (fenceD s).L.getD i 0 = v ∧ (fenceD s).c (i : Int) = none ∧ ∀ u, PV (fenceD s) i u → u = v := by
 have hd : doneD s = true := by
  cases hd : doneD s with
  | true => rfl
  | false =>
    exfalso
    unfold fenceD at h
    rw [if_neg (by rw [hd]; decide)] at h
    rw [done_of h] at hd
    cases hd
 obtain ⟨h1, h2, h3, h4⟩ := fence_of hd
 have e1 : (fenceD s).L.getD i 0 = v := by rw [h2 i hi, hf]; rfl
 have e2 : (fenceD s).c (i : Int) = none := by rw [h3 i hi, if_pos ⟨by rw [hf]; rfl, by rw [hf, hc]⟩]
 refine ⟨e1, e2, fun u hu => ?_⟩
 unfold PV at hu
 rw [e1, h1, e2] at hu
 rcases hu with hu | hu | hu
 ·exact hu
 ·cases hu
 cases hu
end Go.Proofs.YtkkbngcgphlikaaGreatDoor
end
section
namespace Go.Proofs.YtkkbngcgphlikaaGreatDoor
open Go.RowKit Go.ChangeShapes Go.WideShapes Go.Deep Go.Maps
theorem wpList_copy_run {P : Program} {w w' : World} {ops : Array Oper} {rest : List Oper} {o : Oper} {a : Act} {Q : Exit → Act → World → Prop} (hg : o.guard = none) (s x : Operand) (t : TypeId)
 (hop : o.op = Op.call { callee := Callee.builtin Builtin.copy, args := #[s, x], argTypes := #[t, t] }) (vs vx v : Value) (hs : a.eval s = vs) (hx : a.eval x = vx)
 (hrun : (Builtin.copy_ #[t, t] o.type #[vs, vx]).run P w = .ok v w') (h : wpList P ops Q rest (a.put o.dst v) w') : wpList P ops Q (o :: rest) a w := by
 refine wpList_plain hg fun K hK => ?_
 unfold Oper.wp
 simp [execOp, hop, resolve, invoke, builtin, hs, hx, hrun, Result.andThen]
 exact hK _ _ h
theorem copyU {w : World} {base g n cap : Nat} {xs l : List Nat} {u : Value} (h : OwnU w base (.slice (some ⟨g, 0, none⟩) n cap) xs) (hn : xs.length = n) (hl : l.length = n) (h0 : 0 < n) (hu : KL .u64 w u l) (ty : TypeId) :
 ∃ w', (Builtin.copy_ #[25, 25] ty #[.slice (some ⟨g, 0, none⟩) n cap, u]).run Tryz.prog w = .ok (goInt n) w' ∧ OwnU w' base (.slice (some ⟨g, 0, none⟩) n cap) l ∧ w.grownBy w' (some g) := by
 obtain ⟨A, sc, rfl, hC⟩ := hu
 obtain ⟨g2, off, rfl, hg2, hc2, hcell⟩ := hC (by omega)
 rcases h.2 with ⟨hv, _⟩ | ⟨g', cap', cur, hv, hb, hg, h1, h2, h3, h4⟩
 ·cases hv
 obtain ⟨e1, e2⟩ : g = g' ∧ cap = cap' := by cases hv; exact ⟨rfl, rfl⟩
 subst e1
 subst e2
 have hcl : (l.map fun x : Nat => Value.int .u64 x).length = n := by simp [hl]
 rw [hn] at h1 h4
 rw [Nat.mul_one] at h3 h4
 have hrun := run_copy_row (P := Tryz.prog) w 25 25 ty 40 g 0 n cap ⟨g2, off, none⟩ l.length sc cur 40 (l.map fun x : Nat => Value.int .u64 x) Tryz.underlying25 infoU64s hg (by rw [hcl, hl]; exact (Nat.min_self n).symm) (fun j v hj => by
  rw [List.getElem?_map] at hj
  cases hq : l[j]? with
  | none => rw [hq] at hj; cases hj
  | some y =>
    rw [hq] at hj
    cases hj
    obtain ⟨hj1, hj2⟩ := List.getElem?_eq_some_iff.1 hq
    rw [show (⟨g2, off, none⟩ : Addr).add j = ⟨g2, off + j, none⟩ from by simp [Addr.add], hcell j hj1, List.getD_eq_getElem?_getD, hq]
    rfl) (by rw [hcl]; omega) (fun v hv => by
  obtain ⟨y, _, rfl⟩ := List.mem_map.1 hv
  rfl)
 rw [hcl] at hrun
 refine ⟨_, hrun, ⟨by rw [List.length_map, Nat.mul_one], .inr ⟨g, cap, _, by rw [hl], hb, setRow_heap w g _ _ _ _ hg, by omega, h2, ?_, ?_⟩⟩, ⟨rfl, rfl, rfl, by simp [World.setRow], fun k _ hk => setRow_other w g k _ (fun e => hk (by rw [e]))⟩⟩
 ·simp only [List.size_toArray, List.length_append, List.length_take, List.length_drop, Array.length_toList, hcl]; omega
 rw [hl, Nat.mul_one]
 simp [hcl, hl, List.take_append, List.take_of_length_le]
def OpenedP (l : List Nat) (w : World) (e : Ending) (w' : World) : Prop := ∃ B F, e = .returned (.tuple #[.pointer (some ⟨B, 0, none⟩), .int .i64 0]) ∧ DvAt w' B F (dv0 l) ∧ (∀ k, F k → w.heap.size ≤ k) ∧ Below w.heap.size w w'
def newD (words : Nat) : Dv := dv0 (List.replicate words 0)
theorem dNew (n : Nat) (w : World) (h1 : 1 ≤ n) (h2 : n ≤ 65536) :
 Calls Tryz.prog 53 #[.int .i64 n] w (OpenedP (List.replicate n 0) w) := by
 obtain ⟨i0, hi, hz0, hz1, hz2⟩ := info_parts infoU64
 have hmm := @run_makeMap Tryz.prog
 have k1 : ¬ (n : Int) < 1 := by omega
 have k2 : ¬ 65536 < (n : Int) := by omega
 go_enter Tryz.func53, Tryz.ntmps53
 go_wp2_with (at_make; refine wpList_make_full _ rfl _ _ 25 rfl w.heap.size 40 i0 (.int .u64 0) 1 Tryz.underlying25 hi hz0 hz1 .i64 .i64 _ _ n rfl rfl rfl rfl (by rw [hz2]; omega) (by unfold maxLen; omega) (Nat.le_refl _) ?_; intro w1 hown hgr; replace hown := lh hown; replace hgr := lh hgr)
 go_ret2
 have hw1 : Below w.heap.size w w1 := (Below.refl _ w).grown hgr.out (Nat.le_refl _) (by simp)
 have hO : OwnU w1 w.heap.size (.slice (some ⟨w.heap.size, 0, none⟩) n n) (List.replicate n 0) := by
  have q := hown.out
  rw [show (madeCells (Value.int IntKind.u64 0).cells (n * 1)).toList = List.replicate n (Value.int .u64 0) by rw [Nat.mul_one]; exact toList_madeCells_one _ _] at q
  unfold OwnU
  rw [List.length_replicate, List.map_replicate]
  exact q
 have hs1 : w.heap.size < w1.heap.size := (hO.lt w.heap.size rfl).2
 have hA1 : Below w1.heap.size w1 (w1.alloc (.map #[] 0)) := bZ _ _
 have hA2 : Below (w1.alloc (.map #[] 0)).heap.size (w1.alloc (.map #[] 0)) ((w1.alloc (.map #[] 0)).alloc (.map #[] 0)) := bZ _ _
 obtain ⟨W2, hW2⟩ : ∃ W2, (w1.alloc (.map #[] 0)).alloc (.map #[] 0) = W2 := ⟨_, rfl⟩
 have hm1 := MapU.new w1
 have hm2 := MapU.new (w1.alloc (.map #[] 0))
 have hs2 : (w1.alloc (.map #[] 0)).heap.size = w1.heap.size + 1 := World.size_alloc _ _
 rw [hs2] at hm2
 have hs3 : ((w1.alloc (.map #[] 0)).alloc (.map #[] 0)).heap.size = w1.heap.size + 2 := by rw [World.size_alloc, World.size_alloc]
 have hA3 : Below ((w1.alloc (.map #[] 0)).alloc (.map #[] 0)).heap.size ((w1.alloc (.map #[] 0)).alloc (.map #[] 0)) (((w1.alloc (.map #[] 0)).alloc (.map #[] 0)).alloc (.cells (dvc (.slice (some ⟨w.heap.size, 0, none⟩) n n) w1.heap.size (w1.heap.size + 1) (newD n)) (103 : Nat))) := bZ _ _
 have hb1 := World.alloc_heap_new ((w1.alloc (.map #[] 0)).alloc (.map #[] 0)) (.cells (dvc (.slice (some ⟨w.heap.size, 0, none⟩) n n) w1.heap.size (w1.heap.size + 1) (newD n)) (103 : Nat))
 rw [hs3] at hb1
 change OpenedP (newD n).L w _ _
 refine ⟨_, fun k => k = w1.heap.size + 2 ∨ k = w1.heap.size ∨ k = w1.heap.size + 1 ∨ k = w.heap.size, rfl, ⟨w1.heap.size, w1.heap.size + 1, .slice (some ⟨w.heap.size, 0, none⟩) n n, ⟨hb1, ?_, ?_, ?_, by omega, .inl rfl, .inr (.inl rfl), .inr (.inr (.inl rfl)), fun k e => .inr (.inr (.inr (by cases e; rfl))), fun k e => ?_⟩⟩, fun k e => by omega, ?_⟩
 ·exact (((hO.keep hA1).keep hA2).keep hA3).mono (Nat.zero_le _)
 ·exact (hm1.keep hA2).keep hA3
 ·exact hm2.keep hA3
 ·rw [World.size_alloc, hs3]; omega
 exact hw1.trans (((hA1.trans (hA2.mono (by omega))).trans (hA3.mono (by omega))).mono (by omega))
theorem dOpen (v : Value) (l : List Nat) (w : World) (hl : 1 ≤ l.length) (hl2 : l.length ≤ 65536) (hv : KL .u64 w v l) :
 Calls Tryz.prog 14 #[v] w (OpenedP l w) := by
 obtain ⟨n, hn⟩ : ∃ n, l.length = n := ⟨_, rfl⟩
 have hN := dNew n w (by omega) (by omega)
 have hvh := lh hv
 obtain ⟨A, cap, rfl, _⟩ := hv.form hn
 rw [hn] at hl hl2
 go_enter Tryz.func14, Tryz.ntmps14
 go_wp2_with (first
  | (go_at_call 53; refine hN.mono ?_; rintro e w1 ⟨B, F, rfl, hD, hF, hb⟩; clear hN
     obtain ⟨C, M, v0, hR⟩ := hD
     change DvR w1 B C M v0 F (newD n) at hR
     have hlR : (newD n).L.length = n := by simp [newD, dv0]
     obtain ⟨A1, cap1, rfl, hA1⟩ := hR.last.form
     obtain ⟨g, rfl, _, hgl⟩ := hA1 (by omega)
     obtain ⟨⟨c0, c1, c2, c3, c4, c5⟩, fz⟩ := hR.cells
     have hgR := hR.last
     simp only [hlR] at c0 hgR
     obtain ⟨w2, hcp, ho2, hg2⟩ := copyU hgR hlR hn (by omega) (hvh.out.keep hb) 3
     have hgF := hR.f0 g rfl
     have hc0 : Chg (fun k => k = g) w1 w2 := Chg.of_grown hg2 (fun k e => .inl (by cases e; rfl))
     have hR2 := lh (show DvR w2 B C M (.slice (some ⟨g, 0, none⟩) n cap1) F (dv0 l) from
      ⟨(hc0.block B (hR.lt _ hR.fB) (fun e => row_ne hR.last hR.blk (by decide) g rfl e.symm)).trans (by have q := hR.blk; rw [hlR] at q; exact q), ho2, hR.cach.chg hc0 (fun e => row_ne_mapU hR.last hR.cach g rfl e.symm), hR.flus.chg hc0 (fun e => row_ne_mapU hR.last hR.flus g rfl e.symm), hR.ne, hR.fB, hR.fC, hR.fM, fun k e => by cases e; exact hgF, fun k e => Nat.lt_of_lt_of_le (hR.lt k e) hg2.size⟩)
     have hB2 := lh (hb.grown hg2 hb.size (fun j e => by cases e; exact hF g hgF))
     replace hF := lh hF
     clear hR hgR fz c1 c2 c3 c4 c5 hA1 ho2 hg2 hc0 hb)
  | (at_builtin; refine wpList_copy_run rfl _ _ 25 rfl _ _ _ rfl rfl hcp ?_))
 go_ret2
 exact ⟨_, _, rfl, ⟨_, _, _, hR2.out⟩, hF.out, hB2.out⟩
end Go.Proofs.YtkkbngcgphlikaaGreatDoor
end
