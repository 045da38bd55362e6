/-
  Part of the proof of JournalUndo.
-/
import Derived.Test.YtkkbngcgphlikaaGreatDoorJu29
import Derived.Test.YtkkbngcgphlikaaGreatDoorJu32
import Derived.Test.YtkkbngcgphlikaaGreatDoorJu0
set_option maxRecDepth 10000
set_option maxHeartbeats 4000000
set_option linter.unusedVariables false
set_option linter.unusedSimpArgs false
section
namespace Go.Proofs.YtkkbngcgphlikaaGreatDoor
open Go.RowKit Go.ChangeShapes Go.WideShapes Go.Deep Go.Maps Go.Sort Go.Shelf
attribute [local go_sem] Oper.semAt_some
def fenOne (s : Dv) (x : Int) : Dv := { s with L := s.L.set x.toNat ((s.f x).getD 0), c := if (s.c x).getD 0 = (s.f x).getD 0 then delU s.c x else s.c }
def fenceD (s : Dv) : Dv := if doneD s then { (keysL s.L.length s.f).foldl fenOne (stepD s) with f := fun _ => none } else stepD s
theorem fen_same : ∀ (K : List Int) (s : Dv), (K.foldl fenOne s).f = s.f ∧ (K.foldl fenOne s).n = s.n ∧ (K.foldl fenOne s).L.length = s.L.length
 | [], s => ⟨rfl, rfl, rfl⟩
 | x :: K, s => by
   obtain ⟨h1, h2, h3⟩ := fen_same K (fenOne s x)
   rw [List.foldl_cons]
   exact ⟨h1, h2, by rw [h3]; simp [fenOne]⟩
theorem chg_drew (S : Nat → Prop) (w : World) : Chg S w w.drew := Chg.of_below S (Below.refl _ _).drew
theorem chg_put {S : Nat → Prop} (w : World) (D : Nat) (o : Obj) (h : S D) : Chg S w (w.putObj D o) := Chg.of_grown (grownBy_putObj' w D o) (fun k e => by cases e; exact .inl h)
theorem keepsFrom_chg {S : Nat → Prop} {B : Nat} {w w' : World} (h : Chg S w w') (hS : ∀ k, S k → k < B) : KeepsFrom B w w' :=
 ⟨h.size, fun k o hB hk _ => (h.block k (Array.getElem?_eq_some_iff.1 hk).1 (fun q => by have := hS k q; omega)).trans hk⟩
theorem boxed_chg {S : Nat → Prop} {w w' : World} {b : Nat} {t : TypeId} {v : Value} (h : Boxed w b t v) (hc : Chg S w w') (hn : ¬ S b) : Boxed w' b t v := (hc.block b h.lt hn).trans h
theorem ownG_I {α : Type} {B0 : Nat} {Kp : World → World → Prop} {I : List α → World → Prop} {J : World → Prop} {Ix : Code → List α → World → Prop} {xs : List α} {W : World} (h : I xs = J) :
 ownPostG B0 Kp I Ix xs W = ownPostG B0 Kp (fun _ => J) Ix xs W := by
 funext e a W'
 cases e <;> simp only [ownPostG]
 rw [h]
def FenI (x B C M : Nat) (v0 : Value) (F : Nat → Prop) (W0 : World) (s1 : Dv) (pre : List Int) (W : World) : Prop :=
 Boxed W x 44 (.pointer (some ⟨B, 0, none⟩)) ∧ DvR W B C M v0 F (pre.foldl fenOne s1) ∧ Chg F W0 W
theorem FenI.chg {x B C M : Nat} {v0 : Value} {F : Nat → Prop} {W0 : World} {s1 : Dv} {pre : List Int} {W W' : World} {S : Nat → Prop} (h : FenI x B C M v0 F W0 s1 pre W) (hc : Chg S W W') (hx : ¬ S x) (hF : ∀ k, F k → ¬ S k) (h0 : ∀ k, S k → W0.heap.size ≤ k) : FenI x B C M v0 F W0 s1 pre W' :=
 ⟨boxed_chg h.1 hc hx, h.2.1.chg hc hF, h.2.2.trans hc (fun j q => .inr (h0 j q))⟩
theorem fenI_own {β : Type} {x B C M : Nat} {v0 : Value} {F : Nat → Prop} {W0 : World} {s1 : Dv} (g : β → List Int) (hx : x < W0.heap.size) (hF : ∀ k, F k → k < W0.heap.size) : OwnFrom W0.heap.size (fun (pre : β) W => FenI x B C M v0 F W0 s1 (g pre) W) := by
 intro pre W W' row h hg hr
 refine h.chg (S := fun k => W0.heap.size ≤ k) (Chg.of_grown hg (fun k e => .inl (hr k e).1)) (by omega) (fun k e => by have := hF k e; omega) (fun k e => e)
theorem fence_in (n : Nat) (hn : 3 ≤ n) (B : Nat) (F : Nat → Prop) (s : Dv) (w : World) (h : DvAt w B F s) (hg : GoodD s) :
 CallsIn Fence.wide n Tryz.prog 76 #[.pointer (some ⟨B, 0, none⟩)] w fun e w' => e = .returned (.tuple #[]) ∧ DvAt w' B F (fenceD s) ∧ Chg F w w' := by
 have hn1 : 1 ≤ n := by omega
 have hA1 : Below w.heap.size w (w.alloc (.cells #[.pointer (some ⟨B, 0, none⟩)] 44)) := bZ w _
 have hS := dStep B F s _ (h.keep hA1) hg
 have hFl := lh h.lt
 have hlen := lh hg.len
 have hsn := lh hg.n
 have hse := lh (stepD_same s)
 have hfr := lh (show ∀ x a, s.f x = some a → 0 ≤ x ∧ x < s.L.length from fun x a q => by
  obtain ⟨b, hb⟩ := hg.fin x a q
  exact hg.cin x b hb)
 have hKs := lh (keysL_keys s.L.length s.f hfr.out)
 have b0 := Boxed.new w 44 (.pointer (some ⟨B, 0, none⟩))
 clear h hg
 unfold fenceD
 cases hd : doneD s with
 | false =>
   rw [hd] at hS
   rw [if_neg (by simp)]
   refine callsIn_of_wp_marks Tryz.func76 rfl trivial ?_ rfl
   simp only [Tryz.ntmps76, List.size_toArray, List.length_cons, List.length_nil, Nat.reduceAdd, Nat.reduceSub, Array.replicate_succ, Array.replicate_zero, List.push_toArray, List.append_toArray, List.nil_append, List.cons_append]
   gi_wp2
   refine ⟨trivial, (callsIn_wide.2 hS).mono ?_⟩
   rintro e w2 ⟨rfl, h2, hc2⟩
   have b2 := boxed_chg b0 hc2 (fun q => by have := hFl.out _ q; omega)
   have hcw := lh ((Chg.of_below F hA1).trans hc2 (fun j q => .inl q))
   have hs2 : w.heap.size + 1 ≤ w2.heap.size := by have := hc2.size; simpa using this
   clear hS b0 hA1 hc2
   replace h2 := lh h2
   gi_wp2
   exact ⟨_, results_none rfl _ _ _, rfl, h2.out, hcw.out⟩
 | true =>
   rw [hd] at hS
   rw [if_pos rfl]
   refine callsIn_of_wp_marks Tryz.func76 rfl trivial ?_ rfl
   simp only [Tryz.ntmps76, List.size_toArray, List.length_cons, List.length_nil, Nat.reduceAdd, Nat.reduceSub, Array.replicate_succ, Array.replicate_zero, List.push_toArray, List.append_toArray, List.nil_append, List.cons_append]
   gi_wp2
   refine ⟨trivial, (callsIn_wide.2 hS).mono ?_⟩
   rintro e w2 ⟨rfl, h2, hc2⟩
   have b2 := boxed_chg b0 hc2 (fun q => by have := hFl.out _ q; omega)
   have hcw := lh ((Chg.of_below F hA1).trans hc2 (fun j q => .inl q))
   have hs2 : w.heap.size + 1 ≤ w2.heap.size := by have := hc2.size; simpa using this
   clear hS b0 hA1 hc2
   obtain ⟨C, M, v0, hR⟩ := h2
   obtain ⟨⟨c0, c1, c2, c3, c4, c5⟩, fz⟩ := hR.cells
   have cb2 := b2.cell
   have hMl := hFl.out _ hR.fM
   have hCl := hFl.out _ hR.fC
   have hBl := hFl.out _ hR.fB
   have hBl2 : B < w2.heap.size := by omega
   clear c0 c1 c3 c4 c5 fz
   gi_wp2
   refine ⟨trivial, (places_in_pm (n - 1) M _).mono ?_⟩
   rintro e w' ⟨rfl, rfl⟩
   have hA2 : Below w2.heap.size w2 (w2.alloc (.cells #[.map (some M)] 101)) := bZ w2 _
   have hR0 := hR.keep hA2
   have hf0 : MapU (w2.alloc (.cells #[.map (some M)] 101)) M s.n s.f := by
    have := hR0.flus
    rwa [hse.out.2.2.1, hse.out.2.2.2] at this
   have bM := Boxed.new w2 101 (.map (some M))
   have b3 := b2.alloc (.cells #[.map (some M)] 101)
   have hs3 : (w2.alloc (.cells #[.map (some M)] 101)).heap.size = w2.heap.size + 1 := by simp
   have hcw3 := lh (hcw.out.trans (Chg.of_below F hA2) (fun j q => .inl q))
   have cbm := bM.cell
   obtain ⟨W0, hW0⟩ : ∃ W0, W0 = w2.alloc (.cells #[.map (some M)] 101) := ⟨_, rfl⟩
   gi_wp2
   rw [← hW0] at hR0 hf0 bM b3 hs3 hcw3 ⊢
   clear hW0 hA2 hR b2 hcw c2 cb2 cbm
   have hK2 := keysOf_map s.f (keysL s.L.length s.f) hKs.out
   generalize keysOf s.f (keysL s.L.length s.f) hKs.out = K at *
   have hKs2 := hKs.out
   rw [← hK2] at hKs2
   have hF0 := lh (show ∀ k, F k → k < W0.heap.size ∧ k ≠ w.heap.size from fun k q => by have := hFl.out k q; omega)
   have hI0 : FenI w.heap.size B C M v0 F W0 (stepD s) (([] : List (Key_pm s.f)).map fun y => y.1) W0 := ⟨b3, hR0, Chg.refl _ _⟩
   replace hR0 := lh hR0
   refine wpIn_rangeFunc_ownG rfl hn1 (gf := 151) (lb := #[.pointer (some ⟨w2.heap.size, 0, none⟩)]) rfl trivial (enters_of Tryz.func151 (by kernel_rfl) rfl)
    (pl_stops_pm (n - 1) (by omega) w.heap.size w2.heap.size W0.heap.size M s.n s.f K hKs2 W0 (by omega) (ownLt_of b3 (by simp [Value.ownBlock])) bM.cell hf0 (by have := hsn.out; omega) (Nat.le_refl _))
    kq_t (kq_b (by omega)) (Below.refl _ _) (fun _ => rfl)
    (fun pre W => FenI w.heap.size B C M v0 F W0 (stepD s) (pre.map fun y => y.1) W)
    (fun _ _ _ => False)
    (fenI_own (fun pre : List (Key_pm s.f) => pre.map fun y => y.1) (by omega) (fun k q => (hF0.out k q).1))
    (fun _ _ _ _ _ hs _ _ => hs)
    hI0
    (fun y => { tmps := #[.pointer (some ⟨B, 0, none⟩), .pointer (some ⟨w.heap.size, 0, none⟩), .int .i64 y.1, .pointer (some ⟨B, 0, none⟩), .bool true, .bool false, .pointer (some ⟨B, 0, none⟩), .pointer (some ⟨B, 0, none⟩), .pointer (some ⟨B, 2, none⟩), .map (some M), .func (.func 151) #[] #[.pointer (some ⟨w2.heap.size, 0, none⟩)], .int .i64 y.1, undef, undef, undef, undef, undef, undef, undef, undef, undef, undef, undef, undef, undef, undef, undef, undef, undef, undef, undef, undef, undef, undef, undef, undef, undef, undef, undef, undef, undef, undef, undef, undef, undef, undef], defers := [] }) ?assign ?body ?done ?stop
   case assign =>
    intro l y W Kc hK
    gi_wp2
    simpa using hK
   case body =>
    clear hI0
    rintro l pre y W ⟨bx, hRW, hcW⟩ hlt
    obtain ⟨y, a, hya⟩ := y
    have hpm : (pre ++ [(⟨y, a, hya⟩ : Key_pm s.f)]).map (fun z => z.1) = (pre.map fun z => z.1) ++ [y] := by rw [List.map_append]; rfl
    rw [ownG_I (I := fun (pre : List (Key_pm s.f)) W => FenI w.heap.size B C M v0 F W0 (stepD s) (pre.map fun y => y.1) W) (xs := pre ++ [(⟨y, a, hya⟩ : Key_pm s.f)]) (J := fun W => Boxed W w.heap.size 44 (.pointer (some ⟨B, 0, none⟩)) ∧ DvR W B C M v0 F (fenOne ((pre.map fun y => y.1).foldl fenOne (stepD s)) y) ∧ Chg F W0 W) (by
     rw [hpm]
     unfold FenI
     rw [List.foldl_append]; rfl)]
    generalize (pre.map fun z => z.1) = P at *
    clear hpm hlt
    obtain ⟨q1, q2, q3⟩ := fen_same P (stepD s)
    rw [hse.out.2.2.1] at q1
    rw [hse.out.2.2.2] at q2
    rw [hse.out.1] at q3
    generalize P.foldl fenOne (stepD s) = sP at *
    obtain ⟨hy0, hyN⟩ := hfr.out y a hya
    rw [← q3] at hyN
    rw [← q1] at hya
    obtain ⟨i, rfl⟩ := Int.eq_ofNat_of_zero_le hy0
    have hi : i < sP.L.length := by omega
    have hx64 : I64 (i : Int) := by have := hlen.out; constructor <;> omega
    obtain ⟨A, cap, rfl, hA⟩ := hRW.last.form
    obtain ⟨g, rfl, _, hgl⟩ := hA (by omega)
    have hgF := hRW.f0 g rfl
    have hgn := (hF0.out g hgF)
    have hRd := hRW.keep (Below.refl _ _).drew
    obtain ⟨⟨c0, c1, c2, _⟩, _⟩ := hRd.cells
    have cb : W.drew.cell? ⟨w.heap.size, 0, none⟩ = some (.pointer (some ⟨B, 0, none⟩)) := bx.cell
    have hlk := hRd.flus.look1 hx64
    obtain ⟨e0, f0⟩ := hRd.last.cell rfl hi
    rw [hya] at hlk
    obtain ⟨W3, hW3, hR2, hch2⟩ : ∃ W3, W3 = (W.drew.setCell ⟨g, i, none⟩ (.int .u64 (a : Nat))).drew ∧ DvR W3 B C M (.slice (some ⟨g, 0, none⟩) sP.L.length cap) F { sP with L := sP.L.set i a } ∧ Hid (Chg F W W3) :=
     ⟨_, rfl, (hRd.lTo (x := a) rfl hi).keep (Below.refl _ _).drew, lh (((chg_drew F W).trans (Chg.setCell _ _ _ _ hgF) (fun j q => .inl q)).trans (chg_drew F _) (fun j q => .inl q))⟩
    have hBX := hF0.out B hRW.fB
    have bx2 : Boxed W3 w.heap.size 44 (.pointer (some ⟨B, 0, none⟩)) := boxed_chg bx hch2.out (fun q => (hF0.out _ q).2 rfl)
    have hi2 : (i : Int) < (sP.L.length : Int) := by omega
    obtain ⟨⟨d0, d1, d2, _⟩, _⟩ := hR2.cells
    have cbx := bx2.cell
    have hlk2 := hR2.flus.look1 hx64
    have hlk3 := hR2.cach.look1 hx64
    simp only [] at hlk2 hlk3
    rw [hya] at hlk2
    have hone : fenOne sP (i : Int) = { sP with L := sP.L.set i a, c := if (sP.c (i : Int)).getD 0 = a then delU sP.c (i : Int) else sP.c } := by
     unfold fenOne
     rw [hya]; rfl
    rw [hone]
    simp only [Option.getD_some] at hlk hlk2
    replace hone := lh hone
    replace hya := lh hya
    obtain ⟨z, hz⟩ : ∃ z, (sP.c (i : Int)).getD 0 = z := ⟨_, rfl⟩
    rw [hz] at hlk3 ⊢
    replace hz := lh hz
    replace hRW := lh hRW
    replace hRd := lh hRd
    replace hR2 := lh hR2
    replace hcW := lh hcW
    replace bx := lh bx
    replace bx2 := lh bx2
    obtain ⟨x0, e0⟩ : ∃ x, W.drew.cell? ⟨g, i, none⟩ = some x := ⟨_, e0⟩
    clear hA q1 q2 q3
    gi_wp2
    refine wpIn_region_tail_wr (S := (fun w' => w' = W.drew)) (n := 12) (by kernel_rfl) (by kernel_rfl) (by rintro ⟨_, _, h⟩; exact h) ?_ (fun hHeld hInv => ?_) (by decide)
    ·(try dsimp only)
     all_goals rfl
    refine takeUS 0 hInv ?_; clear hInv; intro hInv
    refine takeUS 1 hInv ?_; clear hInv; intro hInv
    refine takeUS 2 hInv ?_; clear hInv; intro hInv
    refine takeUS 3 hInv ?_; clear hInv; intro hInv
    refine takeUS 4 hInv ?_; clear hInv; intro hInv
    refine takeUS 5 hInv ?_; clear hInv; intro hInv
    refine takeUS 6 hInv ?_; clear hInv; intro hInv
    refine takeUS 7 hInv ?_; clear hInv; intro hInv
    refine takeUS 8 hInv ?_; clear hInv; intro hInv
    refine takeUS 9 hInv ?_; clear hInv; intro hInv
    refine takeUS 10 hInv ?_; clear hInv; intro hInv
    refine takeUS 11 hInv ?_; clear hInv; intro hInv
    refine lastS 12 rfl (by decide) (by kernel_rfl) (fun K hK => ?_)
    go_simp
    refine hK.out _ _ ?_
    clear hK K
    refine wpAnyS_done (by kernel_rfl) ?_ _
    gi_wp2
    have hWW : (W.setCell ⟨g, i, none⟩ (.int .u64 (a : Nat))).drew.drew = W3 := by rw [hW3]; rfl
    replace hW3 := lh hW3
    refine wpIn_region_held_wr (S := (fun w' => w' = W3)) (by kernel_rfl) (by kernel_rfl) (by rintro ⟨_, _, h⟩; exact h) ?_ (fun hHeld => ?_)
    ·(try dsimp only)
     exact hWW
    refine takeU 0 ?_
    refine takeU 1 ?_
    refine takeU 2 ?_
    refine takeU 3 ?_
    refine takeU 4 ?_
    refine takeU 5 ?_
    refine takeU 6 ?_
    refine takeU 7 ?_
    refine takeU 8 ?_
    refine takeU 9 ?_
    refine takeU 10 ?_
    refine takeU 11 ?_
    refine takeU 12 ?_
    refine wpAnyH_done (by kernel_rfl) ?_ _
    rw [hWW]
    clear hHeld hlk hlk2 hlk3 d0 d2 c0 c1 c2 e0 f0 cb
    by_cases hza : z = a
    ·subst hza
     obtain ⟨W4, hdel, hm4, hg4⟩ := hR2.out.cach.drop hx64 0
     have hR4 := hR2.out.cTo hg4 hm4 (Nat.le_refl _)
     have hFC := hR2.out.fC
     have hc4 := lh (hch2.out.trans (Chg.of_grown (S := F) hg4 (fun k e => by cases e; exact .inl hFC)) (fun j q => .inl q))
     have bx4 := boxed_chg bx.out hc4.out (fun q => (hF0.out _ q).2 rfl)
     clear hm4 hg4
     gi_wp2
     exact ⟨keepsFrom_chg hc4.out (fun k q => by have := (hF0.out k q).1; omega), kq_chg hc4.out (fun k q => ⟨by have := (hF0.out k q).1; omega, (hF0.out k q).2⟩) bx.out.lt, bx4, (by first | exact hR4 | (rw [if_pos rfl]; exact hR4)), hcW.out.trans hc4.out (fun j q => .inl q)⟩
    have hzf : ((z : Nat) : Int) ≠ ((a : Nat) : Int) := by omega
    have hzb : (((z : Nat) : Int) == ((a : Nat) : Int)) = false := by simpa using hzf
    gi_wp2
    exact ⟨keepsFrom_chg hch2.out (fun k q => by have := (hF0.out k q).1; omega), kq_chg hch2.out (fun k q => ⟨by have := (hF0.out k q).1; omega, (hF0.out k q).2⟩) bx.out.lt, bx2.out, (by first | exact hR2.out | (rw [if_neg hza]; exact hR2.out)), hcW.out.trans hch2.out (fun j q => .inl q)⟩
   case done =>
    rintro D ys W hD rfl ⟨bx, hRW, hcW⟩ hK
    rw [hK2] at hRW
    obtain ⟨p1, p2, p3⟩ := fen_same (keysL s.L.length s.f) (stepD s)
    rw [hse.out.2.2.2] at p2
    obtain ⟨sP, hsP⟩ : ∃ sP, (keysL s.L.length s.f).foldl fenOne (stepD s) = sP := ⟨_, rfl⟩
    rw [hsP] at hRW p1 p2 p3
    obtain ⟨⟨c0, c1, c2, _⟩, _⟩ := hRW.cells
    have cb := bx.cell
    obtain ⟨W5, hrun, hm5, hg5⟩ := hRW.flus.clear 0
    have hR5 := hRW.fTo hg5 (hm5.mono (Nat.zero_le sP.n)) (Nat.le_refl _)
    have hFM := hRW.fM
    have hc5 := (hcW.trans (Chg.of_grown (S := F) hg5 (fun k e => by cases e; exact .inl hFM)) (fun j q => .inl q))
    have hMD : M ≠ D := fun e => by have := (hF0.out M hFM).1; omega
    have hDl := (Array.getElem?_eq_some_iff.1 hK).1
    have hK5 : W5.heap[D]? = some (.deferred (some [])) := (hg5.block D hDl (fun e => hMD (by cases e; rfl))).trans hK
    have hcD : Chg (fun k => k = D) W5 (W5.putObj D (.deferred none)) := chg_put _ _ _ rfl
    have hR6 := lh (hR5.chg hcD (fun k q e => by have := (hF0.out k q).1; omega))
    have hc6 := lh ((hcw3.out.trans hc5 (fun j q => .inl q)).trans hcD (fun j q => .inr (by have := hcw3.out.size; omega)))
    clear hRW bx hm5 hg5 hR5 hc5 hcD c0 c1
    gi_wp2
    refine ⟨by simp, .inl ⟨_, _, rfl, run_takeDeferred hK5, ?_⟩⟩
    subst hsP
    exact ⟨_, results_none rfl _ _ _, rfl, ⟨_, _, _, hR6.out⟩, hc6.out⟩
   rintro D c pre W _ _ h _
   exact h.elim
end Go.Proofs.YtkkbngcgphlikaaGreatDoor
end
section
namespace Go.Proofs.YtkkbngcgphlikaaGreatDoor
open Go.RowKit Go.ChangeShapes Go.WideShapes Go.Deep Go.Maps
def crStep (s : Dv) (keep : List Nat) (D : List Int) (L : List Nat) (j : Nat) : List Nat :=
 if keep.getD j 0 % 3 = 1 then (match s.f (D.getD j 0) with | some v => L.set (D.getD j 0).toNat v | none => L)
 else if keep.getD j 0 % 3 = 2 then L.set (D.getD j 0).toNat ((s.c (D.getD j 0)).getD 0) else L
def crL (s : Dv) (keep : List Nat) (D : List Int) (k : Nat) : List Nat := (List.range k).foldl (crStep s keep D) s.L
theorem crL_succ (s : Dv) (keep : List Nat) (D : List Int) (k : Nat) : crL s keep D (k + 1) = crStep s keep D (crL s keep D k) k := by
 unfold crL
 rw [List.range_succ, List.foldl_append]; rfl
theorem crL_len (s : Dv) (keep : List Nat) (D : List Int) (k : Nat) : (crL s keep D k).length = s.L.length := by
 induction k with
 | zero => rfl
 | succ k ih =>
   rw [crL_succ]
   unfold crStep
   split
   ·split
    ·rw [List.length_set, ih]
    exact ih
   split
   ·rw [List.length_set, ih]
   exact ih
theorem crL_far (s : Dv) (keep : List Nat) (D : List Int) (k j : Nat) (h : keep.length ≤ k) : crL s keep D (k + j) = crL s keep D k := by
 induction j with
 | zero => rfl
 | succ j ih =>
   rw [← Nat.add_assoc, crL_succ, ih]
   unfold crStep
   rw [show keep.getD (k + j) 0 = 0 from by rw [List.getD_eq_getElem?_getD, List.getElem?_eq_none (by omega)]; rfl]
   rfl
def crashD (s : Dv) (keep : List Nat) : Dv := { s with L := crL s keep (keysL s.L.length s.c) (keysL s.L.length s.c).length, c := fun _ => none, f := fun _ => none, dead := false, fuse := 0 }
theorem crash_tail {F : Nat → Prop} {w : World} {B C M : Nat} {v0 : Value} {s : Dv} (h : DvR w B C M v0 F s) :
 ∃ w3 w4, (Builtin.clear_ #[101] 0 #[.map (some C)]).run Tryz.prog w = .ok (.tuple #[]) w3 ∧ (Builtin.clear_ #[101] 0 #[.map (some M)]).run Tryz.prog w3 = .ok (.tuple #[]) w4 ∧
   w.cell? ⟨B, 1, none⟩ = some (.map (some C)) ∧ w3.cell? ⟨B, 2, none⟩ = some (.map (some M)) ∧ w4.cell? ⟨B, 3, none⟩ = some (.bool s.dead) ∧ w4.cell? ⟨B, 4, none⟩ = some (.int .i64 s.fuse) ∧ w4.frozen? ⟨B, 3, none⟩ = false ∧ w4.frozen? ⟨B, 4, none⟩ = false ∧
   Hid (DvR ((w4.setCell ⟨B, 3, none⟩ (.bool false)).setCell ⟨B, 4, none⟩ (.int .i64 0)) B C M v0 F { s with c := fun _ => none, f := fun _ => none, dead := false, fuse := 0 }) ∧ Hid (Chg F w ((w4.setCell ⟨B, 3, none⟩ (.bool false)).setCell ⟨B, 4, none⟩ (.int .i64 0))) := by
 obtain ⟨⟨c0, c1, c2, c3, c4, c5⟩, fz⟩ := h.cells
 obtain ⟨w3, hr1, hm3, hg3⟩ := h.cach.clear 0
 have h3 := h.cTo hg3 (hm3.mono (Nat.zero_le s.n)) (Nat.le_refl _)
 obtain ⟨⟨_, _, d2, _⟩, _⟩ := h3.cells
 obtain ⟨w4, hr2, hm4, hg4⟩ := h3.flus.clear 0
 have h4 := h3.fTo hg4 (hm4.mono (Nat.zero_le s.n)) (Nat.le_refl _)
 obtain ⟨⟨_, _, _, e3, e4, _⟩, fe⟩ := h4.cells
 have h5 := (h4.put (o := 3) (u := .bool false) (s' := { s with c := fun _ => none, f := fun _ => none, dead := false }) rfl rfl rfl rfl rfl).put (o := 4) (u := .int .i64 0) (s' := { s with c := fun _ => none, f := fun _ => none, dead := false, fuse := 0 }) rfl rfl rfl rfl rfl
 have hc := ((((Chg.of_grown (S := F) hg3 (fun k e => by cases e; exact .inl h.fC)).trans (Chg.of_grown (S := F) hg4 (fun k e => by cases e; exact .inl h.fM)) (fun j q => .inl q)).trans (Chg.setCell w4 B 3 (.bool false) h.fB) (fun j q => .inl q)).trans (Chg.setCell _ B 4 (.int .i64 0) h.fB) (fun j q => .inl q))
 exact ⟨w3, w4, hr1, hr2, c1, d2, e3, e4, fe 3, fe 4, h5, hc⟩
theorem dCrash (B : Nat) (F : Nat → Prop) (s : Dv) (vk : Value) (keep : List Nat) (w : World) (h : DvAt w B F s) (hg : GoodD s) (hbl : BL keep) (hkl : keep.length ≤ 1000) (hK : ∀ w', Chg F w w' → KL .u8 w' vk keep) :
 Calls Tryz.prog 20 #[.pointer (some ⟨B, 0, none⟩), vk] w fun e w' => e = .returned (.tuple #[]) ∧ DvAt w' B F (crashD s keep) ∧ Chg F w w' := by
 have hDr := dDirty B F s w h hg
 have hKs := lh (keysL_keys s.L.length s.c hg.cin)
 have hKl := keysL_len s.L.length s.c
 have hlen := hg.len
 have hsn := lh hg.n
 have hcin := lh hg.cin
 obtain ⟨C, M, v0, hR⟩ := h
 have hFl := lh hR.lt
 obtain ⟨A, cap, rfl, hA⟩ := hR.last.form
 obtain ⟨g, rfl, _, hgl⟩ := hA hg.len0
 obtain ⟨Ak, capk, rfl, _⟩ := (hK w (Chg.refl _ _)).form rfl
 have hgF := lh (hR.f0 g rfl)
 replace hR := lh hR
 replace hK := lh hK
 obtain ⟨nk, hnk⟩ : ∃ nk, keep.length = nk := ⟨_, rfl⟩
 obtain ⟨N, hN⟩ : ∃ N, s.L.length = N := ⟨_, rfl⟩
 obtain ⟨D, hD⟩ : ∃ D, keysL s.L.length s.c = D := ⟨_, rfl⟩
 have hcr : crashD s keep = { s with L := crL s keep D D.length, c := fun _ => none, f := fun _ => none, dead := false, fuse := 0 } := by unfold crashD; rw [hD]
 rw [hcr, hnk]
 rw [hD] at hDr hKs hKl
 rw [hN] at hR hKl hlen hcin
 obtain ⟨m, hm⟩ : ∃ m, D.length = m := ⟨_, rfl⟩
 rw [hm] at hKl ⊢
 rw [hnk] at hkl
 replace hnk := lh hnk
 replace hm := lh hm
 replace hN := lh hN
 replace hbl := lh hbl
 clear hg hA hcr hD hgl
 go_enter Tryz.func20, Tryz.ntmps20
 go_wp2_with (go_at_call 44; refine hDr.mono ?_; rintro e w1 ⟨v, rfl, hO, hb⟩; obtain ⟨AD, capD, rfl, _⟩ := (hO.el iE_len).form hm.out; clear hDr)
 have hR1 := lh (hR.out.keep hb)
 have hc1 := lh (Chg.of_below F hb)
 have hb1 := lh hb
 replace hO := lh hO
 clear hR hb
 have hcrl := lh (fun k => crL_len s keep D k)
 go_loopw [11] (fun i wr => ∃ k : Nat, k ≤ m ∧ i = .int .i64 k ∧ Hid (DvR wr B C M (.slice (some ⟨g, 0, none⟩) N cap) F { s with L := crL s keep D k }) ∧ Hid (Chg F w wr) ∧ Hid (Chg F w1 wr)) (fun i _ => m + 1 - (intOf i).toNat)
 case atStart => exact ⟨0, Nat.zero_le _, rfl, hR1, hc1, Chg.refl _ _⟩
 clear hR1 hc1
 obtain ⟨k, hk, rfl, hRh, hc, hcD⟩ := hrel
 by_cases hlt : k < m
 rotate_left
 ·obtain rfl : k = m := by omega
  have hRe := hRh.out
  obtain ⟨w3, w4, hrun1, hrun2, d1, d2, d3, d4, f3, f4, hRf, hcf⟩ := crash_tail hRe
  replace hRe := lh hRe
  go_wp2_with fail
  go_end0
  exact ⟨rfl, ⟨_, _, _, hRf.out⟩, hc.out.trans hcf.out (fun j q => .inl q)⟩
 have hlt' : (k : Int) < (m : Int) := by omega
 by_cases hkk : k < nk
 rotate_left
 ·have hkk' : (nk : Int) ≤ (k : Int) := by omega
  have hfar := crL_far s keep D k (m - k) (by rw [hnk.out]; omega)
  rw [show k + (m - k) = m by omega] at hfar
  have hRe := hRh.out
  rw [← hfar] at hRe
  have hOw := hO.out.chg hcD.out (fun q e qF => by have := hFl.out q qF; have := (hO.out.lt q e).1; omega)
  obtain ⟨gD, capD2, he, hbD, hgD, hcapD⟩ := hOw.form (by rw [hm.out]; omega)
  rw [hm.out] at he hcapD
  cases he
  have hcDc := hOw.cell iE_len hm.out hlt (j := 0) (by decide)
  obtain ⟨x, e0⟩ : ∃ x, wr.cell? ⟨gD, k, none⟩ = some (.int .i64 x) := by
   have q := hcDc.1
   rw [Nat.mul_one, Nat.add_zero] at q
   exact ⟨_, q⟩
  clear hfar hcDc hOw hbD hgD
  obtain ⟨w3, w4, hrun1, hrun2, d1, d2, d3, d4, f3, f4, hRf, hcf⟩ := crash_tail hRe
  replace hRe := lh hRe
  go_wp2_with fail
  go_end0
  exact ⟨rfl, ⟨_, _, _, hRf.out⟩, hc.out.trans hcf.out (fun j q => .inl q)⟩
 have hkk' : ¬ ((nk : Int) ≤ (k : Int)) := by omega
 -- the dirty word's place
 obtain ⟨x, hx⟩ : ∃ x, D.getD k 0 = x := ⟨_, rfl⟩
 have hxm : x ∈ D := by
  rw [← hx, List.getD_eq_getElem?_getD, List.getElem?_eq_getElem (by rw [hm.out]; exact hlt)]
  exact List.getElem_mem _
 obtain ⟨z, hz⟩ := (hKs.out.mem x).1 hxm
 obtain ⟨hx0, hxN⟩ := hcin.out x z hz
 have hOw := hO.out.chg hcD.out (fun q e qF => by have := hFl.out q qF; have := (hO.out.lt q e).1; omega)
 obtain ⟨gD, capD2, he, hbD, hgD, hcapD⟩ := hOw.form (by rw [hm.out]; omega)
 rw [hm.out] at he hcapD
 cases he
 have hcDc := hOw.cell iE_len hm.out hlt (j := 0) (by decide)
 have e0 : wr.cell? ⟨gD, k, none⟩ = some (.int .i64 x) := by
  have q := hcDc.1
  rw [Nat.mul_one, Nat.add_zero] at q
  rw [q, ← hx]; rfl
 obtain ⟨Ak2, capk2, he2, hCk⟩ := (hK.out wr hc.out).form hnk.out
 obtain ⟨gk, ok, hAk, hcapk, hgk, e1⟩ := hCk wr k (Below.refl _ _) hkk
 cases he2
 subst hAk
 have hbb := hbl.out.at k (by rw [hnk.out]; exact hkk)
 have hsucc := crL_succ s keep D k
 unfold crStep at hsucc
 rw [hx] at hsucc
 have hLl := hcrl.out k
 rw [hN.out] at hLl
 generalize crL s keep D k = L at *
 generalize keep.getD k 0 = b at *
 have hR := hRh.out
 obtain ⟨⟨c0, c1, c2, c3, c4, c5⟩, fz⟩ := hR.cells
 have hx64 : I64 x := by constructor <;> omega
 obtain ⟨i, rfl⟩ := Int.eq_ofNat_of_zero_le hx0
 have hi : i < N := by omega
 obtain ⟨x1, f1⟩ := hR.last.cell hLl hi
 replace hx := lh hx
 replace hK := lh hK.out
 have hwb : ((b : Nat) : Int) < 256 := by omega
 clear hCk hcDc hOw c3 c4 c5 fz hbD hgD hz hxm
 have hr3 : b % 3 = 0 ∨ b % 3 = 1 ∨ b % 3 = 2 := by omega
 rcases hr3 with hr | hr | hr
 ·have hm3 : ((b : Nat) : Int) % 3 = 0 := by omega
  have hm4 : Int.tmod ((b : Nat) : Int) 3 = 0 := by rw [Int.tmod_eq_emod_of_nonneg (by omega)]; exact hm3
  rw [if_neg (by omega), if_neg (by omega)] at hsucc
  replace hsucc := lh hsucc
  replace hr := lh hr
  clear hR
  go_wp2_with fail
  go_roundw
  case rel => exact ⟨k + 1, by omega, by go_num, (by rw [hsucc.out]; exact hRh), hc, hcD⟩
  simp [intOf]; omega
 ·have hm3 : ((b : Nat) : Int) % 3 = 1 := by omega
  have hm4 : Int.tmod ((b : Nat) : Int) 3 = 1 := by rw [Int.tmod_eq_emod_of_nonneg (by omega)]; exact hm3
  rw [if_pos hr] at hsucc
  have hlk := hR.flus.look hx64
  simp only [] at hlk
  replace hr := lh hr
  cases hfx : s.f (i : Int) with
  | none =>
    rw [hfx] at hsucc hlk
    simp only [Option.getD_none, Option.isSome_none] at hlk
    simp only [] at hsucc
    replace hsucc := lh hsucc
    clear hR
    go_wp2_with fail
    go_roundw
    case rel => exact ⟨k + 1, by omega, by go_num, (by rw [hsucc.out]; exact hRh), hc, hcD⟩
    simp [intOf]; omega
  | some v =>
    rw [hfx] at hsucc hlk
    simp only [Option.getD_some, Option.isSome_some] at hlk
    simp only [Int.toNat_natCast] at hsucc
    replace hsucc := lh hsucc
    have hR3 := lh (hR.lTo (x := v) hLl hi)
    have hcs := lh (Chg.setCell (S := F) wr g i (.int .u64 (v : Nat)) hgF.out)
    clear hR
    go_wp2_with fail
    go_roundw
    case rel => exact ⟨k + 1, by omega, by go_num, (by rw [hsucc.out]; exact hR3), hc.out.trans hcs.out (fun j q => .inl q), hcD.out.trans hcs.out (fun j q => .inl q)⟩
    simp [intOf]; omega
 have hm3 : ((b : Nat) : Int) % 3 = 2 := by omega
 have hm4 : Int.tmod ((b : Nat) : Int) 3 = 2 := by rw [Int.tmod_eq_emod_of_nonneg (by omega)]; exact hm3
 rw [if_neg (by omega), if_pos hr] at hsucc
 replace hr := lh hr
 have hRd := hR.keep (Below.refl _ _).drew
 obtain ⟨⟨d0, d1, _⟩, _⟩ := hRd.cells
 have hlk := hRd.cach.look1 hx64
 simp only [] at hlk
 generalize (s.c (i : Int)).getD 0 = z at *
 simp only [Int.toNat_natCast] at hsucc
 replace hsucc := lh hsucc
 obtain ⟨x2, f2⟩ := hRd.last.cell hLl hi
 obtain ⟨y2, x2⟩ : ∃ y, wr.drew.cell? ⟨g, i, none⟩ = some y := ⟨_, x2⟩
 have hR3 := lh (hRd.lTo (x := z) hLl hi)
 have hcs := lh ((chg_drew F wr).trans (Chg.setCell (S := F) wr.drew g i (.int .u64 (z : Nat)) hgF.out) (fun j q => .inl q))
 have hi2 : (i : Int) < (N : Int) := by omega
 clear hR hRd
 go_wp2_with fail
 refine wp_region_tail (S := (fun w' => w' = wr.drew)) (n := 12) (by kernel_rfl) ?_ (fun hHeld hInv => ?_) (by decide)
 ·(try dsimp only)
  all_goals rfl
 refine takeUS 0 hInv ?_; clear hInv; intro hInv
 refine takeUS 1 hInv ?_; clear hInv; intro hInv
 refine takeUS 2 hInv ?_; clear hInv; intro hInv
 refine takeUS 3 hInv ?_; clear hInv; intro hInv
 refine takeUS 4 hInv ?_; clear hInv; intro hInv
 refine takeUS 5 hInv ?_; clear hInv; intro hInv
 refine takeUS 6 hInv ?_; clear hInv; intro hInv
 refine takeUS 7 hInv ?_; clear hInv; intro hInv
 refine takeUS 8 hInv ?_; clear hInv; intro hInv
 refine takeUS 9 hInv ?_; clear hInv; intro hInv
 refine takeUS 10 hInv ?_; clear hInv; intro hInv
 refine takeUS 11 hInv ?_; clear hInv; intro hInv
 refine lastS 12 rfl (by decide) (by kernel_rfl) (fun K hK => ?_)
 go_simp
 refine hK.out _ _ ?_
 clear hK K
 refine wpAnyS_done (by kernel_rfl) ?_ _
 go_wp2_with fail
 go_roundw
 case rel => exact ⟨k + 1, by omega, by go_num, (by rw [hsucc.out]; exact hR3), hc.out.trans hcs.out (fun j q => .inl q), hcD.out.trans hcs.out (fun j q => .inl q)⟩
 simp [intOf]; omega
end Go.Proofs.YtkkbngcgphlikaaGreatDoor
end
section
namespace Go.Proofs.YtkkbngcgphlikaaGreatDoor
def PV (s : Dv) (i v : Nat) : Prop := v = s.L.getD i 0 ∨ s.f (i : Int) = some v ∨ s.c (i : Int) = some v
def Al (A : Nat → Nat → Prop) (s : Dv) : Prop := ∀ i, i < s.L.length → ∀ v, PV s i v → A i v
theorem Al.mono {A A' : Nat → Nat → Prop} {s : Dv} (h : Al A s) (hA : ∀ i v, A i v → A' i v) : Al A' s := fun i hi v hv => hA i v (h i hi v hv)
theorem Al.same {A : Nat → Nat → Prop} {s s' : Dv} (h : Al A s) (hL : s'.L = s.L) (hc : s'.c = s.c) (hf : s'.f = s.f) : Al A s' := fun i hi v hv => by
 unfold PV at hv
 rw [hL, hc, hf] at hv
 rw [hL] at hi
 exact h i hi v hv
theorem Al.step {A : Nat → Nat → Prop} {s : Dv} (h : Al A s) : Al A (stepD s) := by
 obtain ⟨q1, q2, q3, -⟩ := stepD_same s
 exact h.same q1 q2 q3
theorem done_of {s : Dv} (h : (stepD s).dead = false) : doneD s = true := by
 unfold stepD at h
 unfold doneD
 split at h
 ·rename_i hd; rw [hd] at h; cases h
 rename_i hd
 split at h
 ·cases h
 rename_i hf
 rw [decide_eq_false hf]
 cases hs : s.dead with
 | true => exact absurd hs hd
 | false => rfl
theorem dead_step {s : Dv} (h : s.dead = true) : stepD s = s ∧ doneD s = false := by
 unfold stepD doneD
 rw [h]
 exact ⟨rfl, rfl⟩
theorem dead_store {s : Dv} (h : s.dead = true) (x : Int) (v : Nat) : storeD s x v = s := by
 obtain ⟨h1, h2⟩ := dead_step h
 unfold storeD
 rw [h2, h1]
 simp
theorem dead_flush {s : Dv} (h : s.dead = true) (x m : Int) : flushD s x m = s := by
 obtain ⟨h1, h2⟩ := dead_step h
 unfold flushD
 rw [h2, h1]
 rfl
theorem dead_fence {s : Dv} (h : s.dead = true) : fenceD s = s := by
 obtain ⟨h1, h2⟩ := dead_step h
 unfold fenceD
 rw [h2, h1]
 rfl
theorem dead_evict {s : Dv} (h : s.dead = true) (x : Int) : evictD s x = s := by
 obtain ⟨h1, h2⟩ := dead_step h
 unfold evictD
 rw [h2, h1]
 simp
theorem store_of {s : Dv} {x : Int} {v : Nat} (h : (storeD s x v).dead = false) (hx : hasD s x = true) : doneD s = true ∧ (storeD s x v).L = s.L ∧ (storeD s x v).c = putU s.c x v ∧ (storeD s x v).f = s.f ∧ s.dead = false := by
 obtain ⟨q1, q2, q3, -⟩ := stepD_same s
 cases hd : doneD s with
 | true =>
   have hds : s.dead = false := by
    unfold doneD at hd
    cases hh : s.dead with
    | true => rw [hh] at hd; cases hd
    | false => rfl
   unfold storeD
   rw [if_pos hx, if_pos hd]
   exact ⟨rfl, q1, rfl, q3, hds⟩
 | false =>
   exfalso
   unfold storeD at h
   rw [if_pos hx, if_neg (by rw [hd]; decide)] at h
   rw [done_of h] at hd
   cases hd
theorem store_L (s : Dv) (x : Int) (v : Nat) : (storeD s x v).L = s.L ∧ (storeD s x v).f = s.f ∧ ∀ y, ¬ y = x → (storeD s x v).c y = s.c y := by
 obtain ⟨q1, q2, q3, -⟩ := stepD_same s
 unfold storeD
 split
 ·split
  ·refine ⟨q1, q3, fun y hy => ?_⟩
   show putU s.c x v y = s.c y
   unfold putU
   rw [if_neg hy]
  exact ⟨q1, q3, fun y _ => by rw [q2]⟩
 exact ⟨rfl, rfl, fun _ _ => rfl⟩
theorem Al.store {A : Nat → Nat → Prop} {s : Dv} (h : Al A s) (x : Int) (v : Nat) (hA : ∀ i : Nat, x = (i : Int) → i < s.L.length → A i v) : Al A (storeD s x v) := fun i hi u hu => by
 obtain ⟨q1, q2, q3⟩ := store_L s x v
 rw [q1] at hi
 unfold PV at hu
 rw [q1, q2] at hu
 by_cases e : (i : Int) = x
 ·rcases hu with hu | hu | hu
  ·exact h i hi u (.inl hu)
  ·exact h i hi u (.inr (.inl hu))
  ·by_cases hd : (storeD s x v).c (i : Int) = s.c (i : Int)
   ·rw [hd] at hu
    exact h i hi u (.inr (.inr hu))
   ·obtain ⟨p1, p2, p3, -⟩ := stepD_same s
    unfold storeD at hu hd
    split at hu
    ·rename_i hx
     rw [if_pos hx] at hd
     split at hu
     ·have hu2 : putU s.c x v (i : Int) = some u := hu
      unfold putU at hu2
      rw [if_pos e] at hu2
      cases hu2
      exact hA i e.symm hi
     ·rename_i hdn
      rw [if_neg hdn, p2] at hd
      exact absurd rfl hd
    ·rename_i hx
     rw [if_neg hx] at hd
     exact absurd rfl hd
 ·rw [q3 _ e] at hu
  exact h i hi u hu
theorem flush_L (s : Dv) (x m : Int) : (flushD s x m).L = s.L ∧ (flushD s x m).c = s.c := by
 obtain ⟨q1, q2, q3, -⟩ := stepD_same s
 unfold flushD
 split
 ·exact ⟨q1, q2⟩
 exact ⟨q1, q2⟩
theorem flush_f (s : Dv) (x m : Int) (y : Int) (u : Nat) (h : (flushD s x m).f y = some u) : s.f y = some u ∨ s.c y = some u := by
 obtain ⟨q1, q2, q3, -⟩ := stepD_same s
 unfold flushD at h
 split at h
 rotate_left
 ·rw [q3] at h
  exact .inl h
 have h2 : fl s (max x 0) (min (x + m) s.L.length) y = some u := h
 unfold fl at h2
 split at h2
 ·split at h2
  ·rename_i w hw
   cases h2
   exact .inr hw
  exact .inl h2
 exact .inl h2
theorem Al.flush {A : Nat → Nat → Prop} {s : Dv} (h : Al A s) (x m : Int) : Al A (flushD s x m) := fun i hi u hu => by
 obtain ⟨q1, q2⟩ := flush_L s x m
 rw [q1] at hi
 unfold PV at hu
 rw [q1, q2] at hu
 rcases hu with hu | hu | hu
 ·exact h i hi u (.inl hu)
 ·rcases flush_f s x m _ u hu with q | q
  ·exact h i hi u (.inr (.inl q))
  ·exact h i hi u (.inr (.inr q))
 ·exact h i hi u (.inr (.inr hu))
theorem flush_of {s : Dv} {x m : Int} (h : (flushD s x m).dead = false) : (flushD s x m).f = fl s (max x 0) (min (x + m) s.L.length) ∧ s.dead = false := by
 cases hd : doneD s with
 | true =>
   have hds : s.dead = false := by
    unfold doneD at hd
    cases hh : s.dead with
    | true => rw [hh] at hd; cases hd
    | false => rfl
   unfold flushD
   rw [if_pos hd]
   exact ⟨rfl, hds⟩
 | false =>
   exfalso
   unfold flushD at h
   rw [if_neg (by rw [hd]; decide)] at h
   rw [done_of h] at hd
   cases hd
theorem flush_in {s : Dv} {x m : Int} (h : (flushD s x m).dead = false) {i v : Nat} (hi : i < s.L.length) (h1 : x ≤ (i : Int)) (h2 : (i : Int) < x + m) (hc : s.c (i : Int) = some v) : (flushD s x m).f (i : Int) = some v := by
 rw [(flush_of h).1]
 unfold fl
 rw [if_pos (by omega), hc]
theorem flush_stay {s : Dv} (x m : Int) {y : Int} {v : Nat} (hf : s.f y = some v) (hc : s.c y = some v) : (flushD s x m).f y = some v := by
 obtain ⟨q1, q2, q3, -⟩ := stepD_same s
 unfold flushD
 split
 ·show fl s (max x 0) (min (x + m) s.L.length) y = some v
  unfold fl
  split
  ·rw [hc]
  exact hf
 rw [q3]; exact hf
theorem fen_L : ∀ (K : List Int) (s : Dv), (∀ x ∈ K, 0 ≤ x ∧ x < s.L.length) → ∀ i : Nat, (K.foldl fenOne s).L.getD i 0 = if (i : Int) ∈ K then (s.f (i : Int)).getD 0 else s.L.getD i 0
 | [], s, _, i => by simp
 | x :: K, s, hK, i => by
   obtain ⟨h1, h2⟩ := hK x (List.mem_cons_self ..)
   have hlen : (fenOne s x).L.length = s.L.length := by simp [fenOne]
   rw [List.foldl_cons, fen_L K (fenOne s x) (fun y hy => by rw [hlen]; exact hK y (List.mem_cons_of_mem _ hy)) i]
   have hf : (fenOne s x).f = s.f := rfl
   have hg : (fenOne s x).L.getD i 0 = if (i : Int) = x then (s.f x).getD 0 else s.L.getD i 0 := by
    show (s.L.set x.toNat ((s.f x).getD 0)).getD i 0 = _
    rw [List.getD_eq_getElem?_getD, List.getElem?_set, List.getD_eq_getElem?_getD]
    by_cases e : (i : Int) = x
    ·rw [if_pos e, if_pos (by omega), if_pos (by omega)]; rfl
    ·rw [if_neg e, if_neg (by omega)]
   rw [hf, hg]
   by_cases m : (i : Int) ∈ K
   ·rw [if_pos m, if_pos (List.mem_cons_of_mem _ m)]
   ·rw [if_neg m]
    by_cases e : (i : Int) = x
    ·rw [if_pos e, if_pos (by rw [e]; exact List.mem_cons_self ..), e]
    ·rw [if_neg e, if_neg (fun q => by
      rcases List.mem_cons.1 q with q | q
      ·exact e q
      ·exact m q)]
theorem fen_C : ∀ (K : List Int) (s : Dv) (y : Int), (K.foldl fenOne s).c y = if y ∈ K ∧ (s.c y).getD 0 = (s.f y).getD 0 then none else s.c y
 | [], s, y => by simp
 | x :: K, s, y => by
   rw [List.foldl_cons, fen_C K (fenOne s x) y]
   have hf : (fenOne s x).f = s.f := rfl
   have hg : (fenOne s x).c y = if y = x ∧ (s.c y).getD 0 = (s.f y).getD 0 then none else s.c y := by
    show (if (s.c x).getD 0 = (s.f x).getD 0 then delU s.c x else s.c) y = _
    by_cases e : y = x
    ·subst e
     by_cases q : (s.c y).getD 0 = (s.f y).getD 0
     ·rw [if_pos q, if_pos ⟨rfl, q⟩]; unfold delU; rw [if_pos rfl]
     ·rw [if_neg q, if_neg (fun z => q z.2)]
    ·by_cases q : (s.c x).getD 0 = (s.f x).getD 0
     ·rw [if_pos q, if_neg (fun z => e z.1)]; unfold delU; rw [if_neg e]
     ·rw [if_neg q, if_neg (fun z => e z.1)]
   rw [hf, hg]
   by_cases e : y = x ∧ (s.c y).getD 0 = (s.f y).getD 0
   ·rw [if_pos e, if_pos (show y ∈ x :: K ∧ (s.c y).getD 0 = (s.f y).getD 0 from ⟨by rw [e.1]; exact List.mem_cons_self .., e.2⟩)]
    split <;> rfl
   ·rw [if_neg e]
    by_cases m : y ∈ K ∧ (s.c y).getD 0 = (s.f y).getD 0
    ·rw [if_pos m, if_pos ⟨List.mem_cons_of_mem _ m.1, m.2⟩]
    ·rw [if_neg m, if_neg (fun q => by
      rcases List.mem_cons.1 q.1 with z | z
      ·exact e ⟨z, q.2⟩
      ·exact m ⟨z, q.2⟩)]
theorem keys_in (N : Nat) (g : Gu) (x : Int) : x ∈ keysL N g ↔ (0 ≤ x ∧ x < N ∧ (g x).isSome = true) := by
 unfold keysL
 rw [List.mem_filter, List.mem_map]
 constructor
 ·rintro ⟨⟨i, hi, rfl⟩, h⟩
  have := List.mem_range.1 hi
  exact ⟨Int.natCast_nonneg i, by show (i : Int) < N; omega, h⟩
 rintro ⟨h1, h2, h3⟩
 exact ⟨⟨x.toNat, List.mem_range.2 (by omega), by show ((x.toNat : Nat) : Int) = x; omega⟩, h3⟩
theorem fence_of {s : Dv} (hd : doneD s = true) : (fenceD s).f = (fun _ => none) ∧ (∀ i : Nat, i < s.L.length → (fenceD s).L.getD i 0 = (s.f (i : Int)).getD (s.L.getD i 0)) ∧ (∀ i : Nat, i < s.L.length → (fenceD s).c (i : Int) = if (s.f (i : Int)).isSome = true ∧ (s.c (i : Int)).getD 0 = (s.f (i : Int)).getD 0 then none else s.c (i : Int)) ∧ (fenceD s).L.length = s.L.length := by
 obtain ⟨q1, q2, q3, -⟩ := stepD_same s
 unfold fenceD
 rw [if_pos hd]
 refine ⟨rfl, fun i hi => ?_, fun i hi => ?_, ?_⟩
 ·show ((keysL s.L.length s.f).foldl fenOne (stepD s)).L.getD i 0 = _
  rw [fen_L _ _ (fun x hx => by rw [q1]; have := (keys_in _ _ _).1 hx; exact ⟨this.1, this.2.1⟩), q1, q3]
  by_cases m : (i : Int) ∈ keysL s.L.length s.f
  ·rw [if_pos m]
   have := ((keys_in _ _ _).1 m).2.2
   cases hf : s.f (i : Int) with
   | none => rw [hf] at this; cases this
   | some v => rfl
  rw [if_neg m]
  cases hf : s.f (i : Int) with
  | none => rfl
  | some v => exact absurd ((keys_in _ _ _).2 ⟨by omega, by omega, by rw [hf]; rfl⟩) m
 ·show ((keysL s.L.length s.f).foldl fenOne (stepD s)).c (i : Int) = _
  rw [fen_C, q2, q3]
  have hk : (i : Int) ∈ keysL s.L.length s.f ↔ (s.f (i : Int)).isSome = true := by
   rw [keys_in]
   exact ⟨fun q => q.2.2, fun q => ⟨by omega, by omega, q⟩⟩
  by_cases m : (s.f (i : Int)).isSome = true ∧ (s.c (i : Int)).getD 0 = (s.f (i : Int)).getD 0
  ·rw [if_pos m, if_pos ⟨hk.2 m.1, m.2⟩]
  rw [if_neg m, if_neg (fun q => m ⟨hk.1 q.1, q.2⟩)]
 show ((keysL s.L.length s.f).foldl fenOne (stepD s)).L.length = _
 rw [(fen_same _ _).2.2, q1]
theorem fence_len (s : Dv) : (fenceD s).L.length = s.L.length := by
 obtain ⟨q1, q2, q3, -⟩ := stepD_same s
 cases hd : doneD s with
 | true => exact (fence_of hd).2.2.2
 | false => unfold fenceD; rw [if_neg (by rw [hd]; decide), q1]
theorem Al.fence {A : Nat → Nat → Prop} {s : Dv} (h : Al A s) : Al A (fenceD s) := by
 cases hd : doneD s with
 | false =>
   unfold fenceD
   rw [if_neg (by rw [hd]; decide)]
   exact h.step
 | true =>
   obtain ⟨h1, h2, h3, h4⟩ := fence_of hd
   intro i hi u hu
   rw [h4] at hi
   unfold PV at hu
   rw [h1, h2 i hi, h3 i hi] at hu
   rcases hu with hu | hu | hu
   ·cases hf : s.f (i : Int) with
    | none => rw [hf] at hu; exact h i hi u (.inl hu)
    | some v => rw [hf] at hu; exact h i hi u (.inr (.inl (by rw [hf, hu]; rfl)))
   ·cases hu
   split at hu
   ·cases hu
   exact h i hi u (.inr (.inr hu))
theorem fence_cl {s : Dv} (h : (fenceD s).dead = false) {i v : Nat} (hi : i < s.L.length) (hf : s.f (i : Int) = some v) (hc : s.c (i : Int) = some v) : (fenceD s).L.getD i 0 = v ∧ (fenceD s).c (i : Int) = none ∧ ∀ u, PV (fenceD s) i u → u = v := by
 have hd : doneD s = true := by
  cases hd : doneD s with
  | true => rfl
  | false =>
    exfalso
    unfold fenceD at h
    rw [if_neg (by rw [hd]; decide)] at h
    rw [done_of h] at hd
    cases hd
 obtain ⟨h1, h2, h3, h4⟩ := fence_of hd
 have e1 : (fenceD s).L.getD i 0 = v := by rw [h2 i hi, hf]; rfl
 have e2 : (fenceD s).c (i : Int) = none := by rw [h3 i hi, if_pos ⟨by rw [hf]; rfl, by rw [hf, hc]⟩]
 refine ⟨e1, e2, fun u hu => ?_⟩
 unfold PV at hu
 rw [e1, h1, e2] at hu
 rcases hu with hu | hu | hu
 ·exact hu
 ·cases hu
 cases hu
theorem Al.evict {A : Nat → Nat → Prop} {s : Dv} (h : Al A s) (x : Int) : Al A (evictD s x) := by
 obtain ⟨q1, q2, q3, -⟩ := stepD_same s
 unfold evictD
 split
 rotate_left
 ·exact h
 rename_i hx
 split
 rotate_left
 ·exact h.step
 split
 rotate_left
 ·exact h.step
 rename_i v hv
 intro i hi u hu
 have hi2 : i < s.L.length := by
  have : (s.L.set x.toNat v).length = s.L.length := List.length_set
  have hi3 : i < (s.L.set x.toNat v).length := hi
  omega
 unfold hasD at hx
 simp only [Bool.and_eq_true, decide_eq_true_eq] at hx
 have hu2 : u = (s.L.set x.toNat v).getD i 0 ∨ delU s.f x (i : Int) = some u ∨ delU s.c x (i : Int) = some u := hu
 rw [List.getD_eq_getElem?_getD, List.getElem?_set] at hu2
 rcases hu2 with hu2 | hu2 | hu2
 ·by_cases e : x.toNat = i
  ·rw [if_pos e, if_pos (by omega)] at hu2
   have e2 : (i : Int) = x := by omega
   refine h i hi2 u (.inr (.inr ?_))
   rw [e2, hv, hu2]
   rfl
  rw [if_neg e, ← List.getD_eq_getElem?_getD] at hu2
  exact h i hi2 u (.inl hu2)
 ·unfold delU at hu2
  split at hu2
  ·cases hu2
  exact h i hi2 u (.inr (.inl hu2))
 unfold delU at hu2
 split at hu2
 ·cases hu2
 exact h i hi2 u (.inr (.inr hu2))
theorem crash_al {A : Nat → Nat → Prop} {s : Dv} (h : Al A s) (hc : ∀ x a, s.c x = some a → 0 ≤ x ∧ x < s.L.length) (keep : List Nat) (D : List Int) (hD : ∀ x ∈ D, (s.c x).isSome = true) : ∀ k, k ≤ D.length → ∀ i, i < s.L.length → PV s i ((crL s keep D k).getD i 0)
 | 0, _, i, hi => .inl rfl
 | k + 1, hk, i, hi => by
   have ih := crash_al h hc keep D hD k (by omega)
   rw [crL_succ]
   have hlen := crL_len s keep D k
   have hm : D.getD k 0 ∈ D := by rw [List.getD_eq_getElem?_getD, List.getElem?_eq_getElem (by omega)]; exact List.getElem_mem _
   have hs := hD _ hm
   obtain ⟨a, ha⟩ := Option.isSome_iff_exists.1 hs
   obtain ⟨b1, b2⟩ := hc _ a ha
   unfold crStep
   generalize D.getD k 0 = x at *
   generalize crL s keep D k = L at *
   have hset : ∀ v, (L.set x.toNat v).getD i 0 = if x = (i : Int) then v else L.getD i 0 := fun v => by
    rw [List.getD_eq_getElem?_getD, List.getElem?_set, List.getD_eq_getElem?_getD]
    by_cases e : x = (i : Int)
    ·rw [if_pos e, if_pos (by omega), if_pos (by omega)]; rfl
    ·rw [if_neg e, if_neg (by omega)]
   split
   ·split
    ·rename_i v hv
     rw [hset]
     split
     ·rename_i e; rw [e] at hv; exact .inr (.inl hv)
     ·exact ih i hi
    ·exact ih i hi
   ·split
    ·rw [hset]
     split
     ·rename_i e; rw [e] at ha; refine .inr (.inr ?_); rw [e, ha]; rfl
     ·exact ih i hi
    ·exact ih i hi
end Go.Proofs.YtkkbngcgphlikaaGreatDoor
end
section
namespace Go.Proofs.YtkkbngcgphlikaaGreatDoor
structure GoodJ (s : Dv) (N m : Nat) : Prop where
 len : s.L.length = N
 cin : ∀ x a, s.c x = some a → 0 ≤ x ∧ x < N
 fin : ∀ x a, s.f x = some a → ∃ b, s.c x = some b
 n : s.n ≤ m
 st0 : 0 ≤ s.steps
 st : s.steps ≤ m
 fu0 : 0 ≤ s.fuse
 fu : s.fuse ≤ 1099511627776
theorem GoodJ.good {s : Dv} {N m : Nat} (h : GoodJ s N m) (h1 : 1 ≤ N) (h2 : N ≤ 1000) (hm : m ≤ 100000) : GoodD s := by
 obtain ⟨a, b, c, d, e, f, g, i⟩ := h
 exact ⟨by omega, by omega, by rw [a]; exact b, c, by omega, e, by omega, g, i⟩
theorem GoodJ.mono {s : Dv} {N m m' : Nat} (h : GoodJ s N m) (hm : m ≤ m') : GoodJ s N m' :=
 ⟨h.len, h.cin, h.fin, Nat.le_trans h.n hm, h.st0, by have := h.st; omega, h.fu0, h.fu⟩
theorem GoodJ.zero (L : List Nat) : GoodJ (dv0 L) L.length 0 := ⟨rfl, fun x a h => (by cases h), fun x a h => (by cases h), Nat.le_refl _, Int.le_refl _, Int.le_refl _, Int.le_refl _, (by show (0 : Int) ≤ 1099511627776; decide)⟩
theorem GoodJ.step {s : Dv} {N m : Nat} (h : GoodJ s N m) : GoodJ (stepD s) N (m + 1) := by
 obtain ⟨a, b, c, d, e, f, g, i⟩ := h
 unfold stepD
 split
 ·exact ⟨a, b, c, by omega, e, by omega, g, i⟩
 split
 ·exact ⟨a, b, c, by simp only []; omega, e, by simp only []; omega, by simp only []; omega, by simp only []; omega⟩
 exact ⟨a, b, c, by simp only []; omega, by simp only []; omega, by simp only []; omega, by simp only []; omega, by simp only []; omega⟩
theorem GoodJ.store {s : Dv} {N m : Nat} (h : GoodJ s N m) (x : Int) (v : Nat) : GoodJ (storeD s x v) N (m + 1) := by
 have h1 := h.step
 unfold storeD
 split
 rotate_left
 ·exact h.mono (by omega)
 rename_i hx
 split
 rotate_left
 ·exact h1
 obtain ⟨a, b, c, d, e, f, g, i⟩ := h1
 obtain ⟨q1, q2, q3, q4⟩ := stepD_same s
 simp only [hasD, Bool.and_eq_true, decide_eq_true_eq] at hx
 have hl := h.len
 refine ⟨a, fun y z hy => ?_, fun y z hy => ?_, by have := h.n; simp only []; omega, e, f, g, i⟩
 ·simp only [putU] at hy
  split at hy
  ·omega
  exact h.cin y z hy
 simp only [putU]
 split
 ·exact ⟨_, rfl⟩
 rw [show ((stepD s).f) = s.f from q3] at hy
 exact h.fin y z hy
theorem GoodJ.flush {s : Dv} {N m : Nat} (h : GoodJ s N m) (hN : 1 ≤ N) (x k : Int) : GoodJ (flushD s x k) N (m + N) := by
 have h1 := h.step
 unfold flushD
 split
 rotate_left
 ·exact h1.mono (by omega)
 obtain ⟨a, b, c, d, e, f, g, i⟩ := h1
 obtain ⟨q1, q2, q3, q4⟩ := stepD_same s
 refine ⟨a, b, fun y z hy => ?_, by have := h.n; have := h.len; simp only []; omega, e, by simp only [] at f ⊢; omega, g, i⟩
 rw [show ((stepD s).c) = s.c from q2]
 simp only [fl] at hy
 split at hy
 ·split at hy
  ·rename_i v hv
   exact ⟨v, hv⟩
  exact h.fin y z hy
 exact h.fin y z hy
theorem fen_cJ : ∀ (K : List Int) (s : Dv) (x : Int) (a : Nat), (K.foldl fenOne s).c x = some a → s.c x = some a := fun K s x a h => by
 rw [fen_C] at h
 split at h
 ·cases h
 ·exact h
theorem fen_restJ : ∀ (K : List Int) (s : Dv), (K.foldl fenOne s).steps = s.steps ∧ (K.foldl fenOne s).fuse = s.fuse ∧ (K.foldl fenOne s).dead = s.dead
 | [], s => ⟨rfl, rfl, rfl⟩
 | y :: K, s => by
   rw [List.foldl_cons]
   exact fen_restJ K (fenOne s y)
theorem GoodJ.fence {s : Dv} {N m : Nat} (h : GoodJ s N m) : GoodJ (fenceD s) N (m + 1) := by
 have h1 := h.step
 unfold fenceD
 split
 ·obtain ⟨a, b, c, d, e, f, g, i⟩ := h1
  obtain ⟨r1, r2, r3⟩ := fen_same (keysL s.L.length s.f) (stepD s)
  obtain ⟨t1, t2, t3⟩ := fen_restJ (keysL s.L.length s.f) (stepD s)
  refine ⟨by simp only []; omega, fun y z hy => b y z (fen_cJ _ _ y z hy), fun y z hy => (by cases hy), by simp only []; omega, by simp only []; omega, by simp only []; omega, by simp only []; omega, by simp only []; omega⟩
 exact h1
theorem GoodJ.evict {s : Dv} {N m : Nat} (h : GoodJ s N m) (x : Int) : GoodJ (evictD s x) N (m + 1) := by
 have h1 := h.step
 unfold evictD
 split
 rotate_left
 ·exact h.mono (by omega)
 split
 rotate_left
 ·exact h1
 split
 rotate_left
 ·exact h1
 obtain ⟨a, b, c, d, e, f, g, i⟩ := h1
 refine ⟨by simp only [List.length_set]; exact h.len, fun y z hy => ?_, fun y z hy => ?_, d, e, f, g, i⟩
 ·simp only [delU] at hy
  split at hy
  ·cases hy
  exact h.cin y z hy
 simp only [delU] at hy ⊢
 split at hy
 ·cases hy
 rename_i hne
 rw [if_neg hne]
 exact h.fin y z hy
theorem GoodJ.fuseTo {s : Dv} {N m : Nat} (h : GoodJ s N m) (k : Int) (hk : k ≤ 1099511627776) : GoodJ (fuseD s k) N m :=
 ⟨h.len, h.cin, h.fin, h.n, h.st0, h.st, by simp only [fuseD]; omega, by simp only [fuseD]; omega⟩
theorem GoodJ.crash {s : Dv} {N m : Nat} (h : GoodJ s N m) (keep : List Nat) : GoodJ (crashD s keep) N m :=
 ⟨by simp only [crashD]; rw [crL_len]; exact h.len, fun x a q => (by cases q), fun x a q => (by cases q), h.n, h.st0, h.st, Int.le_refl _, by simp only [crashD]; decide⟩
theorem GoodJ.crashed {s : Dv} {N m : Nat} {A : Nat → Nat → Prop} (h : GoodJ s N m) (ha : Al A s) (keep : List Nat) : ∀ i, i < N → A i ((crashD s keep).L.getD i 0) := fun i hi => by
 have hc : ∀ x a, s.c x = some a → 0 ≤ x ∧ x < s.L.length := by rw [h.len]; exact h.cin
 refine ha i (by rw [h.len]; exact hi) _ ?_
 exact crash_al ha hc keep (keysL s.L.length s.c) (fun x hx => ((keys_in _ _ _).1 hx).2.2) _ (Nat.le_refl _) i (by rw [h.len]; exact hi)
theorem load_PV {s : Dv} {i : Nat} (hi : i < s.L.length) : PV s i (loadD s (i : Int)) := by
 unfold loadD hasD
 rw [decide_eq_true (show (0 : Int) ≤ (i : Int) by omega), decide_eq_true (show (i : Int) < s.L.length by omega)]
 simp only [Bool.and_self, if_true, Int.toNat_natCast]
 cases hc : s.c (i : Int) with
 | none => exact .inl rfl
 | some v => exact .inr (.inr hc)
theorem load_al {A : Nat → Nat → Prop} {s : Dv} (h : Al A s) {i : Nat} (hi : i < s.L.length) : A i (loadD s (i : Int)) := h i hi _ (load_PV hi)
def viewD (s : Dv) : List Nat := (List.range s.L.length).map fun i => loadD s (i : Nat)
theorem view_len (s : Dv) : (viewD s).length = s.L.length := by unfold viewD; rw [List.length_map, List.length_range]
theorem view_at (s : Dv) {i : Nat} (hi : i < s.L.length) : (viewD s).getD i 0 = loadD s (i : Int) := by
 unfold viewD
 rw [List.getD_eq_getElem?_getD, List.getElem?_map, List.getElem?_range hi]
 rfl
theorem alive_store {s : Dv} {x : Int} {v : Nat} (h : (storeD s x v).dead = false) : s.dead = false := by
 cases hd : s.dead with
 | false => rfl
 | true => rw [dead_store hd, hd] at h; cases h
theorem alive_flush {s : Dv} {x m : Int} (h : (flushD s x m).dead = false) : s.dead = false := by
 cases hd : s.dead with
 | false => rfl
 | true => rw [dead_flush hd, hd] at h; cases h
theorem alive_fence {s : Dv} (h : (fenceD s).dead = false) : s.dead = false := by
 cases hd : s.dead with
 | false => rfl
 | true => rw [dead_fence hd, hd] at h; cases h
def layD (s : Dv) (x : Int) (v : Nat) : Dv := fenceD (flushD (storeD s x v) x 1)
theorem lay_cl {s : Dv} {x v : Nat} (h : (layD s (x : Int) v).dead = false) (hx : x < s.L.length) : (layD s (x : Int) v).L.getD x 0 = v ∧ (layD s (x : Int) v).c (x : Int) = none ∧ ∀ u, PV (layD s (x : Int) v) x u → u = v := by
 have hh : hasD s (x : Int) = true := by unfold hasD; rw [decide_eq_true (show (0 : Int) ≤ (x : Int) by omega), decide_eq_true (show (x : Int) < s.L.length by omega)]; rfl
 have h1 := alive_fence h
 have h2 := alive_flush h1
 obtain ⟨-, q1, q2, -, -⟩ := store_of h2 hh
 have hc : (storeD s (x : Int) v).c (x : Int) = some v := by rw [q2]; unfold putU; rw [if_pos rfl]
 obtain ⟨p1, p2⟩ := flush_L (storeD s (x : Int) v) (x : Int) 1
 have hf := flush_in h1 (i := x) (by rw [q1]; exact hx) (by omega) (by omega) hc
 exact fence_cl h (by rw [p1, q1]; exact hx) hf (by rw [p2]; exact hc)
theorem Al.lay {A : Nat → Nat → Prop} {s : Dv} (h : Al A s) (x : Int) (v : Nat) (hA : ∀ i : Nat, x = (i : Int) → i < s.L.length → A i v) : Al A (layD s x v) := ((h.store x v hA).flush x 1).fence
theorem GoodJ.lay {s : Dv} {N m : Nat} (h : GoodJ s N m) (hN : 1 ≤ N) (x : Int) (v : Nat) : GoodJ (layD s x v) N (m + N + 2) := (((h.store x v).flush hN x 1).fence).mono (by omega)
theorem lay_len (s : Dv) (x : Int) (v : Nat) : (layD s x v).L.length = s.L.length := by
 unfold layD
 rw [fence_len, (flush_L _ _ _).1, (store_L _ _ _).1]
theorem steps_step {s : Dv} (hd : s.dead = false) (hf : s.fuse = 0) : (stepD s).steps = s.steps + 1 ∧ (stepD s).dead = false ∧ (stepD s).fuse = 0 ∧ doneD s = true := by
 unfold stepD doneD
 rw [hd, hf]
 exact ⟨rfl, rfl, rfl, rfl⟩
theorem steps_store {s : Dv} (hd : s.dead = false) (hf : s.fuse = 0) {x : Int} (hx : hasD s x = true) (v : Nat) : (storeD s x v).steps = s.steps + 1 ∧ (storeD s x v).dead = false ∧ (storeD s x v).fuse = 0 := by
 obtain ⟨h1, h2, h3, h4⟩ := steps_step hd hf
 unfold storeD
 rw [if_pos hx, if_pos h4]
 exact ⟨h1, h2, h3⟩
theorem steps_flush {s : Dv} (hd : s.dead = false) (hf : s.fuse = 0) (x m : Int) : (flushD s x m).steps = s.steps + 1 ∧ (flushD s x m).dead = false ∧ (flushD s x m).fuse = 0 := by
 obtain ⟨h1, h2, h3, h4⟩ := steps_step hd hf
 unfold flushD
 rw [if_pos h4]
 exact ⟨h1, h2, h3⟩
theorem steps_fence {s : Dv} (hd : s.dead = false) (hf : s.fuse = 0) : (fenceD s).steps = s.steps + 1 ∧ (fenceD s).dead = false ∧ (fenceD s).fuse = 0 := by
 obtain ⟨h1, h2, h3, h4⟩ := steps_step hd hf
 obtain ⟨t1, t2, t3⟩ := fen_restJ (keysL s.L.length s.f) (stepD s)
 unfold fenceD
 rw [if_pos h4]
 exact ⟨t1.trans h1, t3.trans h2, t2.trans h3⟩
end Go.Proofs.YtkkbngcgphlikaaGreatDoor
end
section
namespace Go.Proofs.YtkkbngcgphlikaaGreatDoor
open Go.Lib Go.RowKit Go.ChangeShapes Go.WideShapes Go.Deep Go.Shelf
def flushL (s : Dv) (l : List Sp) : Dv := l.foldl (fun s x => flushD s x.1 x.2) s
def fenceL (s : Dv) (l : List Sp) : Dv := fenceD (flushL s l)
theorem flushL_take (s : Dv) (l : List Sp) (k : Nat) (hk : k < l.length) : flushL s (l.take (k + 1)) = flushD (flushL s (l.take k)) (l.getD k (0, 0)).1 (l.getD k (0, 0)).2 := by
 unfold flushL
 rw [List.take_succ_eq_append_getElem hk, List.foldl_append, List.getD_eq_getElem?_getD, List.getElem?_eq_getElem hk]
 rfl
theorem GoodJ.flushes {N : Nat} (hN : 1 ≤ N) : ∀ (l : List Sp) {s : Dv} {m : Nat}, GoodJ s N m → GoodJ (flushL s l) N (m + l.length * N)
 | [], s, m, h => by simpa [flushL] using h
 | x :: l, s, m, h => by
   have h1 := GoodJ.flushes hN l (h.flush hN x.1 x.2)
   have e : m + N + l.length * N = m + (x :: l).length * N := by rw [List.length_cons, Nat.succ_mul]; omega
   rw [e] at h1
   exact h1
theorem GoodJ.fences {N : Nat} (hN : 1 ≤ N) (l : List Sp) {s : Dv} {m : Nat} (h : GoodJ s N m) : GoodJ (fenceL s l) N (m + l.length * N + 1) := (GoodJ.flushes hN l h).fence
theorem GoodJ.pre {N : Nat} (hN : 1 ≤ N) (l : List Sp) {s : Dv} {m : Nat} (h : GoodJ s N m) (k : Nat) : GoodJ (flushL s (l.take k)) N (m + l.length * N) :=
 (GoodJ.flushes hN (l.take k) h).mono (by
   have : (l.take k).length * N ≤ l.length * N := Nat.mul_le_mul_right _ (List.length_take_le' _ _)
   omega)
def PS (l : List Sp) : Prop := ∀ x ∈ l, (-1099511627776 ≤ x.1 ∧ x.1 ≤ 1099511627776) ∧ -1099511627776 ≤ x.2 ∧ x.2 ≤ 1099511627776
theorem jFence (B : Nat) (F : Nat → Prop) (s : Dv) (N m : Nat) (v : Value) (l : List Sp) (w : World) (h : DvAt w B F s) (hg : GoodJ s N m) (hN : 1 ≤ N) (hN2 : N ≤ 1000) (hm : m + l.length * N ≤ 100000) (hP : ∀ w', Chg F w w' → PL w' v l) (hb : PS l) (hl : l.length ≤ 100000) :
 Calls Tryz.prog 55 #[.pointer (some ⟨B, 0, none⟩), v] w fun e w' => e = .returned (.tuple #[]) ∧ DvAt w' B F (fenceL s l) ∧ Chg F w w' := by
 obtain ⟨n, hn⟩ : ∃ n, l.length = n := ⟨_, rfl⟩
 obtain ⟨A, c, rfl, -⟩ := (hP w (Chg.refl F w)).form hn
 have hGd := lh (fun k => (GoodJ.pre hN l hg k).good hN hN2 hm)
 have hst := lh (fun k (hk : k < n) => flushL_take s l k (by omega))
 have hbk := lh (fun k (hk : k < n) => hb (l.getD k (0, 0)) (by rw [List.getD_eq_getElem?_getD, List.getElem?_eq_getElem (by omega)]; exact List.getElem_mem _))
 have hta := lh (show l.take n = l from List.take_of_length_le (by omega))
 have h0 := lh (show flushL s (l.take 0) = s from rfl)
 rw [hn] at hm hl
 replace hP := lh (fun w' (hc : Chg F w w') => (hP w' hc).form hn)
 replace hn := lh hn
 clear hg hb
 go_enter Tryz.func55, Tryz.ntmps55
 go_wp2_with fail
 go_loopw [8] (fun i wr => ∃ (k : Nat), k ≤ n ∧ i = .int .i64 (k : Nat) ∧ DvAt wr B F (flushL s (l.take k)) ∧ Chg F w wr) (fun i _ => n + 1 - (intOf i).toNat)
 case atStart => exact ⟨0, Nat.zero_le _, rfl, h, Chg.refl F w⟩
 obtain ⟨k, hk, rfl, hD, hc⟩ := hrel
 clear h
 by_cases hkn : k < n
 rotate_left
 ·obtain rfl : n = k := by omega
  have hkn' : ¬ (n : Int) < (n : Int) := by omega
  have hG1 := hGd.out n
  rw [hta.out] at hD hG1
  have hFe := callsIn_wide.1 (fence_in 3 (by decide) B F _ wr hD hG1)
  go_wp2_with fail
  refine hFe.mono ?_
  rintro e w2 ⟨rfl, hD2, hc2⟩
  have hc3 := hc.trans hc2 (fun j q => .inl q)
  go_wp2_with fail
  go_end0
  exact ⟨rfl, hD2, hc3⟩
 have hkn' : (k : Int) < (n : Int) := by omega
 obtain ⟨A1, c1, hv1, hF⟩ := hP.out wr hc
 cases hv1
 obtain ⟨g, off, rfl, hcap, hgs, k0, k1⟩ := hF wr k (Below.refl _ _) hkn
 have hst1 := hst.out k hkn
 obtain ⟨b1, b2⟩ := hbk.out k hkn
 have hG1 := hGd.out k
 generalize l.getD k (0, 0) = x at *
 obtain ⟨xa, xm⟩ := x
 simp only [] at k0 k1 hst1 b1 b2
 have eA := bZ wr (.cells #[.int .i64 xa, .int .i64 xm] 70)
 have gS := HB.new wr #[.int .i64 xa, .int .i64 xm] 70
 obtain ⟨w1, hw1⟩ : ∃ z, wr.alloc (.cells #[.int .i64 xa, .int .i64 xm] 70) = z := ⟨_, rfl⟩
 rw [hw1] at eA gS
 have hD1 := hD.keep eA
 have hc1 := hc.trans (Chg.of_below F eA) (fun j q => .inl q)
 obtain ⟨c2, c3⟩ := gS.c2
 have hFl := dFlush B F _ xa xm w1 hD1 hG1 b1 b2
 clear hF hD eA gS
 subst hw1
 go_wp2_with fail
 refine hFl.mono ?_
 rintro e w2 ⟨rfl, hD2, hc2⟩
 rw [← hst1] at hD2
 have hc3 := hc1.trans hc2 (fun j q => .inl q)
 clear hFl hD1 hc1 hc2 hc
 go_wp2_with fail
 go_roundw
 case rel => exact ⟨k + 1, by omega, by go_num, hD2, hc3⟩
 first | (simp [intOf]; done) | (simp [intOf]; omega)
theorem layD_L (s : Dv) (x : Int) (v : Nat) : layD s x v = fenceL (storeD s x v) [(x, 1)] := rfl
theorem jLay (B : Nat) (F : Nat → Prop) (s : Dv) (N m : Nat) (x : Int) (y : Nat) (w : World) (h : DvAt w B F s) (hg : GoodJ s N m) (hN : 1 ≤ N) (hN2 : N ≤ 1000) (hm : m + N + 2 ≤ 100000) (hx : -1099511627776 ≤ x ∧ x ≤ 1099511627776) :
 Calls Tryz.prog 90 #[.pointer (some ⟨B, 0, none⟩), .int .i64 x, .int .u64 (y : Nat)] w fun e w' => e = .returned (.tuple #[]) ∧ DvAt w' B F (layD s x y) ∧ Chg F w w' := by
 have hS := dStore B F s x y w h (hg.good hN hN2 (by omega))
 have hlt := lh (fun w1 (q : DvAt w1 B F (storeD s x y)) => q.lt)
 have hFe := lh (fun w1 (q : DvAt w1 B F (storeD s x y)) => jFence B F (storeD s x y) N (m + 1) (.slice (some ⟨w1.heap.size, 0, none⟩) 1 1) [(x, 1)] (w1.alloc (.cells #[.int .i64 x, .int .i64 1] (70 : Nat))) (q.keep (bZ _ _)) (hg.store x y) hN hN2 (by simp; omega)
  (fun w' hc => by
    have hl := PL.lit w1 [(x, 1)] (by simp)
    have hl2 : PL (w1.alloc (.cells #[.int .i64 x, .int .i64 1] (70 : Nat))) (.slice (some ⟨w1.heap.size, 0, none⟩) 1 1) [(x, 1)] := hl
    obtain ⟨A, c, hv, hk⟩ := hl2
    refine ⟨A, c, hv, fun hp => ?_⟩
    obtain ⟨g, off, hA, hgs, hcp, hi⟩ := hk hp
    rw [hA] at hv
    cases hv
    have hnF : ¬ F w1.heap.size := fun z => by have := hlt.out w1 q _ z; omega
    refine ⟨_, _, hA, Nat.lt_of_lt_of_le hgs hc.size, hcp, fun i hil => ?_⟩
    rw [World.cell?_of_block (hc.block _ hgs hnF), World.cell?_of_block (hc.block _ hgs hnF)]
    exact hi i hil)
  (fun z hz => by rw [List.mem_singleton] at hz; subst hz; exact ⟨hx, by show (-1099511627776 : Int) ≤ 1 ∧ (1 : Int) ≤ 1099511627776; omega⟩) (by simp))
 clear h hg
 go_enter Tryz.func90, Tryz.ntmps90
 go_wp2_with fail
 refine hS.mono ?_
 rintro e w1 ⟨rfl, hD1, hc1⟩
 have hF1 := hFe.out w1 hD1
 have eA := bZ w1 (.cells #[.int .i64 x, .int .i64 1] (70 : Nat))
 have hc2 := hc1.trans (Chg.of_below F eA) (fun j q => .inl q)
 clear hS hFe hc1 eA
 go_wp2_with fail
 refine hF1.mono ?_
 rintro e w2 ⟨rfl, hD2, hc3⟩
 have hc4 := hc2.trans hc3 (fun j q => .inl q)
 rw [← layD_L] at hD2
 go_wp2_with fail
 go_end0
 exact ⟨rfl, hD2, hc4⟩
def curS (x : Nat) : Nat := if mkOk x = true then mkS x else 0
def curC (x : Nat) : Nat := if mkOk x = true then mkC x else 0
def curG (x : Nat) : Nat := if mkOk x = true then mkG x else 0
theorem HB.setC {w : World} {b : Nat} {cs : Array Value} {t : TypeId} (h : HB w b cs t) (i : Nat) (v : Value) : HB (w.setCell ⟨b, i, none⟩ v) b (cs.setIfInBounds i v) t := heap_setCell_same w b i cs t v h
theorem st3_at {w : World} {b : Nat} {x y z x' y' z' : Value} {t : TypeId} (h : HB w b #[x, y, z] t) :
 (((w.setCell ⟨b, 0, none⟩ x').setCell ⟨b, 1, none⟩ y').setCell ⟨b, 2, none⟩ z').cell? ⟨b, 0, none⟩ = some x' ∧ (((w.setCell ⟨b, 0, none⟩ x').setCell ⟨b, 1, none⟩ y').setCell ⟨b, 2, none⟩ z').cell? ⟨b, 1, none⟩ = some y' ∧ (((w.setCell ⟨b, 0, none⟩ x').setCell ⟨b, 1, none⟩ y').setCell ⟨b, 2, none⟩ z').cell? ⟨b, 2, none⟩ = some z' := by
 have g : HB _ b #[x', y', z'] t := ((h.setC 0 x').setC 1 y').setC 2 z'
 exact ⟨(row_cell g 0).1, (row_cell g 1).1, (row_cell g 2).1⟩
theorem jMkdec (x : Nat) (w : World) (hx : x < 18446744073709551616) :
 Calls Tryz.prog 123 #[.int .u64 (x : Nat)] w fun e w' => e = .returned (.tuple #[.agg #[.int .i64 (curS x : Nat), .int .i64 (curC x : Nat), .int .u64 (curG x : Nat)], .bool (mkOk x)]) ∧ Below w.heap.size w w' := by
 have e : mkOk x = okB ((x : Int) % 4) ((x : Int) / 4 % 16384) ((x : Int) / 65536) := by
  unfold mkOk mkS mkC mkG
  rfl
 unfold curS curC curG
 cases h : mkOk x with
 | true =>
   refine (decode_t (x : Nat) w (by omega) (by omega) (by rw [← e, h])).mono ?_
   rintro e1 w' ⟨rfl, hb⟩
   refine ⟨?_, hb⟩
   rw [if_pos rfl, if_pos rfl, if_pos rfl, show ((mkS x : Nat) : Int) = (x : Int) % 4 from by unfold mkS; omega, show ((mkC x : Nat) : Int) = (x : Int) / 4 % 16384 from by unfold mkC; omega, show ((mkG x : Nat) : Int) = (x : Int) / 65536 from by unfold mkG; omega]
 | false =>
   refine (decode_f (x : Nat) w (by omega) (by omega) (by rw [← e, h])).mono ?_
   rintro e1 w' ⟨rfl, hb⟩
   exact ⟨rfl, hb⟩
theorem jCurrent (B : Nat) (F : Nat → Prop) (s : Dv) (N L ln : Nat) (w : World) (h : DvAt w B F s) (hg : GoodD s) (hlk : lOk (N : Nat) (L : Nat) (ln : Nat) = true) (hxb : loadD s (10 + (ln : Int)) < 18446744073709551616) :
 Calls Tryz.prog 70 #[.pointer (some ⟨B, 0, none⟩), .agg #[.int .i64 (N : Nat), .int .i64 (L : Nat)], .int .i64 (ln : Nat)] w fun e w' => e = .returned (.agg #[.int .i64 (curS (loadD s (10 + (ln : Int))) : Nat), .int .i64 (curC (loadD s (10 + (ln : Int))) : Nat), .int .u64 (curG (loadD s (10 + (ln : Int))) : Nat)]) ∧ Below w.heap.size w w' := by
 have hMk := lh (fun w1 => mark_t (N : Nat) (L : Nat) (ln : Nat) w1 hlk)
 have hLd := lh (fun w1 (q : Below w.heap.size w w1) => dLoad B F s (10 + (ln : Int)) w1 (h.keep q) hg)
 obtain ⟨x, hx⟩ : ∃ x, loadD s (10 + (ln : Int)) = x := ⟨_, rfl⟩
 rw [hx] at hLd hxb ⊢
 have hDc := lh (fun w1 => jMkdec x w1 hxb)
 obtain ⟨sx, hsx⟩ : ∃ a, curS x = a := ⟨_, rfl⟩
 obtain ⟨cx, hcx⟩ : ∃ a, curC x = a := ⟨_, rfl⟩
 obtain ⟨gx, hgx⟩ : ∃ a, curG x = a := ⟨_, rfl⟩
 rw [hsx, hcx, hgx] at hDc ⊢
 clear hx hsx hcx hgx h hg hlk
 have hb0 := bZ w (.cells #[.int .i64 (N : Nat), .int .i64 (L : Nat)] 37)
 have gG := HB.new w #[.int .i64 (N : Nat), .int .i64 (L : Nat)] 37
 obtain ⟨wb1, hwb1⟩ : ∃ x, w.alloc (.cells #[.int .i64 (N : Nat), .int .i64 (L : Nat)] 37) = x := ⟨_, rfl⟩
 have hswb1 : wb1.heap.size = w.heap.size + 1 := by rw [← hwb1]; simp
 rw [hwb1] at hb0 gG
 have hB : Below w.heap.size w wb1 := hb0
 have hb1 := bZ wb1 (.cells #[.int .i64 0, .int .i64 0, .int .u64 0] 123)
 have gZ := HB.new wb1 #[.int .i64 0, .int .i64 0, .int .u64 0] 123
 obtain ⟨wb2, hwb2⟩ : ∃ x, wb1.alloc (.cells #[.int .i64 0, .int .i64 0, .int .u64 0] 123) = x := ⟨_, rfl⟩
 have hswb2 : wb2.heap.size = w.heap.size + 2 := by rw [← hwb2]; simp; omega
 rw [hwb2] at hb1 gZ
 rw [hswb1] at gZ
 replace gG := gG.keep hb1
 replace hB := hB.trans (hb1.mono (by omega))
 obtain ⟨C, hC⟩ : ∃ C, w.heap.size = C := ⟨_, rfl⟩
 rw [hC] at gG gZ hswb1 hswb2
 clear hb0 hb1
 obtain ⟨q0, q1⟩ := gG.c2
 go_enter Tryz.func70, Tryz.ntmps70
 go_wp2_with fail
 refine (hMk.out _).mono ?_
 rintro e w1 ⟨rfl, hb1⟩
 have hB1 := hB.trans (hb1.mono hB.size)
 have gZ1 := gZ.keep hb1
 have hLd1 := hLd.out w1 hB1
 clear hMk hLd hb1 hB gZ gG q0 q1
 go_wp2_with fail
 refine hLd1.mono ?_
 rintro e w2 ⟨rfl, rfl⟩
 clear hLd1
 go_wp2_with fail
 refine (hDc.out _).mono ?_
 rintro e w3 ⟨rfl, hb3⟩
 have hB3 := hB1.trans (hb3.mono hB1.size)
 have gZ3 := gZ1.keep hb3
 have e4 := bZ w3 (.cells #[.int .i64 (sx : Nat), .int .i64 (cx : Nat), .int .u64 (gx : Nat)] 123)
 have gM := HB.new w3 #[.int .i64 (sx : Nat), .int .i64 (cx : Nat), .int .u64 (gx : Nat)] 123
 have gZ4 := gZ3.keep e4
 have hB4 := hB3.trans (e4.mono hB3.size)
 obtain ⟨m0, n0⟩ := row_cell gM 0
 obtain ⟨m1, n1⟩ := row_cell gM 1
 obtain ⟨m2, n2⟩ := row_cell gM 2
 obtain ⟨a0, b0⟩ := row_cell gZ4 0
 obtain ⟨a1, b1⟩ := row_cell gZ4 1
 obtain ⟨a2, b2⟩ := row_cell gZ4 2
 obtain ⟨d0, d1, d2⟩ := st3_at (x' := .int .i64 (sx : Nat)) (y' := .int .i64 (cx : Nat)) (z' := .int .u64 (gx : Nat)) gZ4
 have hCw : w.heap.size ≤ C + 1 := by omega
 have hBe := ((hB4.setCell (p := ⟨C + 1, 0, none⟩) hCw (.int .i64 (sx : Nat))).setCell (p := ⟨C + 1, 1, none⟩) hCw (.int .i64 (cx : Nat))).setCell (p := ⟨C + 1, 2, none⟩) hCw (.int .u64 (gx : Nat))
 clear hDc hb3 hB3 gZ1 gZ3 e4 hB1 gM gZ4 hB4
 go_wp2_with fail
 refine bodyPost_ret (v := .agg #[.int .i64 (sx : Nat), .int .i64 (cx : Nat), .int .u64 (gx : Nat)]) (by simp [results, Tryz.results70, go_sem, d0, d1, d2]) rfl ⟨rfl, hBe⟩
theorem jLayMark (B : Nat) (F : Nat → Prop) (s : Dv) (N L ln m : Nat) (a b g : Nat) (w : World) (h : DvAt w B F s) (hg : GoodJ s N m) (hN : 1 ≤ N) (hN2 : N ≤ 1000) (hm : m + N + 2 ≤ 100000) (hlk : lOk (N : Nat) (L : Nat) (ln : Nat) = true) (hln : ln ≤ 1000) (hok : okB (a : Nat) (b : Nat) (g : Nat) = true) (ha : a + b * 4 + g * 65536 < 18446744073709551616) :
 Calls Tryz.prog 69 #[.pointer (some ⟨B, 0, none⟩), .agg #[.int .i64 (N : Nat), .int .i64 (L : Nat)], .int .i64 (ln : Nat), .agg #[.int .i64 (a : Nat), .int .i64 (b : Nat), .int .u64 (g : Nat)]] w fun e w' => e = .returned (.tuple #[]) ∧ DvAt w' B F (layD s (10 + (ln : Int)) (a + b * 4 + g * 65536)) ∧ Chg F w w' := by
 have hMk := lh (fun w1 => mark_t (N : Nat) (L : Nat) (ln : Nat) w1 hlk)
 have hEn := lh (fun w1 => encode_t (a : Nat) (b : Nat) (g : Nat) w1 hok (by omega))
 obtain ⟨y, hy⟩ : ∃ y, a + b * 4 + g * 65536 = y := ⟨_, rfl⟩
 have hyI : (a : Int) + (b : Int) * 4 + (g : Int) * 65536 = (y : Int) := by omega
 rw [hyI] at hEn
 rw [hy]
 have hLy := lh (fun w1 (q : DvAt w1 B F s) => jLay B F s N m (10 + (ln : Int)) y w1 q hg hN hN2 hm (by omega))
 have hDv := lh (fun w1 (q : Below w.heap.size w w1) => h.keep q)
 clear h hg hlk hok hy hyI ha
 have hb0 := bZ w (.cells #[.int .i64 (N : Nat), .int .i64 (L : Nat)] 37)
 have gG := HB.new w #[.int .i64 (N : Nat), .int .i64 (L : Nat)] 37
 obtain ⟨wb1, hwb1⟩ : ∃ x, w.alloc (.cells #[.int .i64 (N : Nat), .int .i64 (L : Nat)] 37) = x := ⟨_, rfl⟩
 have hswb1 : wb1.heap.size = w.heap.size + 1 := by rw [← hwb1]; simp
 rw [hwb1] at hb0 gG
 have hB : Below w.heap.size w wb1 := hb0
 have hb1 := bZ wb1 (.cells #[.int .i64 (a : Nat), .int .i64 (b : Nat), .int .u64 (g : Nat)] 123)
 have gM := HB.new wb1 #[.int .i64 (a : Nat), .int .i64 (b : Nat), .int .u64 (g : Nat)] 123
 obtain ⟨wb2, hwb2⟩ : ∃ x, wb1.alloc (.cells #[.int .i64 (a : Nat), .int .i64 (b : Nat), .int .u64 (g : Nat)] 123) = x := ⟨_, rfl⟩
 have hswb2 : wb2.heap.size = w.heap.size + 2 := by rw [← hwb2]; simp; omega
 rw [hwb2] at hb1 gM
 rw [hswb1] at gM
 replace gG := gG.keep hb1
 replace hB := hB.trans (hb1.mono (by omega))
 obtain ⟨C, hC⟩ : ∃ C, w.heap.size = C := ⟨_, rfl⟩
 rw [hC] at gG gM hswb1 hswb2
 clear hb0 hb1
 obtain ⟨m0, n0⟩ := row_cell gM 0
 obtain ⟨m1, n1⟩ := row_cell gM 1
 obtain ⟨m2, n2⟩ := row_cell gM 2
 clear n0 n1 n2
 go_enter Tryz.func69, Tryz.ntmps69
 go_wp2_with fail
 refine (hEn.out _).mono ?_
 rintro e w1 ⟨rfl, hb1⟩
 have hB1 := hB.trans (hb1.mono hB.size)
 have gG1 := gG.keep hb1
 obtain ⟨q0, q1⟩ := gG1.c2
 clear hEn hb1 hB gG gM m0 m1 m2
 go_wp2_with fail
 refine (hMk.out _).mono ?_
 rintro e w2 ⟨rfl, hb2⟩
 have hB2 := hB1.trans (hb2.mono hB1.size)
 have hL2 := hLy.out w2 (hDv.out w2 hB2)
 clear hMk hLy hDv hb2 hB1 gG1 q0 q1
 go_wp2_with fail
 refine hL2.mono ?_
 rintro e w3 ⟨rfl, hD3, hc3⟩
 have hc4 := (Chg.of_below F hB2).trans hc3 (fun j q => .inl q)
 go_wp2_with fail
 go_end0
 exact ⟨rfl, hD3, hc4⟩
def putV (s : Dv) (X : List Nat) (x : Int) : List Nat := X.set x.toNat (loadD s x)
theorem putV_len (s : Dv) : ∀ (K : List Int) (X : List Nat), (K.foldl (putV s) X).length = X.length
 | [], X => rfl
 | x :: K, X => by rw [List.foldl_cons, putV_len s K]; unfold putV; rw [List.length_set]
theorem putV_at (s : Dv) : ∀ (K : List Int) (X : List Nat), (∀ x ∈ K, 0 ≤ x ∧ x < X.length) → ∀ i : Nat, (K.foldl (putV s) X).getD i 0 = if (i : Int) ∈ K then loadD s (i : Int) else X.getD i 0
 | [], X, _, i => by simp
 | x :: K, X, hK, i => by
   obtain ⟨h1, h2⟩ := hK x (List.mem_cons_self ..)
   have hlen : (putV s X x).length = X.length := by unfold putV; rw [List.length_set]
   rw [List.foldl_cons, putV_at s K (putV s X x) (fun y hy => by rw [hlen]; exact hK y (List.mem_cons_of_mem _ hy)) i]
   have hg : (putV s X x).getD i 0 = if (i : Int) = x then loadD s x else X.getD i 0 := by
    unfold putV
    rw [List.getD_eq_getElem?_getD, List.getElem?_set, List.getD_eq_getElem?_getD]
    by_cases e : (i : Int) = x
    ·rw [if_pos e, if_pos (by omega), if_pos (by omega)]; rfl
    ·rw [if_neg e, if_neg (by omega)]
   rw [hg]
   by_cases m : (i : Int) ∈ K
   ·rw [if_pos m, if_pos (List.mem_cons_of_mem _ m)]
   ·rw [if_neg m]
    by_cases e : (i : Int) = x
    ·rw [if_pos e, if_pos (by rw [e]; exact List.mem_cons_self ..), e]
    ·rw [if_neg e, if_neg (fun q => by
      rcases List.mem_cons.1 q with q | q
      ·exact e q
      ·exact m q)]
theorem view_fold (s : Dv) : (keysL s.L.length s.c).foldl (putV s) s.L = viewD s := by
 refine List.ext_getElem (by rw [putV_len, view_len]) (fun i h1 h2 => ?_)
 have hi : i < s.L.length := by rw [putV_len] at h1; exact h1
 have e1 := putV_at s (keysL s.L.length s.c) s.L (fun x hx => by have := (keys_in _ _ _).1 hx; exact ⟨this.1, this.2.1⟩) i
 have e2 := view_at s hi
 rw [List.getD_eq_getElem?_getD, List.getElem?_eq_getElem h1] at e1
 rw [List.getD_eq_getElem?_getD, List.getElem?_eq_getElem h2] at e2
 simp only [Option.getD_some] at e1 e2
 rw [e1, e2]
 split
 ·rfl
 rename_i m
 unfold loadD hasD
 rw [decide_eq_true (show (0 : Int) ≤ (i : Int) by omega), decide_eq_true (show (i : Int) < s.L.length by omega)]
 simp only [Bool.and_self, if_true, Int.toNat_natCast]
 cases hc : s.c (i : Int) with
 | none => rfl
 | some v => exact absurd ((keys_in _ _ _).2 ⟨by omega, by omega, by rw [hc]; rfl⟩) m
theorem jView (B : Nat) (F : Nat → Prop) (s : Dv) (w : World) (h : DvAt w B F s) (hg : GoodD s) :
 Calls Tryz.prog 26 #[.pointer (some ⟨B, 0, none⟩)] w fun e w' => ∃ v', e = .returned v' ∧ OwnU w' w.heap.size v' (viewD s) ∧ Below w.heap.size w w' := by
 have hIm := dImage B F s w h hg.len
 have hDi := lh (fun w1 (q : Below w.heap.size w w1) => dDirty B F s w1 (h.keep q) hg)
 have hLd := lh (fun x w1 (q : Below w.heap.size w w1) => dLoad B F s x w1 (h.keep q) hg)
 obtain ⟨N, hN⟩ : ∃ N, s.L.length = N := ⟨_, rfl⟩
 have hN1 := hg.len0
 have hN2 := hg.len
 obtain ⟨K, hK⟩ : ∃ K, keysL s.L.length s.c = K := ⟨_, rfl⟩
 obtain ⟨n, hn⟩ : ∃ n, K.length = n := ⟨_, rfl⟩
 have hkin := lh (fun k (hk : k < n) => show 0 ≤ K.getD k 0 ∧ K.getD k 0 < (N : Int) from by
  have hm : K.getD k 0 ∈ keysL s.L.length s.c := by rw [hK, List.getD_eq_getElem?_getD, List.getElem?_eq_getElem (by omega)]; exact List.getElem_mem _
  have := (keys_in _ _ _).1 hm
  rw [hN] at this
  exact ⟨this.1, this.2.1⟩)
 have hn9 : n ≤ 1000 := by have := keysL_len s.L.length s.c; rw [hK] at this; omega
 have hvf := lh (view_fold s)
 rw [hK] at hvf hDi
 have hst := lh (fun k (hk : k < n) => show (K.take (k + 1)).foldl (putV s) s.L = ((K.take k).foldl (putV s) s.L).set (K.getD k 0).toNat (loadD s (K.getD k 0)) from by
  rw [List.take_succ_eq_append_getElem (by omega), List.foldl_append, List.getD_eq_getElem?_getD, List.getElem?_eq_getElem (by omega)]; rfl)
 have hta := lh (show K.take n = K from List.take_of_length_le (by omega))
 have hln := lh (fun k => show ((K.take k).foldl (putV s) s.L).length = N from by rw [putV_len, hN])
 have hL0 := lh (show (K.take 0).foldl (putV s) s.L = s.L from rfl)
 rw [hN] at hN1 hN2
 replace hn := lh hn
 replace hN := lh hN
 replace hK := lh hK
 clear hg
 go_enter Tryz.func26, Tryz.ntmps26
 go_wp2_with fail
 refine hIm.mono ?_
 rintro e w1 ⟨v1, rfl, hO1, hb1⟩
 obtain ⟨A1, c1, hv1, hf1⟩ := OwnU.form hO1
 rw [hN.out] at hv1 hf1
 cases hv1
 obtain ⟨gI, rfl, hgI, hgI2⟩ := hf1 (by omega)
 have hDi1 := hDi.out w1 hb1
 clear hIm hDi hf1
 go_wp2_with fail
 refine hDi1.mono ?_
 rintro e w2 ⟨v2, rfl, hK2, hb2⟩
 obtain ⟨A2, c2, rfl, -⟩ := (hK2.el iE_len).form hn.out
 have hO2 := hO1.keep hb2
 have hB2 := hb1.trans (hb2.mono hb1.size)
 clear hDi1 hO1 hb1 hb2
 go_wp2_with fail
 go_loopw [11] (fun i wr => ∃ (k : Nat), k ≤ n ∧ i = .int .i64 (k : Nat) ∧ OwnU wr w.heap.size (.slice (some ⟨gI, 0, none⟩) N c1) ((K.take k).foldl (putV s) s.L) ∧ Chg (fun j => j = gI) w2 wr) (fun i _ => n + 1 - (intOf i).toNat)
 case atStart => exact ⟨0, Nat.zero_le _, rfl, by rw [hL0.out]; exact hO2, Chg.refl _ _⟩
 obtain ⟨k, hk, rfl, hOr, hc⟩ := hrel
 clear hO2
 by_cases hkn : k < n
 rotate_left
 ·obtain rfl : n = k := by omega
  have hkn' : ¬ (n : Int) < (n : Int) := by omega
  rw [hta.out, hvf.out] at hOr
  have hBw : Below w.heap.size w wr := hB2.trans (hc.below (fun j e => by subst e; exact hgI) hB2.size)
  go_wp2_with fail
  go_ret
  exact ⟨_, rfl, hOr, hBw⟩
 have hkn' : (k : Int) < (n : Int) := by omega
 have hKr : OwnE 3 1 iE wr w1.heap.size (.slice A2 n c2) K := OwnE.chg hK2 hc (fun j hj e => by
  have := (OwnE.lt hK2 j hj).1
  omega)
 obtain ⟨gD, cD, he, hbD, hgD, hcD⟩ := hKr.form (by rw [hn.out]; omega)
 rw [hn.out] at he hcD
 cases he
 have hcell := (hKr.cell iE_len hn.out hkn (j := 0) (by decide)).1
 have hki := hkin.out k hkn
 have hst1 := hst.out k hkn
 have hl1 := hln.out k
 have hBw : Below w.heap.size w wr := hB2.trans (hc.below (fun j e => by subst e; exact hgI) hB2.size)
 obtain ⟨x, hx⟩ : ∃ x, K.getD k 0 = x := ⟨_, rfl⟩
 rw [hx] at hki hst1
 have e0 : wr.cell? ⟨gD, k, none⟩ = some (.int .i64 x) := by
  have q := hcell
  rw [Nat.mul_one, Nat.add_zero] at q
  rw [q, ← hx]; rfl
 obtain ⟨hk0, hk1⟩ := hki
 obtain ⟨i, rfl⟩ := Int.eq_ofNat_of_zero_le hk0
 have hiN : i < N := by omega
 have hLd1 := hLd.out (i : Int) wr hBw
 obtain ⟨y, hy⟩ : ∃ y, loadD s (i : Int) = y := ⟨_, rfl⟩
 rw [hy, Int.toNat_natCast] at hst1
 rw [hy] at hLd1
 obtain ⟨X, hX⟩ : ∃ X, (K.take k).foldl (putV s) s.L = X := ⟨_, rfl⟩
 rw [hX] at hOr hst1 hl1
 obtain ⟨t0, t1⟩ := hOr.cell hl1 hiN
 have hOn := hOr.set hl1 hiN (y := y)
 rw [← hst1] at hOn
 have hcn := hc.trans (Chg.setCell (S := fun j => j = gI) wr gI i (.int .u64 (y : Nat)) rfl) (fun j q => .inl q)
 replace hst1 := lh hst1
 replace hX := lh hX
 replace hx := lh hx
 replace hy := lh hy
 obtain ⟨Xd, hXd⟩ : ∃ z, X.getD i 0 = z := ⟨_, rfl⟩
 rw [hXd] at t0
 replace hXd := lh hXd
 clear hcell hKr hOr hBw hk0
 go_wp2_with fail
 refine hLd1.mono ?_
 rintro e w3 ⟨rfl, rfl⟩
 clear hLd1
 go_wp2_with fail
 go_roundw
 case rel => exact ⟨k + 1, by omega, by go_num, hOn, hcn⟩
 first | (simp [intOf]; done) | (simp [intOf]; omega)
end Go.Proofs.YtkkbngcgphlikaaGreatDoor
end
section
namespace Go.Proofs.YtkkbngcgphlikaaGreatDoor
open Go.RowKit Go.ChangeShapes Go.WideShapes Go.Deep Go.Maps
theorem wpList_copy_run {P : Program} {w w' : World} {ops : Array Oper} {rest : List Oper} {o : Oper} {a : Act} {Q : Exit → Act → World → Prop} (hg : o.guard = none) (s x : Operand) (t : TypeId)
 (hop : o.op = Op.call { callee := Callee.builtin Builtin.copy, args := #[s, x], argTypes := #[t, t] }) (vs vx v : Value) (hs : a.eval s = vs) (hx : a.eval x = vx)
 (hrun : (Builtin.copy_ #[t, t] o.type #[vs, vx]).run P w = .ok v w') (h : wpList P ops Q rest (a.put o.dst v) w') : wpList P ops Q (o :: rest) a w := by
 refine wpList_plain hg fun K hK => ?_
 unfold Oper.wp
 simp [execOp, hop, resolve, invoke, builtin, hs, hx, hrun, Result.andThen]
 exact hK _ _ h
theorem copyU {w : World} {base g n cap : Nat} {xs l : List Nat} {u : Value} (h : OwnU w base (.slice (some ⟨g, 0, none⟩) n cap) xs) (hn : xs.length = n) (hl : l.length = n) (h0 : 0 < n) (hu : KL .u64 w u l) (ty : TypeId) :
 ∃ w', (Builtin.copy_ #[25, 25] ty #[.slice (some ⟨g, 0, none⟩) n cap, u]).run Tryz.prog w = .ok (goInt n) w' ∧ OwnU w' base (.slice (some ⟨g, 0, none⟩) n cap) l ∧ w.grownBy w' (some g) := by
 obtain ⟨A, sc, rfl, hC⟩ := hu
 obtain ⟨g2, off, rfl, hg2, hc2, hcell⟩ := hC (by omega)
 rcases h.2 with ⟨hv, _⟩ | ⟨g', cap', cur, hv, hb, hg, h1, h2, h3, h4⟩
 ·cases hv
 obtain ⟨e1, e2⟩ : g = g' ∧ cap = cap' := by cases hv; exact ⟨rfl, rfl⟩
 subst e1
 subst e2
 have hcl : (l.map fun x : Nat => Value.int .u64 x).length = n := by simp [hl]
 rw [hn] at h1 h4
 rw [Nat.mul_one] at h3 h4
 have hrun := run_copy_row (P := Tryz.prog) w 25 25 ty 40 g 0 n cap ⟨g2, off, none⟩ l.length sc cur 40 (l.map fun x : Nat => Value.int .u64 x) Tryz.underlying25 infoU64s hg (by rw [hcl, hl]; exact (Nat.min_self n).symm) (fun j v hj => by
  rw [List.getElem?_map] at hj
  cases hq : l[j]? with
  | none => rw [hq] at hj; cases hj
  | some y =>
    rw [hq] at hj
    cases hj
    obtain ⟨hj1, hj2⟩ := List.getElem?_eq_some_iff.1 hq
    rw [show (⟨g2, off, none⟩ : Addr).add j = ⟨g2, off + j, none⟩ from by simp [Addr.add], hcell j hj1, List.getD_eq_getElem?_getD, hq]
    rfl) (by rw [hcl]; omega) (fun v hv => by
  obtain ⟨y, _, rfl⟩ := List.mem_map.1 hv
  rfl)
 rw [hcl] at hrun
 refine ⟨_, hrun, ⟨by rw [List.length_map, Nat.mul_one], .inr ⟨g, cap, _, by rw [hl], hb, setRow_heap w g _ _ _ _ hg, by omega, h2, ?_, ?_⟩⟩, ⟨rfl, rfl, rfl, by simp [World.setRow], fun k _ hk => setRow_other w g k _ (fun e => hk (by rw [e]))⟩⟩
 ·simp only [List.size_toArray, List.length_append, List.length_take, List.length_drop, Array.length_toList, hcl]; omega
 rw [hl, Nat.mul_one]
 simp [hcl, hl, List.take_append, List.take_of_length_le]
def OpenedP (l : List Nat) (w : World) (e : Ending) (w' : World) : Prop := ∃ B F, e = .returned (.tuple #[.pointer (some ⟨B, 0, none⟩), .int .i64 0]) ∧ DvAt w' B F (dv0 l) ∧ (∀ k, F k → w.heap.size ≤ k) ∧ Below w.heap.size w w'
def newD (words : Nat) : Dv := dv0 (List.replicate words 0)
theorem dNew (n : Nat) (w : World) (h1 : 1 ≤ n) (h2 : n ≤ 65536) :
 Calls Tryz.prog 53 #[.int .i64 n] w (OpenedP (List.replicate n 0) w) := by
 obtain ⟨i0, hi, hz0, hz1, hz2⟩ := info_parts infoU64
 have hmm := @run_makeMap Tryz.prog
 have k1 : ¬ (n : Int) < 1 := by omega
 have k2 : ¬ 65536 < (n : Int) := by omega
 go_enter Tryz.func53, Tryz.ntmps53
 go_wp2_with (at_make; refine wpList_make_full _ rfl _ _ 25 rfl w.heap.size 40 i0 (.int .u64 0) 1 Tryz.underlying25 hi hz0 hz1 .i64 .i64 _ _ n rfl rfl rfl rfl (by rw [hz2]; omega) (by unfold maxLen; omega) (Nat.le_refl _) ?_; intro w1 hown hgr; replace hown := lh hown; replace hgr := lh hgr)
 go_ret2
 have hw1 : Below w.heap.size w w1 := (Below.refl _ w).grown hgr.out (Nat.le_refl _) (by simp)
 have hO : OwnU w1 w.heap.size (.slice (some ⟨w.heap.size, 0, none⟩) n n) (List.replicate n 0) := by
  have q := hown.out
  rw [show (madeCells (Value.int IntKind.u64 0).cells (n * 1)).toList = List.replicate n (Value.int .u64 0) by rw [Nat.mul_one]; exact toList_madeCells_one _ _] at q
  unfold OwnU
  rw [List.length_replicate, List.map_replicate]
  exact q
 have hs1 : w.heap.size < w1.heap.size := (hO.lt w.heap.size rfl).2
 have hA1 : Below w1.heap.size w1 (w1.alloc (.map #[] 0)) := bZ _ _
 have hA2 : Below (w1.alloc (.map #[] 0)).heap.size (w1.alloc (.map #[] 0)) ((w1.alloc (.map #[] 0)).alloc (.map #[] 0)) := bZ _ _
 obtain ⟨W2, hW2⟩ : ∃ W2, (w1.alloc (.map #[] 0)).alloc (.map #[] 0) = W2 := ⟨_, rfl⟩
 have hm1 := MapU.new w1
 have hm2 := MapU.new (w1.alloc (.map #[] 0))
 have hs2 : (w1.alloc (.map #[] 0)).heap.size = w1.heap.size + 1 := World.size_alloc _ _
 rw [hs2] at hm2
 have hs3 : ((w1.alloc (.map #[] 0)).alloc (.map #[] 0)).heap.size = w1.heap.size + 2 := by rw [World.size_alloc, World.size_alloc]
 have hA3 : Below ((w1.alloc (.map #[] 0)).alloc (.map #[] 0)).heap.size ((w1.alloc (.map #[] 0)).alloc (.map #[] 0)) (((w1.alloc (.map #[] 0)).alloc (.map #[] 0)).alloc (.cells (dvc (.slice (some ⟨w.heap.size, 0, none⟩) n n) w1.heap.size (w1.heap.size + 1) (newD n)) (103 : Nat))) := bZ _ _
 have hb1 := World.alloc_heap_new ((w1.alloc (.map #[] 0)).alloc (.map #[] 0)) (.cells (dvc (.slice (some ⟨w.heap.size, 0, none⟩) n n) w1.heap.size (w1.heap.size + 1) (newD n)) (103 : Nat))
 rw [hs3] at hb1
 change OpenedP (newD n).L w _ _
 refine ⟨_, fun k => k = w1.heap.size + 2 ∨ k = w1.heap.size ∨ k = w1.heap.size + 1 ∨ k = w.heap.size, rfl, ⟨w1.heap.size, w1.heap.size + 1, .slice (some ⟨w.heap.size, 0, none⟩) n n, ⟨hb1, ?_, ?_, ?_, by omega, .inl rfl, .inr (.inl rfl), .inr (.inr (.inl rfl)), fun k e => .inr (.inr (.inr (by cases e; rfl))), fun k e => ?_⟩⟩, fun k e => by omega, ?_⟩
 ·exact (((hO.keep hA1).keep hA2).keep hA3).mono (Nat.zero_le _)
 ·exact (hm1.keep hA2).keep hA3
 ·exact hm2.keep hA3
 ·rw [World.size_alloc, hs3]; omega
 exact hw1.trans (((hA1.trans (hA2.mono (by omega))).trans (hA3.mono (by omega))).mono (by omega))
theorem dOpen (v : Value) (l : List Nat) (w : World) (hl : 1 ≤ l.length) (hl2 : l.length ≤ 65536) (hv : KL .u64 w v l) :
 Calls Tryz.prog 14 #[v] w (OpenedP l w) := by
 obtain ⟨n, hn⟩ : ∃ n, l.length = n := ⟨_, rfl⟩
 have hN := dNew n w (by omega) (by omega)
 have hvh := lh hv
 obtain ⟨A, cap, rfl, _⟩ := hv.form hn
 rw [hn] at hl hl2
 go_enter Tryz.func14, Tryz.ntmps14
 go_wp2_with (first
  | (go_at_call 53; refine hN.mono ?_; rintro e w1 ⟨B, F, rfl, hD, hF, hb⟩; clear hN
     obtain ⟨C, M, v0, hR⟩ := hD
     change DvR w1 B C M v0 F (newD n) at hR
     have hlR : (newD n).L.length = n := by simp [newD, dv0]
     obtain ⟨A1, cap1, rfl, hA1⟩ := hR.last.form
     obtain ⟨g, rfl, _, hgl⟩ := hA1 (by omega)
     obtain ⟨⟨c0, c1, c2, c3, c4, c5⟩, fz⟩ := hR.cells
     have hgR := hR.last
     simp only [hlR] at c0 hgR
     obtain ⟨w2, hcp, ho2, hg2⟩ := copyU hgR hlR hn (by omega) (hvh.out.keep hb) 3
     have hgF := hR.f0 g rfl
     have hc0 : Chg (fun k => k = g) w1 w2 := Chg.of_grown hg2 (fun k e => .inl (by cases e; rfl))
     have hR2 := lh (show DvR w2 B C M (.slice (some ⟨g, 0, none⟩) n cap1) F (dv0 l) from
      ⟨(hc0.block B (hR.lt _ hR.fB) (fun e => row_ne hR.last hR.blk (by decide) g rfl e.symm)).trans (by have q := hR.blk; rw [hlR] at q; exact q), ho2, hR.cach.chg hc0 (fun e => row_ne_mapU hR.last hR.cach g rfl e.symm), hR.flus.chg hc0 (fun e => row_ne_mapU hR.last hR.flus g rfl e.symm), hR.ne, hR.fB, hR.fC, hR.fM, fun k e => by cases e; exact hgF, fun k e => Nat.lt_of_lt_of_le (hR.lt k e) hg2.size⟩)
     have hB2 := lh (hb.grown hg2 hb.size (fun j e => by cases e; exact hF g hgF))
     replace hF := lh hF
     clear hR hgR fz c1 c2 c3 c4 c5 hA1 ho2 hg2 hc0 hb)
  | (at_builtin; refine wpList_copy_run rfl _ _ 25 rfl _ _ _ rfl rfl hcp ?_))
 go_ret2
 exact ⟨_, _, rfl, ⟨_, _, _, hR2.out⟩, hF.out, hB2.out⟩
end Go.Proofs.YtkkbngcgphlikaaGreatDoor
end
