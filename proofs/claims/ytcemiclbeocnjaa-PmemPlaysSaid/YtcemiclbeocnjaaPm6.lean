/-
  Layer 3 (pmem): the code's Fence.
-/
import Derived.Test.YtcemiclbeocnjaaPm5
import Derived.Test.YtcemiclbeocnjaaRegS
set_option linter.unusedVariables false
set_option linter.unusedSimpArgs false
namespace Go.Proofs.Ytcemiclbeocnjaa
open Go.RowKit Go.ChangeShapes Go.WideShapes Go.Deep Go.Maps Go.Sort Go.Shelf
attribute [local go_sem] Oper.semAt_some

def fenOne (s : Dv) (x : Int) : Dv := { s with L := s.L.set x.toNat ((s.f x).getD 0), c := if (s.c x).getD 0 = (s.f x).getD 0 then delU s.c x else s.c }
def fenceD (s : Dv) : Dv := if doneD s then { (keysL s.L.length s.f).foldl fenOne (stepD s) with f := fun _ => none } else stepD s
theorem fen_same : ∀ (K : List Int) (s : Dv), (K.foldl fenOne s).f = s.f ∧ (K.foldl fenOne s).n = s.n ∧ (K.foldl fenOne s).L.length = s.L.length
  | [], s => ⟨rfl, rfl, rfl⟩
  | x :: K, s => by
    obtain ⟨h1, h2, h3⟩ := fen_same K (fenOne s x)
    rw [List.foldl_cons]
    exact ⟨h1, h2, by rw [h3]; simp [fenOne]⟩
theorem chg_drew (S : Nat → Prop) (w : World) : Chg S w w.drew := Chg.of_below S (Below.refl _ _).drew
theorem chg_put {S : Nat → Prop} (w : World) (D : Nat) (o : Obj) (h : S D) : Chg S w (w.putObj D o) := Chg.of_grown (grownBy_putObj' w D o) (fun k e => by cases e; exact .inl h)
theorem chg_mono {S T : Nat → Prop} {w w' : World} (h : Chg S w w') (k : ∀ j, S j → T j) : Chg T w w' := ⟨h.os, h.tape, h.output, h.size, fun j hj hn => h.block j hj (fun q => hn (k j q))⟩
theorem keepsFrom_chg {S : Nat → Prop} {B : Nat} {w w' : World} (h : Chg S w w') (hS : ∀ k, S k → k < B) : KeepsFrom B w w' :=
  ⟨h.size, fun k o hB hk _ => (h.block k (Array.getElem?_eq_some_iff.1 hk).1 (fun q => by have := hS k q; omega)).trans hk⟩
theorem boxed_chg {S : Nat → Prop} {w w' : World} {b : Nat} {t : TypeId} {v : Value} (h : Boxed w b t v) (hc : Chg S w w') (hn : ¬ S b) : Boxed w' b t v := (hc.block b h.lt hn).trans h
theorem ownG_I {α : Type} {B0 : Nat} {Kp : World → World → Prop} {I : List α → World → Prop} {J : World → Prop} {Ix : Code → List α → World → Prop} {xs : List α} {W : World} (h : I xs = J) :
    ownPostG B0 Kp I Ix xs W = ownPostG B0 Kp (fun _ => J) Ix xs W := by
  funext e a W'
  cases e <;> simp only [ownPostG]
  rw [h]
/-- what holds between two rounds -/
def FenI (x B C M : Nat) (v0 : Value) (F : Nat → Prop) (W0 : World) (s1 : Dv) (pre : List Int) (W : World) : Prop :=
  Boxed W x 26 (.pointer (some ⟨B, 0, none⟩)) ∧ DvR W B C M v0 F (pre.foldl fenOne s1) ∧ Chg F W0 W
theorem FenI.chg {x B C M : Nat} {v0 : Value} {F : Nat → Prop} {W0 : World} {s1 : Dv} {pre : List Int} {W W' : World} {S : Nat → Prop} (h : FenI x B C M v0 F W0 s1 pre W) (hc : Chg S W W') (hx : ¬ S x) (hF : ∀ k, F k → ¬ S k) (h0 : ∀ k, S k → W0.heap.size ≤ k) : FenI x B C M v0 F W0 s1 pre W' :=
  ⟨boxed_chg h.1 hc hx, h.2.1.chg hc hF, h.2.2.trans hc (fun j q => .inr (h0 j q))⟩
theorem fenI_own {β : Type} {x B C M : Nat} {v0 : Value} {F : Nat → Prop} {W0 : World} {s1 : Dv} (g : β → List Int) (hx : x < W0.heap.size) (hF : ∀ k, F k → k < W0.heap.size) : OwnFrom W0.heap.size (fun (pre : β) W => FenI x B C M v0 F W0 s1 (g pre) W) := by
  intro pre W W' row h hg hr
  refine h.chg (S := fun k => W0.heap.size ≤ k) (Chg.of_grown hg (fun k e => .inl (hr k e).1)) (by omega) (fun k e => by have := hF k e; omega) (fun k e => e)

set_option maxRecDepth 10000 in
set_option maxHeartbeats 4000000 in
theorem fence_in (n : Nat) (hn : 3 ≤ n) (B : Nat) (F : Nat → Prop) (s : Dv) (w : World) (h : DvAt w B F s) (hg : GoodD s) :
    CallsIn Fence.wide n Try.prog 50 #[.pointer (some ⟨B, 0, none⟩)] w fun e w' => e = .returned (.tuple #[]) ∧ DvAt w' B F (fenceD s) ∧ Chg F w w' := by
  have hn1 : 1 ≤ n := by omega
  have hA1 : Below w.heap.size w (w.alloc (.cells #[.pointer (some ⟨B, 0, none⟩)] 26)) := (Below.refl _ w).alloc (Nat.le_refl _) _
  have hS := dStep B F s _ (h.keep hA1) hg
  have hFl := Lib.hid h.lt
  have hlen := Lib.hid hg.len
  have hsn := Lib.hid hg.n
  have hse := Lib.hid (stepD_same s)
  have hfr := Lib.hid (show ∀ x a, s.f x = some a → 0 ≤ x ∧ x < s.L.length from fun x a q => by
    obtain ⟨b, hb⟩ := hg.fin x a q
    exact hg.cin x b hb)
  have hKs := Lib.hid (keysL_keys s.L.length s.f hfr.out)
  have b0 := Boxed.new w 26 (.pointer (some ⟨B, 0, none⟩))
  clear h hg
  unfold fenceD
  cases hd : doneD s with
  | false =>
    rw [hd] at hS
    rw [if_neg (by simp)]
    refine callsIn_of_wp_marks Try.func50 rfl trivial ?_ rfl
    simp only [Try.ntmps50, List.size_toArray, List.length_cons, List.length_nil, Nat.reduceAdd, Nat.reduceSub, Array.replicate_succ, Array.replicate_zero, List.push_toArray, List.append_toArray, List.nil_append, List.cons_append]
    gi_wp2
    refine ⟨trivial, (callsIn_wide.2 hS).mono ?_⟩
    rintro e w2 ⟨rfl, h2, hc2⟩
    have b2 := boxed_chg b0 hc2 (fun q => by have := hFl.out _ q; omega)
    have hcw := Lib.hid ((Chg.of_below F hA1).trans hc2 (fun j q => .inl q))
    have hs2 : w.heap.size + 1 ≤ w2.heap.size := by have := hc2.size; simpa using this
    clear hS b0 hA1 hc2
    replace h2 := Lib.hid h2
    gi_wp2
    exact ⟨_, results_none rfl _ _ _, rfl, h2.out, hcw.out⟩
  | true =>
    rw [hd] at hS
    rw [if_pos rfl]
    refine callsIn_of_wp_marks Try.func50 rfl trivial ?_ rfl
    simp only [Try.ntmps50, List.size_toArray, List.length_cons, List.length_nil, Nat.reduceAdd, Nat.reduceSub, Array.replicate_succ, Array.replicate_zero, List.push_toArray, List.append_toArray, List.nil_append, List.cons_append]
    gi_wp2
    refine ⟨trivial, (callsIn_wide.2 hS).mono ?_⟩
    rintro e w2 ⟨rfl, h2, hc2⟩
    have b2 := boxed_chg b0 hc2 (fun q => by have := hFl.out _ q; omega)
    have hcw := Lib.hid ((Chg.of_below F hA1).trans hc2 (fun j q => .inl q))
    have hs2 : w.heap.size + 1 ≤ w2.heap.size := by have := hc2.size; simpa using this
    clear hS b0 hA1 hc2
    obtain ⟨C, M, v0, hR⟩ := h2
    obtain ⟨⟨c0, c1, c2, c3, c4, c5⟩, fz⟩ := hR.cells
    have cb2 := b2.cell
    have hMl := hFl.out _ hR.fM
    have hCl := hFl.out _ hR.fC
    have hBl := hFl.out _ hR.fB
    have hBl2 : B < w2.heap.size := by omega
    clear c0 c1 c3 c4 c5 fz
    gi_wp2
    refine ⟨trivial, (places_in (n - 1) M _).mono ?_⟩
    rintro e w' ⟨rfl, rfl⟩
    have hA2 : Below w2.heap.size w2 (w2.alloc (.cells #[.map (some M)] 92)) := (Below.refl _ w2).alloc (Nat.le_refl _) _
    have hR0 := hR.keep hA2
    have hf0 : MapU (w2.alloc (.cells #[.map (some M)] 92)) M s.n s.f := by
      have := hR0.flus
      rwa [hse.out.2.2.1, hse.out.2.2.2] at this
    have bM := Boxed.new w2 92 (.map (some M))
    have b3 := b2.alloc (.cells #[.map (some M)] 92)
    have hs3 : (w2.alloc (.cells #[.map (some M)] 92)).heap.size = w2.heap.size + 1 := by simp
    have hcw3 := Lib.hid (hcw.out.trans (Chg.of_below F hA2) (fun j q => .inl q))
    have cbm := bM.cell
    obtain ⟨W0, hW0⟩ : ∃ W0, W0 = w2.alloc (.cells #[.map (some M)] 92) := ⟨_, rfl⟩
    gi_wp2
    rw [← hW0] at hR0 hf0 bM b3 hs3 hcw3 ⊢
    clear hW0 hA2 hR b2 hcw c2 cb2 cbm
    have hK2 := keysOf_map s.f (keysL s.L.length s.f) hKs.out
    generalize keysOf s.f (keysL s.L.length s.f) hKs.out = K at *
    have hKs2 := hKs.out
    rw [← hK2] at hKs2
    have hF0 := Lib.hid (show ∀ k, F k → k < W0.heap.size ∧ k ≠ w.heap.size from fun k q => by have := hFl.out k q; omega)
    have hI0 : FenI w.heap.size B C M v0 F W0 (stepD s) (([] : List (Key s.f)).map fun y => y.1) W0 := ⟨b3, hR0, Chg.refl _ _⟩
    replace hR0 := Lib.hid hR0
    refine wpIn_rangeFunc_ownG rfl hn1 (gf := 85) (lb := #[.pointer (some ⟨w2.heap.size, 0, none⟩)]) rfl trivial (enters_of Try.func85 (by kernel_rfl) rfl)
      (pl_stops (n - 1) (by omega) w.heap.size w2.heap.size W0.heap.size M s.n s.f K hKs2 W0 (by omega) (ownLt_of b3 (by simp [Value.ownBlock])) bM.cell hf0 (by have := hsn.out; omega) (Nat.le_refl _))
      kq_t (kq_b (by omega)) (Below.refl _ _) (fun _ => rfl)
      (fun pre W => FenI w.heap.size B C M v0 F W0 (stepD s) (pre.map fun y => y.1) W)
      (fun _ _ _ => False)
      (fenI_own (fun pre : List (Key s.f) => pre.map fun y => y.1) (by omega) (fun k q => (hF0.out k q).1))
      (fun _ _ _ _ _ hs _ _ => hs)
      hI0
      (fun y => { tmps := #[.pointer (some ⟨B, 0, none⟩), .pointer (some ⟨w.heap.size, 0, none⟩), .int .i64 y.1, .pointer (some ⟨B, 0, none⟩), .bool true, .bool false, .pointer (some ⟨B, 0, none⟩), .pointer (some ⟨B, 0, none⟩), .pointer (some ⟨B, 2, none⟩), .map (some M), .func (.func 85) #[] #[.pointer (some ⟨w2.heap.size, 0, none⟩)], .int .i64 y.1, undef, undef, undef, undef, undef, undef, undef, undef, undef, undef, undef, undef, undef, undef, undef, undef, undef, undef, undef, undef, undef, undef, undef, undef, undef, undef, undef, undef, undef, undef, undef, undef, undef, undef], defers := [] }) ?assign ?body ?done ?stop
    case assign =>
      intro l y W Kc hK
      gi_wp2
      simpa using hK
    case body =>
      clear hI0
      rintro l pre y W ⟨bx, hRW, hcW⟩ hlt
      obtain ⟨y, a, hya⟩ := y
      have hpm : (pre ++ [(⟨y, a, hya⟩ : Key s.f)]).map (fun z => z.1) = (pre.map fun z => z.1) ++ [y] := by rw [List.map_append]; rfl
      rw [ownG_I (I := fun (pre : List (Key s.f)) W => FenI w.heap.size B C M v0 F W0 (stepD s) (pre.map fun y => y.1) W) (xs := pre ++ [(⟨y, a, hya⟩ : Key s.f)]) (J := fun W => Boxed W w.heap.size 26 (.pointer (some ⟨B, 0, none⟩)) ∧ DvR W B C M v0 F (fenOne ((pre.map fun y => y.1).foldl fenOne (stepD s)) y) ∧ Chg F W0 W) (by
        rw [hpm]
        unfold FenI
        rw [List.foldl_append]; rfl)]
      generalize (pre.map fun z => z.1) = P at *
      clear hpm hlt
      obtain ⟨q1, q2, q3⟩ := fen_same P (stepD s)
      rw [hse.out.2.2.1] at q1
      rw [hse.out.2.2.2] at q2
      rw [hse.out.1] at q3
      generalize P.foldl fenOne (stepD s) = sP at *
      obtain ⟨hy0, hyN⟩ := hfr.out y a hya
      rw [← q3] at hyN
      rw [← q1] at hya
      obtain ⟨i, rfl⟩ := Int.eq_ofNat_of_zero_le hy0
      have hi : i < sP.L.length := by omega
      have hx64 : I64 (i : Int) := by have := hlen.out; constructor <;> omega
      obtain ⟨A, cap, rfl, hA⟩ := hRW.last.form
      obtain ⟨g, rfl, _, hgl⟩ := hA (by omega)
      have hgF := hRW.f0 g rfl
      have hgn := (hF0.out g hgF)
      have hRd := hRW.keep (Below.refl _ _).drew
      obtain ⟨⟨c0, c1, c2, _⟩, _⟩ := hRd.cells
      have cb : W.drew.cell? ⟨w.heap.size, 0, none⟩ = some (.pointer (some ⟨B, 0, none⟩)) := bx.cell
      have hlk := hRd.flus.look1 hx64
      obtain ⟨e0, f0⟩ := hRd.last.cell rfl hi
      rw [hya] at hlk
      obtain ⟨W3, hW3, hR2, hch2⟩ : ∃ W3, W3 = (W.drew.setCell ⟨g, i, none⟩ (.int .u64 (a : Nat))).drew ∧ DvR W3 B C M (.slice (some ⟨g, 0, none⟩) sP.L.length cap) F { sP with L := sP.L.set i a } ∧ Hid (Chg F W W3) :=
        ⟨_, rfl, (hRd.lTo (x := a) rfl hi).keep (Below.refl _ _).drew, Lib.hid (((chg_drew F W).trans (Chg.setCell _ _ _ _ hgF) (fun j q => .inl q)).trans (chg_drew F _) (fun j q => .inl q))⟩
      have hBX := hF0.out B hRW.fB
      have bx2 : Boxed W3 w.heap.size 26 (.pointer (some ⟨B, 0, none⟩)) := boxed_chg bx hch2.out (fun q => (hF0.out _ q).2 rfl)
      have hi2 : (i : Int) < (sP.L.length : Int) := by omega
      obtain ⟨⟨d0, d1, d2, _⟩, _⟩ := hR2.cells
      have cbx := bx2.cell
      have hlk2 := hR2.flus.look1 hx64
      have hlk3 := hR2.cach.look1 hx64
      simp only [] at hlk2 hlk3
      rw [hya] at hlk2
      have hone : fenOne sP (i : Int) = { sP with L := sP.L.set i a, c := if (sP.c (i : Int)).getD 0 = a then delU sP.c (i : Int) else sP.c } := by
        unfold fenOne
        rw [hya]; rfl
      rw [hone]
      simp only [Option.getD_some] at hlk hlk2
      replace hone := Lib.hid hone
      replace hya := Lib.hid hya
      obtain ⟨z, hz⟩ : ∃ z, (sP.c (i : Int)).getD 0 = z := ⟨_, rfl⟩
      rw [hz] at hlk3 ⊢
      replace hz := Lib.hid hz
      replace hRW := Lib.hid hRW
      replace hRd := Lib.hid hRd
      replace hR2 := Lib.hid hR2
      replace hcW := Lib.hid hcW
      replace bx := Lib.hid bx
      replace bx2 := Lib.hid bx2
      obtain ⟨x0, e0⟩ : ∃ x, W.drew.cell? ⟨g, i, none⟩ = some x := ⟨_, e0⟩
      clear hA q1 q2 q3
      gi_wp2
      refine wpIn_region_tail_wr (S := (fun w' => w' = W.drew)) (n := 12) (by kernel_rfl) (by kernel_rfl) (by rintro ⟨_, _, h⟩; exact h) ?_ (fun hHeld hInv => ?_) (by decide)
      · (try dsimp only)
        all_goals rfl
      refine takeS 0 (v := ?_) (tailAt (by kernel_rfl)) hInv (by decide) rfl (by kernel_rfl) (by kernel_rfl) (by kernel_rfl) (fun _ _ _ h => h) (by rfl) (by assumption) ?_ (fun hInv2 => ?_)
      rotate_left
      · (intro w hSw; (try dsimp only at hSw); (subst hSw); go_simp <;> with_reducible rfl)
      clear hInv
      have hInv := hInv2
      clear hInv2
      try simp only [Act.put, List.setIfInBounds_toArray, List.set_cons_zero, List.set_cons_succ] at hInv ⊢
      refine takeS 1 (v := ?_) (tailAt (by kernel_rfl)) hInv (by decide) rfl (by kernel_rfl) (by kernel_rfl) (by kernel_rfl) (fun _ _ _ h => h) (by rfl) (by assumption) ?_ (fun hInv2 => ?_)
      rotate_left
      · (intro w hSw; (try dsimp only at hSw); (subst hSw); go_simp <;> with_reducible rfl)
      clear hInv
      have hInv := hInv2
      clear hInv2
      try simp only [Act.put, List.setIfInBounds_toArray, List.set_cons_zero, List.set_cons_succ] at hInv ⊢
      refine takeS 2 (v := ?_) (tailAt (by kernel_rfl)) hInv (by decide) rfl (by kernel_rfl) (by kernel_rfl) (by kernel_rfl) (fun _ _ _ h => h) (by rfl) (by assumption) ?_ (fun hInv2 => ?_)
      rotate_left
      · (intro w hSw; (try dsimp only at hSw); (subst hSw); go_simp <;> with_reducible rfl)
      clear hInv
      have hInv := hInv2
      clear hInv2
      try simp only [Act.put, List.setIfInBounds_toArray, List.set_cons_zero, List.set_cons_succ] at hInv ⊢
      refine takeS 3 (v := ?_) (tailAt (by kernel_rfl)) hInv (by decide) rfl (by kernel_rfl) (by kernel_rfl) (by kernel_rfl) (fun _ _ _ h => h) (by rfl) (by assumption) ?_ (fun hInv2 => ?_)
      rotate_left
      · (intro w hSw; (try dsimp only at hSw); (subst hSw); go_simp <;> with_reducible rfl)
      clear hInv
      have hInv := hInv2
      clear hInv2
      try simp only [Act.put, List.setIfInBounds_toArray, List.set_cons_zero, List.set_cons_succ] at hInv ⊢
      refine takeS 4 (v := ?_) (tailAt (by kernel_rfl)) hInv (by decide) rfl (by kernel_rfl) (by kernel_rfl) (by kernel_rfl) (fun _ _ _ h => h) (by rfl) (by assumption) ?_ (fun hInv2 => ?_)
      rotate_left
      · (intro w hSw; (try dsimp only at hSw); (subst hSw); go_simp <;> with_reducible rfl)
      clear hInv
      have hInv := hInv2
      clear hInv2
      try simp only [Act.put, List.setIfInBounds_toArray, List.set_cons_zero, List.set_cons_succ] at hInv ⊢
      refine takeS 5 (v := ?_) (tailAt (by kernel_rfl)) hInv (by decide) rfl (by kernel_rfl) (by kernel_rfl) (by kernel_rfl) (fun _ _ _ h => h) (by rfl) (by assumption) ?_ (fun hInv2 => ?_)
      rotate_left
      · (intro w hSw; (try dsimp only at hSw); (subst hSw); go_simp <;> with_reducible rfl)
      clear hInv
      have hInv := hInv2
      clear hInv2
      try simp only [Act.put, List.setIfInBounds_toArray, List.set_cons_zero, List.set_cons_succ] at hInv ⊢
      refine takeS 6 (v := ?_) (tailAt (by kernel_rfl)) hInv (by decide) rfl (by kernel_rfl) (by kernel_rfl) (by kernel_rfl) (fun _ _ _ h => h) (by rfl) (by assumption) ?_ (fun hInv2 => ?_)
      rotate_left
      · (intro w hSw; (try dsimp only at hSw); (subst hSw); go_simp <;> with_reducible rfl)
      clear hInv
      have hInv := hInv2
      clear hInv2
      try simp only [Act.put, List.setIfInBounds_toArray, List.set_cons_zero, List.set_cons_succ] at hInv ⊢
      refine takeS 7 (v := ?_) (tailAt (by kernel_rfl)) hInv (by decide) rfl (by kernel_rfl) (by kernel_rfl) (by kernel_rfl) (fun _ _ _ h => h) (by rfl) (by assumption) ?_ (fun hInv2 => ?_)
      rotate_left
      · (intro w hSw; (try dsimp only at hSw); (subst hSw); go_simp <;> with_reducible rfl)
      clear hInv
      have hInv := hInv2
      clear hInv2
      try simp only [Act.put, List.setIfInBounds_toArray, List.set_cons_zero, List.set_cons_succ] at hInv ⊢
      refine takeS 8 (v := ?_) (tailAt (by kernel_rfl)) hInv (by decide) rfl (by kernel_rfl) (by kernel_rfl) (by kernel_rfl) (fun _ _ _ h => h) (by rfl) (by assumption) ?_ (fun hInv2 => ?_)
      rotate_left
      · (intro w hSw; (try dsimp only at hSw); (subst hSw); go_simp <;> with_reducible rfl)
      clear hInv
      have hInv := hInv2
      clear hInv2
      try simp only [Act.put, List.setIfInBounds_toArray, List.set_cons_zero, List.set_cons_succ] at hInv ⊢
      refine takeS 9 (v := ?_) (tailAt (by kernel_rfl)) hInv (by decide) rfl (by kernel_rfl) (by kernel_rfl) (by kernel_rfl) (fun _ _ _ h => h) (by rfl) (by assumption) ?_ (fun hInv2 => ?_)
      rotate_left
      · (intro w hSw; (try dsimp only at hSw); (subst hSw); go_simp <;> with_reducible rfl)
      clear hInv
      have hInv := hInv2
      clear hInv2
      try simp only [Act.put, List.setIfInBounds_toArray, List.set_cons_zero, List.set_cons_succ] at hInv ⊢
      refine takeS 10 (v := ?_) (tailAt (by kernel_rfl)) hInv (by decide) rfl (by kernel_rfl) (by kernel_rfl) (by kernel_rfl) (fun _ _ _ h => h) (by rfl) (by assumption) ?_ (fun hInv2 => ?_)
      rotate_left
      · (intro w hSw; (try dsimp only at hSw); (subst hSw); go_simp <;> with_reducible rfl)
      clear hInv
      have hInv := hInv2
      clear hInv2
      try simp only [Act.put, List.setIfInBounds_toArray, List.set_cons_zero, List.set_cons_succ] at hInv ⊢
      refine takeS 11 (v := ?_) (tailAt (by kernel_rfl)) hInv (by decide) rfl (by kernel_rfl) (by kernel_rfl) (by kernel_rfl) (fun _ _ _ h => h) (by rfl) (by assumption) ?_ (fun hInv2 => ?_)
      rotate_left
      · (intro w hSw; (try dsimp only at hSw); (subst hSw); go_simp <;> with_reducible rfl)
      clear hInv
      have hInv := hInv2
      clear hInv2
      try simp only [Act.put, List.setIfInBounds_toArray, List.set_cons_zero, List.set_cons_succ] at hInv ⊢
      refine lastS 12 rfl (by decide) (by kernel_rfl) (fun K hK => ?_)
      go_simp
      refine hK.out _ _ ?_
      clear hK K
      refine wpAnyS_done (by kernel_rfl) ?_ _
      gi_wp2
      have hWW : (W.setCell ⟨g, i, none⟩ (.int .u64 (a : Nat))).drew.drew = W3 := by rw [hW3]; rfl
      replace hW3 := Lib.hid hW3
      refine wpIn_region_held_wr (S := (fun w' => w' = W3)) (by kernel_rfl) (by kernel_rfl) (by rintro ⟨_, _, h⟩; exact h) ?_ (fun hHeld => ?_)
      · (try dsimp only)
        exact hWW
      refine takeL 0 (v := ?_) rfl (by kernel_rfl) (by kernel_rfl) (by kernel_rfl) (fun _ _ _ h => h) (by rfl) (by assumption) ?_ ?_
      rotate_left
      · (intro w hSw; (try dsimp only at hSw); (subst hSw); go_simp <;> with_reducible rfl)
      try simp only [Act.put, List.setIfInBounds_toArray, List.set_cons_zero, List.set_cons_succ]
      refine takeL 1 (v := ?_) rfl (by kernel_rfl) (by kernel_rfl) (by kernel_rfl) (fun _ _ _ h => h) (by rfl) (by assumption) ?_ ?_
      rotate_left
      · (intro w hSw; (try dsimp only at hSw); (subst hSw); go_simp <;> with_reducible rfl)
      try simp only [Act.put, List.setIfInBounds_toArray, List.set_cons_zero, List.set_cons_succ]
      refine takeL 2 (v := ?_) rfl (by kernel_rfl) (by kernel_rfl) (by kernel_rfl) (fun _ _ _ h => h) (by rfl) (by assumption) ?_ ?_
      rotate_left
      · (intro w hSw; (try dsimp only at hSw); (subst hSw); go_simp <;> with_reducible rfl)
      try simp only [Act.put, List.setIfInBounds_toArray, List.set_cons_zero, List.set_cons_succ]
      refine takeL 3 (v := ?_) rfl (by kernel_rfl) (by kernel_rfl) (by kernel_rfl) (fun _ _ _ h => h) (by rfl) (by assumption) ?_ ?_
      rotate_left
      · (intro w hSw; (try dsimp only at hSw); (subst hSw); go_simp <;> with_reducible rfl)
      try simp only [Act.put, List.setIfInBounds_toArray, List.set_cons_zero, List.set_cons_succ]
      refine takeL 4 (v := ?_) rfl (by kernel_rfl) (by kernel_rfl) (by kernel_rfl) (fun _ _ _ h => h) (by rfl) (by assumption) ?_ ?_
      rotate_left
      · (intro w hSw; (try dsimp only at hSw); (subst hSw); go_simp <;> with_reducible rfl)
      try simp only [Act.put, List.setIfInBounds_toArray, List.set_cons_zero, List.set_cons_succ]
      refine takeL 5 (v := ?_) rfl (by kernel_rfl) (by kernel_rfl) (by kernel_rfl) (fun _ _ _ h => h) (by rfl) (by assumption) ?_ ?_
      rotate_left
      · (intro w hSw; (try dsimp only at hSw); (subst hSw); go_simp <;> with_reducible rfl)
      try simp only [Act.put, List.setIfInBounds_toArray, List.set_cons_zero, List.set_cons_succ]
      refine takeL 6 (v := ?_) rfl (by kernel_rfl) (by kernel_rfl) (by kernel_rfl) (fun _ _ _ h => h) (by rfl) (by assumption) ?_ ?_
      rotate_left
      · (intro w hSw; (try dsimp only at hSw); (subst hSw); go_simp <;> with_reducible rfl)
      try simp only [Act.put, List.setIfInBounds_toArray, List.set_cons_zero, List.set_cons_succ]
      refine takeL 7 (v := ?_) rfl (by kernel_rfl) (by kernel_rfl) (by kernel_rfl) (fun _ _ _ h => h) (by rfl) (by assumption) ?_ ?_
      rotate_left
      · (intro w hSw; (try dsimp only at hSw); (subst hSw); go_simp <;> with_reducible rfl)
      try simp only [Act.put, List.setIfInBounds_toArray, List.set_cons_zero, List.set_cons_succ]
      refine takeL 8 (v := ?_) rfl (by kernel_rfl) (by kernel_rfl) (by kernel_rfl) (fun _ _ _ h => h) (by rfl) (by assumption) ?_ ?_
      rotate_left
      · (intro w hSw; (try dsimp only at hSw); (subst hSw); go_simp <;> with_reducible rfl)
      try simp only [Act.put, List.setIfInBounds_toArray, List.set_cons_zero, List.set_cons_succ]
      refine takeL 9 (v := ?_) rfl (by kernel_rfl) (by kernel_rfl) (by kernel_rfl) (fun _ _ _ h => h) (by rfl) (by assumption) ?_ ?_
      rotate_left
      · (intro w hSw; (try dsimp only at hSw); (subst hSw); go_simp <;> with_reducible rfl)
      try simp only [Act.put, List.setIfInBounds_toArray, List.set_cons_zero, List.set_cons_succ]
      refine takeL 10 (v := ?_) rfl (by kernel_rfl) (by kernel_rfl) (by kernel_rfl) (fun _ _ _ h => h) (by rfl) (by assumption) ?_ ?_
      rotate_left
      · (intro w hSw; (try dsimp only at hSw); (subst hSw); go_simp <;> with_reducible rfl)
      try simp only [Act.put, List.setIfInBounds_toArray, List.set_cons_zero, List.set_cons_succ]
      refine takeL 11 (v := ?_) rfl (by kernel_rfl) (by kernel_rfl) (by kernel_rfl) (fun _ _ _ h => h) (by rfl) (by assumption) ?_ ?_
      rotate_left
      · (intro w hSw; (try dsimp only at hSw); (subst hSw); go_simp <;> with_reducible rfl)
      try simp only [Act.put, List.setIfInBounds_toArray, List.set_cons_zero, List.set_cons_succ]
      refine takeL 12 (v := ?_) rfl (by kernel_rfl) (by kernel_rfl) (by kernel_rfl) (fun _ _ _ h => h) (by rfl) (by assumption) ?_ ?_
      rotate_left
      · (intro w hSw; (try dsimp only at hSw); (subst hSw); go_simp <;> with_reducible rfl)
      try simp only [Act.put, List.setIfInBounds_toArray, List.set_cons_zero, List.set_cons_succ]
      refine wpAnyH_done (by kernel_rfl) ?_ _
      rw [hWW]
      clear hHeld hlk hlk2 hlk3 d0 d2 c0 c1 c2 e0 f0 cb
      by_cases hza : z = a
      · subst hza
        obtain ⟨W4, hdel, hm4, hg4⟩ := hR2.out.cach.drop hx64 0
        have hR4 := hR2.out.cTo hg4 hm4 (Nat.le_refl _)
        have hFC := hR2.out.fC
        have hc4 := Lib.hid (hch2.out.trans (Chg.of_grown (S := F) hg4 (fun k e => by cases e; exact .inl hFC)) (fun j q => .inl q))
        have bx4 := boxed_chg bx.out hc4.out (fun q => (hF0.out _ q).2 rfl)
        clear hm4 hg4
        gi_wp2
        exact ⟨keepsFrom_chg hc4.out (fun k q => by have := (hF0.out k q).1; omega), kq_chg hc4.out (fun k q => ⟨by have := (hF0.out k q).1; omega, (hF0.out k q).2⟩) bx.out.lt, bx4, (by first | exact hR4 | (rw [if_pos rfl]; exact hR4)), hcW.out.trans hc4.out (fun j q => .inl q)⟩
      · have hzf : ((z : Nat) : Int) ≠ ((a : Nat) : Int) := by omega
        have hzb : (((z : Nat) : Int) == ((a : Nat) : Int)) = false := by simpa using hzf
        gi_wp2
        exact ⟨keepsFrom_chg hch2.out (fun k q => by have := (hF0.out k q).1; omega), kq_chg hch2.out (fun k q => ⟨by have := (hF0.out k q).1; omega, (hF0.out k q).2⟩) bx.out.lt, bx2.out, (by first | exact hR2.out | (rw [if_neg hza]; exact hR2.out)), hcW.out.trans hch2.out (fun j q => .inl q)⟩
    case done =>
      rintro D ys W hD rfl ⟨bx, hRW, hcW⟩ hK
      rw [hK2] at hRW
      obtain ⟨p1, p2, p3⟩ := fen_same (keysL s.L.length s.f) (stepD s)
      rw [hse.out.2.2.2] at p2
      obtain ⟨sP, hsP⟩ : ∃ sP, (keysL s.L.length s.f).foldl fenOne (stepD s) = sP := ⟨_, rfl⟩
      rw [hsP] at hRW p1 p2 p3
      obtain ⟨⟨c0, c1, c2, _⟩, _⟩ := hRW.cells
      have cb := bx.cell
      obtain ⟨W5, hrun, hm5, hg5⟩ := hRW.flus.clear 0
      have hR5 := hRW.fTo hg5 (hm5.mono (Nat.zero_le sP.n)) (Nat.le_refl _)
      have hFM := hRW.fM
      have hc5 := (hcW.trans (Chg.of_grown (S := F) hg5 (fun k e => by cases e; exact .inl hFM)) (fun j q => .inl q))
      have hMD : M ≠ D := fun e => by have := (hF0.out M hFM).1; omega
      have hDl := (Array.getElem?_eq_some_iff.1 hK).1
      have hK5 : W5.heap[D]? = some (.deferred (some [])) := (hg5.block D hDl (fun e => hMD (by cases e; rfl))).trans hK
      have hcD : Chg (fun k => k = D) W5 (W5.putObj D (.deferred none)) := chg_put _ _ _ rfl
      have hR6 := Lib.hid (hR5.chg hcD (fun k q e => by have := (hF0.out k q).1; omega))
      have hc6 := Lib.hid ((hcw3.out.trans hc5 (fun j q => .inl q)).trans hcD (fun j q => .inr (by have := hcw3.out.size; omega)))
      clear hRW bx hm5 hg5 hR5 hc5 hcD c0 c1
      gi_wp2
      refine ⟨by simp, .inl ⟨_, _, rfl, run_takeDeferred hK5, ?_⟩⟩
      subst hsP
      exact ⟨_, results_none rfl _ _ _, rfl, ⟨_, _, _, hR6.out⟩, hc6.out⟩
    case stop =>
      rintro D c pre W _ _ h _
      exact h.elim
end Go.Proofs.Ytcemiclbeocnjaa
