/-
  Part of the proof of MendTouches.
-/
import Derived.Test.YtkdhdibjbabgfaaGreatDoorVt21
import Derived.Test.YtkdhdibjbabgfaaGreatDoorVt25
import Derived.Lib.LaidTab
import Derived.Lib.SmallJoins
import Derived.Test.YtkdhdibjbabgfaaGreatDoorVt0
set_option maxRecDepth 10000
set_option maxHeartbeats 1000000
set_option linter.unusedVariables false
set_option linter.unusedSimpArgs false
section
namespace Go.Proofs.YtkdhdibjbabgfaaGreatDoor
open Go.RowKit Go.ChangeShapes Go.WideShapes Go.Deep
theorem swapRange_any (F : Value) (x y m lo hi base g n cap : Nat) (d0 : List Nat) (w0 w : World) (S0 : SD w0 base g n cap d0 w) (h1 : lo ≤ x) (h2 : x + m ≤ y) (h3 : y + m ≤ hi) (h4 : hi ≤ n) (hn : n ≤ 100000) :
 Calls Tryz.prog 149 #[.slice (some ⟨g, 0, none⟩) n cap, .int .i64 x, .int .i64 y, .int .i64 m, F] w fun e w' => e = .returned (.tuple #[]) ∧ ∃ d1, SD w0 base g n cap d1 w' ∧ SwR d0 d1 x y m ∧ Mv lo hi d0 d1 := by
 have hl0 := lh S0.len
 replace S0 := lh S0
 go_enter Tryz.func149, Tryz.ntmps149
 go_wp2_with fail
 go_loopw [10] (fun i wr => ∃ (k : Nat) (d : List Nat), k ≤ m ∧ i = .int .i64 k ∧ Hid (SD w0 base g n cap d wr) ∧ Hid (SwR d0 d x y k) ∧ Hid (Mv lo hi d0 d)) (fun i _ => m + 1 - (intOf i).toNat)
 case atStart => exact ⟨0, d0, Nat.zero_le _, rfl, S0, SwR.zero _ _ _, Mv.refl _ _ _⟩
 case round =>
  obtain ⟨k, d, hk, rfl, S1, R1, M1⟩ := hrel
  by_cases hlt : k < m
  ·have hltz : (k : Int) < (m : Int) := by omega
   obtain ⟨i, hi'⟩ : ∃ i, x + k = i := ⟨_, rfl⟩
   obtain ⟨j, hj'⟩ : ∃ j, y + k = j := ⟨_, rfl⟩
   have hin : i < n := by omega
   have hjn : j < n := by omega
   have hl1 := lh S1.out.len
   have R2 := lh (R1.out.step (by omega) (by rw [hl0.out]; omega))
   rw [hi', hj'] at R2
   have M2 := lh (M1.out.trans (Mv.swap (d := d) (i := i) (j := j) (by omega) (by omega) (by omega) (by omega) (by rw [hl1.out]; omega)))
   have e1 : (x : Int) + (k : Int) = (i : Int) := by omega
   have e2 : (y : Int) + (k : Int) = (j : Int) := by omega
   have e3 : IntKind.i64.wrap (i : Int) = (i : Int) := by rw [IntKind.wrap_i64]; omega
   have e4 : IntKind.i64.wrap (j : Int) = (j : Int) := by rw [IntKind.wrap_i64]; omega
   have b1 : (i : Int) < (n : Int) := by omega
   have b2 : (j : Int) < (n : Int) := by omega
   obtain ⟨a, ha⟩ : ∃ a, d.getD i 0 = a := ⟨_, rfl⟩
   obtain ⟨c, hc⟩ : ∃ c, d.getD j 0 = c := ⟨_, rfl⟩
   have hS := lh (S1.out.swap i j a c hin hjn ha hc)
   obtain ⟨c0, f0⟩ := S1.out.cell i hin
   obtain ⟨c1, f1⟩ := S1.out.cell j hjn
   rw [ha] at c0
   rw [hc] at c1
   obtain ⟨u9, c9⟩ := S1.out.other i j c hin hjn
   clear ha hc hi' hj' S1 R1 M1
   go_wp2_with fail
   go_big_region
   (try simp only [Exit.inBlock, Exit.then])
   go_wp2_with fail
   go_roundw
   case rel => exact ⟨k + 1, _, by omega, by go_num, hS, R2, M2⟩
   case measure => first | (simp [intOf]; done) | (simp [intOf]; omega)
  ·obtain rfl : k = m := by omega
   go_wp2_with fail
   go_end0
   exact ⟨rfl, d, S1.out, R1.out, M1.out⟩
theorem rotate_any (F : Value) (a m b base g n cap : Nat) (d0 : List Nat) (w0 w : World) (S0 : SD w0 base g n cap d0 w) (h1 : a < m) (h2 : m < b) (h4 : b ≤ n) (hn : n ≤ 100000) :
 Calls Tryz.prog 147 #[.slice (some ⟨g, 0, none⟩) n cap, .int .i64 a, .int .i64 m, .int .i64 b, F] w fun e w' => e = .returned (.tuple #[]) ∧ ∃ d1, SD w0 base g n cap d1 w' ∧ (∀ k, d1.getD k 0 = rotF d0 a m b k) ∧ Mv a b d0 d1 := by
 replace S0 := lh S0
 have e1 : (m : Int) - (a : Int) = ((m - a : Nat) : Int) := by omega
 have e2 : (b : Int) - (m : Int) = ((b - m : Nat) : Int) := by omega
 go_enter Tryz.func147, Tryz.ntmps147
 go_wp2_with fail
 try rw [e1, e2]
 clear e1 e2
 go_loopw [10, 11] (fun u v wr => ∃ (i j : Nat) (d : List Nat), 0 < i ∧ 0 < j ∧ i ≤ m - a ∧ j ≤ b - m ∧ u = .int .i64 i ∧ v = .int .i64 j ∧ Hid (SD w0 base g n cap d wr) ∧ Hid (∀ k, rotF d (m - i) m (m + j) k = rotF d0 a m b k) ∧ Hid (Mv a b d0 d)) (fun u v _ => (intOf u).toNat + (intOf v).toNat)
 case atStart => exact ⟨m - a, b - m, d0, by omega, by omega, Nat.le_refl _, Nat.le_refl _, rfl, rfl, S0, (show ∀ k, _ from by rw [show m - (m - a) = a by omega, show m + (b - m) = b by omega]; exact fun _ => rfl), Mv.refl _ _ _⟩
 case round =>
  obtain ⟨i, j, d, hi0, hj0, hia, hjb, rfl, rfl, S1, R1, M1⟩ := hrel
  have e3 : (m : Int) - (i : Int) = ((m - i : Nat) : Int) := by omega
  have e4 : (m : Int) + (j : Int) - (i : Int) = ((m + j - i : Nat) : Int) := by omega
  rcases Nat.lt_trichotomy i j with q | q | q
  ·have q1 : ((i : Int) != (j : Int)) = true := by rw [bne_iff_ne]; omega
   have q2 : ¬ (i : Int) = (j : Int) := by omega
   have q3 : ¬ ((i : Int) > (j : Int)) := by omega
   have q4 : (j : Int) - (i : Int) = ((j - i : Nat) : Int) := by omega
   have hS := lh (fun (w : World) (S1 : SD w0 base g n cap d w) F => swapRange_any F (m - i) (m + j - i) i a b base g n cap d w0 w S1 (by omega) (by omega) (by omega) h4 hn)
   replace q4 := lh q4
   replace e4 := lh e4
   replace e3 := lh e3
   go_wp2_with fail
   rw [e4.out, e3.out]
   refine (hS.out _ S1.out _).mono ?_
   rintro e w1 ⟨rfl, d1, S2, W2, M2⟩
   have R2 := lh (fun k => (show rotF d1 (m - i) m (m + (j - i)) k = rotF d0 a m b k from by
    have := rot_right (d := d) (e := d1) (lo := m - i) (m := m) (hi := m + j) (by rw [show m - (m - i) = i by omega]; exact W2) (by omega) (by omega) k
    rw [show m + j - (m - (m - i)) = m + (j - i) by omega] at this
    rw [this]; exact R1.out k))
   have M3 := lh (M1.out.trans M2)
   replace S2 := lh S2
   go_wp2_with fail
   rw [q4.out]
   go_roundw
   case rel => exact ⟨i, j - i, d1, by omega, by omega, hia, by omega, rfl, rfl, S2, R2, M3⟩
   case measure => first | (simp [intOf]; done) | (simp [intOf]; omega)
  ·subst q
   have q1 : ((i : Int) != (i : Int)) = false := by rw [bne_eq_false_iff_eq]
   have hS := lh (fun (w : World) (S1 : SD w0 base g n cap d w) F => swapRange_any F (m - i) m i a b base g n cap d w0 w S1 (by omega) (by omega) (by omega) h4 hn)
   replace e3 := lh e3
   go_wp2_with fail
   rw [e3.out]
   refine (hS.out _ S1.out _).mono ?_
   rintro e w1 ⟨rfl, d1, S2, W2, M2⟩
   have R2 := lh (fun k => (show d1.getD k 0 = rotF d0 a m b k from by
    rw [← R1.out k]
    exact rot_even (d := d) (e := d1) (lo := m - i) (m := m) (hi := m + i) (by rw [show m - (m - i) = i by omega]; exact W2) (by omega) (by omega) (by omega) k))
   have M3 := lh (M1.out.trans M2)
   go_wp2_with fail
   go_end0
   exact ⟨rfl, d1, S2, R2.out, M3.out⟩
  ·have q1 : ((i : Int) != (j : Int)) = true := by rw [bne_iff_ne]; omega
   have q2 : ¬ (i : Int) = (j : Int) := by omega
   have q3 : ((i : Int) > (j : Int)) := by omega
   have q4 : (i : Int) - (j : Int) = ((i - j : Nat) : Int) := by omega
   have hS := lh (fun (w : World) (S1 : SD w0 base g n cap d w) F => swapRange_any F (m - i) m j a b base g n cap d w0 w S1 (by omega) (by omega) (by omega) h4 hn)
   replace q4 := lh q4
   replace e4 := lh e4
   replace e3 := lh e3
   go_wp2_with fail
   rw [e3.out]
   refine (hS.out _ S1.out _).mono ?_
   rintro e w1 ⟨rfl, d1, S2, W2, M2⟩
   have R2 := lh (fun k => (show rotF d1 (m - (i - j)) m (m + j) k = rotF d0 a m b k from by
    have := rot_left (d := d) (e := d1) (lo := m - i) (m := m) (hi := m + j) (by rw [show m + j - m = j by omega]; exact W2) (by omega) (by omega) k
    rw [show m - i + (m + j - m) = m - (i - j) by omega] at this
    rw [this]; exact R1.out k))
   have M3 := lh (M1.out.trans M2)
   replace S2 := lh S2
   go_wp2_with fail
   rw [q4.out]
   go_roundw
   case rel => exact ⟨i - j, j, d1, by omega, by omega, by omega, hjb, rfl, rfl, S2, R2, M3⟩
   case measure => first | (simp [intOf]; done) | (simp [intOf]; omega)
end Go.Proofs.YtkdhdibjbabgfaaGreatDoor
end
section
namespace Go.Proofs.YtkdhdibjbabgfaaGreatDoor
open Go.RowKit Go.ChangeShapes
theorem laid_tail {P : Program} {x : String × DataW Unit} {r : List (String × DataW Unit)} {w : World} (h : laidMet P (x :: r) w) : laidMet P r w := by
 obtain ⟨ps, hv, hnd, hrows⟩ := h
 obtain ⟨n, d⟩ := x
 obtain ⟨g, t, cs, fuel, p, q, _, _, _, _, hq, rfl⟩ := hv
 exact ⟨q, hq, List.Nodup.sublist (List.sublist_append_right _ _) hnd, fun b off hm => hrows b off (List.mem_append_right _ hm)⟩
theorem pair_of_head {P : Program} {W : World} {name : String} {x y : Int} {rest : List (String × DataW Unit)} {g : Nat} {t : TypeId} {f0 f1 : Field}
 (hg : P.globalNamed name = some g) (hty : (P.globals[g]?).map (·.type) = some t) (hs : P.underlying t = some (.struct #[f0, f1])) (o0 : f0.offset = 0) (o1 : f1.offset = 1)
 (e0 : P.underlying f0.type = some (.int .i64)) (e1 : P.underlying f1.type = some (.int .i64)) (c0 : P.cellsOf f0.type = 1) (c1 : P.cellsOf f1.type = 1)
 (h : laidMet P ((name, .agg [.lit (.int .i64 x), .lit (.int .i64 y)]) :: rest) W) : CC W g x y := by
 obtain ⟨ps, ⟨g', t', cs, fuel, p, q, hg', ht', hvar, hd, _, _⟩, _⟩ := h
 obtain rfl := Option.some.inj (hg.symm.trans hg')
 obtain rfl := Option.some.inj (hty.symm.trans ht')
 obtain ⟨y0, y1, n, hx, hl, h0, h1⟩ := trod_struct2 hs hd
 rw [o0, c0] at h0
 rw [o1, c1] at h1
 obtain ⟨n0, hc0, hy0, _⟩ := DataW.trod_int e0 h0
 obtain ⟨n1, hc1, hy1, _⟩ := DataW.trod_int e1 h1
 rw [hy0, hy1] at hx
 simp only [Prod.mk.injEq, DataW.agg.injEq, List.cons.injEq, DataW.lit.injEq, Lit.int.injEq, true_and, and_true] at hx
 obtain ⟨⟨rfl, rfl⟩, _⟩ := hx
 have a0 : cs[0]? = some (.int .i64 x) := by
  have := congrArg (·[0]?) hc0
  simpa [List.getElem?_take, List.getElem?_drop] using this
 have a1 : cs[1]? = some (.int .i64 y) := by
  have := congrArg (·[0]?) hc1
  simpa [List.getElem?_take, List.getElem?_drop] using this
 exact ⟨(World.var?_cell hg hvar 0).trans a0, (World.var?_cell hg hvar 1).trans a1⟩
theorem post_of_below {H : Type} {enc : TypeId × Value → H} {P : Program} {f : Func} {s : ChangeSpec} {apart fresh handsOn again : Bool} {W W' : World} {args : Array Value} {v : Value} {ds gs : List (DataW H)} {before pa pv : List MemPlace}
 (hW : DataW.Whole enc P f.params.toList s.vars apart W args.toList ds gs before)
 (hres : ∀ (b : Nat) (sp : Nat → Bool) (hd : Bool), DataW.TrodAll enc P W' b sp hd f.resultTypes.toList (v.resultList f.resultTypes.size) (s.fn H (ds ++ gs)).results [])
 (hargs : ∀ sp : Nat → Bool, (∀ p ∈ before, sp p.block = true) → DataW.TrodAll enc P W' 0 sp true f.params.toList args.toList (s.fn H (ds ++ gs)).args pa)
 (hvars : ∀ sp : Nat → Bool, (∀ p ∈ before, sp p.block = true) → DataW.TrodVars enc P W' sp s.vars (s.fn H (ds ++ gs)).vars pv)
 (hps : before = pa ++ pv) (hb : Below W.heap.size W W')
 (hok : ∀ (j : Nat) (t : TypeId) (r : Value), f.resultTypes[j]? = some t → (v.resultList f.resultTypes.size)[j]? = some r → Value.okWide P W' .any 0 t r) :
 s.post enc P f apart fresh handsOn again W args v W' := by
 have hold : ∀ p ∈ before, (fun b => decide (b < W.heap.size)) p.block = true := fun p hp => by simpa using hW.lt p hp
 refine ⟨ds, gs, before, [], pa, pv, hW, hres _ _ _, hargs _ hold, hvars _ hold, World.keptBut_mono (fun p hp => ⟨hp, ?_⟩) (hb.frame _), fun _ => ?_⟩
 ·rw [hps, List.mem_append] at hp
  exact Or.inr hp
 ·have hlt := hW.lt
  obtain ⟨_, _, _, _, _, hz, hn⟩ := hW
  refine ⟨hok, _, _, ([] ++ pa) ++ pv, ⟨[] ++ pa, pv, trodAll_append (hargs _ (fun _ _ => rfl)) (hres _ _ _), hvars _ (fun _ _ => rfl), rfl, ?_, ?_⟩, ?_⟩
  ·intro b off hp
   have hp' : MemPlace.cell b off ∈ before := by rw [hps]; simpa using hp
   rw [hb.frozen (p := ⟨b, off, none⟩) (hlt _ hp')]
   exact hz b off hp'
  ·intro ha
   have := hn ha
   rw [hps] at this
   simpa using this
  ·intro p hp _
   rw [hps]
   simpa using hp
theorem post_of_below_any {H : Type} {enc : TypeId × Value → H} {P : Program} {f : Func} {s : ChangeSpec} {apart fresh handsOn again : Bool} {W W' : World} {args : Array Value} {v : Value} {ds gs : List (DataW H)} {before pa pv : List MemPlace}
 (hW : DataW.Whole enc P f.params.toList s.vars apart W args.toList ds gs before)
 (hres : ∀ (b : Nat) (sp : Nat → Bool) (hd : Bool), DataW.TrodAll enc P W' b sp hd f.resultTypes.toList (v.resultList f.resultTypes.size) (s.fn H (ds ++ gs)).results [])
 (hargs : ∀ sp : Nat → Bool, (∀ p ∈ before, sp p.block = true) → DataW.TrodAll enc P W' 0 sp true f.params.toList args.toList (s.fn H (ds ++ gs)).args pa)
 (hvars : ∀ sp : Nat → Bool, (∀ p ∈ before, sp p.block = true) → DataW.TrodVars enc P W' sp s.vars (s.fn H (ds ++ gs)).vars pv)
 (hps : before = pa ++ pv) (hb : Below W.heap.size W W')
 (hok : ∀ (j : Nat) (t : TypeId) (r : Value), f.resultTypes[j]? = some t → (v.resultList f.resultTypes.size)[j]? = some r → Value.okWide P W' .any 0 t r) :
 s.post enc P f apart fresh handsOn again W args v W' :=
 post_of_below hW hres hargs hvars hps hb hok
end Go.Proofs.YtkdhdibjbabgfaaGreatDoor
end
