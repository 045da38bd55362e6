/-
  Part of the proof of SoundTells,SoundGiven.
-/
import Derived.Test.YtdmmbnnejbmdpaaGreatDoorVu938
import Derived.Test.YtdmmbnnejbmdpaaGreatDoorVu90
set_option maxRecDepth 10000
set_option maxHeartbeats 500000
set_option linter.unusedVariables false
set_option linter.unusedSimpArgs false
section
namespace Go.Proofs.YtdmmbnnejbmdpaaGreatDoor
open Go.Lib Go.RowKit Go.ChangeShapes Go.WideShapes Go.Deep Go.Shelf
abbrev Oj := (Nat × Nat × Nat) × List Nat
abbrev Jx := Nat × Nat × Nat × Value
def eJ (x : Jx) : List Value := [.int .i64 (x.1 : Nat), .int .i64 (x.2.1 : Nat), .int .u64 (x.2.2.1 : Nat), slV x.2.2.2]
theorem eJ_len (x : Jx) : (eJ x).length = 4 := rfl
theorem infoJ : (Tryz.prog.info? 64).map (fun i => (i.zero, i.size, i.bytes)) = some (some (.agg #[.int .i64 0, .int .i64 0, .int .u64 0, .slice none 0 0]), 4, 48) := by kernel_rfl
instance : Inhabited Jx := ⟨(0, 0, 0, .slice none 0 0)⟩
theorem own_ne {α : Type} {e : TypeId} {sz : Nat} {en : α → List Value} {w : World} {b1 b2 : Nat} {u v : Value} {l : List Nat} {xs : List α} (h : OwnU w b1 u l) (k : OwnE e sz en w b2 v xs) (ht : e ≠ 33) : u.ownBlock = none ∨ u.ownBlock ≠ v.ownBlock := by
 rcases h.2 with ⟨rfl, _⟩ | ⟨g, cap, cur, rfl, _, hg, _⟩
 ·exact .inl rfl
 ·right
  intro q
  rcases k.2 with ⟨rfl, _⟩ | ⟨g2, cap2, cur2, rfl, _, hg2, _⟩
  ·cases q
  ·cases q
   rw [hg] at hg2
   cases hg2
   exact ht rfl
def JL (w : World) (base : Nat) (xs : List Jx) (l : List Oj) : Prop := xs.length = l.length ∧ ∀ k, k < l.length → ((xs.getD k default).1, (xs.getD k default).2.1, (xs.getD k default).2.2.1) = (l.getD k default).1 ∧ OwnU w base (xs.getD k default).2.2.2 (l.getD k default).2
theorem JL.keep {w w1 : World} {base : Nat} {xs : List Jx} {l : List Oj} (h : JL w base xs l) (hb : Below w.heap.size w w1) : JL w1 base xs l := ⟨h.1, fun k hk => ⟨(h.2 k hk).1, (h.2 k hk).2.keep hb⟩⟩
theorem JL.mono {w : World} {base b2 : Nat} {xs : List Jx} {l : List Oj} (h : JL w base xs l) (hb : b2 ≤ base) : JL w b2 xs l := ⟨h.1, fun k hk => ⟨(h.2 k hk).1, (h.2 k hk).2.mono hb⟩⟩
theorem JL.nil (w : World) (base : Nat) : JL w base [] [] := ⟨rfl, fun k h => by cases h⟩
theorem getD_app_lt {α : Type} {d : α} {l m : List α} {k : Nat} (h : k < l.length) : (l ++ m).getD k d = l.getD k d := by
 rw [List.getD_eq_getElem?_getD, List.getElem?_append_left h, List.getD_eq_getElem?_getD]
theorem getD_app_eq {α : Type} {d x : α} {l : List α} {k : Nat} (h : k = l.length) : (l ++ [x]).getD k d = x := by
 subst h
 rw [List.getD_eq_getElem?_getD, List.getElem?_append_right (Nat.le_refl _), Nat.sub_self]
 rfl
theorem JL.snoc {w : World} {base : Nat} {xs : List Jx} {l : List Oj} {x : Jx} {y : Oj} (h : JL w base xs l) (h1 : (x.1, x.2.1, x.2.2.1) = y.1) (h2 : OwnU w base x.2.2.2 y.2) : JL w base (xs ++ [x]) (l ++ [y]) := by
 refine ⟨by rw [List.length_append, List.length_append, h.1]; rfl, fun k hk => ?_⟩
 rw [List.length_append] at hk
 by_cases e : k < l.length
 ·rw [getD_app_lt e, getD_app_lt (by rw [h.1]; exact e)]
  exact h.2 k e
 ·have e2 : k = l.length := by simp at hk; omega
  rw [getD_app_eq e2, getD_app_eq (by rw [h.1]; exact e2)]
  exact ⟨h1, h2⟩
def OJO (w : World) (base : Nat) (v : Value) (l : List Oj) : Prop := ∃ xs, OwnE 64 4 eJ w base v xs ∧ JL w base xs l
theorem OJO.keep {w w1 : World} {base : Nat} {v : Value} {l : List Oj} (h : OJO w base v l) (hb : Below w.heap.size w w1) : OJO w1 base v l := by
 obtain ⟨xs, h1, h2⟩ := h
 exact ⟨xs, h1.keep hb, h2.keep hb⟩
theorem OJO.nil (w : World) (base : Nat) : OJO w base (.slice none 0 0) [] := ⟨[], World.ownsRow_nil _ _ _ _, JL.nil w base⟩
theorem OJO.mono {w : World} {base b2 : Nat} {v : Value} {l : List Oj} (h : OJO w base v l) (hb : b2 ≤ base) : OJO w b2 v l := by
 obtain ⟨xs, h1, h2⟩ := h
 exact ⟨xs, h1.mono hb, h2.mono hb⟩
theorem slV_one9 (v : Value) : (slV v).oneCell' = true := by unfold slV; split <;> rfl
theorem jT : ElT Tryz.prog 39 64 4 48 eJ :=
 ⟨Tryz.underlying39, by obtain ⟨i0, h1, h2, h3, h4⟩ := info_parts infoJ; exact ⟨i0, _, h1, h2, h3, h4, rfl⟩, eJ_len, fun x u hu => by simp only [eJ, List.mem_cons, List.not_mem_nil, or_false] at hu; rcases hu with rfl | rfl | rfl | rfl <;> first | rfl | exact slV_one9 _, by decide, by decide⟩
theorem jRun {v : Value} {w : World} {base : Nat} {l : List Oj} (h : OJO w base v l) (hb : base ≤ w.heap.size) (hlen : l.length ≤ 1000000) (p t n9 : Nat) (v8 : Value) (d : List Nat) (hd : OwnU w base v8 d) :
 ∃ v' w', (Builtin.append_ #[39, 39] 39 #[v, .slice (some ⟨w.heap.size, 0, none⟩) 1 1]).run Tryz.prog (w.alloc (.cells #[.int .i64 (p : Nat), .int .i64 (t : Nat), .int .u64 (n9 : Nat), v8] (64 : Nat))) = .ok v' w' ∧ OJO w' base v' (l ++ [((p, t, n9), d)]) ∧ Below base w w' := by
 obtain ⟨xs, h1, h2⟩ := h
 have hsv : slV v8 = v8 := hd.kl.slV
 have hlit : EL 4 eJ (w.alloc (.cells #[.int .i64 (p : Nat), .int .i64 (t : Nat), .int .u64 (n9 : Nat), v8] (64 : Nat))) (.slice (some ⟨w.heap.size, 0, none⟩) 1 1) [((p, t, n9, v8) : Jx)] := (OwnE.lit 64 eJ_len w [((p, t, n9, v8) : Jx)] _ (by simp [eJ, hsv]) (by simp)).el eJ_len
 obtain ⟨v', w1, hrun, ho, hg, hl2, hnn⟩ := appE jT (h1.alloc _) hlit (by simp; omega) (by have := h2.1; omega) (by simp)
 have e1 := bZ w (.cells #[.int .i64 (p : Nat), .int .i64 (t : Nat), .int .u64 (n9 : Nat), v8] (64 : Nat))
 have hk : ∀ {u : Value} {m : List Nat}, OwnU w base u m → OwnU w1 base u m := fun {u m} hu => World.ownsRow.kept (hu.keep e1) hg (own_ne (hu.keep e1) (h1.alloc _) (by decide))
 refine ⟨v', w1, hrun, ⟨_, ho, ?_⟩, (e1.mono hb).trans (grown_below hg (by simp; omega) (fun k q => (h1.lt k q).1))⟩
 refine JL.snoc ⟨h2.1, fun k hk2 => ⟨(h2.2 k hk2).1, hk (h2.2 k hk2).2⟩⟩ rfl (hk hd)
end Go.Proofs.YtdmmbnnejbmdpaaGreatDoor
end
section
namespace Go.Proofs.YtdmmbnnejbmdpaaGreatDoor
open Go.Lib Go.RowKit Go.ChangeShapes Go.WideShapes Go.Deep Go.Shelf
theorem OJO.formJ {w : World} {base : Nat} {v : Value} {l : List Oj} {n : Nat} (h : OJO w base v l) (hn : l.length = n) : ∃ A cap, v = .slice A n cap ∧
 ∀ w1 i, Below w.heap.size w w1 → i < n → ∃ g off d, A = some ⟨g, off, none⟩ ∧ n ≤ cap ∧ g < w.heap.size ∧ g < w1.heap.size ∧ w1.cell? ⟨g, off + i * 4, none⟩ = some (.int .i64 ((l.getD i default).1.1 : Nat)) ∧ w1.cell? ⟨g, off + i * 4 + 1, none⟩ = some (.int .i64 ((l.getD i default).1.2.1 : Nat)) ∧ w1.cell? ⟨g, off + i * 4 + 2, none⟩ = some (.int .u64 ((l.getD i default).1.2.2 : Nat)) ∧ w1.cell? ⟨g, off + i * 4 + 3, none⟩ = some d ∧ KL .u64 w1 d (l.getD i default).2 := by
 obtain ⟨xs, h1, h2, h3⟩ := h
 obtain ⟨A, cap, hv, h⟩ := EL.form (h1.el eJ_len) (h2.trans hn)
 refine ⟨A, cap, hv, fun w1 i hb hi => ?_⟩
 obtain ⟨g, off, hA, k1, k2, k3, hc⟩ := h w1 i hb hi
 obtain ⟨q1, q2⟩ := h3 i (by rw [hn]; exact hi)
 have c0 := hc 0 (by omega)
 have c1 := hc 1 (by omega)
 have c2 := hc 2 (by omega)
 have c3 := hc 3 (by omega)
 have q3 := (q2.keep hb).kl
 rw [← q1]
 refine ⟨g, off, slV (xs.getD i default).2.2.2, hA, k1, k2, k3, c0, c1, c2, c3, ?_⟩
 rw [q3.slV]
 exact q3
theorem Same_any (v1 v2 : Value) (l : List Oj) (b1 b2 : Nat) (w : World) (h1 : OJO w b1 v1 l) (h2 : OJO w b2 v2 l) (hl : l.length ≤ 1000) (hd : ∀ x, x ∈ l → x.2.length ≤ 1000000) :
 Calls Tryz.prog 15 #[v1, v2] w fun e w' => e = .returned (.bool true) ∧ Below w.heap.size w w' := by
 obtain ⟨n, hn⟩ : ∃ n, l.length = n := ⟨_, rfl⟩
 rw [hn] at hl
 obtain ⟨A1, c1, rfl, hF1⟩ := h1.formJ hn
 obtain ⟨A2, c2, rfl, hF2⟩ := h2.formJ hn
 replace hF1 := lh hF1
 replace hF2 := lh hF2
 replace hn := lh hn
 replace hd := lh hd
 clear h1 h2
 go_enter Tryz.func15, Tryz.ntmps15
 go_wp2_with fail
 go_loopw [5] (fun i wr => ∃ (j : Nat), j ≤ n ∧ i = .int .i64 (j : Nat) ∧ Below w.heap.size w wr) (fun i _ => n + 1 - (intOf i).toNat)
 case atStart => exact ⟨0, Nat.zero_le _, rfl, Below.refl _ _⟩
 case round =>
  obtain ⟨j, hj, rfl, hBr⟩ := hrel
  by_cases hlt : j < n
  ·have hlt' : (j : Int) < (n : Int) := by omega
   have hm : l.getD j default ∈ l := by rw [List.getD_eq_getElem?_getD, List.getElem?_eq_getElem (by rw [hn.out]; exact hlt)]; exact List.getElem_mem _
   obtain ⟨g1, o1, d1, rfl, hc1, -, hg1, x0, x1, x2, x3, hk1⟩ := hF1.out wr j hBr hlt
   obtain ⟨g2, o2, d2, rfl, hc2, -, hg2, y0, y1, y2, y3, hk2⟩ := hF2.out wr j hBr hlt
   have hdl := hd.out _ hm
   generalize l.getD j default = x at x0 x1 x2 y0 y1 y2 hk1 hk2 hdl
   obtain ⟨⟨p, t, sn⟩, da⟩ := x
   simp only [] at x0 x1 x2 y0 y1 y2 hk1 hk2 hdl
   have hCF := lh (fun w' (hb : Below wr.heap.size wr w') => show (w'.cell? ⟨g1, o1 + j * 4, none⟩ = some (.int .i64 (p : Nat)) ∧ w'.cell? ⟨g1, o1 + j * 4 + 1, none⟩ = some (.int .i64 (t : Nat)) ∧ w'.cell? ⟨g1, o1 + j * 4 + 2, none⟩ = some (.int .u64 (sn : Nat)) ∧ w'.cell? ⟨g1, o1 + j * 4 + 3, none⟩ = some d1) ∧ (w'.cell? ⟨g2, o2 + j * 4, none⟩ = some (.int .i64 (p : Nat)) ∧ w'.cell? ⟨g2, o2 + j * 4 + 1, none⟩ = some (.int .i64 (t : Nat)) ∧ w'.cell? ⟨g2, o2 + j * 4 + 2, none⟩ = some (.int .u64 (sn : Nat)) ∧ w'.cell? ⟨g2, o2 + j * 4 + 3, none⟩ = some d2) from
    ⟨⟨by rw [(bcell hb).1 _ _ hg1]; exact x0, by rw [(bcell hb).1 _ _ hg1]; exact x1, by rw [(bcell hb).1 _ _ hg1]; exact x2, by rw [(bcell hb).1 _ _ hg1]; exact x3⟩, by rw [(bcell hb).1 _ _ hg2]; exact y0, by rw [(bcell hb).1 _ _ hg2]; exact y1, by rw [(bcell hb).1 _ _ hg2]; exact y2, by rw [(bcell hb).1 _ _ hg2]; exact y3⟩)
   have hWd := lh (fun w1 (hb : Below wr.heap.size wr w1) => show Calls Tryz.prog 44 #[d1, d2] w1 (fun e w' => e = .returned (.bool true) ∧ Below w1.heap.size w1 w') from by
    have q := words_any d1 d2 da da w1 hdl (hk1.keep hb) (hk2.keep hb)
    rw [decide_eq_true rfl] at q
    exact q)
   clear x0 x1 x2 x3 y0 y1 y2 y3 hk1 hk2 hdl hm hF1 hF2
   go_wp2_with fail
   refine wp_region_held_drew (S := (fun w' => Below wr.heap.size wr w')) (by kernel_rfl) (Below.refl _ _).drew (fun hHeld => ?_)
   refine takeH 0 ?_
   refine takeH 1 ?_
   refine takeH 2 ?_
   refine takeH 3 ?_
   refine takeH 4 ?_
   refine takeH 5 ?_
   refine takeH 6 ?_
   refine takeH 7 ?_
   refine takeH 8 ?_
   refine takeH 9 ?_
   refine takeH 10 ?_
   refine takeH 11 ?_
   refine takeH 12 ?_
   refine takeH 13 ?_
   refine takeH 14 ?_
   refine takeH 15 ?_
   refine takeH 16 ?_
   refine takeH 17 ?_
   refine takeH 18 ?_
   refine takeH 19 ?_
   refine takeH 20 ?_
   refine takeH 21 ?_
   refine oneL 22 rfl (by kernel_rfl) (fun K hK => ?_)
   go_simp
   refine (hWd.out _ hHeld).mono ?_; rintro e w6 ⟨rfl, hb⟩
   refine hK.out _ _ (hHeld.trans (hb.mono hHeld.size)) (fun hHeld2 => ?_)
   clear hK K hHeld
   have hHeld := hHeld2
   clear hHeld2
   try simp only [Act.put,sA,sB,sC]
   refine takeH 23 ?_
   refine takeH 24 ?_
   refine wpAnyH_done (by kernel_rfl) ?_ _
   have hBz := hBr.trans (hHeld.mono hBr.size)
   clear hCF hHeld hWd
   go_wp2_with fail
   go_roundw
   case rel => exact ⟨j + 1, by omega, by go_num, hBz⟩
   case measure => first | (simp [intOf]; done) | (simp [intOf]; omega)
  ·obtain rfl : n = j := by omega
   have hlt' : ¬ (n : Int) < (n : Int) := by omega
   go_wp2_with fail
   go_ret
   exact ⟨rfl, hBr⟩
end Go.Proofs.YtdmmbnnejbmdpaaGreatDoor
end
