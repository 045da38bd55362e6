/-
  Part of the proof of SoundTells,SoundGiven.
-/
import Derived.Test.YtdmmbnnejbmdpaaGreatDoorVu926
import Derived.Test.YtdmmbnnejbmdpaaGreatDoorVu93
import Derived.Test.YtdmmbnnejbmdpaaGreatDoorVu90
set_option maxRecDepth 100000
set_option maxHeartbeats 1000000
set_option linter.unusedVariables false
set_option linter.unusedSimpArgs false
section
namespace Go.Proofs.YtdmmbnnejbmdpaaGreatDoor
open Go.RowKit Go.ChangeShapes Go.WideShapes Go.Deep Go.Shelf
attribute [local go_sem] Oper.semAt_some
theorem eB_new (w : World) (y : Bl) (t : TypeId) : BKL (w.alloc (.cells #[.int .i64 (y.1 : Nat), .int .i64 (y.2.1 : Nat), .int .i64 (y.2.2 : Nat)] t)) (.slice (some ⟨w.heap.size, 0, none⟩) 1 1) [y] := by
 refine ⟨_, _, rfl, fun _ => ⟨w.heap.size, 0, rfl, by simp, by simp, fun i hi j hj => ?_⟩⟩
 have hi0 : i = 0 := by simp at hi; omega
 subst hi0
 have h5 : j = 0 ∨ j = 1 ∨ j = 2 := by omega
 rcases h5 with rfl | rfl | rfl <;> simp [go_sem, eB]
theorem blocks_in (n : Nat) (A : Option Addr) (N cap : Nat) (w : World) :
 CallsIn Fence.wide n Tryz.prog 108 #[.slice A N cap] w fun e w' => e = .returned (.func (.func 126) #[] #[.pointer (some ⟨w.heap.size, 0, none⟩)]) ∧ w.alloc (.cells #[.slice A N cap] 117) = w' := by
 refine callsIn_wide.2 ?_
 go_enter Tryz.func108, Tryz.ntmps108
 go_wp2
 go_ret
 exact ⟨rfl, rfl⟩
theorem blocks_stops (n : Nat) (hn : 1 ≤ n) (Bo Bv n₀ : Nat) (v : Value) (t : List Nat) (hok : t.all okN = true) (hlen : t.length ≤ 100000)
 (w : World) (hBo : Bo < w.heap.size) (hOl : OwnLt w Bo) (hBv : w.cell? ⟨Bv, 0, none⟩ = some v) (hBv2 : Bv < w.heap.size) (hn₀ : n₀ ≤ w.heap.size)
 (hC : ∀ w1, Below n₀ w w1 → CKL w1 v t) (hLw : ∀ w1, Below n₀ w w1 → Lw w1) :
 SeqStopsK Fence.wide n Tryz.prog 126 #[.pointer (some ⟨Bv, 0, none⟩)] (fun y : Bl => #[.agg #[.int .i64 (y.1 : Nat), .int .i64 (y.2.1 : Nat), .int .i64 (y.2.2 : Nat)]]) (Kp n₀ Bo) (fun ys => ys = blksFrom 0 t) (fun pre => pre <+: blksFrom 0 t) (blksFrom 0 t).length w := fun l J Jx W hb hJ _ hY h0 =>
 blocks1_in n hn l Bo Bv n₀ v t hok hlen J Jx (abides_below_ti hJ) hY W (Nat.lt_of_lt_of_le hBo hb.size) (fun b q => Nat.lt_of_lt_of_le (hOl b ((ownAt_keep hb hBo).1 q)) hb.size) ((hb.cell (p := ⟨Bv, 0, none⟩) hBv2).trans hBv) (Nat.le_trans hn₀ hb.size) (fun w1 hb1 => hC w1 ((hb.mono hn₀).trans hb1)) (fun w1 hb1 => hLw w1 ((hb.mono hn₀).trans hb1)) h0
theorem ChunksP.some {w w1 : World} {t : List Nat} {e : Ending} (h : ChunksP w t e w1) : ∃ v1 b t1, e = .returned (.tuple #[v1, .bool b]) ∧ CKL w1 v1 t1 ∧ t1.all okN = true ∧ blksT t = blksFrom 0 t1 ∧ t1.length ≤ t.length ∧ (t.all okN = true → t1 = t) ∧ (t.all okN = false → t1 = []) := by
 rcases h with ⟨hok, v', rfl, ho⟩ | ⟨hok, rfl⟩
 ·exact ⟨v', true, t, rfl, ho.el eC_len, hok, by unfold blksT; rw [if_pos hok], Nat.le_refl _, fun _ => rfl, (fun h => by rw [hok] at h; cases h)⟩
 ·exact ⟨_, false, [], rfl, EL.nil _ _ _ _ _, rfl, by unfold blksT; rw [if_neg (by rw [hok]; simp)]; rfl, by simp, (fun h => by rw [hok] at h; cases h), fun _ => rfl⟩
theorem blocksT_in (n : Nat) (hn : 3 ≤ n) (v : Value) (t : List Nat) (w : World) (hw : Lw w) (hv : KL .u64 w v t) (hW : WL t) (hl : t.length ≤ 10000) :
 CallsIn Fence.wide n Tryz.prog 85 #[v] w fun e W' => ∃ v', e = .returned v' ∧ BKO W' w.heap.size v' (blksT t) ∧ Below w.heap.size w W' := by
 have hn1 : 1 ≤ n := by omega
 have hCh := chunks_any v t w hw hv hW (by omega)
 obtain ⟨R, hR⟩ : ∃ R, blksT t = R := ⟨_, rfl⟩
 rw [hR]
 refine callsIn_of_wp_marks Tryz.func85 rfl trivial ?_ rfl
 simp only [Tryz.ntmps85, List.size_toArray, List.length_cons, List.length_nil, Nat.reduceAdd, Nat.reduceSub, Array.replicate_succ, Array.replicate_zero, List.push_toArray, List.append_toArray, List.nil_append, List.cons_append]
 gi_wp2
 refine ⟨trivial, (callsIn_wide.2 hCh).mono ?_⟩
 rintro e w1 ⟨hP, hb1⟩
 obtain ⟨v1, bb, t1, rfl, hk1, hok1, hbt, hl1, _, _⟩ := hP.some
 obtain ⟨m1, hm1⟩ : ∃ m1, t1.length = m1 := ⟨_, rfl⟩
 obtain ⟨A1, c1, rfl, _⟩ := CKL.form hk1 hm1
 have hRt : R = blksFrom 0 t1 := by rw [← hR, hbt]
 replace hRt := lh hRt
 clear hCh hP hbt hv hW hR
 have hw1 := hw.keep hb1
 have hbs1 := hb1.size
 gi_wp2
 refine ⟨trivial, (blocks_in (n - 1) A1 m1 c1 _).mono ?_⟩
 rintro e w' ⟨rfl, rfl⟩
 gi_wp2
 have bO := (Boxed.new w1 53 (.slice none 0 0)).alloc (.cells #[(.slice A1 m1 c1)] 117)
 have bV := Boxed.new (w1.alloc (.cells #[.slice none 0 0] 53)) 117 (.slice A1 m1 c1)
 have hB0 : Below w1.heap.size w1 ((w1.alloc (.cells #[.slice none 0 0] 53)).alloc (.cells #[(.slice A1 m1 c1)] 117)) := (bZ w1 _).alloc (by simp) _
 have hsz : ((w1.alloc (.cells #[.slice none 0 0] 53)).alloc (.cells #[(.slice A1 m1 c1)] 117)).heap.size = w1.heap.size + 2 := by simp
 simp only [World.size_alloc] at bO bV
 obtain ⟨W0, hW0⟩ : ∃ W0, (w1.alloc (.cells #[.slice none 0 0] 53)).alloc (.cells #[(.slice A1 m1 c1)] 117) = W0 := ⟨_, rfl⟩
 rw [hW0] at bO bV hB0 hsz ⊢
 clear hW0
 have hml := blksFrom_len 0 t1
 refine wpIn_rangeFunc_ownH rfl hn1 (gf := 126) (lb := #[.pointer (some ⟨w1.heap.size + 1, 0, none⟩)]) rfl trivial (enters_of Tryz.func126 (by kernel_rfl) rfl)
  (blocks_stops (n - 1) (by omega) w1.heap.size (w1.heap.size + 1) w1.heap.size (.slice A1 m1 c1) t1 hok1 (by omega) W0 (by omega) (ownLt_of bO (by simp [Value.ownBlock])) bV.cell (by omega) (by omega) (fun w2 hb2 => hk1.keep (hB0.trans hb2)) (fun w2 hb2 => hw1.keep (hB0.trans hb2)))
  kp_t (kp_b (by omega) (by omega)) (Below.refl _ _) (fun _ => rfl)
  (fun pre W => (∃ v, Boxed W w1.heap.size 53 v ∧ W.ownsRow w1.heap.size 61 3 v (pre : List Bl).length (pre.flatMap eB) ∧ True) ∧ Below w1.heap.size w1 W)
  (fun _ _ _ => False)
  (OwnFrom.and (Own.from (holdsRow_own w1.heap.size w1.heap.size 53 61 3 (fun pre : List Bl => pre.length) (fun pre => pre.flatMap eB) (fun pre v => True)) _) (ownFrom_below (Nat.le_refl _) (by omega)))
  (fun _ _ _ _ _ hs _ _ => hs)
  ⟨⟨_, bO, World.ownsRow_nil _ _ _ _, trivial⟩, hB0⟩
  (fun y a' W => ∃ Bx, w1.heap.size < Bx ∧ W.heap[Bx]? = some (.cells #[.int .i64 (y.1 : Nat), .int .i64 (y.2.1 : Nat), .int .i64 (y.2.2 : Nat)] 61 (0, 0)) ∧ a' = { tmps := #[v, undef, .slice none 0 0, (.slice A1 m1 c1), .bool bb, .pointer (some ⟨w1.heap.size, 0, none⟩), .pointer (some ⟨Bx, 0, none⟩), .tuple #[(.slice A1 m1 c1), .bool bb], v, .tuple #[(.slice A1 m1 c1), .bool bb], (.slice A1 m1 c1), .bool bb, (.slice A1 m1 c1), .func (.func 126) #[] #[.pointer (some ⟨w1.heap.size + 1, 0, none⟩)], .agg #[.int .i64 (y.1 : Nat), .int .i64 (y.2.1 : Nat), .int .i64 (y.2.2 : Nat)], undef, undef, undef, undef, undef], defers := [] })
  (fun y a' _ X Y row hs hg hr => by
    obtain ⟨Bx, h1, h2, h3⟩ := hs
    refine ⟨Bx, h1, (hg.block Bx (Array.getElem?_eq_some_iff.1 h2).1 (fun e => ?_)).trans h2, h3⟩
    obtain ⟨_, o, ho, hc⟩ := hr Bx e.symm
    rw [h2] at ho
    cases ho; simp [Obj.isCells] at hc)
  ?assign ?body ?done ?stop
 case assign =>
  rintro l pre y W K ⟨⟨v, hv, hrow, _⟩, hB⟩ hK
  gi_wp2
  exact hK _ _ ((KeepsOthers.alloc _ _).from _) (kp_of (bZ _ _) hB.size hv.lt) ⟨⟨v, hv.alloc _, hrow.alloc _, trivial⟩, hB.alloc hB.size _⟩ ⟨W.heap.size, hv.lt, World.alloc_heap_new W _, rfl⟩
 case body =>
  rintro l pre y a' W hl hr ⟨⟨v, hv, hrow, _⟩, hB⟩ ⟨Bx, hBx, bX, rfl⟩ hlt
  have hc := hv.cell
  have x0 := (row_cell bX 0).1
  have x1 := (row_cell bX 1).1
  have x2 := (row_cell bX 2).1
  simp only [List.getElem?_toArray, List.getElem?_cons_succ, List.getElem?_cons_zero] at x0 x1 x2
  have hpl : pre.length ≤ 1000000 := by omega
  have hbs := hB.size
  have hne := hv.not_row (e := 61) (by decide) hrow
  have hown : BKO W w1.heap.size v pre := hrow
  obtain ⟨v', w9, hrun, ho, hg, hl2, _⟩ := appE bT (hown.alloc (.cells #[.int .i64 (y.1 : Nat), .int .i64 (y.2.1 : Nat), .int .i64 (y.2.2 : Nat)] (61 : Nat))) (eB_new W y (61 : Nat)) (by simp; omega) hpl (by simp)
  obtain ⟨g', cap', rfl, _⟩ := ho.form (by simp)
  have ho' : w9.ownsRow w1.heap.size 61 3 (.slice (some ⟨g', 0, none⟩) (pre ++ [y]).length cap') (pre ++ [y]).length ((pre ++ [y]).flatMap eB) := ho
  obtain ⟨hv1, hv2, hr2, hk2, hb2⟩ := hv.appended (by decide) hrow hB.size (by omega) ho' hg
  have hkp := kp_body (n₀ := w1.heap.size) hv (by omega) (fun g q => (hrow.lt g q).1) hg hl2 hne (fun g q => (ho.lt g q).2)
  have hlen1 : (pre ++ [y]).length = pre.length + 1 := by simp
  rw [hlen1] at hrun hv2 hk2 hb2 hkp hr2
  have hc1 := hv1.cell
  have hf1 := hv1.frozen
  replace hlen1 := lh hlen1
  clear hg ho ho' hown
  gi_wp2_with (gi_at_builtin; refine wpListIn_append_run rfl _ _ 53 rfl _ _ _ rfl rfl hrun ?_)
  exact ⟨hk2.from _, hkp, ⟨_, hv2, by rw [hlen1.out]; exact hr2, trivial⟩, hB.trans hb2⟩
 case done =>
  rintro D ys W hD rfl ⟨⟨v, hv, hrow, _⟩, hB⟩ hK
  have hc := hv.cell
  gi_wp2
  refine ⟨by simp, .inl ⟨_, _, rfl, run_takeDeferred hK, ?_⟩⟩
  refine ⟨_, results_tmp rfl _ _ _, v, rfl, ?_, ?_⟩
  ·rw [hRt.out]
   exact OwnE.mono (ownsRow_putObj hrow _ hK rfl) hbs1
  ·exact hb1.trans ((hB.trans (belowK_b (w := w1) (Nat.le_refl _) W D _ _ (by omega) hK rfl rfl)).mono hbs1)
 case stop =>
  rintro D c pre W _ _ h _
  exact h.elim
theorem blocksT_any (v : Value) (t : List Nat) (w : World) (hw : Lw w) (hv : KL .u64 w v t) (hW : WL t) (hl : t.length ≤ 10000) :
 Calls Tryz.prog 85 #[v] w fun e W' => ∃ v', e = .returned v' ∧ BKO W' w.heap.size v' (blksT t) ∧ Below w.heap.size w W' :=
 callsIn_wide.1 (blocksT_in 3 (by omega) v t w hw hv hW hl)
end Go.Proofs.YtdmmbnnejbmdpaaGreatDoor
end
section
namespace Go.Proofs.YtdmmbnnejbmdpaaGreatDoor
open Go.RowKit Go.ChangeShapes Go.WideShapes Go.Deep
theorem OwnU.keepG {w w1 : World} {base g : Nat} {v : Value} {l : List Nat} (h : OwnU w base v l) (hb : Below g w w1) (hg : ∀ b, v.ownBlock = some b → b < g) : OwnU w1 base v l := by
 refine ⟨h.1, ?_⟩
 rcases h.2 with h2 | ⟨g', cap, cur, hv, hbg, hgc, h1, h2, h3, h4⟩
 ·exact .inl h2
 ·exact .inr ⟨g', cap, cur, hv, hbg, by rw [hb.block g' (hg g' (by rw [hv]; rfl))]; exact hgc, h1, h2, h3, h4⟩
theorem OwnU.lt {w : World} {base : Nat} {v : Value} {l : List Nat} (h : OwnU w base v l) : ∀ k, v.ownBlock = some k → base ≤ k ∧ k < w.heap.size := World.ownsRow.lt h
theorem OwnU.sl {w : World} {base : Nat} {v : Value} {l : List Nat} {m : Nat} (h : OwnU w base v l) (hm : l.length = m) : ∃ A c, v = .slice A m c := by
 rcases h.2 with ⟨h1, h2⟩ | ⟨g', cap', cur, h1, _⟩
 ·exact ⟨none, 0, by rw [h1, ← hm, h2]⟩
 ·exact ⟨_, _, by rw [h1, hm]⟩
theorem C5.grown {w w1 : World} {g : Nat} {k c l m b : Int} {row : Option Nat} (h : C5 w g k c l m b) (hg : w.grownBy w1 row) (hr : row ≠ some g) : C5 w1 g k c l m b := by
 have hc : ∀ o, w1.cell? ⟨g, o, none⟩ = w.cell? ⟨g, o, none⟩ := fun o => World.cell?_of_block (hg.block g h.lt (fun e => hr e.symm))
 obtain ⟨h0, h1, h2, h3, h4⟩ := h
 exact ⟨by rw [hc]; exact h0, by rw [hc]; exact h1, by rw [hc]; exact h2, by rw [hc]; exact h3, by rw [hc]; exact h4⟩
theorem appU1 {w : World} {base y : Nat} {v : Value} {l : List Nat} (h : OwnU w base v l) (hb : base ≤ w.heap.size) (hl : l.length ≤ 100000) (t : TypeId) :
 ∃ v' w', (Builtin.append_ #[25, 25] 25 #[v, .slice (some ⟨w.heap.size, 0, none⟩) 1 1]).run Tryz.prog (w.alloc (.cells #[.int .u64 (y : Nat)] t)) = .ok v' w' ∧ OwnU w' base v' (l ++ [y]) ∧ Below base w w' ∧ (w.alloc (.cells #[.int .u64 (y : Nat)] t)).grownBy w' v.ownBlock ∧ (v'.ownBlock = v.ownBlock ∨ v'.ownBlock = some (w.heap.size + 1)) := by
 have hA : Below w.heap.size w (w.alloc (.cells #[.int .u64 (y : Nat)] t)) := bZ _ _
 obtain ⟨v', w', h1, h2, h3, h4⟩ := appU (y := y) (h.keep hA) (cell_new1 w (.int .u64 (y : Nat)) t) (by simp; omega) (by omega)
 refine ⟨v', w', h1, ?_, (hA.mono hb).trans (grown_below h3 (by simp; omega) (fun k hk => (h.lt k hk).1)), h3, by simpa using h4⟩
 unfold OwnU
 rw [List.length_append, List.map_append]
 exact h2
theorem okN_word {k c l m b : Int} (h : rightB_ti k c l m b = true) (b0 : 0 ≤ b) : ∃ x : Nat, wordI k c l m b = (x : Int) ∧ okN x = true ∧ ((kN x : Nat) : Int) = k ∧ ((mN x : Nat) : Int) = m := by
 obtain ⟨k0, k1, c0, c1, l0, l1, m0, m1, b1⟩ := right_bd h b0
 obtain ⟨g0, g1, g2, g3, g4, x0, x1⟩ := word_parts k c l m b k0 k1 c0 c1 l0 l1 m0 m1 b0 b1
 obtain ⟨x, hx⟩ := Int.eq_ofNat_of_zero_le x0
 refine ⟨x, hx, ?_, ?_, ?_⟩
 ·rw [← okN_dec, ← hx]
  unfold decB_ti
  rw [g0, g1, g2, g3, g4, h]
  simpa using x1
 ·rw [← (gN_ti x).1, ← hx, g0]
 ·rw [← (gN_ti x).2.2.2.1, ← hx, g3]
end Go.Proofs.YtdmmbnnejbmdpaaGreatDoor
end
