/-
  Part of the proof of MendWhole.
-/
import Derived.Test.YtkdhdibjbabgfaaGreatDoorVw11
import Derived.Test.YtkdhdibjbabgfaaGreatDoorVw29
import Derived.Scope
import Derived.Test.YtkdhdibjbabgfaaGreatDoorVw0
set_option maxRecDepth 100000
set_option maxHeartbeats 1000000
set_option linter.unusedVariables false
set_option linter.unusedSimpArgs false
section
namespace Go.Proofs.YtkdhdibjbabgfaaGreatDoor
open Go.RowKit
theorem ret_ii {a b c d : Int} (h : a = b) (h' : c = d) : Ending.returned (.tuple #[.int .i64 a, .int .i64 c]) = .returned (.tuple #[.int .i64 b, .int .i64 d]) := by rw [h, h']
theorem ret_g {a b c d : Int} (h : a = b) (h' : c = d) : Ending.returned (.agg #[.int .i64 a, .int .i64 c]) = .returned (.agg #[.int .i64 b, .int .i64 d]) := by rw [h, h']
theorem field1 (x y : Int) (w : World) : (Instr.field 51 (.agg #[.int .i64 x, .int .i64 y]) 1).run Tryz.prog w = .ok (.int .i64 y) w := by kernel_rfl
theorem chunks_t (W L : Int) (w : World) (h : gOk W L = true) :
 Calls Tryz.prog 109 #[.agg #[.int .i64 W, .int .i64 L]] w fun e w' => e = .returned (.int .i64 (gN W L)) ∧ Below w.heap.size w w' := by
 have H := lh h
 clear h
 have hfd := field1
 go_enter Tryz.func109, Tryz.ntmps109
 go_wp2_with fail
 refine (table_t W L _ H.out).mono ?_
 rintro e w1 ⟨rfl, hb⟩
 go_wp2_with fail
 go_ret
 exact ⟨rfl, (bZ _ _).trans (hb.mono (by simp))⟩
def cFrom (W L i : Int) : Int := 10 + 73 * L + gN W L + i * 32
end Go.Proofs.YtkdhdibjbabgfaaGreatDoor
end
section
namespace Go.Proofs.YtkdhdibjbabgfaaGreatDoor
open Go.RowKit Go.ChangeShapes Go.WideShapes Go.Deep Go.Shelf
attribute [local go_sem] Oper.semAt_some
theorem EL.walk {α : Type} [Inhabited α] {sz : Nat} {en : α → List Value} (hen : ∀ x, (en x).length = sz) {w w1 : World} {v : Value} {l : List α} {row : Option Nat} (h : EL sz en w v l) (hg : w.grownBy w1 row) (hr : ∀ r, row = some r → ∃ o : Obj, w.heap[r]? = some o ∧ o.isCells = false) : EL sz en w1 v l := by
 obtain ⟨A, cap, hv, h⟩ := h
 refine ⟨A, cap, hv, fun hl => ?_⟩
 obtain ⟨g, off, rfl, hg1, hc, hi⟩ := h hl
 refine ⟨g, off, rfl, Nat.lt_of_lt_of_le hg1 hg.size, hc, fun i hil j hj => ?_⟩
 have q := hi i hil j hj
 rw [List.getElem?_eq_getElem (by rw [hen]; exact hj)] at q ⊢
 exact cell_kept q hg hr
theorem EN.walk {w w1 : World} {v : Value} {l : List Pe} {row : Option Nat} (h : EN w v l) (hg : w.grownBy w1 row) (hr : ∀ r, row = some r → ∃ o : Obj, w.heap[r]? = some o ∧ o.isCells = false) : EN w1 v l := by
 obtain ⟨xs, h1, h2, h3⟩ := h
 exact ⟨xs, h1.walk eS_len hg hr, fun x hx => (h2 x hx).walk hg hr, h3⟩
theorem evs_len (gn : Nat) : ∀ (f : Nat) (ws : List Nat), (evsF gn f ws).length ≤ ws.length
 | _, [] => by unfold evsF; simp
 | 0, _ :: _ => by unfold evsF; simp
 | f + 1, w :: ws => by
   unfold evsF
   split
   ·have := evs_len gn f ((w :: ws).drop (manyN (w :: ws) + 2))
    rw [List.length_drop, List.length_cons] at this
    rw [List.length_cons, List.length_cons]
    omega
   ·simp
theorem Decode_in (n : Nat) (hn : 3 ≤ n) (gn : Nat) (A : Option Addr) (N cap : Nat) (ws : List Nat) (w : World) (hgn : gn < 18446744073709551616) (hW : WL ws) (hlen : ws.length ≤ 800) (hN : ws.length = N) (hv : KL .u64 w (.slice A N cap) ws) :
 CallsIn Fence.wide n Tryz.prog 99 #[.int .u64 (gn : Nat), .slice A N cap] w fun e W' => ∃ v, e = .returned (.tuple #[v, .bool (decL gn ws).isSome]) ∧ EN W' v ((decL gn ws).getD []) ∧ Below w.heap.size w W' := by
 have hn1 : 1 ≤ n := by omega
 have hnE : (evs gn ws).length ≤ 1000 := Nat.le_trans (evs_len gn _ ws) (by omega)
 refine callsIn_of_wp_marks Tryz.func99 rfl trivial ?_ rfl
 simp only [Tryz.ntmps99, List.size_toArray, List.length_cons, List.length_nil, Nat.reduceAdd, Nat.reduceSub, Array.replicate_succ, Array.replicate_zero, List.push_toArray, List.append_toArray, List.nil_append, List.cons_append]
 gi_wp2
 refine wpIn_wide.2 (wp_scope_straight ((wpIn_wide (n := n)).1 ?_))
 gi_wp2
 refine wpIn_label ?_
 gi_wp2
 refine ⟨trivial, (entries_in (n - 1) gn A N cap _).mono ?_⟩
 rintro e w' ⟨rfl, rfl⟩
 gi_wp2
 have bO := (((Boxed.new w 60 (.slice none 0 0)).alloc (.cells #[.bool true] 4)).alloc (.cells #[.int .u64 (gn : Nat)] 25)).alloc (.cells #[.slice A N cap] 23)
 have bA := ((Boxed.new (w.alloc (.cells #[.slice none 0 0] 60)) 4 (.bool true)).alloc (.cells #[.int .u64 (gn : Nat)] 25)).alloc (.cells #[.slice A N cap] 23)
 have bG := (Boxed.new ((w.alloc (.cells #[.slice none 0 0] 60)).alloc (.cells #[.bool true] 4)) 25 (.int .u64 (gn : Nat))).alloc (.cells #[.slice A N cap] 23)
 have bW := Boxed.new (((w.alloc (.cells #[.slice none 0 0] 60)).alloc (.cells #[.bool true] 4)).alloc (.cells #[.int .u64 (gn : Nat)] 25)) 23 (.slice A N cap)
 have hB0 : Below w.heap.size w ((((w.alloc (.cells #[.slice none 0 0] 60)).alloc (.cells #[.bool true] 4)).alloc (.cells #[.int .u64 (gn : Nat)] 25)).alloc (.cells #[.slice A N cap] 23)) := (((bZ w _).alloc (by simp) _).alloc (by simp; omega) _).alloc (by simp; omega) _
 have hsz : ((((w.alloc (.cells #[.slice none 0 0] 60)).alloc (.cells #[.bool true] 4)).alloc (.cells #[.int .u64 (gn : Nat)] 25)).alloc (.cells #[.slice A N cap] 23)).heap.size = w.heap.size + 4 := by simp
 simp only [World.size_alloc] at bO bA bG bW
 obtain ⟨W0, hW0⟩ : ∃ W0, ((((w.alloc (.cells #[.slice none 0 0] 60)).alloc (.cells #[.bool true] 4)).alloc (.cells #[.int .u64 (gn : Nat)] 25)).alloc (.cells #[.slice A N cap] 23)) = W0 := ⟨_, rfl⟩
 rw [hW0] at bO bA bG bW hB0 hsz ⊢
 clear hW0
 refine wpIn_rangeFunc_told rfl hn1 (gf := 137) (lb := #[.pointer (some ⟨w.heap.size + 1 + 1 + 1, 0, none⟩), .pointer (some ⟨w.heap.size + 1 + 1, 0, none⟩)]) rfl trivial (enters_of Tryz.func137 (by kernel_rfl) rfl)
  (ents_told (n - 1) (by omega) w.heap.size (w.heap.size + 1 + 1) (w.heap.size + 1 + 1 + 1) w.heap.size gn (.slice A N cap) ws hW hlen hgn W0 (by omega) (ownLt_of bO (by simp [Value.ownBlock])) bG (by omega) (fun q => by have := (ownAt_iff bO).1 q; simp [Value.ownBlock] at this) bW.cell (by omega) (by omega) (fun w1 hb => hv.keep (hB0.trans hb)))
  kp_t (kp_b (by omega) (by omega)) (Below.refl _ _) (fun _ => rfl)
  (fun pre W => (DI w.heap.size w.heap.size pre W ∧ Boxed W (w.heap.size + 1) 4 (.bool true)) ∧ Below w.heap.size w W)
  (fun c pre W => (c = .exit 0 ∧ (∃ y ∈ pre, y.2 = false) ∧ Boxed W w.heap.size 60 (.slice none 0 0) ∧ Boxed W (w.heap.size + 1) 4 (.bool false)) ∧ Below w.heap.size w W)
  (OwnFrom.and (OwnFrom.and (Own.from (DI.own _ _) _) (Own.from (boxed_own (w.heap.size + 1) 4 (fun (_ : List Ev) => Value.bool true)) _)) (ownFrom_below (Nat.le_refl _) (by omega)))
  (fun c => OwnFrom.and (Own.from (fun s A B row hs hg hr => ⟨hs.1, hs.2.1, bx_walk hs.2.2.1 hg hr, bx_walk hs.2.2.2 hg hr⟩) _) (ownFrom_below (Nat.le_refl _) (by omega)))
  ⟨⟨⟨_, bO, OwnE.nil _ _ _ _ _, fun y hy => by simp at hy⟩, bA⟩, hB0⟩
  (fun y a' W => ∃ Bx, Bk W Bx (.int .i64 y.1.1) y.1.2.1 ∧ DA w.heap.size y W ∧ a' = { tmps := #[.int .u64 (gn : Nat), .slice A N cap, undef, undef, .slice none 0 0, .bool false, .pointer (some ⟨w.heap.size, 0, none⟩), .pointer (some ⟨w.heap.size + 1, 0, none⟩), .pointer (some ⟨Bx, 0, none⟩), .bool y.2, .int .u64 (gn : Nat), .slice A N cap, .func (.func 137) #[] #[.pointer (some ⟨w.heap.size + 1 + 1 + 1, 0, none⟩), .pointer (some ⟨w.heap.size + 1 + 1, 0, none⟩)], .agg #[.int .i64 y.1.1, y.1.2.1], .bool y.2, undef, undef, undef, undef, undef, undef, undef, undef], defers := [] })
  (fun y a' _ X Y row hs hg hr => by
    obtain ⟨Bx, h2, h4, h3⟩ := hs
    refine ⟨Bx, (hg.block Bx h2.lt (fun e => ?_)).trans h2, h4.walk hg (fun r e => (hr r e).2), h3⟩
    obtain ⟨_, o, ho, hc⟩ := hr Bx e.symm
    rw [show X.heap[Bx]? = _ from h2] at ho
    cases ho; simp [Obj.isCells] at hc)
  ?assign ?body ?done ?stop
 case assign =>
  rintro l pre y W K ⟨⟨hI, hA⟩, hB⟩ hT hK
  have hDA := DA.of hI hT
  have hbo : w.heap.size < W.heap.size := by obtain ⟨v, hv, _⟩ := hI; exact hv.lt
  have hIa : DI w.heap.size w.heap.size pre (W.alloc (.cells #[.int .i64 y.1.1, y.1.2.1] 64)) := DI.own _ _ _ _ _ none hI (World.grownBy_alloc W _ none) (fun r e => by cases e)
  have hDAa : DA w.heap.size y (W.alloc (.cells #[.int .i64 y.1.1, y.1.2.1] 64)) := hDA.walk (World.grownBy_alloc W _ none) (fun r e => by cases e)
  have hbx := Bk.new W (.int .i64 y.1.1) y.1.2.1
  have hBa := hB.alloc hB.size (.cells #[.int .i64 y.1.1, y.1.2.1] 64)
  have hAa := hA.alloc (.cells #[.int .i64 y.1.1, y.1.2.1] 64)
  obtain ⟨⟨ya, yv, yl⟩, yo⟩ := y
  obtain ⟨⟨A5, m5, c5, hyv⟩, hT2⟩ := hT
  simp only [] at hyv
  subst hyv
  dsimp only at *
  gi_wp2
  exact hK _ _ ((KeepsOthers.alloc _ _).from _) (kp_new hB.size hbo) ⟨⟨hIa, hAa⟩, hBa⟩ ⟨W.heap.size, hbx, hDAa, rfl⟩
 case body =>
  rintro l pre y a' W ⟨⟨hI, hA⟩, hB⟩ ⟨Bx, bX, hDA, rfl⟩ hlt
  obtain ⟨⟨ya, yv, yl⟩, yo⟩ := y
  obtain ⟨x0, x1⟩ := bX.c2
  dsimp only at *
  have hBs := hB.size
  cases yo with
  | true =>
    obtain ⟨A5, m5, c5, rfl⟩ : ∃ A m c, yv = .slice A m c := by
     obtain ⟨v, _, h⟩ := hDA
     obtain ⟨A, c, h, _⟩ := (h rfl).2.1
     exact ⟨A, _, c, h⟩
    obtain ⟨v, g', cap', w1, hv, hrun, hv1, hv2, hk2, hb2, hkp, hDI, hoth⟩ := hI.add hDA (Nat.le_refl _) hB.size (by omega)
    have hc := hv.cell
    have hc1 := hv1.cell
    have hf1 := hv1.frozen
    have hA2 := hoth hA (by omega) (by decide)
    clear hI hDA hoth
    gi_wp2_with (gi_at_builtin; refine wpListIn_append_run rfl _ _ 60 rfl _ _ _ rfl rfl hrun ?_)
    exact ⟨hk2.from _, hkp, ⟨hDI, hA2⟩, hB.trans hb2⟩
  | false =>
    obtain ⟨v, hv, _⟩ := hI
    have hc := hv.cell
    have hf := hv.frozen
    have hcA := hA.cell
    have hfA := hA.frozen
    have h1 := hv.set (.slice none 0 0)
    have h2 := h1.other (B' := w.heap.size + 1) (by omega) (.bool false)
    have h3 := (hA.other (B' := w.heap.size) (by omega) (.slice none 0 0)).set (.bool false)
    clear hDA
    gi_wp2
    exact ⟨((KeepsOthers.setCell _ _ _).trans (KeepsOthers.setCell _ _ _)).from _, ⟨rfl, ⟨_, List.mem_append_right _ (List.mem_singleton.2 rfl), rfl⟩, h2, h3⟩, (hB.setCell (p := ⟨w.heap.size, 0, none⟩) (by simp) _).setCell (p := ⟨w.heap.size + 1, 0, none⟩) (by simp) _⟩
 case done =>
  rintro D ys W hD hys ⟨⟨hI, hA⟩, hB⟩ hK
  have hall : ∀ y ∈ ys, y.2 = true := by
   obtain ⟨v, _, _, h⟩ := hI
   exact fun y hy => (h y hy).1
  have hd := lh (decL_t hys hall)
  obtain ⟨v, hv, hEN⟩ := en_of hI
  have hc := hv.cell
  have hcA := hA.cell
  clear hI hall hys
  gi_wp2
  refine wpIn_wide.2 ?_
  go_region
  all_goals gi_wp2
  rw [Exit.noGoto_ret]
  gi_wp2
  refine ⟨by simp, .inl ⟨_, _, rfl, run_takeDeferred (w := W.drew) hK, ?_⟩⟩
  refine ⟨.tuple #[v, .bool true], by simp [results, Tryz.f99, go_sem], ⟨v, ?_, ?_, hB.drew.trans (belowK_b (w := w) (Nat.le_refl _) W.drew D _ _ (by omega) hK rfl rfl)⟩⟩
  ·rw [hd.out]; rfl
  ·rw [hd.out]; exact EN.walk (w := W.drew) hEN (grownBy_putObj' _ D _) (fun r e => by cases e; exact ⟨_, hK, rfl⟩)
 case stop =>
  rintro D c pre W hD hpre ⟨⟨rfl, hex, hv, hA⟩, hB⟩ hK
  have hd := lh (decL_f hpre hex)
  have hc := hv.cell
  have hcA := hA.cell
  clear hpre hex
  gi_wp2
  refine wpIn_wide.2 ?_
  go_region
  all_goals gi_wp2
  rw [Exit.noGoto_ret]
  gi_wp2
  refine ⟨by simp, .inl ⟨_, _, rfl, run_takeDeferred (w := W.drew) hK, ?_⟩⟩
  refine ⟨.tuple #[.slice none 0 0, .bool false], by simp [results, Tryz.f99, go_sem], ⟨.slice none 0 0, ?_, ?_, hB.drew.trans (belowK_b (w := w) (Nat.le_refl _) W.drew D _ _ (by omega) hK rfl rfl)⟩⟩
  ·rw [hd.out]; rfl
  ·rw [hd.out]; exact EN.nil _
theorem Decode_any (gn : Nat) (v : Value) (ws : List Nat) (w : World) (hgn : gn < 18446744073709551616) (hW : WL ws) (hlen : ws.length ≤ 800) (hv : KL .u64 w v ws) :
 Calls Tryz.prog 99 #[.int .u64 (gn : Nat), v] w fun e w' => ∃ v', e = .returned (.tuple #[v', .bool (decL gn ws).isSome]) ∧ EN w' v' ((decL gn ws).getD []) ∧ Below w.heap.size w w' := by
 obtain ⟨A, cap, rfl, _⟩ := hv.form rfl
 exact callsIn_wide.1 (Decode_in 3 (by omega) gn A ws.length cap ws w hgn hW hlen rfl hv)
end Go.Proofs.YtkdhdibjbabgfaaGreatDoor
end
