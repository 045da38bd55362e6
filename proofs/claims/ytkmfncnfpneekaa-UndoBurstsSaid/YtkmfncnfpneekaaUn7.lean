/-
  Package undo: Back.
-/
import Derived.Test.YtkmfncnfpneekaaUn6
set_option linter.unusedVariables false
set_option linter.unusedSimpArgs false
namespace Go.Proofs.Ytkmfncnfpneekaa
open Go.RowKit Go.ChangeShapes Go.WideShapes Go.Deep Go.Shelf
attribute [local go_sem] Oper.semAt_some

/-- an image with one word set, where it has it -/
def setI (I : List Nat) (a : Int) (o : Nat) : List Nat := if 0 ≤ a then I.set a.toNat o else I
/-- an image with old words put back at a place -/
def putB (I : List Nat) (a : Int) : List Nat → List Nat
  | [] => I
  | o :: os => putB (setI I a o) (a + 1) os
/-- an image taken back: the last entry first -/
def backL (I : List Nat) (l : List Pe) : List Nat := l.foldr (fun x I => putB I x.1 x.2) I
theorem setI_len (I : List Nat) (a : Int) (o : Nat) : (setI I a o).length = I.length := by unfold setI; split <;> simp
theorem putB_len : ∀ (os I : List Nat) (a : Int), (putB I a os).length = I.length
  | [], I, a => rfl
  | o :: os, I, a => by unfold putB; rw [putB_len os, setI_len]
theorem putB_snoc : ∀ (os I : List Nat) (a : Int) (o : Nat), putB I a (os ++ [o]) = setI (putB I a os) (a + (os.length : Int)) o
  | [], I, a, o => by simp [putB]
  | x :: os, I, a, o => by
    rw [List.cons_append]
    unfold putB
    rw [putB_snoc os, List.length_cons]
    congr 1
    omega
theorem putB_take (I os : List Nat) (a : Int) (k : Nat) (h : k < os.length) : putB I a (os.take (k + 1)) = setI (putB I a (os.take k)) (a + (k : Int)) (os.getD k 0) := by
  rw [List.take_succ_eq_append_getElem h, putB_snoc, List.length_take, Nat.min_eq_left (by omega), List.getD_eq_getElem?_getD, List.getElem?_eq_getElem h]
  rfl
theorem backL_len (I : List Nat) : ∀ (l : List Pe), (backL I l).length = I.length
  | [] => rfl
  | x :: l => by
    show (putB (backL I l) x.1 x.2).length = _
    rw [putB_len, backL_len I l]
/-- what Backward tells -/
abbrev Bv := Int × Ex
def bk (L : List Ex) (k : Nat) : List Bv := ((List.range' k (L.length - k)).map fun i : Nat => ((i : Int), L.getD i default)).reverse
theorem bk_nil (L : List Ex) : bk L L.length = [] := by unfold bk; simp
theorem bk_succ (L : List Ex) (k : Nat) (h : k < L.length) : bk L k = bk L (k + 1) ++ [((k : Int), L.getD k default)] := by
  unfold bk
  rw [show L.length - k = (L.length - (k + 1)) + 1 from by omega, List.range'_succ, List.map_cons, List.reverse_cons]
theorem bk_pre (L : List Ex) : ∀ k, k ≤ L.length → bk L k <+: bk L 0
  | 0, _ => List.prefix_refl _
  | k + 1, h => List.IsPrefix.trans (l₂ := bk L k) ⟨_, (bk_succ L k (by omega)).symm⟩ (bk_pre L k (by omega))
theorem bk_len (L : List Ex) (k : Nat) : (bk L k).length = L.length - k := by unfold bk; simp
theorem bk_snd (L : List Ex) (k : Nat) : (bk L k).map Prod.snd = (L.drop k).reverse := by
  unfold bk
  rw [List.map_reverse, List.map_map]
  congr 1
  apply List.ext_getElem
  · simp
  · intro i h1 h2
    simp only [List.length_map, List.length_range'] at h1
    simp only [List.getElem_map, List.getElem_range', Function.comp, List.getElem_drop, Nat.one_mul]
    rw [List.getD_eq_getElem?_getD, List.getElem?_eq_getElem (by omega)]
    rfl
structure Mb {α : Type} (n₀ Bo Bs : Nat) (t : TypeId) (u : Value) (W : World) (J : List α → World → Prop) (pre : List α) (w : World) : Prop where
  B : Below n₀ W w
  j : J pre w
  J : ∀ W1 W2, J pre W1 → Below W1.heap.size W1 W2 → J pre W2
  n : n₀ ≤ W.heap.size
  o : Bo < w.heap.size
  lt : OwnLt w Bo
  s : Boxed w Bs t u
  ne : Bs ≠ Bo
  no : ¬ OwnAt w Bo Bs
theorem Mb.keep {α : Type} {n₀ Bo Bs : Nat} {t : TypeId} {u : Value} {W w w1 : World} {J : List α → World → Prop} {pre : List α} (h : Mb n₀ Bo Bs t u W J pre w) (hb : Below w.heap.size w w1) : Mb n₀ Bo Bs t u W J pre w1 :=
  ⟨h.B.trans (hb.mono (Nat.le_trans h.n h.B.size)), h.J _ _ h.j hb, h.J, h.n, Nat.lt_of_lt_of_le h.o hb.size, fun b q => Nat.lt_of_lt_of_le (h.lt b ((ownAt_keep hb h.o).1 q)) hb.size, bx_keep h.s hb, h.ne, fun q => h.no ((ownAt_keep hb h.o).1 q)⟩
theorem Mb.kp {α : Type} {n₀ Bo Bs : Nat} {t : TypeId} {u : Value} {W w w1 : World} {J : List α → World → Prop} {pre pre' : List α} (h : Mb n₀ Bo Bs t u W J pre w) (hk : Kp n₀ Bo w w1) (hj : J pre' w1) (hJ : ∀ W1 W2, J pre' W1 → Below W1.heap.size W1 W2 → J pre' W2) : Mb n₀ Bo Bs t u W J pre' w1 :=
  ⟨h.B.trans hk.1, hj, hJ, h.n, Nat.lt_of_lt_of_le h.o hk.1.size, hk.2.2.2 h.lt, bx_kp h.s hk h.ne h.no, h.ne, fun q => h.no (hk.2.2.1 Bs h.s.lt q)⟩
theorem abides_below2 {α : Type} {J : List α → World → Prop} {B : Nat} (h : AbidesFrom B J) : ∀ pre W1 W2, J pre W1 → Below W1.heap.size W1 W2 → J pre W2 := fun pre W1 W2 hj hb =>
  h pre W1 W2 none hj ⟨hb.os, hb.tape, hb.output, hb.size, fun k hk _ => hb.block k hk⟩ (fun r e => by cases e)

set_option maxRecDepth 10000 in
set_option maxHeartbeats 1000000 in
theorem bwd1_in (n : Nat) (hn : 1 ≤ n) (l Bo Bl n₀ N cap : Nat) (A : Option Addr) (L : List Ex) (hlen : L.length = N) (hsl : ∀ x ∈ L, ∃ A n c, x.2.1 = .slice A n c) (hN : N ≤ 1000) (J Jx : List Bv → World → Prop)
    (hJ : ∀ pre W1 W2, J pre W1 → Below W1.heap.size W1 W2 → J pre W2)
    (hY : ∀ pre (y : Bv) W, J pre W → y.2 ∈ L → pre.length < N → YieldAt Fence.wide (n - 1) Try.prog l #[.int .i64 y.1, .agg #[.int .i64 y.2.1, y.2.2.1]] W fun e W' =>
      (e = .returned (.bool true) ∧ J (pre ++ [y]) W' ∧ Kp n₀ Bo W W') ∨ (e = .returned (.bool false) ∧ Jx (pre ++ [y]) W'))
    (W : World) (hBo : Bo < W.heap.size) (hOl : OwnLt W Bo) (hBl : Boxed W Bl 34 (.slice A N cap)) (hne : Bl ≠ Bo) (hno : ¬ OwnAt W Bo Bl) (hn₀ : n₀ ≤ W.heap.size)
    (hC : ∀ w1, Below n₀ W w1 → EL 2 eS w1 (.slice A N cap) L) (h0 : J [] W) :
    CallsIn Fence.wide n Try.prog 37 #[.func (.yield l) #[] #[], .pointer (some ⟨Bl, 0, none⟩)] W fun e W' => (∃ v, e = .returned v) ∧
      ((∃ ys, ys = bk L 0 ∧ J ys W') ∨ (∃ pre, pre <+: bk L 0 ∧ Jx pre W')) := by
  have hmk : Mb n₀ Bo Bl 34 (.slice A N cap) W J [] W := ⟨Below.refl _ _, h0, hJ [], hn₀, hBo, hOl, hBl, hne, hno⟩
  have hb0 : bk L N = [] := by rw [← hlen]; exact bk_nil L
  rw [← hb0] at hmk
  have hbs := Lib.hid (fun k (hk : k < N) => bk_succ L k (by omega))
  have hbp := Lib.hid (fun k (hk : k ≤ N) => bk_pre L k (by omega))
  have hbl := Lib.hid (fun k => bk_len L k)
  have hmem := Lib.hid (fun k (hk : k < N) => show L.getD k default ∈ L from by rw [List.getD_eq_getElem?_getD, List.getElem?_eq_getElem (by omega)]; exact List.getElem_mem _)
  have hcell := Lib.hid (fun w1 k (hb : Below n₀ W w1) (hk : k < N) => by
    obtain ⟨A', cap', e, h⟩ := EL.form (hC w1 hb) hlen
    obtain ⟨g, off, e2, h2, h3, h4, h5⟩ := h w1 k (Below.refl _ _) hk
    exact (show ∃ g off, A = some ⟨g, off, none⟩ ∧ N ≤ cap ∧ g < w1.heap.size ∧ w1.cell? ⟨g, off + k * 2, none⟩ = some (.int .i64 (L.getD k default).1) ∧ w1.cell? ⟨g, off + k * 2 + 1, none⟩ = some (slV (L.getD k default).2.1) from by
      cases e
      exact ⟨g, off, e2, h2, h4, h5 0 (by decide), h5 1 (by decide)⟩))
  replace hJ := Lib.hid hJ
  replace hY := Lib.hid hY
  replace hsl := Lib.hid hsl
  have hc0 := hBl.cell
  replace hlen := Lib.hid hlen
  clear h0 hC hb0
  refine callsIn_of_wp Try.func37 rfl trivial ?_ rfl
  simp only [Try.ntmps37, List.size_toArray, List.length_cons, List.length_nil, Nat.reduceAdd, Nat.reduceSub, Array.replicate_succ, Array.replicate_zero, List.push_toArray, List.append_toArray, List.nil_append, List.cons_append]
  gi_wp2
  gi_loopw [3] (fun x wr => ∃ k : Nat, k ≤ N ∧ x = .int .i64 ((k : Int) - 1) ∧ Mb n₀ Bo Bl 34 (.slice A N cap) W J (bk L k) wr)
    (fun x wr => (intOf x + 1).toNat)
  case atStart =>
    exact ⟨N, Nat.le_refl _, by go_num, hmk⟩
  case round =>
    obtain ⟨k, hk, rfl, hmr⟩ := hrel
    clear hmk hBl hOl hno
    cases k with
    | succ k =>
      have e1 : ((k + 1 : Nat) : Int) - 1 = (k : Int) := by omega
      rw [e1]
      obtain ⟨g, off, rfl, hcap, hg, c0, c1⟩ := hcell.out wr k hmr.B (by omega)
      have hm := hmem.out k (by omega)
      obtain ⟨A5, n5, c5, h5⟩ := hsl.out _ hm
      have hadd := Lib.hid (hbs.out k (by omega))
      have hpx := Lib.hid (hbp.out k (by omega))
      have hpl : (bk L (k + 1)).length < N := by rw [hbl.out, hlen.out]; omega
      generalize L.getD k default = x at *
      obtain ⟨xa, xv, xl⟩ := x
      simp only [] at h5
      subst h5
      simp only [slV] at c1
      have s0 := hmr.s.cell
      have k1 : (k : Int) < (N : Int) := by omega
      have k2 : (0 : Int) ≤ (k : Int) := by omega
      obtain ⟨fn, tmps, assign, body, hy, hR⟩ := hY.out (bk L (k + 1)) ((k : Int), (xa, .slice A5 n5 c5, xl)) _ hmr.j hm hpl
      dsimp only at hy
      clear hm hpl e1 hc0
      gi_wp2
      refine hR.mono ?_
      rintro e W3 (⟨rfl, hJ3, hk3⟩ | ⟨rfl, hJx3⟩)
      · rw [← hadd.out] at hJ3
        have hM3 := hmr.kp hk3 hJ3 (hJ.out _)
        clear hmr s0 c0 c1 hk3 hJ3 hy hR
        gi_wp2
        go_roundw
        case rel => exact ⟨k, by omega, by go_num, hM3⟩
        case measure => first | (simp [intOf]; done) | (simp [intOf]; omega)
      · gi_wp2
        refine bodyPost_ret (results_none rfl _ _ _) rfl ?_
        exact ⟨⟨_, rfl⟩, .inr ⟨_, by rw [← hadd.out]; exact hpx.out, hJx3⟩⟩
    | zero =>
      have e1 : ((0 : Nat) : Int) - 1 = -1 := by omega
      rw [e1]
      gi_wp2
      go_end0
      exact ⟨⟨_, rfl⟩, .inl ⟨_, rfl, hmr.j⟩⟩
set_option maxHeartbeats 400000 in
theorem backward_in (n : Nat) (A : Option Addr) (N cap : Nat) (w : World) :
    CallsIn Fence.wide n Try.prog 31 #[.slice A N cap] w fun e w' => e = .returned (.func (.func 37) #[] #[.pointer (some ⟨w.heap.size, 0, none⟩)]) ∧ w.alloc (.cells #[.slice A N cap] 34) = w' := by
  refine callsIn_wide.2 ?_
  go_enter Try.func31, Try.ntmps31
  go_wp2
  go_ret
  exact ⟨rfl, rfl⟩
theorem bwd_told (n : Nat) (hn : 1 ≤ n) (Bo Bl n₀ N cap : Nat) (A : Option Addr) (L : List Ex) (hlen : L.length = N) (hsl : ∀ x ∈ L, ∃ A n c, x.2.1 = .slice A n c) (hN : N ≤ 1000)
    (w : World) (hBo : Bo < w.heap.size) (hOl : OwnLt w Bo) (hBl : Boxed w Bl 34 (.slice A N cap)) (hne : Bl ≠ Bo) (hno : ¬ OwnAt w Bo Bl) (hn₀ : n₀ ≤ w.heap.size)
    (hC : ∀ w1, Below n₀ w w1 → EL 2 eS w1 (.slice A N cap) L) :
    SeqTold Fence.wide n Try.prog 37 #[.pointer (some ⟨Bl, 0, none⟩)] (fun y : Bv => #[.int .i64 y.1, .agg #[.int .i64 y.2.1, y.2.2.1]]) (Kp n₀ Bo) (fun y _ => y.2 ∈ L) (fun ys => ys = bk L 0) (fun pre => pre <+: bk L 0) N w := fun l J Jx W hb hJ _ hY h0 =>
  bwd1_in n hn l Bo Bl n₀ N cap A L hlen hsl hN J Jx (abides_below2 hJ) hY W (Nat.lt_of_lt_of_le hBo hb.size) (fun b q => Nat.lt_of_lt_of_le (hOl b ((ownAt_keep hb hBo).1 q)) hb.size) (bx_keep hBl hb) hne (fun q => hno ((ownAt_keep hb hBo).1 q)) (Nat.le_trans hn₀ hb.size) (fun w1 hb1 => hC w1 ((hb.mono hn₀).trans hb1)) h0
end Go.Proofs.Ytkmfncnfpneekaa
