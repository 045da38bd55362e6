/-
  Part of the proof of JournalUndo.
-/
import Derived.Test.YtkkbngcgphlikaaGreatDoorJu12
import Derived.Test.YtkkbngcgphlikaaGreatDoorJu13
import Derived.Test.YtkkbngcgphlikaaGreatDoorJu22
import Derived.Test.YtkkbngcgphlikaaGreatDoorJu0
set_option maxRecDepth 10000
set_option maxHeartbeats 4000000
set_option linter.unusedVariables false
set_option linter.unusedSimpArgs false
section
namespace Go.Proofs.YtkkbngcgphlikaaGreatDoor
open Go.RowKit Go.Shelf
attribute [local go_sem] Oper.semAt_some
def Kp_pc (n₀ Bo Bi : Nat) (X Y : World) : Prop := Below n₀ X Y ∧ (∀ b cs t f, X.heap[b]? = some (.cells cs t f) → b ≠ Bo → b ≠ Bi → ¬ OwnAt X Bo b → Y.heap[b]? = X.heap[b]?) ∧ (∀ b, b < X.heap.size → OwnAt Y Bo b → OwnAt X Bo b) ∧ (OwnLt X Bo → OwnLt Y Bo)
theorem kp_t_pc {n₀ Bo Bi : Nat} {X Y Z : World} (h : Kp_pc n₀ Bo Bi X Y) (k : Kp_pc n₀ Bo Bi Y Z) : Kp_pc n₀ Bo Bi X Z :=
 ⟨h.1.trans k.1, fun b cs t f hb hne hni ho => by
   have h1 := h.2.1 b cs t f hb hne hni ho
   have hlt := (Array.getElem?_eq_some_iff.1 hb).1
   exact (k.2.1 b cs t f (h1.trans hb) hne hni (fun q => ho (h.2.2.1 b hlt q))).trans h1,
  fun b hlt q => h.2.2.1 b hlt (k.2.2.1 b (Nat.lt_of_lt_of_le hlt h.1.size) q), fun q => k.2.2.2 (h.2.2.2 q)⟩
theorem kp_b_pc {n₀ Bo Bi : Nat} {w : World} (hn : n₀ ≤ w.heap.size) (hB : Bo < w.heap.size) (W : World) (l : Nat) (o o' : Obj) (hl : w.heap.size ≤ l) (h : W.heap[l]? = some o) (h1 : o.isCells = false) (h2 : o.isWalk = false) : Kp_pc n₀ Bo Bi W (W.putObj l o') := by
 have hg := grownBy_putObj' W l o'
 have hlt := (Array.getElem?_eq_some_iff.1 h).1
 have hc : (W.putObj l o').cell? ⟨Bo, 0, none⟩ = W.cell? ⟨Bo, 0, none⟩ := World.cell?_of_block (hg.block Bo (by omega) (fun e => by cases e; omega))
 have ho : ∀ b, OwnAt (W.putObj l o') Bo b ↔ OwnAt W Bo b := fun b => by unfold OwnAt; rw [hc]
 refine ⟨belowK_b hn W l o o' hl h h1 h2, fun b cs t f hb hne _ _ => hg.block b (Array.getElem?_eq_some_iff.1 hb).1 (fun e => ?_), fun b _ q => (ho b).1 q, fun q b hb => Nat.lt_of_lt_of_le (q b ((ho b).1 hb)) hg.size⟩
 cases e
 rw [hb] at h
 cases h
 simp [Obj.isCells] at h1
def Bk_pc (w : World) (g : Nat) (x y : Value) : Prop := w.heap[g]? = some (.cells #[x, y] 70 (0, 0))
theorem Bk_pc.c2 {w : World} {g : Nat} {x y : Value} (h : Bk_pc w g x y) : C2 w g x y := by
 constructor
 ·rw [cell_of_row w g 0 _ _ _ h]; rfl
 rw [cell_of_row w g 1 _ _ _ h]; rfl
theorem Bk_pc.lt {w : World} {g : Nat} {x y : Value} (h : Bk_pc w g x y) : g < w.heap.size := (Array.getElem?_eq_some_iff.1 h).1
theorem Bk_pc.kp {w w1 : World} {n₀ Bo Bi g : Nat} {x y : Value} (h : Bk_pc w g x y) (hk : Kp_pc n₀ Bo Bi w w1) (hne : g ≠ Bo) (hni : g ≠ Bi) (ho : ¬ OwnAt w Bo g) : Bk_pc w1 g x y := (hk.2.1 g _ _ _ h hne hni ho).trans h
theorem Bk_pc.new (w : World) (x y : Value) : Bk_pc (w.alloc (.cells #[x, y] 70)) w.heap.size x y := World.alloc_heap_new w _
structure Mk_pc (n₀ Bo Bi : Nat) (W : World) (J : List Int → World → Prop) (pre : List Int) (w : World) : Prop where
 B : Below n₀ W w
 j : J pre w
 J : ∀ W1 W2, J pre W1 → Below W1.heap.size W1 W2 → J pre W2
 n : n₀ ≤ W.heap.size
 o : Bo < w.heap.size
 i : Bi < w.heap.size
 lt : OwnLt w Bo
theorem Mk_pc.keep {n₀ Bo Bi : Nat} {W w w1 : World} {J : List Int → World → Prop} {pre : List Int} (h : Mk_pc n₀ Bo Bi W J pre w) (hb : Below w.heap.size w w1) : Mk_pc n₀ Bo Bi W J pre w1 :=
 ⟨h.B.trans (hb.mono (Nat.le_trans h.n h.B.size)), h.J _ _ h.j hb, h.J, h.n, Nat.lt_of_lt_of_le h.o hb.size, Nat.lt_of_lt_of_le h.i hb.size, fun b q => Nat.lt_of_lt_of_le (h.lt b ((ownAt_keep hb h.o).1 q)) hb.size⟩
theorem Mk_pc.kp {n₀ Bo Bi : Nat} {W w w1 : World} {J : List Int → World → Prop} {pre pre' : List Int} (h : Mk_pc n₀ Bo Bi W J pre w) (hk : Kp_pc n₀ Bo Bi w w1) (hj : J pre' w1) (hJ : ∀ W1 W2, J pre' W1 → Below W1.heap.size W1 W2 → J pre' W2) : Mk_pc n₀ Bo Bi W J pre' w1 :=
 ⟨h.B.trans hk.1, hj, hJ, h.n, Nat.lt_of_lt_of_le h.o hk.1.size, Nat.lt_of_lt_of_le h.i hk.1.size, hk.2.2.2 h.lt⟩
theorem Mk_pc.new {n₀ Bo Bi g : Nat} {W w : World} {J : List Int → World → Prop} {pre : List Int} (h : Mk_pc n₀ Bo Bi W J pre w) (hg : w.heap.size ≤ g) : g ≠ Bo ∧ g ≠ Bi ∧ ¬ OwnAt w Bo g :=
 ⟨fun e => by have := h.o; omega, fun e => by have := h.i; omega, fun q => by have := h.lt g q; omega⟩
structure Xb (Bo Bi g : Nat) (x : Sp) (w : World) : Prop where
 b : Bk_pc w g (.int .i64 x.1) (.int .i64 x.2)
 o : g ≠ Bo
 i : g ≠ Bi
 no : ¬ OwnAt w Bo g
 l : Bo < w.heap.size
theorem Xb.kp {n₀ Bo Bi g : Nat} {x : Sp} {w w1 : World} (h : Xb Bo Bi g x w) (hk : Kp_pc n₀ Bo Bi w w1) : Xb Bo Bi g x w1 :=
 ⟨h.b.kp hk h.o h.i h.no, h.o, h.i, fun q => h.no (hk.2.2.1 g h.b.lt q), Nat.lt_of_lt_of_le h.l hk.1.size⟩
def pwL (x : Sp) (m : Nat) : List Int := (List.range m).map fun i : Nat => x.1 + (i : Int)
def placesL (l : List Sp) : List Int := l.flatMap fun x => pwL x x.2.toNat
theorem pwL_succ (x : Sp) (m : Nat) : pwL x (m + 1) = pwL x m ++ [x.1 + (m : Int)] := by simp [pwL, List.range_succ]
theorem places_take (l : List Sp) (k : Nat) (h : k < l.length) : placesL (l.take (k + 1)) = placesL (l.take k) ++ pwL (l.getD k (0, 0)) (l.getD k (0, 0)).2.toNat := by
 unfold placesL
 rw [List.take_succ_eq_append_getElem h, List.flatMap_append, List.getD_eq_getElem?_getD, List.getElem?_eq_getElem h]
 simp
theorem places_pre (l : List Sp) (k m : Nat) (h : k < l.length) (hm : m ≤ (l.getD k (0, 0)).2.toNat) : placesL (l.take k) ++ pwL (l.getD k (0, 0)) m <+: placesL l := by
 have h1 : placesL (l.take (k + 1)) <+: placesL l := by
  refine ⟨placesL (l.drop (k + 1)), ?_⟩
  unfold placesL
  rw [← List.flatMap_append, List.take_append_drop]
 refine List.IsPrefix.trans ?_ h1
 rw [places_take l k h]
 generalize l.getD k (0, 0) = x at *
 refine (List.prefix_append_right_inj _).2 ?_
 unfold pwL
 refine ⟨(List.range (x.2.toNat - m)).map (fun i : Nat => x.1 + ((m + i : Nat) : Int)), ?_⟩
 apply List.ext_getElem
 ·simp; omega
 intro i h1 h2
 simp only [List.getElem_append, List.getElem_map, List.getElem_range, List.length_map, List.length_range]
 split
 ·rfl
 congr 1
 simp; omega
theorem prefix_lt {a b : List Int} {y : Int} (h : a ++ [y] <+: b) : a.length < b.length := by
 have := h.length_le
 simp at this; omega
theorem pl1_in (n : Nat) (hn : 1 ≤ n) (l Bo Bi Bl n₀ N cap : Nat) (A : Option Addr) (L : List Sp) (hL : PBs L) (hlen : L.length = N) (hN : N ≤ 1000) (J Jx : List Int → World → Prop)
 (hJ : ∀ pre W1 W2, J pre W1 → Below W1.heap.size W1 W2 → J pre W2)
 (hY : ∀ pre (y : Int) W, J pre W → pre.length < (placesL L).length → YieldAt Fence.wide (n - 1) Tryz.prog l #[.int .i64 y] W fun e W' =>
   (e = .returned (.bool true) ∧ J (pre ++ [y]) W' ∧ Kp_pc n₀ Bo Bi W W') ∨ (e = .returned (.bool false) ∧ Jx (pre ++ [y]) W'))
 (W : World) (hBo : Bo < W.heap.size) (hBi : Bi < W.heap.size) (hOl : OwnLt W Bo) (hBl : W.cell? ⟨Bl, 0, none⟩ = some (.slice A N cap)) (hn₀ : n₀ ≤ W.heap.size)
 (hC : ∀ w1 i, Below n₀ W w1 → i < N → ∃ g off, A = some ⟨g, off, none⟩ ∧ N ≤ cap ∧ g < w1.heap.size ∧ w1.cell? ⟨g, off + i * 2, none⟩ = some (.int .i64 (L.getD i (0, 0)).1) ∧ w1.cell? ⟨g, off + i * 2 + 1, none⟩ = some (.int .i64 (L.getD i (0, 0)).2))
 (h0 : J [] W) :
 CallsIn Fence.wide n Tryz.prog 174 #[.func (.yield l) #[] #[], .pointer (some ⟨Bl, 0, none⟩)] W fun e W' => (∃ v, e = .returned v) ∧
  ((∃ ys, ys = placesL L ∧ J ys W') ∨ (∃ pre, pre <+: placesL L ∧ Jx pre W')) := by
 have hI := lh (fun i (hi : i < N) => hL.at i (by omega))
 have hT := lh (fun i (hi : i < N) => places_take L i (by omega))
 have hPr := lh (fun i m (hi : i < N) hm => places_pre L i m (by omega) hm)
 have hE := lh (show placesL (L.take N) = placesL L from by rw [List.take_of_length_le (by omega)])
 generalize placesL L = M at *
 replace hC := lh hC
 replace hJ := lh hJ
 replace hY := lh hY
 have hmk : Mk_pc n₀ Bo Bi W J [] W := ⟨Below.refl _ _, h0, hJ.out [], hn₀, hBo, hBi, hOl⟩
 clear hL hlen h0
 refine callsIn_of_wp Tryz.func174 rfl trivial ?_ rfl
 simp only [Tryz.ntmps174, List.size_toArray, List.length_cons, List.length_nil, Nat.reduceAdd, Nat.reduceSub, Array.replicate_succ, Array.replicate_zero, List.push_toArray, List.append_toArray, List.nil_append, List.cons_append]
 gi_wp2
 gi_loopw [8] (fun x wr => ∃ (k : Nat) (pre : List Int), k ≤ N ∧ x = .int .i64 k ∧ Hid (pre = placesL (L.take k)) ∧ Mk_pc n₀ Bo Bi W J pre wr)
  (fun x wr => N + 1 - (intOf x).toNat)
 case atStart =>
  exact ⟨0, [], Nat.zero_le _, rfl, rfl, hmk⟩
 obtain ⟨k, pre, hk, rfl, hM, hmr⟩ := hrel
 clear hmk
 by_cases hlt : k < N
 rotate_left
 ·obtain rfl : k = N := by omega
  gi_wp2
  go_end0
  exact ⟨⟨_, rfl⟩, .inl ⟨pre, by rw [hM.out, hE.out], hmr.j⟩⟩
 obtain ⟨g, off, rfl, hcap, hg, c0, c1⟩ := hC.out wr k hmr.B hlt
 have hlt' : (k : Int) < (N : Int) := by omega
 have hxi := hI.out k hlt
 have hT1 := lh (hT.out k hlt)
 have hPk := lh (fun m hm => hPr.out k m hlt hm)
 rw [← hM.out] at hT1 hPk
 generalize L.getD k (0, 0) = x at *
 obtain ⟨b1, b2, b3, b4⟩ := id hxi
 obtain ⟨m, hm⟩ : ∃ m, m = x.2.toNat := ⟨_, rfl⟩
 have hmx : (m : Int) = x.2 := by omega
 rw [← hm] at hT1 hPk
 clear hm
 obtain ⟨hxn, hxi2, hxo⟩ := hmr.new (Nat.le_refl wr.heap.size)
 have hXb : Xb Bo Bi wr.heap.size x (wr.alloc (.cells #[.int .i64 x.1, .int .i64 x.2] 70)) := ⟨Bk_pc.new wr _ _, hxn, hxi2, fun q => hxo ((ownAt_keep (bZ _ _) hmr.o).1 q), by have := hmr.o; simp; omega⟩
 have hMa : Mk_pc n₀ Bo Bi W J pre (wr.alloc (.cells #[.int .i64 x.1, .int .i64 x.2] 70)) := hmr.keep (bZ _ _)
 obtain ⟨x0, x1⟩ := hXb.b.c2
 replace hmx := lh hmx
 clear hmr hxo
 gi_wp2
 gi_loopw [5, 14] (fun d i wq => ∃ (j : Nat) (pre' : List Int), j ≤ m ∧ i = .int .i64 j ∧ Hid (pre' = pre ++ pwL x j) ∧ Mk_pc n₀ Bo Bi W J pre' wq ∧ Xb Bo Bi wr.heap.size x wq) (fun _ i _ => m + 1 - (intOf i).toNat)
 case atStart => exact ⟨0, pre, Nat.zero_le _, rfl, by show pre = _; simp [pwL], hMa, hXb⟩
 clear hMa hXb x0 x1
 obtain ⟨j, pre', hj, rfl, hpre, hmq, hXq⟩ := hrel
 by_cases hjl : j < m
 rotate_left
 ·obtain rfl : j = m := by omega
  have q1 : x.2 ≤ (j : Int) := by have := hmx.out; omega
  have hfin := lh (show pre' = placesL (L.take (k + 1)) from by rw [hpre.out, hT1.out])
  gi_wp2
  exact ⟨⟨k + 1, _, by omega, by go_num, hfin, hmq⟩, by simp [intOf]; omega⟩
 have q1 : (j : Int) < x.2 := by have := hmx.out; omega
 have hpp : pre' ++ [x.1 + (j : Int)] = pre ++ pwL x (j + 1) := by rw [hpre.out, pwL_succ, List.append_assoc]
 have hpx : pre' ++ [x.1 + (j : Int)] <+: M := by rw [hpp]; exact hPk.out (j + 1) (by omega)
 obtain ⟨fn, tmps, assign, body, hy, hR⟩ := hY.out pre' (x.1 + (j : Int)) _ hmq.j (prefix_lt hpx)
 replace hpp := lh hpp
 replace hpx := lh hpx
 obtain ⟨y0, y1⟩ := hXq.b.c2
 gi_wp2
 refine hR.mono ?_
 rintro e W3 (⟨rfl, hJ3, hk3⟩ | ⟨rfl, hJx3⟩)
 ·have hM3 := hmq.kp hk3 hJ3 (hJ.out _)
  have hX3 := hXq.kp hk3
  clear y0 y1 hmq hXq
  gi_wp2
  go_roundw
  case rel => exact ⟨j + 1, _, by omega, by go_num, hpp, hM3, hX3⟩
  simp [intOf]; omega
 gi_wp2
 refine bodyPost_ret (results_none rfl _ _ _) rfl ?_
 exact ⟨⟨_, rfl⟩, .inr ⟨_, hpx.out, hJx3⟩⟩
theorem places_in (n : Nat) (A : Option Addr) (N cap : Nat) (w : World) :
 CallsIn Fence.wide n Tryz.prog 146 #[.slice A N cap] w fun e w' => e = .returned (.func (.func 174) #[] #[.pointer (some ⟨w.heap.size, 0, none⟩)]) ∧ w.alloc (.cells #[.slice A N cap] 49) = w' := by
 refine callsIn_wide.2 ?_
 go_enter Tryz.func146, Tryz.ntmps146
 go_wp2
 go_ret
 exact ⟨rfl, rfl⟩
theorem abides_below_pc {J : List Int → World → Prop} {B : Nat} (h : AbidesFrom B J) : ∀ pre W1 W2, J pre W1 → Below W1.heap.size W1 W2 → J pre W2 := fun pre W1 W2 hj hb =>
 h pre W1 W2 none hj ⟨hb.os, hb.tape, hb.output, hb.size, fun k hk _ => hb.block k hk⟩ (fun r e => by cases e)
theorem pl_stops (n : Nat) (hn : 1 ≤ n) (Bo Bi Bl n₀ N cap : Nat) (A : Option Addr) (L : List Sp) (hL : PBs L) (hlen : L.length = N) (hN : N ≤ 1000)
 (w : World) (hBo : Bo < w.heap.size) (hBi : Bi < w.heap.size) (hOl : OwnLt w Bo) (hBl : w.cell? ⟨Bl, 0, none⟩ = some (.slice A N cap)) (hBl2 : Bl < w.heap.size) (hn₀ : n₀ ≤ w.heap.size)
 (hC : ∀ w1 i, Below n₀ w w1 → i < N → ∃ g off, A = some ⟨g, off, none⟩ ∧ N ≤ cap ∧ g < w1.heap.size ∧ w1.cell? ⟨g, off + i * 2, none⟩ = some (.int .i64 (L.getD i (0, 0)).1) ∧ w1.cell? ⟨g, off + i * 2 + 1, none⟩ = some (.int .i64 (L.getD i (0, 0)).2)) :
 SeqStopsK Fence.wide n Tryz.prog 174 #[.pointer (some ⟨Bl, 0, none⟩)] (fun y : Int => #[.int .i64 y]) (Kp_pc n₀ Bo Bi) (fun ys => ys = placesL L) (fun pre => pre <+: placesL L) (placesL L).length w := fun l J Jx W hW hJ _ hY h0 =>
 pl1_in n hn l Bo Bi Bl n₀ N cap A L hL hlen hN J Jx (abides_below_pc hJ) hY W (Nat.lt_of_lt_of_le hBo hW.size) (Nat.lt_of_lt_of_le hBi hW.size) (fun b q => Nat.lt_of_lt_of_le (hOl b ((ownAt_keep hW hBo).1 q)) hW.size) ((hW.cell (p := ⟨Bl, 0, none⟩) hBl2).trans hBl) (Nat.le_trans hn₀ hW.size) (fun w1 i hb => hC w1 i ((hW.mono hn₀).trans hb)) h0
end Go.Proofs.YtkkbngcgphlikaaGreatDoor
end
section
namespace Go.Proofs.YtkkbngcgphlikaaGreatDoor
open Go.RowKit
def Lw (w : World) : Prop := Deb w ∧ True ∧ Tab w ∧ 5 < w.heap.size ∧ Pl w
theorem Lw.keep {w w1 : World} (h : Lw w) (hb : Below w.heap.size w w1) : Lw w1 :=
 ⟨h.1.keep hb, trivial, tab_keep h.2.2.1 h.2.2.2.1 hb, Nat.lt_of_lt_of_le h.2.2.2.1 hb.size, h.2.2.2.2.keep hb⟩
theorem Lw.alloc {w : World} (h : Lw w) (o : Obj) : Lw (w.alloc o) := h.keep (bZ _ _)
end Go.Proofs.YtkkbngcgphlikaaGreatDoor
end
