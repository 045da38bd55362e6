/-
  Part of the proof of MendWhole.
-/
import Derived.Test.YtkdhdibjbabgfaaGreatDoorVw10
import Derived.Test.YtkdhdibjbabgfaaGreatDoorVw7
import Derived.LoopIn
import Derived.LoopNIn
import Derived.OwnWalkIn
import Derived.Shelf.Abstract
import Derived.Shelf.RegionOpen
import Derived.TacticsInMore
import Derived.WalkKit
import Derived.Test.YtkdhdibjbabgfaaGreatDoorVw0
set_option maxRecDepth 10000
set_option maxHeartbeats 1000000
set_option linter.unusedVariables false
set_option linter.unusedSimpArgs false
section
namespace Go.Proofs.YtkdhdibjbabgfaaGreatDoor
open Go.RowKit Go.ChangeShapes Go.WideShapes Go.Deep Go.Shelf
attribute [local go_sem] Oper.semAt_some
abbrev Pe := Int × List Nat
abbrev Ev := Ex × Bool
def pl (x : Ev) : Option Pe := if x.2 then some (x.1.1, x.1.2.2) else none
def peN (ws : List Nat) : Pe := ((atN ws : Nat), (ws.drop 1).take (manyN ws))
def evsF (gn : Nat) : Nat → List Nat → List (Option Pe)
 | _, [] => []
 | 0, _ :: _ => []
 | f + 1, w :: ws => if tkB gn (w :: ws) then some (peN (w :: ws)) :: evsF gn f ((w :: ws).drop (manyN (w :: ws) + 2)) else [none]
theorem evsF_more (gn : Nat) : ∀ (f f' : Nat) (ws : List Nat), ws.length ≤ f → ws.length ≤ f' → evsF gn f ws = evsF gn f' ws
 | _, _, [], _, _ => by unfold evsF; rfl
 | 0, _, _ :: _, h, _ => by simp at h
 | _, 0, _ :: _, _, h => by simp at h
 | f + 1, f' + 1, w :: ws, h, h' => by
   unfold evsF
   simp only [List.length_cons] at h h'
   rw [evsF_more gn f f' _ (by rw [List.length_drop, List.length_cons]; omega) (by rw [List.length_drop, List.length_cons]; omega)]
def evs (gn : Nat) (ws : List Nat) : List (Option Pe) := evsF gn ws.length ws
theorem evs_nil (gn : Nat) : evs gn [] = [] := rfl
theorem evs_t {gn : Nat} {ws : List Nat} (h0 : 0 < ws.length) (h : tkB gn ws = true) : evs gn ws = some (peN ws) :: evs gn (ws.drop (manyN ws + 2)) := by
 cases ws with
 | nil => simp at h0
 | cons w ws =>
   unfold evs
   rw [List.length_cons]
   conv => lhs; unfold evsF
   rw [if_pos h]
   rw [evsF_more gn ws.length _ ((w :: ws).drop (manyN (w :: ws) + 2)) (by rw [List.length_drop, List.length_cons]; omega) (Nat.le_refl _)]
theorem evs_f {gn : Nat} {ws : List Nat} (h0 : 0 < ws.length) (h : tkB gn ws = false) : evs gn ws = [none] := by
 cases ws with
 | nil => simp at h0
 | cons w ws =>
   unfold evs
   rw [List.length_cons]
   unfold evsF
   rw [h]
   rfl
theorem take_f (gn : Nat) (v : Value) (ws : List Nat) (w : World) (hgn : gn < 18446744073709551616) (hv : KL .u64 w v ws) (hW : WL ws) (h0 : 0 < ws.length) (hlen : ws.length ≤ 800) (h : tkB gn ws = false) :
 Calls Tryz.prog 138 #[.int .u64 (gn : Nat), v] w fun e w' => e = .returned (.tuple #[.agg #[.int .i64 0, .slice none 0 0], .bool false]) ∧ Below w.heap.size w w' := by
 rcases tkB_f h with h1 | ⟨h1, h2⟩ | ⟨h1, h2, h3⟩ | ⟨h1, h2, h3, h4⟩
 ·exact take_A gn v ws w hgn hv hW h0 hlen h1
 ·exact take_B gn v ws w hgn hv hW h0 hlen h1 h2
 ·exact take_C gn v ws w hgn hv hW h0 hlen h1 h2 h3
 ·exact take_D gn v ws w hgn hv hW h0 hlen h1 h2 h3 h4
theorem Size_f (a : Int) (A : Option Addr) (m cap : Nat) (w : World) (hr : canB a m = true) : Calls Tryz.prog 139 #[.agg #[.int .i64 a, .slice A m cap]] w fun e w' => e = .returned (.int .i64 ((m + 2 : Nat) : Int)) ∧ Below w.heap.size w w' := by
 have hb0 : Below w.heap.size w (w.alloc (.cells #[.int .i64 a, .slice A m cap] (64 : Nat))) := bZ _ _
 have hR : ∀ w, Calls Tryz.prog 146 #[.agg #[.int .i64 a, .slice A m cap]] w fun e w' => e = .returned (.bool true) ∧ Below w.heap.size w w' := fun w => by
  have hC := can_any a m (w.alloc (.cells #[.int .i64 a, .slice A m cap] (64 : Nat)))
  rw [hr] at hC
  clear hr
  go_enter Tryz.func146, Tryz.ntmps146
  go_wp2_with (go_at_call 144; refine hC.mono ?_; rintro e w1 ⟨rfl, rfl⟩; clear hC)
  go_ret
  exact ⟨rfl, bZ _ _⟩
 replace hR := lh hR
 have hr2 := canB_iff.1 hr
 have hlen : m ≤ 4096 := by omega
 have kk : (w.alloc (.cells #[.int .i64 a, .slice A m cap] (64 : Nat))).cell? ⟨w.heap.size, 1, none⟩ = some (.slice A m cap) := by simp [go_sem]
 clear hr hr2
 go_enter Tryz.func139, Tryz.ntmps139
 go_wp2_with (go_at_call 146; refine (hR.out _).mono ?_; rintro e w1 ⟨rfl, hb⟩
              have k1 := (hb.cell (p := ⟨w.heap.size, 1, none⟩) (by simp)).trans kk)
 go_ret
 exact ⟨by simp, hb0.trans (hb.mono (by simp))⟩
def OwnAt (w : World) (Bo b : Nat) : Prop := ∃ v, w.cell? ⟨Bo, 0, none⟩ = some v ∧ v.ownBlock = some b
def OwnLt (w : World) (Bo : Nat) : Prop := ∀ b, OwnAt w Bo b → b < w.heap.size
theorem ownAt_keep {w w1 : World} {Bo b : Nat} (hb : Below w.heap.size w w1) (hl : Bo < w.heap.size) : OwnAt w1 Bo b ↔ OwnAt w Bo b := by
 unfold OwnAt
 rw [(bcell hb).1 Bo 0 hl]
def Kp (n₀ Bo : Nat) (X Y : World) : Prop := Below n₀ X Y ∧ (∀ b cs t f, X.heap[b]? = some (.cells cs t f) → b ≠ Bo → ¬ OwnAt X Bo b → Y.heap[b]? = X.heap[b]?) ∧ (∀ b, b < X.heap.size → OwnAt Y Bo b → OwnAt X Bo b) ∧ (OwnLt X Bo → OwnLt Y Bo)
theorem kp_t {n₀ Bo : Nat} {X Y Z : World} (h : Kp n₀ Bo X Y) (k : Kp n₀ Bo Y Z) : Kp n₀ Bo X Z :=
 ⟨h.1.trans k.1, fun b cs t f hb hne ho => by
   have h1 := h.2.1 b cs t f hb hne ho
   have hlt := (Array.getElem?_eq_some_iff.1 hb).1
   exact (k.2.1 b cs t f (h1.trans hb) hne (fun q => ho (h.2.2.1 b hlt q))).trans h1,
  fun b hlt q => h.2.2.1 b hlt (k.2.2.1 b (Nat.lt_of_lt_of_le hlt h.1.size) q), fun q => k.2.2.2 (h.2.2.2 q)⟩
theorem kp_b {n₀ Bo : Nat} {w : World} (hn : n₀ ≤ w.heap.size) (hB : Bo < w.heap.size) (W : World) (l : Nat) (o o' : Obj) (hl : w.heap.size ≤ l) (h : W.heap[l]? = some o) (h1 : o.isCells = false) (h2 : o.isWalk = false) : Kp n₀ Bo W (W.putObj l o') := by
 have hg := grownBy_putObj' W l o'
 have hlt := (Array.getElem?_eq_some_iff.1 h).1
 have hc : (W.putObj l o').cell? ⟨Bo, 0, none⟩ = W.cell? ⟨Bo, 0, none⟩ := World.cell?_of_block (hg.block Bo (by omega) (fun e => by cases e; omega))
 have ho : ∀ b, OwnAt (W.putObj l o') Bo b ↔ OwnAt W Bo b := fun b => by unfold OwnAt; rw [hc]
 refine ⟨belowK_b hn W l o o' hl h h1 h2, fun b cs t f hb hne _ => hg.block b (Array.getElem?_eq_some_iff.1 hb).1 (fun e => ?_), fun b _ q => (ho b).1 q, fun q b hb => Nat.lt_of_lt_of_le (q b ((ho b).1 hb)) hg.size⟩
 cases e
 rw [hb] at h
 cases h
 simp [Obj.isCells] at h1
theorem kp_of {n₀ Bo : Nat} {X Y : World} (h : Below X.heap.size X Y) (hn : n₀ ≤ X.heap.size) (hB : Bo < X.heap.size) : Kp n₀ Bo X Y :=
 ⟨h.mono hn, fun b cs t f hb _ _ => h.block b (Array.getElem?_eq_some_iff.1 hb).1, fun b _ q => (ownAt_keep h hB).1 q, fun q b hb => Nat.lt_of_lt_of_le (q b ((ownAt_keep h hB).1 hb)) h.size⟩
def Bk (w : World) (g : Nat) (x y : Value) : Prop := w.heap[g]? = some (.cells #[x, y] 64 (0, 0))
theorem Bk.c2 {w : World} {g : Nat} {x y : Value} (h : Bk w g x y) : C2 w g x y := ⟨(row_cell h 0).1, (row_cell h 1).1⟩
theorem Bk.lt {w : World} {g : Nat} {x y : Value} (h : Bk w g x y) : g < w.heap.size := (Array.getElem?_eq_some_iff.1 h).1
theorem Bk.keep {w w1 : World} {g : Nat} {x y : Value} (h : Bk w g x y) (hb : Below w.heap.size w w1) : Bk w1 g x y := (hb.block g h.lt).trans h
theorem Bk.kp {w w1 : World} {n₀ Bo g : Nat} {x y : Value} (h : Bk w g x y) (hk : Kp n₀ Bo w w1) (hne : g ≠ Bo) (ho : ¬ OwnAt w Bo g) : Bk w1 g x y := (hk.2.1 g _ _ _ h hne ho).trans h
theorem Bk.new (w : World) (x y : Value) : Bk (w.alloc (.cells #[x, y] 64)) w.heap.size x y := World.alloc_heap_new w _
theorem bx_kp {w w1 : World} {n₀ Bo g : Nat} {t : TypeId} {x : Value} (h : Boxed w g t x) (hk : Kp n₀ Bo w w1) (hne : g ≠ Bo) (ho : ¬ OwnAt w Bo g) : Boxed w1 g t x := (hk.2.1 g _ _ _ h hne ho).trans h
theorem bx_keep {w w1 : World} {g : Nat} {t : TypeId} {x : Value} (h : Boxed w g t x) (hb : Below w.heap.size w w1) : Boxed w1 g t x := (hb.block g h.lt).trans h
structure Mk (n₀ Bo Bs gn : Nat) (W : World) (J : List Ev → World → Prop) (pre : List Ev) (w : World) : Prop where
 B : Below n₀ W w
 j : J pre w
 J : ∀ W1 W2, J pre W1 → Below W1.heap.size W1 W2 → J pre W2
 n : n₀ ≤ W.heap.size
 o : Bo < w.heap.size
 lt : OwnLt w Bo
 s : Boxed w Bs 25 (.int .u64 (gn : Nat))
 ne : Bs ≠ Bo
 no : ¬ OwnAt w Bo Bs
theorem Mk.keep {n₀ Bo Bs gn : Nat} {W w w1 : World} {J : List Ev → World → Prop} {pre : List Ev} (h : Mk n₀ Bo Bs gn W J pre w) (hb : Below w.heap.size w w1) : Mk n₀ Bo Bs gn W J pre w1 :=
 ⟨h.B.trans (hb.mono (Nat.le_trans h.n h.B.size)), h.J _ _ h.j hb, h.J, h.n, Nat.lt_of_lt_of_le h.o hb.size, fun b q => Nat.lt_of_lt_of_le (h.lt b ((ownAt_keep hb h.o).1 q)) hb.size, bx_keep h.s hb, h.ne, fun q => h.no ((ownAt_keep hb h.o).1 q)⟩
theorem Mk.kp {n₀ Bo Bs gn : Nat} {W w w1 : World} {J : List Ev → World → Prop} {pre pre' : List Ev} (h : Mk n₀ Bo Bs gn W J pre w) (hk : Kp n₀ Bo w w1) (hj : J pre' w1) (hJ : ∀ W1 W2, J pre' W1 → Below W1.heap.size W1 W2 → J pre' W2) : Mk n₀ Bo Bs gn W J pre' w1 :=
 ⟨h.B.trans hk.1, hj, hJ, h.n, Nat.lt_of_lt_of_le h.o hk.1.size, hk.2.2.2 h.lt, bx_kp h.s hk h.ne h.no, h.ne, fun q => h.no (hk.2.2.1 Bs h.s.lt q)⟩
theorem Mk.new {n₀ Bo Bs g gn : Nat} {W w : World} {J : List Ev → World → Prop} {pre : List Ev} (h : Mk n₀ Bo Bs gn W J pre w) (hg : w.heap.size ≤ g) : g ≠ Bo ∧ ¬ OwnAt w Bo g :=
 ⟨fun e => by have := h.o; omega, fun q => by have := h.lt g q; omega⟩
def TE (Bo : Nat) (y : Ev) (W : World) : Prop := (∃ A m c, y.1.2.1 = .slice A m c) ∧ (y.2 = true → 0 < y.1.2.2.length ∧ KL .u64 W y.1.2.1 y.1.2.2 ∧ ∀ g o m c, y.1.2.1 = .slice (some ⟨g, o, none⟩) m c → g ≠ Bo ∧ ¬ OwnAt W Bo g)
def lenV : Value → Nat
 | .slice _ n _ => n
 | _ => 0
theorem ents1_in (n : Nat) (hn : 1 ≤ n) (l Bo Bg Bw n₀ gn : Nat) (v : Value) (ws : List Nat) (hW : WL ws) (hlen : ws.length ≤ 800) (hgn : gn < 18446744073709551616) (J Jx : List Ev → World → Prop)
 (hJ : ∀ pre W1 W2, J pre W1 → Below W1.heap.size W1 W2 → J pre W2)
 (hY : ∀ pre (y : Ev) W, J pre W → TE Bo y W → pre.length < (evs gn ws).length → YieldAt Fence.wide (n - 1) Tryz.prog l #[.agg #[.int .i64 y.1.1, y.1.2.1], .bool y.2] W fun e W' =>
   (e = .returned (.bool true) ∧ J (pre ++ [y]) W' ∧ Kp n₀ Bo W W') ∨ (e = .returned (.bool false) ∧ Jx (pre ++ [y]) W'))
 (W : World) (hBo : Bo < W.heap.size) (hOl : OwnLt W Bo) (hBg : Boxed W Bg 25 (.int .u64 (gn : Nat))) (hne : Bg ≠ Bo) (hno : ¬ OwnAt W Bo Bg) (hBw : W.cell? ⟨Bw, 0, none⟩ = some v) (hn₀ : n₀ ≤ W.heap.size)
 (hC : ∀ w1, Below n₀ W w1 → KL .u64 w1 v ws) (h0 : J [] W) :
 CallsIn Fence.wide n Tryz.prog 137 #[.func (.yield l) #[] #[], .pointer (some ⟨Bw, 0, none⟩), .pointer (some ⟨Bg, 0, none⟩)] W fun e W' => (∃ v, e = .returned v) ∧
  ((∃ ys, ys.map pl = evs gn ws ∧ J ys W') ∨ (∃ pre, pre.map pl <+: evs gn ws ∧ Jx pre W')) := by
 obtain ⟨N, hN⟩ : ∃ N, ws.length = N := ⟨_, rfl⟩
 obtain ⟨A, cap, rfl, _⟩ := (hC W (Below.refl _ _)).form hN
 have hM0 : evs gn ws = ([] : List Ev).map pl ++ evs gn ws := rfl
 obtain ⟨i0, hi, hz0, hz1, hz2⟩ := info_parts infoU64
 obtain ⟨M, hMM⟩ : ∃ M, evs gn ws = M := ⟨_, rfl⟩
 rw [hMM] at hY ⊢
 replace hMM := lh hMM
 replace hM0 := lh hM0
 replace hC := lh hC
 replace hJ := lh hJ
 replace hY := lh hY
 have hmk : Mk n₀ Bo Bg gn W J [] W := ⟨Below.refl _ _, h0, hJ.out [], hn₀, hBo, hOl, hBg, hne, hno⟩
 clear h0
 refine callsIn_of_wp Tryz.func137 rfl trivial ?_ rfl
 simp only [Tryz.ntmps137, List.size_toArray, List.length_cons, List.length_nil, Nat.reduceAdd, Nat.reduceSub, Array.replicate_succ, Array.replicate_zero, List.push_toArray, List.append_toArray, List.nil_append, List.cons_append]
 gi_wp2
 gi_loopw [4] (fun x wr => ∃ (m : Nat) (A : Option Addr) (cap : Nat) (rs : List Nat) (pre : List Ev), x = .slice A m cap ∧ m ≤ 800 ∧ Hid (rs.length = m) ∧ Hid (WL rs) ∧ Hid (∀ w1, Below n₀ W w1 → KL .u64 w1 (.slice A m cap) rs) ∧ Hid (M = pre.map pl ++ evs gn rs) ∧ Mk n₀ Bo Bg gn W J pre wr)
  (fun x wr => lenV x)
 case atStart =>
  exact ⟨N, A, cap, ws, [], rfl, by omega, hN, hW, hC, by rw [← hMM.out]; exact hM0.out, hmk⟩
 case round =>
  obtain ⟨m, A, cap, rs, pre, rfl, hm8, hrl, hWr, hK, hM, hmr⟩ := hrel
  have hrl' := hrl.out
  clear hmk hM0 hBg hOl hno hBw hC hN hW hMM hlen
  by_cases hlt : 0 < m
  ·have hlt' : (0 : Int) < (m : Int) := by omega
   have s0 := hmr.s.cell
   cases htk : tkB gn rs with
   | true =>
     obtain ⟨t1, t2, t3, t4⟩ := tkB_t htk
     have hTk := take_E gn (.slice A m cap) rs wr hgn (hK.out wr hmr.B) hWr.out (by omega) (by omega) t1 t2 t3 t4
     have hMe := lh (show M = pre.map pl ++ some (peN rs) :: evs gn (rs.drop (manyN rs + 2)) from by rw [hM.out, evs_t (by omega) htk])
     have hSz := lh (fun A c w => Size_f (atN rs) A (manyN rs) c w t1)
     have hK2 := lh (fun w1 (hb : Below n₀ W w1) => (hK.out w1 hb).drop (manyN rs + 2) (by omega))
     have hsl := run_slice_from (P := Tryz.prog) (ty := 23) Tryz.underlying23 hi hz1 A m cap (manyN rs + 2) (by omega)
     have hlen2 := lh (show (rs.drop (manyN rs + 2)).length = m - (manyN rs + 2) from by rw [List.length_drop]; omega)
     have hW2 := lh (show WL (rs.drop (manyN rs + 2)) from fun y hy => hWr.out y (List.mem_of_mem_drop hy))
     have hos := lh (show 0 < ((rs.drop 1).take (manyN rs)).length from by rw [List.length_take, List.length_drop]; have := canB_iff.1 t1; omega)
     have hpe := lh (show peN rs = (((atN rs : Nat) : Int), (rs.drop 1).take (manyN rs)) from rfl)
     generalize peN rs = pe at *
     generalize (rs.drop 1).take (manyN rs) = os at *
     have ht3 : manyN rs + 2 ≤ m := by omega
     have hz : 1 ≤ manyN rs + 2 := by omega
     generalize atN rs = a at *
     generalize manyN rs = mm at *
     generalize mm + 2 = z at *
     generalize (if cap = z then A else Option.map (fun x => x.add (z * 1)) A) = A' at *
     generalize cap - z = cap' at *
     have hmz : m - z < m := by omega
     generalize m - z = m' at *
     generalize rs.drop z = rs' at *
     clear t1 t2 t3 t4 htk hM hWr hK hrl hrl'
     gi_wp2
     refine ⟨trivial, (callsIn_wide.2 hTk).mono ?_⟩
     rintro e w1 ⟨v2, rfl, hKo, ⟨g, o, c, rfl, hg⟩, hb⟩
     obtain ⟨hgn1, hgn2⟩ := hmr.new hg
     have hM1 := hmr.keep hb
     have hB2 : Below w1.heap.size w1 (w1.alloc (.cells #[.int .i64 (a : Nat), .slice (some ⟨g, o, none⟩) mm c] 64)) := bZ _ _
     have hM2 := hM1.keep hB2
     have hX := Bk.new w1 (.int .i64 (a : Nat)) (.slice (some ⟨g, o, none⟩) mm c)
     obtain ⟨hxn, hxo⟩ := hM1.new (Nat.le_refl w1.heap.size)
     have hxo2 : ¬ OwnAt (w1.alloc (.cells #[.int .i64 (a : Nat), .slice (some ⟨g, o, none⟩) mm c] 64)) Bo w1.heap.size := fun q => hxo ((ownAt_keep hB2 hM1.o).1 q)
     have hTE : TE Bo ((((a : Nat) : Int), Value.slice (some ⟨g, o, none⟩) mm c, os), true) (w1.alloc (.cells #[.int .i64 (a : Nat), .slice (some ⟨g, o, none⟩) mm c] 64)) := ⟨⟨_, _, _, rfl⟩, fun _ => ⟨hos.out, hKo.keep hB2, fun g' o' m' c' e => by
      simp only [Value.slice.injEq, Option.some.injEq, Addr.mk.injEq, and_true] at e
      obtain ⟨⟨rfl, rfl⟩, rfl, rfl⟩ := e
      exact ⟨hgn1, fun q => hgn2 ((ownAt_keep hb hmr.o).1 ((ownAt_keep hB2 hM1.o).1 q))⟩⟩⟩
     have hadd := lh (show M = (pre ++ [((((a : Nat) : Int), Value.slice (some ⟨g, o, none⟩) mm c, os), true)]).map pl ++ evs gn rs' from by rw [hMe.out, hpe.out]; simp [pl])
     obtain ⟨fn, tmps, assign, body, hy, hR⟩ := hY.out pre ((((a : Nat) : Int), Value.slice (some ⟨g, o, none⟩) mm c, os), true) _ hM2.j hTE (by rw [hMe.out]; simp)
     obtain ⟨x0, x1⟩ := hX.c2
     dsimp only at hy
     clear hTk hTE hMe hxo hgn1 hgn2 hg hb hB2 hKo hM1 hmr
     gi_wp2
     refine hR.mono ?_
     rintro e W3 (⟨rfl, hJ3, hk3⟩ | ⟨rfl, hJx3⟩)
     ·have hM3 := hM2.kp hk3 hJ3 (hJ.out _)
      have hX3 := hX.kp hk3 hxn hxo2
      clear x0 x1 s0 hM2 hX hk3 hJ3 hxo2 hxn hy hR
      obtain ⟨x0, x1⟩ := hX3.c2
      gi_wp2
      refine ⟨trivial, (callsIn_wide.2 (hSz.out _ _ _)).mono ?_⟩
      rintro e w9 ⟨rfl, hb9⟩
      have hM9 := hM3.keep hb9
      clear hM3 hX3 x0 x1 hb9
      gi_wp2
      go_roundw
      case rel => exact ⟨m', A', cap', rs', _, rfl, by omega, hlen2, hW2, hK2, hadd, hM9⟩
      case measure => exact hmz
     ·gi_wp2
      refine bodyPost_ret (results_none rfl _ _ _) rfl ?_
      exact ⟨⟨_, rfl⟩, .inr ⟨_, by rw [hadd.out]; exact List.prefix_append _ _, hJx3⟩⟩
   | false =>
     have hTk := take_f gn (.slice A m cap) rs wr hgn (hK.out wr hmr.B) hWr.out (by omega) (by omega) htk
     have hMe := lh (show M = pre.map pl ++ [none] from by rw [hM.out, evs_f (by omega) htk])
     clear htk hM hWr hK hrl hrl'
     gi_wp2
     refine ⟨trivial, (callsIn_wide.2 hTk).mono ?_⟩
     rintro e w1 ⟨rfl, hb⟩
     have hM1 := hmr.keep hb
     have hM2 := hM1.keep (w1 := w1.alloc (.cells #[.int .i64 0, .slice none 0 0] 64)) (bZ _ _)
     have hX := Bk.new w1 (.int .i64 0) (.slice none 0 0)
     have hTE : TE Bo (((0 : Int), Value.slice none 0 0, ([] : List Nat)), false) (w1.alloc (.cells #[.int .i64 0, .slice none 0 0] 64)) := ⟨⟨_, _, _, rfl⟩, fun h => by cases h⟩
     have hadd := lh (show (pre ++ [(((0 : Int), Value.slice none 0 0, ([] : List Nat)), false)]).map pl = M from by rw [hMe.out]; simp [pl])
     obtain ⟨fn, tmps, assign, body, hy, hR⟩ := hY.out pre (((0 : Int), Value.slice none 0 0, ([] : List Nat)), false) _ hM2.j hTE (by rw [hMe.out]; simp)
     obtain ⟨x0, x1⟩ := hX.c2
     dsimp only at hy
     clear hTk hTE hMe hb hM1 hmr
     gi_wp2
     refine hR.mono ?_
     rintro e W3 (⟨rfl, hJ3, hk3⟩ | ⟨rfl, hJx3⟩)
     ·gi_wp2
      refine bodyPost_ret (results_none rfl _ _ _) rfl ?_
      exact ⟨⟨_, rfl⟩, .inl ⟨_, hadd.out, hJ3⟩⟩
     ·gi_wp2
      refine bodyPost_ret (results_none rfl _ _ _) rfl ?_
      exact ⟨⟨_, rfl⟩, .inr ⟨_, by rw [hadd.out]; exact List.prefix_refl _, hJx3⟩⟩
  ·obtain rfl : m = 0 := by omega
   have hMe := lh (show pre.map pl = M from by rw [hM.out, List.eq_nil_of_length_eq_zero hrl.out, evs_nil, List.append_nil])
   gi_wp2
   go_end0
   exact ⟨⟨_, rfl⟩, .inl ⟨pre, hMe.out, hmr.j⟩⟩
theorem entries_in (n : Nat) (gn : Nat) (A : Option Addr) (N cap : Nat) (w : World) :
 CallsIn Fence.wide n Tryz.prog 123 #[.int .u64 (gn : Nat), .slice A N cap] w fun e w' => e = .returned (.func (.func 137) #[] #[.pointer (some ⟨w.heap.size + 1, 0, none⟩), .pointer (some ⟨w.heap.size, 0, none⟩)]) ∧ (w.alloc (.cells #[.int .u64 (gn : Nat)] 25)).alloc (.cells #[.slice A N cap] 23) = w' := by
 refine callsIn_wide.2 ?_
 go_enter Tryz.func123, Tryz.ntmps123
 go_wp2
 go_ret
 exact ⟨rfl, rfl⟩
theorem abides_below {J : List Ev → World → Prop} {B : Nat} (h : AbidesFrom B J) : ∀ pre W1 W2, J pre W1 → Below W1.heap.size W1 W2 → J pre W2 := fun pre W1 W2 hj hb =>
 h pre W1 W2 none hj ⟨hb.os, hb.tape, hb.output, hb.size, fun k hk _ => hb.block k hk⟩ (fun r e => by cases e)
theorem ents_told (n : Nat) (hn : 1 ≤ n) (Bo Bg Bw n₀ gn : Nat) (v : Value) (ws : List Nat) (hW : WL ws) (hlen : ws.length ≤ 800) (hgn : gn < 18446744073709551616)
 (w : World) (hBo : Bo < w.heap.size) (hOl : OwnLt w Bo) (hBg : Boxed w Bg 25 (.int .u64 (gn : Nat))) (hne : Bg ≠ Bo) (hno : ¬ OwnAt w Bo Bg) (hBw : w.cell? ⟨Bw, 0, none⟩ = some v) (hBw2 : Bw < w.heap.size) (hn₀ : n₀ ≤ w.heap.size)
 (hC : ∀ w1, Below n₀ w w1 → KL .u64 w1 v ws) :
 SeqTold Fence.wide n Tryz.prog 137 #[.pointer (some ⟨Bw, 0, none⟩), .pointer (some ⟨Bg, 0, none⟩)] (fun y : Ev => #[.agg #[.int .i64 y.1.1, y.1.2.1], .bool y.2]) (Kp n₀ Bo) (TE Bo) (fun ys => ys.map pl = evs gn ws) (fun pre => pre.map pl <+: evs gn ws) (evs gn ws).length w := fun l J Jx W hb hJ _ hY h0 =>
 ents1_in n hn l Bo Bg Bw n₀ gn v ws hW hlen hgn J Jx (abides_below hJ) hY W (Nat.lt_of_lt_of_le hBo hb.size) (fun b q => Nat.lt_of_lt_of_le (hOl b ((ownAt_keep hb hBo).1 q)) hb.size) (bx_keep hBg hb) hne (fun q => hno ((ownAt_keep hb hBo).1 q)) ((hb.cell (p := ⟨Bw, 0, none⟩) hBw2).trans hBw) (Nat.le_trans hn₀ hb.size) (fun w1 hb1 => hC w1 ((hb.mono hn₀).trans hb1)) h0
end Go.Proofs.YtkdhdibjbabgfaaGreatDoor
end
section
namespace Go.Proofs.YtkdhdibjbabgfaaGreatDoor
open Go.RowKit Go.ChangeShapes Go.WideShapes Go.Deep Go.Shelf
attribute [local go_sem] Oper.semAt_some
def slV : Value → Value
 | .slice a n c => .slice a n c
 | _ => .slice none 0 0
def eS (x : Ex) : List Value := [.int .i64 x.1, slV x.2.1]
theorem eS_len (x : Ex) : (eS x).length = 2 := rfl
theorem slV_one (v : Value) : (slV v).oneCell' = true := by unfold slV; split <;> rfl
theorem KL.slV {K : IntKind} {w : World} {v : Value} {l : List Nat} (h : KL K w v l) : slV v = v := by
 obtain ⟨A, cap, rfl, _⟩ := h
 rfl
theorem infoEn : (Tryz.prog.info? 64).map (fun i => (i.zero, i.size, i.bytes)) = some (some (.agg #[.int .i64 0, .slice none 0 0]), 2, 32) := by kernel_rfl
theorem enT : ElT Tryz.prog 60 64 2 32 eS where
 und := Tryz.underlying60
 info := by
  obtain ⟨i0, hi, hz0, hz1, hz2⟩ := info_parts infoEn
  exact ⟨i0, _, hi, hz0, hz1, hz2, by rfl⟩
 len := eS_len
 one := fun x u hu => by
  simp only [eS, List.mem_cons, List.not_mem_nil, or_false] at hu
  rcases hu with rfl | rfl
  ·rfl
  ·exact slV_one _
 pos := by decide
 small := by decide
def px (x : Ex) : Pe := (x.1, x.2.2)
def EN (w : World) (v : Value) (l : List Pe) : Prop := ∃ xs : List Ex, EL 2 eS w v xs ∧ (∀ x ∈ xs, KL .u64 w x.2.1 x.2.2) ∧ xs.map px = l
theorem EN.keep {w w1 : World} {v : Value} {l : List Pe} (h : EN w v l) (hb : Below w.heap.size w w1) : EN w1 v l := by
 obtain ⟨xs, h1, h2, h3⟩ := h
 exact ⟨xs, h1.keep hb, fun x hx => (h2 x hx).keep hb, h3⟩
theorem EN.nil (w : World) : EN w (.slice none 0 0) [] := ⟨[], EL.nil _ _ _ _ _, fun x hx => by simp at hx, rfl⟩
def decL (gn : Nat) (ws : List Nat) : Option (List Pe) := if none ∈ evs gn ws then none else some ((evs gn ws).filterMap id)
theorem KL.grown {K : IntKind} {w w1 : World} {v : Value} {l : List Nat} {row : Option Nat} (h : KL K w v l) (hg : w.grownBy w1 row) (hne : ∀ g o m c, v = .slice (some ⟨g, o, none⟩) m c → row ≠ some g) : KL K w1 v l := by
 obtain ⟨A, cap, hv, h⟩ := h
 refine ⟨A, cap, hv, fun hl => ?_⟩
 obtain ⟨g, off, rfl, hg1, hc, hi⟩ := h hl
 refine ⟨g, off, rfl, Nat.lt_of_lt_of_le hg1 hg.size, hc, fun i hil => ?_⟩
 rw [← hi i hil]
 exact World.cell?_of_block (hg.block g hg1 (fun e => hne g off _ _ hv e.symm))
theorem KL.walk {K : IntKind} {w w1 : World} {v : Value} {l : List Nat} {row : Option Nat} (h : KL K w v l) (hg : w.grownBy w1 row) (hr : ∀ r, row = some r → ∃ o : Obj, w.heap[r]? = some o ∧ o.isCells = false) : KL K w1 v l := by
 obtain ⟨A, cap, hv, h⟩ := h
 refine ⟨A, cap, hv, fun hl => ?_⟩
 obtain ⟨g, off, rfl, hg1, hc, hi⟩ := h hl
 exact ⟨g, off, rfl, Nat.lt_of_lt_of_le hg1 hg.size, hc, fun i hil => cell_kept (hi i hil) hg hr⟩
def Off (v : Value) (r : Option Nat) : Prop := ∀ g o m c, v = .slice (some ⟨g, o, none⟩) m c → r ≠ some g
def DI (n₀ Bo : Nat) (pre : List Ev) (W : World) : Prop := ∃ v, Boxed W Bo 60 v ∧ OwnE 64 2 eS W n₀ v (pre.map Prod.fst) ∧ ∀ y ∈ pre, y.2 = true ∧ 0 < y.1.2.2.length ∧ KL .u64 W y.1.2.1 y.1.2.2 ∧ Off y.1.2.1 v.ownBlock ∧ Off y.1.2.1 (some Bo)
theorem OwnE.walk {α : Type} {e : TypeId} {sz : Nat} {en : α → List Value} {w w1 : World} {base : Nat} {v : Value} {l : List α} {row : Option Nat} (h : OwnE e sz en w base v l) (hg : w.grownBy w1 row) (hr : ∀ r, row = some r → ∃ o : Obj, w.heap[r]? = some o ∧ o.isCells = false) : OwnE e sz en w1 base v l := by
 refine h.kept hg ?_
 rcases h.2 with ⟨rfl, _⟩ | ⟨g, cap, cur, rfl, _, hgb, _⟩
 ·exact .inl rfl
 ·refine .inr fun e' => ?_
  obtain ⟨o, ho, hc⟩ := hr g (by simpa [Value.ownBlock] using e'.symm)
  rw [hgb] at ho; cases ho; cases hc
theorem bx_walk {w w1 : World} {B : Nat} {t : TypeId} {v : Value} {row : Option Nat} (h : Boxed w B t v) (hg : w.grownBy w1 row) (hr : ∀ r, row = some r → ∃ o : Obj, w.heap[r]? = some o ∧ o.isCells = false) : Boxed w1 B t v :=
 h.kept hg (fun e' => by
  obtain ⟨o, ho, hc⟩ := hr B e'.symm
  rw [show w.heap[B]? = _ from h] at ho; cases ho; cases hc)
theorem DI.own (n₀ Bo : Nat) : Own (DI n₀ Bo) := by
 rintro s X Y row ⟨v, hv, hr, hk⟩ hg hrow
 exact ⟨v, bx_walk hv hg hrow, hr.walk hg hrow, fun y hy => by obtain ⟨k1, k0, k2, k3, k4⟩ := hk y hy; exact ⟨k1, k0, k2.walk hg hrow, k3, k4⟩⟩
def DA (Bo : Nat) (y : Ev) (W : World) : Prop := ∃ v, Boxed W Bo 60 v ∧ (y.2 = true → 0 < y.1.2.2.length ∧ KL .u64 W y.1.2.1 y.1.2.2 ∧ Off y.1.2.1 v.ownBlock ∧ Off y.1.2.1 (some Bo))
theorem DA.walk {Bo : Nat} {y : Ev} {X Y : World} {row : Option Nat} (h : DA Bo y X) (hg : X.grownBy Y row) (hrow : ∀ r, row = some r → ∃ o : Obj, X.heap[r]? = some o ∧ o.isCells = false) : DA Bo y Y := by
 obtain ⟨v, hv, hk⟩ := h
 exact ⟨v, bx_walk hv hg hrow, fun q => by obtain ⟨k0, k2, k3, k4⟩ := hk q; exact ⟨k0, k2.walk hg hrow, k3, k4⟩⟩
theorem DA.of {Bo n₀ : Nat} {y : Ev} {pre : List Ev} {W : World} (hI : DI n₀ Bo pre W) (hT : TE Bo y W) : DA Bo y W := by
 obtain ⟨v, hv, _, _⟩ := hI
 refine ⟨v, hv, fun q => ?_⟩
 obtain ⟨h0, h1, h2⟩ := hT.2 q
 refine ⟨h0, h1, fun g o m c e q2 => (h2 g o m c e).2 ⟨v, hv.cell, q2⟩, fun g o m c e q2 => (h2 g o m c e).1 ?_⟩
 simp only [Option.some.injEq] at q2
 exact q2.symm
theorem ownLt_of {w : World} {Bo : Nat} {v : Value} {t : TypeId} (h : Boxed w Bo t v) (hv : ∀ b, v.ownBlock = some b → b < w.heap.size) : OwnLt w Bo := fun b ⟨u, hu, ho⟩ => by
 rw [h.cell] at hu; cases hu; exact hv b ho
theorem ownAt_iff {w : World} {Bo b : Nat} {v : Value} {t : TypeId} (h : Boxed w Bo t v) : OwnAt w Bo b ↔ v.ownBlock = some b :=
 ⟨fun ⟨u, hu, ho⟩ => by rw [h.cell] at hu; cases hu; exact ho, fun q => ⟨v, h.cell, q⟩⟩
theorem kp_body {n₀ Bo : Nat} {W w1 : World} {v v' : Value} {o : Obj} {t : TypeId} (hc : Boxed W Bo t v) (hn : n₀ ≤ Bo) (hb : ∀ g, v.ownBlock = some g → n₀ ≤ g) (hg : (W.alloc o).grownBy w1 v.ownBlock) (hl : v'.ownBlock = v.ownBlock ∨ v'.ownBlock = some (W.alloc o).heap.size) (hne : some Bo ≠ v.ownBlock)
 (hlt : ∀ g, v'.ownBlock = some g → g < w1.heap.size) : Kp n₀ Bo W (w1.setCell ⟨Bo, 0, none⟩ v') := by
 have hY : Boxed (w1.setCell ⟨Bo, 0, none⟩ v') Bo t v' := ((hc.alloc o).kept hg hne).set v'
 have hs := hg.size
 simp only [World.size_alloc] at hs
 have hcl := hc.lt
 refine ⟨(((Below.refl _ _).alloc (by omega) _).grown hg (by simp; omega) (fun j hj => hb j hj)).setCell hn _, fun b cs tt f hbk hbn ho => ?_, fun b hbl q => ?_, fun _ => ownLt_of hY (fun b q => by have := hlt b q; simpa using this)⟩
 ·have hbl := (Array.getElem?_eq_some_iff.1 hbk).1
  rw [Below.heap_setCell w1 ⟨Bo, 0, none⟩ v' b hbn, hg.block b (by simp; omega) (fun q => ho ((ownAt_iff hc).2 q.symm)), Below.heap_alloc W o b hbl]
 ·have q1 := (ownAt_iff hY).1 q
  rcases hl with hl | hl
  ·exact (ownAt_iff hc).2 (hl ▸ q1)
  ·rw [hl] at q1
   simp at q1; omega
theorem wpListIn_append_run {F : Fence} {n : Nat} {P : Program} {w w' : World} {ops : Array Oper} {rest : List Oper} {o : Oper} {a : Act} {Q : Exit → Act → World → Prop} (hg : o.guard = none) (s x : Operand) (t : TypeId)
 (hop : o.op = Op.call { callee := Callee.builtin Builtin.append, args := #[s, x], argTypes := #[t, t] }) (vs vx v : Value) (hs : a.eval s = vs) (hx : a.eval x = vx)
 (hrun : (Builtin.append_ #[t, t] o.type #[vs, vx]).run P w = .ok v w') (h : wpListIn F n P ops Q rest (a.put o.dst v) w') : wpListIn F n P ops Q (o :: rest) a w := by
 refine wpListIn_plain hg fun K hK' => ?_
 unfold Oper.wpIn
 refine ⟨?_, ?_⟩
 ·simp [Oper.about, hop, resolve, Target.leads, Sem.run_pure]
 ·rw [Oper.semAt_plain F _ _ (by rw [hop]; intro c hc'; cases hc')]
  simp [execOp, hop, resolve, invoke, builtin, hs, hx, hrun, Result.andThen]
  exact hK' _ _ h
theorem DI.add {n₀ Bo : Nat} {pre : List Ev} {W : World} {a : Int} {A : Option Addr} {n c : Nat} {l : List Nat} (hI : DI n₀ Bo pre W) (hA : DA Bo ((a, .slice A n c, l), true) W) (hn : n₀ ≤ Bo) (hb : n₀ ≤ W.heap.size) (hlen : pre.length ≤ 1000) :
 ∃ v g' cap' w1, Boxed W Bo 60 v ∧ (Builtin.append_ #[60, 60] 60 #[v, .slice (some ⟨W.heap.size, 0, none⟩) 1 1]).run Tryz.prog (W.alloc (.cells #[.int .i64 a, .slice A n c] (64 : Nat))) = .ok (.slice (some ⟨g', 0, none⟩) (pre.length + 1) cap') w1 ∧
   Boxed w1 Bo 60 v ∧ Boxed (w1.setCell ⟨Bo, 0, none⟩ (.slice (some ⟨g', 0, none⟩) (pre.length + 1) cap')) Bo 60 (.slice (some ⟨g', 0, none⟩) (pre.length + 1) cap') ∧ KeepsOthers W (w1.setCell ⟨Bo, 0, none⟩ (.slice (some ⟨g', 0, none⟩) (pre.length + 1) cap')) ∧ Below n₀ W (w1.setCell ⟨Bo, 0, none⟩ (.slice (some ⟨g', 0, none⟩) (pre.length + 1) cap')) ∧
   Kp n₀ Bo W (w1.setCell ⟨Bo, 0, none⟩ (.slice (some ⟨g', 0, none⟩) (pre.length + 1) cap')) ∧ DI n₀ Bo (pre ++ [((a, .slice A n c, l), true)]) (w1.setCell ⟨Bo, 0, none⟩ (.slice (some ⟨g', 0, none⟩) (pre.length + 1) cap')) ∧
   (∀ {B2 : Nat} {t2 : TypeId} {u : Value}, Boxed W B2 t2 u → B2 ≠ Bo → t2 ≠ 64 → Boxed (w1.setCell ⟨Bo, 0, none⟩ (.slice (some ⟨g', 0, none⟩) (pre.length + 1) cap')) B2 t2 u) := by
 obtain ⟨v, hv, hrow, hk⟩ := hI
 obtain ⟨v2, hv2, hA⟩ := hA
 obtain rfl : v = v2 := by have := hv.cell.symm.trans hv2.cell; simpa using this
 obtain ⟨a0, a1, a2, a3⟩ := hA rfl
 have hne := hv.not_row (e := 64) (by decide) hrow
 have hB1 : Below W.heap.size W (W.alloc (.cells #[.int .i64 a, .slice A n c] (64 : Nat))) := bZ _ _
 have hlit : EL 2 eS (W.alloc (.cells #[.int .i64 a, .slice A n c] (64 : Nat))) (.slice (some ⟨W.heap.size, 0, none⟩) 1 1) [((a, .slice A n c, l) : Ex)] := (OwnE.lit 64 eS_len W [((a, .slice A n c, l) : Ex)] _ rfl (by simp)).el eS_len
 obtain ⟨v', w1, hrun, ho, hg, hl2, hnn⟩ := appE enT (hrow.alloc _) hlit (by simp; omega) (by simpa using (by omega : pre.length ≤ 1000000)) (by simp)
 have hlm : (pre.map Prod.fst ++ [((a, .slice A n c, l) : Ex)]).length = pre.length + 1 := by simp
 obtain ⟨g', cap', rfl⟩ : ∃ g cap, v' = .slice (some ⟨g, 0, none⟩) (pre.length + 1) cap := by
  obtain ⟨g, cap, h1, _⟩ := ho.form (by rw [hlm]; omega)
  exact ⟨g, cap, by rw [h1, hlm]⟩
 have ho' : w1.ownsRow n₀ 64 2 (.slice (some ⟨g', 0, none⟩) (pre.length + 1) cap') (pre.length + 1) ((pre.map Prod.fst ++ [((a, .slice A n c, l) : Ex)]).flatMap eS) := by
  have q := ho
  unfold OwnE at q
  rwa [hlm] at q
 have hrow' : W.ownsRow n₀ 64 2 v pre.length ((pre.map Prod.fst).flatMap eS) := by
  have q := hrow
  unfold OwnE at q
  rwa [List.length_map] at q
 obtain ⟨hv1, hv3, hr2, hk2, hb2⟩ := hv.appended (by decide) hrow' hb hn ho' hg
 have hkp := kp_body (n₀ := n₀) hv hn (fun g q => (hrow.lt g q).1) hg hl2 hne (fun g q => (ho.lt g q).2)
 have hkk : ∀ (v2 : Value) (l2 : List Nat), KL .u64 W v2 l2 → Off v2 v.ownBlock → Off v2 (some Bo) → KL .u64 (w1.setCell ⟨Bo, 0, none⟩ (.slice (some ⟨g', 0, none⟩) (pre.length + 1) cap')) v2 l2 := fun v2 l2 h1 h2 h3 =>
  ((h1.keep hB1).grown hg h2).grown (grownBy_setCell' _ _ _) h3
 have hoff : ∀ (v2 : Value) (l2 : List Nat), KL .u64 W v2 l2 → 0 < l2.length → Off v2 v.ownBlock → Off v2 (Value.slice (some ⟨g', 0, none⟩) (pre.length + 1) cap').ownBlock := fun v2 l2 h1 h0 h2 => by
  rcases hl2 with e | e
  ·rw [e]; exact h2
  ·rw [e]
   intro g o m c e2 q
   obtain ⟨A5, cap5, e5, h5⟩ := h1
   obtain ⟨g5, off5, e6, h6, _⟩ := h5 h0
   rw [e5, e6] at e2
   simp only [Value.slice.injEq, Option.some.injEq, Addr.mk.injEq, and_true] at e2
   obtain ⟨⟨rfl, rfl⟩, rfl, rfl⟩ := e2
   simp at q
   omega
 refine ⟨v, g', cap', w1, hv, hrun, hv1, hv3, hk2, hb2, hkp, ⟨_, hv3, ?_, ?_⟩, fun h h2 h3 => ((h.alloc _).kept hg (h.not_row h3 hrow')).other h2 _⟩
 ·unfold OwnE
  rw [List.map_append, List.map_singleton, hlm]
  exact hr2
 ·intro y hy
  rw [List.mem_append, List.mem_singleton] at hy
  rcases hy with hy | rfl
  ·obtain ⟨k1, k0, k2, k3, k4⟩ := hk y hy
   exact ⟨k1, k0, hkk _ _ k2 k3 k4, hoff _ _ k2 k0 k3, k4⟩
  ·exact ⟨rfl, a0, hkk _ _ a1 a2 a3, hoff _ _ a1 a0 a2, a3⟩
theorem kp_new {n₀ Bo : Nat} {W : World} {o : Obj} (hn : n₀ ≤ W.heap.size) (hB : Bo < W.heap.size) : Kp n₀ Bo W (W.alloc o) := kp_of (bZ _ _) hn hB
theorem en_of {n₀ Bo : Nat} {pre : List Ev} {W : World} (h : DI n₀ Bo pre W) : ∃ v, Boxed W Bo 60 v ∧ EN W v (pre.map fun y => px y.1) := by
 obtain ⟨v, hv, hrow, hk⟩ := h
 refine ⟨v, hv, pre.map Prod.fst, hrow.el eS_len, fun x hx => ?_, by rw [List.map_map]; rfl⟩
 obtain ⟨y, hy, rfl⟩ := List.mem_map.1 hx
 exact (hk y hy).2.2.1
theorem pl_true : ∀ (ys : List Ev), (∀ y ∈ ys, y.2 = true) → none ∉ ys.map pl ∧ (ys.map pl).filterMap id = ys.map fun y => px y.1
 | [], _ => ⟨by simp, rfl⟩
 | y :: ys, h => by
   obtain ⟨h1, h2⟩ := pl_true ys (fun z hz => h z (by simp [hz]))
   have hy := h y (by simp)
   have e : pl y = some (px y.1) := by unfold pl; rw [if_pos hy]; rfl
   refine ⟨?_, ?_⟩
   ·rw [List.map_cons, e]
    simp only [List.mem_cons, not_or]
    exact ⟨by simp, h1⟩
   ·rw [List.map_cons, List.map_cons, e, List.filterMap_cons]
    simp only [id_eq]
    rw [h2]
theorem decL_t {gn : Nat} {ws : List Nat} {ys : List Ev} (h : ys.map pl = evs gn ws) (hy : ∀ y ∈ ys, y.2 = true) : decL gn ws = some (ys.map fun y => px y.1) := by
 obtain ⟨h1, h2⟩ := pl_true ys hy
 unfold decL
 rw [← h, if_neg h1, h2]
theorem decL_f {gn : Nat} {ws : List Nat} {pre : List Ev} (h : pre.map pl <+: evs gn ws) (hy : ∃ y ∈ pre, y.2 = false) : decL gn ws = none := by
 unfold decL
 rw [if_pos]
 obtain ⟨y, h1, h2⟩ := hy
 refine h.subset (List.mem_map.2 ⟨y, h1, ?_⟩)
 unfold pl
 rw [h2]
 rfl
end Go.Proofs.YtkdhdibjbabgfaaGreatDoor
end
