/-
  Part of the proof of JournalUndo.
-/
import Derived.Test.YtkkbngcgphlikaaGreatDoorJu6
import Derived.Test.YtkkbngcgphlikaaGreatDoorJu9
import Derived.Test.YtkkbngcgphlikaaGreatDoorRows
import Derived.LoopIn
import Derived.LoopNIn
import Derived.Shelf.RegionOpen
import Derived.Test.YtkkbngcgphlikaaGreatDoorJu0
set_option maxRecDepth 10000
set_option maxHeartbeats 1000000
set_option linter.unusedVariables false
set_option linter.unusedSimpArgs false
section
namespace Go.Proofs.YtkkbngcgphlikaaGreatDoor
open Go.RowKit Go.ChangeShapes Go.WideShapes Go.Deep Go.Shelf
attribute [local go_sem] Oper.semAt_some
abbrev Pe := Int × List Nat
abbrev Ev := Ex × Bool
def pl (x : Ev) : Option Pe := if x.2 then some (x.1.1, x.1.2.2) else none
def peN (ws : List Nat) : Pe := ((atN ws : Nat), (ws.drop 1).take (manyN ws))
def evsF (gn : Nat) : Nat → List Nat → List (Option Pe)
 | _, [] => []
 | 0, _ :: _ => []
 | f + 1, w :: ws => if tkB gn (w :: ws) then some (peN (w :: ws)) :: evsF gn f ((w :: ws).drop (manyN (w :: ws) + 2)) else [none]
theorem evsF_more (gn : Nat) : ∀ (f f' : Nat) (ws : List Nat), ws.length ≤ f → ws.length ≤ f' → evsF gn f ws = evsF gn f' ws
 | _, _, [], _, _ => by unfold evsF; rfl
 | 0, _, _ :: _, h, _ => by simp at h
 | _, 0, _ :: _, _, h => by simp at h
 | f + 1, f' + 1, w :: ws, h, h' => by
   unfold evsF
   simp only [List.length_cons] at h h'
   rw [evsF_more gn f f' _ (by rw [List.length_drop, List.length_cons]; omega) (by rw [List.length_drop, List.length_cons]; omega)]
def evs (gn : Nat) (ws : List Nat) : List (Option Pe) := evsF gn ws.length ws
theorem evs_nil (gn : Nat) : evs gn [] = [] := rfl
theorem evs_t {gn : Nat} {ws : List Nat} (h0 : 0 < ws.length) (h : tkB gn ws = true) : evs gn ws = some (peN ws) :: evs gn (ws.drop (manyN ws + 2)) := by
 cases ws with
 | nil => simp at h0
 | cons w ws =>
   unfold evs
   rw [List.length_cons]
   conv => lhs; unfold evsF
   rw [if_pos h]
   rw [evsF_more gn ws.length _ ((w :: ws).drop (manyN (w :: ws) + 2)) (by rw [List.length_drop, List.length_cons]; omega) (Nat.le_refl _)]
theorem evs_f {gn : Nat} {ws : List Nat} (h0 : 0 < ws.length) (h : tkB gn ws = false) : evs gn ws = [none] := by
 cases ws with
 | nil => simp at h0
 | cons w ws =>
   unfold evs
   rw [List.length_cons]
   unfold evsF
   rw [h]
   rfl
theorem take_f (gn : Nat) (v : Value) (ws : List Nat) (w : World) (hgn : gn < 18446744073709551616) (hv : KL .u64 w v ws) (hW : WL ws) (h0 : 0 < ws.length) (hlen : ws.length ≤ 800) (h : tkB gn ws = false) :
 Calls Tryz.prog 214 #[.int .u64 (gn : Nat), v] w fun e w' => e = .returned (.tuple #[.agg #[.int .i64 0, .slice none 0 0], .bool false]) ∧ Below w.heap.size w w' := by
 rcases tkB_f h with h1 | ⟨h1, h2⟩ | ⟨h1, h2, h3⟩ | ⟨h1, h2, h3, h4⟩
 ·exact take_A gn v ws w hgn hv hW h0 hlen h1
 ·exact take_B gn v ws w hgn hv hW h0 hlen h1 h2
 ·exact take_C gn v ws w hgn hv hW h0 hlen h1 h2 h3
 exact take_D gn v ws w hgn hv hW h0 hlen h1 h2 h3 h4
theorem Size_f (a : Int) (A : Option Addr) (m cap : Nat) (w : World) (hr : canB a m = true) : Calls Tryz.prog 215 #[.agg #[.int .i64 a, .slice A m cap]] w fun e w' => e = .returned (.int .i64 ((m + 2 : Nat) : Int)) ∧ Below w.heap.size w w' := by
 have hb0 : Below w.heap.size w (w.alloc (.cells #[.int .i64 a, .slice A m cap] (136 : Nat))) := bZ _ _
 have hR : ∀ w, Calls Tryz.prog 144 #[.agg #[.int .i64 a, .slice A m cap]] w fun e w' => e = .returned (.bool true) ∧ Below w.heap.size w w' := fun w => by
  have hC := can_any a m (w.alloc (.cells #[.int .i64 a, .slice A m cap] (136 : Nat)))
  rw [hr] at hC
  clear hr
  go_enter Tryz.func144, Tryz.ntmps144
  go_wp2_with (go_at_call 173; refine hC.mono ?_; rintro e w1 ⟨rfl, rfl⟩; clear hC)
  go_ret
  exact ⟨rfl, bZ _ _⟩
 replace hR := lh hR
 have hr2 := canB_iff.1 hr
 have hlen : m ≤ 4096 := by omega
 have kk : (w.alloc (.cells #[.int .i64 a, .slice A m cap] (136 : Nat))).cell? ⟨w.heap.size, 1, none⟩ = some (.slice A m cap) := by simp [go_sem]
 clear hr hr2
 go_enter Tryz.func215, Tryz.ntmps215
 go_wp2_with (go_at_call 144; refine (hR.out _).mono ?_; rintro e w1 ⟨rfl, hb⟩
              have k1 := (hb.cell (p := ⟨w.heap.size, 1, none⟩) (by simp)).trans kk)
 go_ret
 exact ⟨by simp, hb0.trans (hb.mono (by simp))⟩
def OwnAt (w : World) (Bo b : Nat) : Prop := ∃ v, w.cell? ⟨Bo, 0, none⟩ = some v ∧ v.ownBlock = some b
def OwnLt (w : World) (Bo : Nat) : Prop := ∀ b, OwnAt w Bo b → b < w.heap.size
theorem ownAt_keep {w w1 : World} {Bo b : Nat} (hb : Below w.heap.size w w1) (hl : Bo < w.heap.size) : OwnAt w1 Bo b ↔ OwnAt w Bo b := by
 unfold OwnAt
 rw [(bcell hb).1 Bo 0 hl]
def Kp (n₀ Bo : Nat) (X Y : World) : Prop := Below n₀ X Y ∧ (∀ b cs t f, X.heap[b]? = some (.cells cs t f) → b ≠ Bo → ¬ OwnAt X Bo b → Y.heap[b]? = X.heap[b]?) ∧ (∀ b, b < X.heap.size → OwnAt Y Bo b → OwnAt X Bo b) ∧ (OwnLt X Bo → OwnLt Y Bo)
theorem kp_t {n₀ Bo : Nat} {X Y Z : World} (h : Kp n₀ Bo X Y) (k : Kp n₀ Bo Y Z) : Kp n₀ Bo X Z :=
 ⟨h.1.trans k.1, fun b cs t f hb hne ho => by
   have h1 := h.2.1 b cs t f hb hne ho
   have hlt := (Array.getElem?_eq_some_iff.1 hb).1
   exact (k.2.1 b cs t f (h1.trans hb) hne (fun q => ho (h.2.2.1 b hlt q))).trans h1,
  fun b hlt q => h.2.2.1 b hlt (k.2.2.1 b (Nat.lt_of_lt_of_le hlt h.1.size) q), fun q => k.2.2.2 (h.2.2.2 q)⟩
theorem kp_b {n₀ Bo : Nat} {w : World} (hn : n₀ ≤ w.heap.size) (hB : Bo < w.heap.size) (W : World) (l : Nat) (o o' : Obj) (hl : w.heap.size ≤ l) (h : W.heap[l]? = some o) (h1 : o.isCells = false) (h2 : o.isWalk = false) : Kp n₀ Bo W (W.putObj l o') := by
 have hg := grownBy_putObj' W l o'
 have hlt := (Array.getElem?_eq_some_iff.1 h).1
 have hc : (W.putObj l o').cell? ⟨Bo, 0, none⟩ = W.cell? ⟨Bo, 0, none⟩ := World.cell?_of_block (hg.block Bo (by omega) (fun e => by cases e; omega))
 have ho : ∀ b, OwnAt (W.putObj l o') Bo b ↔ OwnAt W Bo b := fun b => by unfold OwnAt; rw [hc]
 refine ⟨belowK_b hn W l o o' hl h h1 h2, fun b cs t f hb hne _ => hg.block b (Array.getElem?_eq_some_iff.1 hb).1 (fun e => ?_), fun b _ q => (ho b).1 q, fun q b hb => Nat.lt_of_lt_of_le (q b ((ho b).1 hb)) hg.size⟩
 cases e
 rw [hb] at h
 cases h
 simp [Obj.isCells] at h1
theorem kp_of {n₀ Bo : Nat} {X Y : World} (h : Below X.heap.size X Y) (hn : n₀ ≤ X.heap.size) (hB : Bo < X.heap.size) : Kp n₀ Bo X Y :=
 ⟨h.mono hn, fun b cs t f hb _ _ => h.block b (Array.getElem?_eq_some_iff.1 hb).1, fun b _ q => (ownAt_keep h hB).1 q, fun q b hb => Nat.lt_of_lt_of_le (q b ((ownAt_keep h hB).1 hb)) h.size⟩
def Bk (w : World) (g : Nat) (x y : Value) : Prop := w.heap[g]? = some (.cells #[x, y] 136 (0, 0))
theorem Bk.c2 {w : World} {g : Nat} {x y : Value} (h : Bk w g x y) : C2 w g x y := ⟨(row_cell h 0).1, (row_cell h 1).1⟩
theorem Bk.lt {w : World} {g : Nat} {x y : Value} (h : Bk w g x y) : g < w.heap.size := (Array.getElem?_eq_some_iff.1 h).1
theorem Bk.keep {w w1 : World} {g : Nat} {x y : Value} (h : Bk w g x y) (hb : Below w.heap.size w w1) : Bk w1 g x y := (hb.block g h.lt).trans h
theorem Bk.kp {w w1 : World} {n₀ Bo g : Nat} {x y : Value} (h : Bk w g x y) (hk : Kp n₀ Bo w w1) (hne : g ≠ Bo) (ho : ¬ OwnAt w Bo g) : Bk w1 g x y := (hk.2.1 g _ _ _ h hne ho).trans h
theorem Bk.new (w : World) (x y : Value) : Bk (w.alloc (.cells #[x, y] 136)) w.heap.size x y := World.alloc_heap_new w _
theorem bx_kp {w w1 : World} {n₀ Bo g : Nat} {t : TypeId} {x : Value} (h : Boxed w g t x) (hk : Kp n₀ Bo w w1) (hne : g ≠ Bo) (ho : ¬ OwnAt w Bo g) : Boxed w1 g t x := (hk.2.1 g _ _ _ h hne ho).trans h
theorem bx_keep {w w1 : World} {g : Nat} {t : TypeId} {x : Value} (h : Boxed w g t x) (hb : Below w.heap.size w w1) : Boxed w1 g t x := (hb.block g h.lt).trans h
structure Mk (n₀ Bo Bs gn : Nat) (W : World) (J : List Ev → World → Prop) (pre : List Ev) (w : World) : Prop where
 B : Below n₀ W w
 j : J pre w
 J : ∀ W1 W2, J pre W1 → Below W1.heap.size W1 W2 → J pre W2
 n : n₀ ≤ W.heap.size
 o : Bo < w.heap.size
 lt : OwnLt w Bo
 s : Boxed w Bs 40 (.int .u64 (gn : Nat))
 ne : Bs ≠ Bo
 no : ¬ OwnAt w Bo Bs
theorem Mk.keep {n₀ Bo Bs gn : Nat} {W w w1 : World} {J : List Ev → World → Prop} {pre : List Ev} (h : Mk n₀ Bo Bs gn W J pre w) (hb : Below w.heap.size w w1) : Mk n₀ Bo Bs gn W J pre w1 :=
 ⟨h.B.trans (hb.mono (Nat.le_trans h.n h.B.size)), h.J _ _ h.j hb, h.J, h.n, Nat.lt_of_lt_of_le h.o hb.size, fun b q => Nat.lt_of_lt_of_le (h.lt b ((ownAt_keep hb h.o).1 q)) hb.size, bx_keep h.s hb, h.ne, fun q => h.no ((ownAt_keep hb h.o).1 q)⟩
theorem Mk.kp {n₀ Bo Bs gn : Nat} {W w w1 : World} {J : List Ev → World → Prop} {pre pre' : List Ev} (h : Mk n₀ Bo Bs gn W J pre w) (hk : Kp n₀ Bo w w1) (hj : J pre' w1) (hJ : ∀ W1 W2, J pre' W1 → Below W1.heap.size W1 W2 → J pre' W2) : Mk n₀ Bo Bs gn W J pre' w1 :=
 ⟨h.B.trans hk.1, hj, hJ, h.n, Nat.lt_of_lt_of_le h.o hk.1.size, hk.2.2.2 h.lt, bx_kp h.s hk h.ne h.no, h.ne, fun q => h.no (hk.2.2.1 Bs h.s.lt q)⟩
theorem Mk.new {n₀ Bo Bs g gn : Nat} {W w : World} {J : List Ev → World → Prop} {pre : List Ev} (h : Mk n₀ Bo Bs gn W J pre w) (hg : w.heap.size ≤ g) : g ≠ Bo ∧ ¬ OwnAt w Bo g :=
 ⟨fun e => by have := h.o; omega, fun q => by have := h.lt g q; omega⟩
def TE (Bo : Nat) (y : Ev) (W : World) : Prop := (∃ A m c, y.1.2.1 = .slice A m c) ∧ (y.2 = true → 0 < y.1.2.2.length ∧ KL .u64 W y.1.2.1 y.1.2.2 ∧ ∀ g o m c, y.1.2.1 = .slice (some ⟨g, o, none⟩) m c → g ≠ Bo ∧ ¬ OwnAt W Bo g)
def lenV : Value → Nat
 | .slice _ n _ => n
 | _ => 0
theorem ents1_in (n : Nat) (hn : 1 ≤ n) (l Bo Bg Bw n₀ gn : Nat) (v : Value) (ws : List Nat) (hW : WL ws) (hlen : ws.length ≤ 800) (hgn : gn < 18446744073709551616) (J Jx : List Ev → World → Prop)
 (hJ : ∀ pre W1 W2, J pre W1 → Below W1.heap.size W1 W2 → J pre W2)
 (hY : ∀ pre (y : Ev) W, J pre W → TE Bo y W → pre.length < (evs gn ws).length → YieldAt Fence.wide (n - 1) Tryz.prog l #[.agg #[.int .i64 y.1.1, y.1.2.1], .bool y.2] W fun e W' =>
   (e = .returned (.bool true) ∧ J (pre ++ [y]) W' ∧ Kp n₀ Bo W W') ∨ (e = .returned (.bool false) ∧ Jx (pre ++ [y]) W'))
 (W : World) (hBo : Bo < W.heap.size) (hOl : OwnLt W Bo) (hBg : Boxed W Bg 40 (.int .u64 (gn : Nat))) (hne : Bg ≠ Bo) (hno : ¬ OwnAt W Bo Bg) (hBw : W.cell? ⟨Bw, 0, none⟩ = some v) (hn₀ : n₀ ≤ W.heap.size)
 (hC : ∀ w1, Below n₀ W w1 → KL .u64 w1 v ws) (h0 : J [] W) :
 CallsIn Fence.wide n Tryz.prog 213 #[.func (.yield l) #[] #[], .pointer (some ⟨Bw, 0, none⟩), .pointer (some ⟨Bg, 0, none⟩)] W fun e W' => (∃ v, e = .returned v) ∧
  ((∃ ys, ys.map pl = evs gn ws ∧ J ys W') ∨ (∃ pre, pre.map pl <+: evs gn ws ∧ Jx pre W')) := by
 obtain ⟨N, hN⟩ : ∃ N, ws.length = N := ⟨_, rfl⟩
 obtain ⟨A, cap, rfl, _⟩ := (hC W (Below.refl _ _)).form hN
 have hM0 : evs gn ws = ([] : List Ev).map pl ++ evs gn ws := rfl
 obtain ⟨i0, hi, hz0, hz1, hz2⟩ := info_parts infoU64
 obtain ⟨M, hMM⟩ : ∃ M, evs gn ws = M := ⟨_, rfl⟩
 rw [hMM] at hY ⊢
 replace hMM := lh hMM
 replace hM0 := lh hM0
 replace hC := lh hC
 replace hJ := lh hJ
 replace hY := lh hY
 have hmk : Mk n₀ Bo Bg gn W J [] W := ⟨Below.refl _ _, h0, hJ.out [], hn₀, hBo, hOl, hBg, hne, hno⟩
 clear h0
 refine callsIn_of_wp Tryz.func213 rfl trivial ?_ rfl
 simp only [Tryz.ntmps213, List.size_toArray, List.length_cons, List.length_nil, Nat.reduceAdd, Nat.reduceSub, Array.replicate_succ, Array.replicate_zero, List.push_toArray, List.append_toArray, List.nil_append, List.cons_append]
 gi_wp2
 gi_loopw [4] (fun x wr => ∃ (m : Nat) (A : Option Addr) (cap : Nat) (rs : List Nat) (pre : List Ev), x = .slice A m cap ∧ m ≤ 800 ∧ Hid (rs.length = m) ∧ Hid (WL rs) ∧ Hid (∀ w1, Below n₀ W w1 → KL .u64 w1 (.slice A m cap) rs) ∧ Hid (M = pre.map pl ++ evs gn rs) ∧ Mk n₀ Bo Bg gn W J pre wr)
  (fun x wr => lenV x)
 case atStart =>
  exact ⟨N, A, cap, ws, [], rfl, by omega, hN, hW, hC, by rw [← hMM.out]; exact hM0.out, hmk⟩
 obtain ⟨m, A, cap, rs, pre, rfl, hm8, hrl, hWr, hK, hM, hmr⟩ := hrel
 have hrl' := hrl.out
 clear hmk hM0 hBg hOl hno hBw hC hN hW hMM hlen
 by_cases hlt : 0 < m
 rotate_left
 ·obtain rfl : m = 0 := by omega
  have hMe := lh (show pre.map pl = M from by rw [hM.out, List.eq_nil_of_length_eq_zero hrl.out, evs_nil, List.append_nil])
  gi_wp2
  go_end0
  exact ⟨⟨_, rfl⟩, .inl ⟨pre, hMe.out, hmr.j⟩⟩
 have hlt' : (0 : Int) < (m : Int) := by omega
 have s0 := hmr.s.cell
 cases htk : tkB gn rs with
 | true =>
   obtain ⟨t1, t2, t3, t4⟩ := tkB_t htk
   have hTk := take_E gn (.slice A m cap) rs wr hgn (hK.out wr hmr.B) hWr.out (by omega) (by omega) t1 t2 t3 t4
   have hMe := lh (show M = pre.map pl ++ some (peN rs) :: evs gn (rs.drop (manyN rs + 2)) from by rw [hM.out, evs_t (by omega) htk])
   have hSz := lh (fun A c w => Size_f (atN rs) A (manyN rs) c w t1)
   have hK2 := lh (fun w1 (hb : Below n₀ W w1) => (hK.out w1 hb).drop (manyN rs + 2) (by omega))
   have hsl := run_slice_from (P := Tryz.prog) (ty := 25) Tryz.underlying25 hi hz1 A m cap (manyN rs + 2) (by omega)
   have hlen2 := lh (show (rs.drop (manyN rs + 2)).length = m - (manyN rs + 2) from by rw [List.length_drop]; omega)
   have hW2 := lh (show WL (rs.drop (manyN rs + 2)) from fun y hy => hWr.out y (List.mem_of_mem_drop hy))
   have hos := lh (show 0 < ((rs.drop 1).take (manyN rs)).length from by rw [List.length_take, List.length_drop]; have := canB_iff.1 t1; omega)
   have hpe := lh (show peN rs = (((atN rs : Nat) : Int), (rs.drop 1).take (manyN rs)) from rfl)
   generalize peN rs = pe at *
   generalize (rs.drop 1).take (manyN rs) = os at *
   have ht3 : manyN rs + 2 ≤ m := by omega
   have hz : 1 ≤ manyN rs + 2 := by omega
   generalize atN rs = a at *
   generalize manyN rs = mm at *
   generalize mm + 2 = z at *
   generalize (if cap = z then A else Option.map (fun x => x.add (z * 1)) A) = A' at *
   generalize cap - z = cap' at *
   have hmz : m - z < m := by omega
   generalize m - z = m' at *
   generalize rs.drop z = rs' at *
   clear t1 t2 t3 t4 htk hM hWr hK hrl hrl'
   gi_wp2
   refine ⟨trivial, (callsIn_wide.2 hTk).mono ?_⟩
   rintro e w1 ⟨v2, rfl, hKo, ⟨g, o, c, rfl, hg⟩, hb⟩
   obtain ⟨hgn1, hgn2⟩ := hmr.new hg
   have hM1 := hmr.keep hb
   have hB2 : Below w1.heap.size w1 (w1.alloc (.cells #[.int .i64 (a : Nat), .slice (some ⟨g, o, none⟩) mm c] 136)) := bZ _ _
   have hM2 := hM1.keep hB2
   have hX := Bk.new w1 (.int .i64 (a : Nat)) (.slice (some ⟨g, o, none⟩) mm c)
   obtain ⟨hxn, hxo⟩ := hM1.new (Nat.le_refl w1.heap.size)
   have hxo2 : ¬ OwnAt (w1.alloc (.cells #[.int .i64 (a : Nat), .slice (some ⟨g, o, none⟩) mm c] 136)) Bo w1.heap.size := fun q => hxo ((ownAt_keep hB2 hM1.o).1 q)
   have hTE : TE Bo ((((a : Nat) : Int), Value.slice (some ⟨g, o, none⟩) mm c, os), true) (w1.alloc (.cells #[.int .i64 (a : Nat), .slice (some ⟨g, o, none⟩) mm c] 136)) := ⟨⟨_, _, _, rfl⟩, fun _ => ⟨hos.out, hKo.keep hB2, fun g' o' m' c' e => by
    simp only [Value.slice.injEq, Option.some.injEq, Addr.mk.injEq, and_true] at e
    obtain ⟨⟨rfl, rfl⟩, rfl, rfl⟩ := e
    exact ⟨hgn1, fun q => hgn2 ((ownAt_keep hb hmr.o).1 ((ownAt_keep hB2 hM1.o).1 q))⟩⟩⟩
   have hadd := lh (show M = (pre ++ [((((a : Nat) : Int), Value.slice (some ⟨g, o, none⟩) mm c, os), true)]).map pl ++ evs gn rs' from by rw [hMe.out, hpe.out]; simp [pl])
   obtain ⟨fn, tmps, assign, body, hy, hR⟩ := hY.out pre ((((a : Nat) : Int), Value.slice (some ⟨g, o, none⟩) mm c, os), true) _ hM2.j hTE (by rw [hMe.out]; simp)
   obtain ⟨x0, x1⟩ := hX.c2
   dsimp only at hy
   clear hTk hTE hMe hxo hgn1 hgn2 hg hb hB2 hKo hM1 hmr
   gi_wp2
   refine hR.mono ?_
   rintro e W3 (⟨rfl, hJ3, hk3⟩ | ⟨rfl, hJx3⟩)
   rotate_left
   ·gi_wp2
    refine bodyPost_ret (results_none rfl _ _ _) rfl ?_
    exact ⟨⟨_, rfl⟩, .inr ⟨_, by rw [hadd.out]; exact List.prefix_append _ _, hJx3⟩⟩
   have hM3 := hM2.kp hk3 hJ3 (hJ.out _)
   have hX3 := hX.kp hk3 hxn hxo2
   clear x0 x1 s0 hM2 hX hk3 hJ3 hxo2 hxn hy hR
   obtain ⟨x0, x1⟩ := hX3.c2
   gi_wp2
   refine ⟨trivial, (callsIn_wide.2 (hSz.out _ _ _)).mono ?_⟩
   rintro e w9 ⟨rfl, hb9⟩
   have hM9 := hM3.keep hb9
   clear hM3 hX3 x0 x1 hb9
   gi_wp2
   go_roundw
   case rel => exact ⟨m', A', cap', rs', _, rfl, by omega, hlen2, hW2, hK2, hadd, hM9⟩
   exact hmz
 | false =>
   have hTk := take_f gn (.slice A m cap) rs wr hgn (hK.out wr hmr.B) hWr.out (by omega) (by omega) htk
   have hMe := lh (show M = pre.map pl ++ [none] from by rw [hM.out, evs_f (by omega) htk])
   clear htk hM hWr hK hrl hrl'
   gi_wp2
   refine ⟨trivial, (callsIn_wide.2 hTk).mono ?_⟩
   rintro e w1 ⟨rfl, hb⟩
   have hM1 := hmr.keep hb
   have hM2 := hM1.keep (w1 := w1.alloc (.cells #[.int .i64 0, .slice none 0 0] 136)) (bZ _ _)
   have hX := Bk.new w1 (.int .i64 0) (.slice none 0 0)
   have hTE : TE Bo (((0 : Int), Value.slice none 0 0, ([] : List Nat)), false) (w1.alloc (.cells #[.int .i64 0, .slice none 0 0] 136)) := ⟨⟨_, _, _, rfl⟩, fun h => by cases h⟩
   have hadd := lh (show (pre ++ [(((0 : Int), Value.slice none 0 0, ([] : List Nat)), false)]).map pl = M from by rw [hMe.out]; simp [pl])
   obtain ⟨fn, tmps, assign, body, hy, hR⟩ := hY.out pre (((0 : Int), Value.slice none 0 0, ([] : List Nat)), false) _ hM2.j hTE (by rw [hMe.out]; simp)
   obtain ⟨x0, x1⟩ := hX.c2
   dsimp only at hy
   clear hTk hTE hMe hb hM1 hmr
   gi_wp2
   refine hR.mono ?_
   rintro e W3 (⟨rfl, hJ3, hk3⟩ | ⟨rfl, hJx3⟩)
   ·gi_wp2
    refine bodyPost_ret (results_none rfl _ _ _) rfl ?_
    exact ⟨⟨_, rfl⟩, .inl ⟨_, hadd.out, hJ3⟩⟩
   gi_wp2
   refine bodyPost_ret (results_none rfl _ _ _) rfl ?_
   exact ⟨⟨_, rfl⟩, .inr ⟨_, by rw [hadd.out]; exact List.prefix_refl _, hJx3⟩⟩
theorem entries_in (n : Nat) (gn : Nat) (A : Option Addr) (N cap : Nat) (w : World) :
 CallsIn Fence.wide n Tryz.prog 198 #[.int .u64 (gn : Nat), .slice A N cap] w fun e w' => e = .returned (.func (.func 213) #[] #[.pointer (some ⟨w.heap.size + 1, 0, none⟩), .pointer (some ⟨w.heap.size, 0, none⟩)]) ∧ (w.alloc (.cells #[.int .u64 (gn : Nat)] 40)).alloc (.cells #[.slice A N cap] 25) = w' := by
 refine callsIn_wide.2 ?_
 go_enter Tryz.func198, Tryz.ntmps198
 go_wp2
 go_ret
 exact ⟨rfl, rfl⟩
theorem abides_below {J : List Ev → World → Prop} {B : Nat} (h : AbidesFrom B J) : ∀ pre W1 W2, J pre W1 → Below W1.heap.size W1 W2 → J pre W2 := fun pre W1 W2 hj hb =>
 h pre W1 W2 none hj ⟨hb.os, hb.tape, hb.output, hb.size, fun k hk _ => hb.block k hk⟩ (fun r e => by cases e)
theorem ents_told (n : Nat) (hn : 1 ≤ n) (Bo Bg Bw n₀ gn : Nat) (v : Value) (ws : List Nat) (hW : WL ws) (hlen : ws.length ≤ 800) (hgn : gn < 18446744073709551616)
 (w : World) (hBo : Bo < w.heap.size) (hOl : OwnLt w Bo) (hBg : Boxed w Bg 40 (.int .u64 (gn : Nat))) (hne : Bg ≠ Bo) (hno : ¬ OwnAt w Bo Bg) (hBw : w.cell? ⟨Bw, 0, none⟩ = some v) (hBw2 : Bw < w.heap.size) (hn₀ : n₀ ≤ w.heap.size)
 (hC : ∀ w1, Below n₀ w w1 → KL .u64 w1 v ws) :
 SeqTold Fence.wide n Tryz.prog 213 #[.pointer (some ⟨Bw, 0, none⟩), .pointer (some ⟨Bg, 0, none⟩)] (fun y : Ev => #[.agg #[.int .i64 y.1.1, y.1.2.1], .bool y.2]) (Kp n₀ Bo) (TE Bo) (fun ys => ys.map pl = evs gn ws) (fun pre => pre.map pl <+: evs gn ws) (evs gn ws).length w := fun l J Jx W hb hJ _ hY h0 =>
 ents1_in n hn l Bo Bg Bw n₀ gn v ws hW hlen hgn J Jx (abides_below hJ) hY W (Nat.lt_of_lt_of_le hBo hb.size) (fun b q => Nat.lt_of_lt_of_le (hOl b ((ownAt_keep hb hBo).1 q)) hb.size) (bx_keep hBg hb) hne (fun q => hno ((ownAt_keep hb hBo).1 q)) ((hb.cell (p := ⟨Bw, 0, none⟩) hBw2).trans hBw) (Nat.le_trans hn₀ hb.size) (fun w1 hb1 => hC w1 ((hb.mono hn₀).trans hb1)) h0
end Go.Proofs.YtkkbngcgphlikaaGreatDoor
end
section
namespace Go.Proofs.YtkkbngcgphlikaaGreatDoor
open Go.RowKit
def gOk (W L : Int) : Bool := decide (1 ≤ L ∧ L ≤ 64 ∧ W ≤ 65536 ∧ 43 + 73 * L ≤ W)
def gN (W L : Int) : Int := (W - (10 + 73 * L)) / 33
theorem gOk_t {W L : Int} (h : gOk W L = true) : 1 ≤ L ∧ L ≤ 64 ∧ W ≤ 65536 ∧ 43 + 73 * L ≤ W := of_decide_eq_true h
theorem gOk_f {W L : Int} (h : gOk W L = false) : ¬ (1 ≤ L ∧ L ≤ 64 ∧ W ≤ 65536 ∧ 43 + 73 * L ≤ W) := of_decide_eq_false h
theorem gN_bd {W L : Int} (h : gOk W L = true) : 1 ≤ gN W L ∧ gN W L ≤ 2000 ∧ 33 * gN W L ≤ W - (10 + 73 * L) ∧ W - (10 + 73 * L) ≤ 33 * gN W L + 32 := by
 have := gOk_t h
 unfold gN; omega
theorem tdiv33_bd (x : Int) (h0 : -100000 ≤ x) (h1 : x ≤ 100000) : -100000 ≤ x.tdiv 33 ∧ x.tdiv 33 ≤ 100000 ∧ (33 ≤ x → 1 ≤ x.tdiv 33) ∧ (x < 33 → x.tdiv 33 < 1) := by
 rcases Int.le_total 0 x with h | h
 ·rw [Int.tdiv_eq_ediv_of_nonneg h]; omega
 obtain ⟨y, rfl⟩ : ∃ y, x = -y := ⟨-x, by omega⟩
 rw [Int.neg_tdiv, Int.tdiv_eq_ediv_of_nonneg (by omega)]; omega
theorem lane_any (W L i : Int) (w : World) (h1 : 1 ≤ L) (h2 : L ≤ 64) (h3 : 0 ≤ i) (h4 : i ≤ 64) :
 Calls Tryz.prog 160 #[.agg #[.int .i64 W, .int .i64 L], .int .i64 i] w fun e w' => e = .returned (.int .i64 (10 + L + i * 72)) ∧ Below w.heap.size w w' := by
 go_enter Tryz.func160, Tryz.ntmps160
 go_wp2
 go_ret
 exact ⟨rfl, by go_grown⟩
theorem table_any (W L : Int) (w : World) (h1 : 1 ≤ L) (h2 : L ≤ 64) :
 Calls Tryz.prog 132 #[.agg #[.int .i64 W, .int .i64 L]] w fun e w' => e = .returned (.int .i64 (10 + 73 * L)) ∧ Below w.heap.size w w' := by
 go_enter Tryz.func132, Tryz.ntmps132
 go_wp2_with fail
 refine (lane_any W L L _ h1 h2 (by omega) (by omega)).mono ?_
 rintro e w1 ⟨rfl, hb⟩
 go_wp2_with fail
 go_ret
 exact ⟨ret_i (by omega), (bZ _ _).trans (hb.mono (by simp))⟩
theorem room_any (W L : Int) (w : World) (h1 : 1 ≤ L) (h2 : L ≤ 64) (h3 : 1 ≤ W) (h4 : W ≤ 65536) :
 Calls Tryz.prog 133 #[.agg #[.int .i64 W, .int .i64 L]] w fun e w' => e = .returned (.int .i64 ((W - (10 + 73 * L)).tdiv 33)) ∧ Below w.heap.size w w' := by
 go_enter Tryz.func133, Tryz.ntmps133
 go_wp2
 go_region_held3 (fun w' => w'.cell? ⟨w.heap.size, 0, none⟩ = some (.int .i64 W) ∧ w'.cell? ⟨w.heap.size, 1, none⟩ = some (.int .i64 L) ∧ w.heap.size < w'.heap.size ∧ Below w.heap.size w w')
  (((try go_split_ands); refine ⟨?_, ?_, ?_, ?_⟩ <;> first
    | (rw [hb.cell (by assumption)]; assumption) | assumption | (have := hb.size; omega) | (exact Below.trans (by assumption) (hb.mono (Nat.le_of_lt (by assumption))))
    | (go_keep; done) | (go_grown; done)))
  ((go_at_call 132; refine (table_any W L _ h1 h2).mono ?_; rintro e w6 ⟨rfl, hb⟩))
 go_wp2
 go_ret
 go_split_ands
 refine ⟨ret_i ?_, by assumption⟩
 have hb := tdiv33_bd (W - (10 + 73 * L)) (by omega) (by omega)
 rw [IntWalk.i64_in (W - (10 + 73 * L)) ⟨by omega, by omega⟩, IntWalk.i64_in _ ⟨by omega, by omega⟩]
theorem right_t (W L : Int) (w : World) (h : gOk W L = true) :
 Calls Tryz.prog 131 #[.agg #[.int .i64 W, .int .i64 L]] w fun e w' => e = .returned (.bool true) ∧ Below w.heap.size w w' := by
 obtain ⟨h1, h2, h3, h4⟩ := gOk_t h
 clear h
 have hd : 1 ≤ (W - (10 + 73 * L)).tdiv 33 := (tdiv33_bd (W - (10 + 73 * L)) (by omega) (by omega)).2.2.1 (by omega)
 go_enter Tryz.func131, Tryz.ntmps131
 go_wp2_with fail
 refine (room_any W L _ h1 h2 (by omega) h3).mono ?_
 rintro e w1 ⟨rfl, hb⟩
 go_wp2_with fail
 go_ret
 exact ⟨rfl, (bZ _ _).trans (hb.mono (by simp))⟩
theorem right_f (W L : Int) (w : World) (h : gOk W L = false) :
 Calls Tryz.prog 131 #[.agg #[.int .i64 W, .int .i64 L]] w fun e w' => e = .returned (.bool false) ∧ Below w.heap.size w w' := by
 have h1 := gOk_f h
 clear h
 by_cases a1 : L < 1
 ·clear h1
  go_enter Tryz.func131, Tryz.ntmps131
  go_wp2
  go_ret
  exact ⟨rfl, by go_grown⟩
 by_cases a2 : 64 < L
 ·clear h1
  go_enter Tryz.func131, Tryz.ntmps131
  go_wp2
  go_ret
  exact ⟨rfl, by go_grown⟩
 by_cases a3 : W < 1
 ·clear h1
  go_enter Tryz.func131, Tryz.ntmps131
  go_wp2
  go_ret
  exact ⟨rfl, by go_grown⟩
 by_cases a4 : 65536 < W
 ·clear h1
  go_enter Tryz.func131, Tryz.ntmps131
  go_wp2
  go_ret
  exact ⟨rfl, by go_grown⟩
 have hd : (W - (10 + 73 * L)).tdiv 33 < 1 := (tdiv33_bd (W - (10 + 73 * L)) (by omega) (by omega)).2.2.2 (by omega)
 clear h1
 go_enter Tryz.func131, Tryz.ntmps131
 go_wp2_with fail
 refine (room_any W L _ (by omega) (by omega) (by omega) (by omega)).mono ?_
 rintro e w1 ⟨rfl, hb⟩
 go_wp2_with fail
 go_ret
 exact ⟨ret_b (by simp; omega), (bZ _ _).trans (hb.mono (by simp))⟩
end Go.Proofs.YtkkbngcgphlikaaGreatDoor
end
section
set_option maxRecDepth 100000
namespace Go.Proofs.YtkkbngcgphlikaaGreatDoor
open Go.RowKit
theorem hd_t {t s n : Int} : hdB t s n = true ↔ (1 ≤ t ∧ t ≤ 65535 ∧ 0 ≤ s ∧ s ≤ 4096 ∧ ¬ n = 0) := by unfold hdB; rw [decide_eq_true_eq]
theorem hd_f {t s n : Int} (h : ¬ (1 ≤ t ∧ t ≤ 65535 ∧ 0 ≤ s ∧ s ≤ 4096 ∧ ¬ n = 0)) : hdB t s n = false := decide_eq_false h
theorem refRight_any_oc (t s n : Int) (w : World) (hn : 0 ≤ n) : Calls Tryz.prog 109 #[nV t s n] w fun e w' => e = .returned (.bool (hdB t s n)) ∧ Below w.heap.size w w' := by
 unfold nV
 by_cases k1 : 1 ≤ t
 rotate_left
 ·rw [hd_f (by omega)]
  have j1 : ¬ (t > 0) := by omega
  go_enter Tryz.func109, Tryz.ntmps109
  go_wp2_with fail
  go_ret
  exact ⟨rfl, by go_grown⟩
 by_cases k2 : t ≤ 65535
 rotate_left
 ·rw [hd_f (by omega)]
  have j1 : t > 0 := by omega
  have j2 : ¬ (t < 65536) := by omega
  go_enter Tryz.func109, Tryz.ntmps109
  go_wp2_with fail
  go_ret
  exact ⟨rfl, by go_grown⟩
 by_cases k3 : 0 ≤ s
 rotate_left
 ·rw [hd_f (by omega)]
  have j1 : t > 0 := by omega
  have j2 : t < 65536 := by omega
  have k3' : s < 0 := by omega
  go_enter Tryz.func109, Tryz.ntmps109
  go_wp2_with fail
  go_ret
  exact ⟨rfl, by go_grown⟩
 by_cases k4 : s ≤ 4096
 rotate_left
 ·rw [hd_f (by omega)]
  have j1 : t > 0 := by omega
  have j2 : t < 65536 := by omega
  have k4' : 4096 < s := by omega
  go_enter Tryz.func109, Tryz.ntmps109
  go_wp2_with fail
  go_ret
  exact ⟨rfl, by go_grown⟩
 by_cases k5 : n = 0
 ·rw [hd_f (by omega)]
  subst k5
  clear hn
  have j1 : t > 0 := by omega
  have j2 : t < 65536 := by omega
  go_enter Tryz.func109, Tryz.ntmps109
  go_wp2_with fail
  go_ret
  exact ⟨rfl, by go_grown⟩
 rw [hd_t.2 ⟨k1, k2, k3, k4, k5⟩]
 have j1 : t > 0 := by omega
 have j2 : t < 65536 := by omega
 have j5 : 0 < n := by omega
 go_enter Tryz.func109, Tryz.ntmps109
 go_wp2_with fail
 go_ret
 exact ⟨by first | rfl | (refine ret_b ?_; first | (simp; omega) | (simp [k5]; done)), by go_grown⟩
end Go.Proofs.YtkkbngcgphlikaaGreatDoor
end
