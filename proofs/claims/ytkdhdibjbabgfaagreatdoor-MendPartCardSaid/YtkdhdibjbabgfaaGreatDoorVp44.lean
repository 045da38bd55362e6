/-
  Part of the proof of MendPart.
-/
import Derived.Test.YtkdhdibjbabgfaaGreatDoorVp40
import Derived.Test.YtkdhdibjbabgfaaGreatDoorVp43
import Derived.Test.YtkdhdibjbabgfaaGreatDoorVp0
set_option maxRecDepth 10000
set_option maxHeartbeats 1000000
set_option linter.unusedVariables false
set_option linter.unusedSimpArgs false
section
namespace Go.Proofs.YtkdhdibjbabgfaaGreatDoor
open Go.Lib Go.RowKit Go.ChangeShapes Go.WideShapes Go.Deep Go.Shelf
attribute [local go_sem] Oper.semAt_some
theorem HB.kp {w w1 : World} {n₀ Bo b : Nat} {cs : Array Value} {t : TypeId} (h : HB w b cs t) (hk : Kp n₀ Bo w w1) (hne : b ≠ Bo) (ho : ¬ OwnAt w Bo b) : HB w1 b cs t := (hk.2.1 b _ _ _ h hne ho).trans h
abbrev Lx := Value × Option (List Ox)
def lanesS (I : List Nat) (L k : Nat) : List (Option (List Ox)) := (List.range k).map (laneD I L)
theorem lanesS_succ (I : List Nat) (L k : Nat) : lanesS I L (k + 1) = lanesS I L k ++ [laneD I L k] := by unfold lanesS; rw [List.range_succ, List.map_append]; rfl
theorem lanesS_pre (I : List Nat) (L k : Nat) (h : k ≤ L) : lanesS I L k <+: lanesS I L L := by
 unfold lanesS
 have : List.range k = (List.range L).take k := by rw [List.take_range, Nat.min_eq_left h]
 rw [this, List.map_take]
 exact List.take_prefix _ _
theorem lanesS_len (I : List Nat) (L k : Nat) : (lanesS I L k).length = k := by unfold lanesS; simp
theorem lanesD_t {I : List Nat} {L : Nat} : ∀ (k : Nat), (∀ o ∈ lanesS I L k, o.isSome = true) → lanesD I L k = some ((lanesS I L k).flatMap fun o => o.getD [])
 | 0, _ => rfl
 | k + 1, h => by
   rw [lanesS_succ] at h ⊢
   have ih := lanesD_t k (fun o ho => h o (List.mem_append_left _ ho))
   have hk := h _ (List.mem_append_right _ (List.mem_singleton.2 rfl))
   unfold lanesD
   rw [ih]
   cases hl : laneD I L k with
   | none => rw [hl] at hk; cases hk
   | some b => simp
theorem lanesD_f {I : List Nat} {L : Nat} : ∀ (k : Nat), none ∈ lanesS I L k → lanesD I L k = none
 | 0, h => by unfold lanesS at h; simp at h
 | k + 1, h => by
   rw [lanesS_succ] at h
   unfold lanesD
   rcases List.mem_append.1 h with h | h
   ·rw [lanesD_f k h]
   ·rw [List.mem_singleton] at h
    rw [← h]
    split
    ·rename_i h1; cases h1
    ·rfl
theorem evsF_sum (gn : Nat) : ∀ (f : Nat) (ws : List Nat), (((evsF gn f ws).filterMap id).map fun x => x.2.length).sum ≤ ws.length
 | _, [] => by unfold evsF; simp
 | 0, _ :: _ => by unfold evsF; simp
 | f + 1, w :: ws => by
   unfold evsF
   split
   ·rename_i ht
    obtain ⟨h1, h2, h3, h4⟩ := tkB_t ht
    have ih := evsF_sum gn f ((w :: ws).drop (manyN (w :: ws) + 2))
    rw [List.length_drop] at ih
    have hl : (((w :: ws).drop 1).take (manyN (w :: ws))).length = manyN (w :: ws) := by rw [List.length_take, List.length_drop]; omega
    rw [List.filterMap_cons]
    simp only [id_eq, List.map_cons, List.sum_cons]
    unfold peN
    simp only []
    rw [hl]
    omega
   ·simp
theorem evsF_WL (gn : Nat) : ∀ (f : Nat) (ws : List Nat), WL ws → ∀ x ∈ (evsF gn f ws).filterMap id, WL x.2
 | _, [], _, x, h => by unfold evsF at h; simp at h
 | 0, _ :: _, _, x, h => by unfold evsF at h; simp at h
 | f + 1, w :: ws, hW, x, h => by
   unfold evsF at h
   split at h
   ·rw [List.filterMap_cons] at h
    simp only [id_eq, List.mem_cons] at h
    rcases h with rfl | h
    ·unfold peN
     exact fun y hy => hW y (List.mem_of_mem_drop (List.mem_of_mem_take hy))
    ·exact evsF_WL gn f _ (fun y hy => hW y (List.mem_of_mem_drop hy)) x h
   ·simp at h
theorem ents_sum : ∀ (es : List Pe), (es.reverse.flatMap entOps).length = (es.map fun x => x.2.length).sum
 | [] => rfl
 | x :: es => by
   rw [List.reverse_cons, List.flatMap_append, List.length_append, ents_sum es, List.map_cons, List.sum_cons]
   simp only [List.flatMap_cons, List.flatMap_nil, List.append_nil, entOps_len]
   omega
theorem entOps_OV {x : Pe} (h : WL x.2) : OVs (entOps x) := fun o ho => by
 unfold entOps at ho
 obtain ⟨i, hi, rfl⟩ := List.mem_map.1 ho
 exact h.getN i
theorem lane_bd {I : List Nat} {L ln : Nat} {ops : List Ox} (hW : WL I) (hg : gOk (I.length : Nat) (L : Nat) = true) (hln : ln < L) (hN : I.length ≤ 800) (h : laneD I L ln = some ops) : ops.length ≤ 800 ∧ OVs ops := by
 unfold laneD at h
 split at h
 ·split at h
  ·unfold notedD at h
   split at h
   ·cases h
   ·rename_i hct
    split at h
    ·cases h
    ·rename_i es hd
     split at h
     ·cases h
      have hPB := logSp_PB hg hln
      have ht := logSp_tot hg hln hN
      have hgc := gath_cut I hPB (mkC (I.getD (10 + ln) 0)) (by omega)
      have hgw := gath_WL hW (cutL (logSp I L ln) (0, ((mkC (I.getD (10 + ln) 0) : Nat) : Int)))
      have hl := congrArg List.length hgc
      rw [List.length_take] at hl
      unfold decL at hd
      split at hd
      ·cases hd
      ·cases hd
       refine ⟨?_, ?_⟩
       ·rw [ents_sum]
        have := evsF_sum (mkG (I.getD (10 + ln) 0)) (gathL I (cutL (logSp I L ln) (0, ((mkC (I.getD (10 + ln) 0) : Nat) : Int)))).length (gathL I (cutL (logSp I L ln) (0, ((mkC (I.getD (10 + ln) 0) : Nat) : Int))))
        unfold evs
        omega
       ·intro o ho
        obtain ⟨x, hx, ho⟩ := List.mem_flatMap.1 ho
        exact entOps_OV (evsF_WL _ _ _ hgw x (List.mem_reverse.1 hx)) o ho
     ·cases h
  ·split at h
   ·unfold decidedD at h
    split at h
    ·rename_i q
     cases h
     refine ⟨by rw [opsN_len]; omega, ?_⟩
     intro o ho
     unfold opsN at ho
     obtain ⟨i, hi, rfl⟩ := List.mem_map.1 ho
     exact (hW.part (10 + L + ln * 72 + 32) 40).getN _
    ·cases h
   ·cases h
    exact ⟨Nat.zero_le _, fun o ho => by cases ho⟩
 ·cases h
theorem lane_len {I : List Nat} {L : Nat} (hW : WL I) (hg : gOk (I.length : Nat) (L : Nat) = true) (hN : I.length ≤ 800) (k : Nat) (hk : k < L) : ((laneD I L k).getD []).length ≤ 800 := by
 cases h : laneD I L k with
 | none => exact Nat.zero_le _
 | some ops => exact (lane_bd hW hg hk hN h).1
structure Ml (n₀ Bo Bg Bi nn L : Nat) (v : Value) (W : World) (J : List Lx → World → Prop) (pre : List Lx) (w : World) : Prop where
 B : Below n₀ W w
 j : J pre w
 J : ∀ W1 W2, J pre W1 → Below W1.heap.size W1 W2 → J pre W2
 n : n₀ ≤ W.heap.size
 o : Bo < w.heap.size
 lt : OwnLt w Bo
 g : HB w Bg #[.int .i64 (nn : Nat), .int .i64 (L : Nat)] 33
 i : Boxed w Bi 23 v
 ng : Bg ≠ Bo
 ni : Bi ≠ Bo
 og : ¬ OwnAt w Bo Bg
 oi : ¬ OwnAt w Bo Bi
theorem Ml.keep {n₀ Bo Bg Bi nn L : Nat} {v : Value} {W w w1 : World} {J : List Lx → World → Prop} {pre : List Lx} (h : Ml n₀ Bo Bg Bi nn L v W J pre w) (hb : Below w.heap.size w w1) : Ml n₀ Bo Bg Bi nn L v W J pre w1 :=
 ⟨h.B.trans (hb.mono (Nat.le_trans h.n h.B.size)), h.J _ _ h.j hb, h.J, h.n, Nat.lt_of_lt_of_le h.o hb.size, fun b q => Nat.lt_of_lt_of_le (h.lt b ((ownAt_keep hb h.o).1 q)) hb.size, h.g.keep hb, bx_keep h.i hb, h.ng, h.ni, fun q => h.og ((ownAt_keep hb h.o).1 q), fun q => h.oi ((ownAt_keep hb h.o).1 q)⟩
theorem Ml.kp {n₀ Bo Bg Bi nn L : Nat} {v : Value} {W w w1 : World} {J : List Lx → World → Prop} {pre pre' : List Lx} (h : Ml n₀ Bo Bg Bi nn L v W J pre w) (hk : Kp n₀ Bo w w1) (hj : J pre' w1) (hJ : ∀ W1 W2, J pre' W1 → Below W1.heap.size W1 W2 → J pre' W2) : Ml n₀ Bo Bg Bi nn L v W J pre' w1 :=
 ⟨h.B.trans hk.1, hj, hJ, h.n, Nat.lt_of_lt_of_le h.o hk.1.size, hk.2.2.2 h.lt, h.g.kp hk h.ng h.og, bx_kp h.i hk h.ni h.oi, h.ng, h.ni, fun q => h.og (hk.2.2.1 Bg h.g.lt q), fun q => h.oi (hk.2.2.1 Bi h.i.lt q)⟩
theorem pre_snoc {pre : List Lx} {y : Lx} {l : List (Option (List Ox))} (h : pre.map Prod.snd = l) : (pre ++ [y]).map Prod.snd = l ++ [y.2] := by rw [List.map_append, h]; rfl
theorem lns1_in (n : Nat) (hn : 1 ≤ n) (l Bo Bg Bi n₀ L : Nat) (v : Value) (I : List Nat) (hW : WL I) (hg : gOk (I.length : Nat) (L : Nat) = true) (hN : I.length ≤ 800) (J Jx : List Lx → World → Prop)
 (hJ : ∀ pre W1 W2, J pre W1 → Below W1.heap.size W1 W2 → J pre W2)
 (hY : ∀ pre (y : Lx) W, J pre W → OPL W y.1 (y.2.getD []) ∧ (y.2.getD []).length ≤ 800 → pre.length < L → YieldAt Fence.wide (n - 1) Tryz.prog l #[y.1, .bool y.2.isSome] W fun e W' =>
   (e = .returned (.bool true) ∧ J (pre ++ [y]) W' ∧ Kp n₀ Bo W W') ∨ (e = .returned (.bool false) ∧ Jx (pre ++ [y]) W'))
 (W : World) (hBo : Bo < W.heap.size) (hOl : OwnLt W Bo) (hBg : HB W Bg #[.int .i64 (I.length : Nat), .int .i64 (L : Nat)] 33) (hBi : Boxed W Bi 23 v) (hng : Bg ≠ Bo) (hni : Bi ≠ Bo) (hog : ¬ OwnAt W Bo Bg) (hoi : ¬ OwnAt W Bo Bi) (hn₀ : n₀ ≤ W.heap.size)
 (hC : ∀ w1, Below n₀ W w1 → Lw w1 ∧ KL .u64 w1 v I) (h0 : J [] W) :
 CallsIn Fence.wide n Tryz.prog 81 #[.func (.yield l) #[] #[], .pointer (some ⟨Bg, 0, none⟩), .pointer (some ⟨Bi, 0, none⟩)] W fun e W' => (∃ v, e = .returned v) ∧
  ((∃ ys, ys.map Prod.snd = lanesS I L L ∧ J ys W') ∨ (∃ pre, pre.map Prod.snd <+: lanesS I L L ∧ Jx pre W')) := by
 have hL64 := (pool_size hg).2.1
 obtain ⟨nn, hnn⟩ : ∃ n, I.length = n := ⟨_, rfl⟩
 have hDo := lh (fun k (hk : k < L) w1 (hb : Below n₀ W w1) => done_any v I L k w1 (hC w1 hb).1 hW (hC w1 hb).2 hg hk hN)
 rw [hnn] at hDo hBg
 have hmk : Ml n₀ Bo Bg Bi nn L v W J [] W := ⟨Below.refl _ _, h0, hJ [], hn₀, hBo, hOl, hBg, hBi, hng, hni, hog, hoi⟩
 have hss := lh (fun k => lanesS_succ I L k)
 have hbd := lh (fun k (hk : k < L) => lane_len hW hg hN k hk)
 have hsp := lh (fun k (h : k ≤ L) => lanesS_pre I L k h)
 have hs0 : ([] : List Lx).map Prod.snd = lanesS I L 0 := rfl
 replace hs0 := lh hs0
 have hsl := lh (fun k => lanesS_len I L k)
 replace hJ := lh hJ
 replace hY := lh hY
 replace hnn := lh hnn
 obtain ⟨q0, q1⟩ := hBg.c2
 clear h0 hC hW hg hN hBo hOl hBi hng hni hog hoi hn₀ hBg
 refine callsIn_of_wp Tryz.func81 rfl trivial ?_ rfl
 simp only [Tryz.ntmps81, List.size_toArray, List.length_cons, List.length_nil, Nat.reduceAdd, Nat.reduceSub, Array.replicate_succ, Array.replicate_zero, List.push_toArray, List.append_toArray, List.nil_append, List.cons_append]
 gi_wp2
 clear q0 q1
 gi_loopw [9] (fun x wr => ∃ (k : Nat) (pre : List Lx), k ≤ L ∧ x = .int .i64 (k : Int) ∧ Hid (pre.map Prod.snd = lanesS I L k) ∧ Ml n₀ Bo Bg Bi nn L v W J pre wr)
  (fun x wr => L + 1 - (intOf x).toNat)
 case atStart => exact ⟨0, [], Nat.zero_le _, rfl, hs0, hmk⟩
 case round =>
  obtain ⟨k, pre, hk, rfl, hpr, hmr⟩ := hrel
  clear hmk
  by_cases hlt : k < L
  ·have hlt' : (k : Int) < (L : Int) := by omega
   obtain ⟨q0, q1⟩ := hmr.g.c2
   have i0 := hmr.i.cell
   have hD := hDo.out k hlt wr hmr.B
   have hsn := hss.out k
   obtain ⟨D, hDD⟩ : ∃ D, laneD I L k = D := ⟨_, rfl⟩
   have hb8 := hbd.out k hlt
   rw [hDD] at hD hsn hb8
   gi_wp2
   refine ⟨trivial, (callsIn_wide.2 hD).mono ?_⟩
   rintro e w1 ⟨v', rfl, hO, hb1⟩
   have hm1 := hmr.keep hb1
   have hpl : pre.length < L := by
    have := congrArg List.length hpr.out
    rw [List.length_map, hsl.out] at this
    omega
   have hpr2 := lh (show (pre ++ [((v', D) : Lx)]).map Prod.snd = lanesS I L (k + 1) from by rw [pre_snoc hpr.out, hsn])
   obtain ⟨fn, tmps, assign, body, hy, hR⟩ := hY.out pre ((v', D) : Lx) _ hm1.j ⟨hO, hb8⟩ hpl
   dsimp only at hy
   clear hD hsn hb8 q0 q1 i0 hmr hb1 hO hpr hDD
   gi_wp2
   refine hR.mono ?_
   rintro e W3 (⟨rfl, hJ3, hk3⟩ | ⟨rfl, hJx3⟩)
   ·have hM3 := hm1.kp hk3 hJ3 (hJ.out _)
    clear hm1 hk3 hJ3 hy hR
    gi_wp2
    go_roundw
    case rel => exact ⟨k + 1, _, by omega, by go_num, hpr2, hM3⟩
    case measure => first | (simp [intOf]; done) | (simp [intOf]; omega)
   ·gi_wp2
    refine bodyPost_ret (results_none rfl _ _ _) rfl ?_
    exact ⟨⟨_, rfl⟩, .inr ⟨_, by rw [hpr2.out]; exact hsp.out _ (by omega), hJx3⟩⟩
  ·obtain rfl : k = L := by omega
   gi_wp2
   go_end0
   exact ⟨⟨_, rfl⟩, .inl ⟨pre, hpr.out, hmr.j⟩⟩
theorem abides_below3 {α : Type} {J : List α → World → Prop} {B : Nat} (h : AbidesFrom B J) : ∀ pre W1 W2, J pre W1 → Below W1.heap.size W1 W2 → J pre W2 := fun pre W1 W2 hj hb =>
 h pre W1 W2 none hj ⟨hb.os, hb.tape, hb.output, hb.size, fun k hk _ => hb.block k hk⟩ (fun r e => by cases e)
theorem lanes_in (n : Nat) (A : Option Addr) (m c : Nat) (N L : Nat) (w : World) :
 CallsIn Fence.wide n Tryz.prog 50 #[.slice A m c, .agg #[.int .i64 (N : Nat), .int .i64 (L : Nat)]] w fun e w' => e = .returned (.func (.func 81) #[] #[.pointer (some ⟨w.heap.size + 1, 0, none⟩), .pointer (some ⟨w.heap.size, 0, none⟩)]) ∧ (w.alloc (.cells #[.slice A m c] 23)).alloc (.cells #[.int .i64 (N : Nat), .int .i64 (L : Nat)] 33) = w' := by
 refine callsIn_wide.2 ?_
 go_enter Tryz.func50, Tryz.ntmps50
 go_wp2
 go_ret
 exact ⟨rfl, rfl⟩
theorem lns_told (n : Nat) (hn : 1 ≤ n) (Bo Bg Bi n₀ L : Nat) (v : Value) (I : List Nat) (hW : WL I) (hg : gOk (I.length : Nat) (L : Nat) = true) (hN : I.length ≤ 800)
 (w : World) (hBo : Bo < w.heap.size) (hOl : OwnLt w Bo) (hBg : HB w Bg #[.int .i64 (I.length : Nat), .int .i64 (L : Nat)] 33) (hBi : Boxed w Bi 23 v) (hng : Bg ≠ Bo) (hni : Bi ≠ Bo) (hog : ¬ OwnAt w Bo Bg) (hoi : ¬ OwnAt w Bo Bi) (hn₀ : n₀ ≤ w.heap.size)
 (hC : ∀ w1, Below n₀ w w1 → Lw w1 ∧ KL .u64 w1 v I) :
 SeqTold Fence.wide n Tryz.prog 81 #[.pointer (some ⟨Bg, 0, none⟩), .pointer (some ⟨Bi, 0, none⟩)] (fun y : Lx => #[y.1, .bool y.2.isSome]) (Kp n₀ Bo) (fun y W => OPL W y.1 (y.2.getD []) ∧ (y.2.getD []).length ≤ 800) (fun ys => ys.map Prod.snd = lanesS I L L) (fun pre => pre.map Prod.snd <+: lanesS I L L) L w := fun l J Jx W hb hJ _ hY h0 =>
 lns1_in n hn l Bo Bg Bi n₀ L v I hW hg hN J Jx (abides_below3 hJ) hY W (Nat.lt_of_lt_of_le hBo hb.size) (fun b q => Nat.lt_of_lt_of_le (hOl b ((ownAt_keep hb hBo).1 q)) hb.size) (hBg.keep hb) (bx_keep hBi hb) hng hni (fun q => hog ((ownAt_keep hb hBo).1 q)) (fun q => hoi ((ownAt_keep hb hBo).1 q)) (Nat.le_trans hn₀ hb.size) (fun w1 hb1 => hC w1 ((hb.mono hn₀).trans hb1)) h0
end Go.Proofs.YtkdhdibjbabgfaaGreatDoor
end
section
namespace Go.Proofs.YtkdhdibjbabgfaaGreatDoor
open Go.Lib Go.RowKit Go.ChangeShapes Go.WideShapes Go.Deep Go.Shelf
theorem doN_0 (x : Nat) (o : Ox) (h : o.1 = 0) : doN x o = o.2.2 := by
 unfold doN
 simp [h]
theorem apply_forget (p : Nat) : ∀ (l : List Ox) (A B : List Nat), A.length = B.length → p < A.length → (∀ o ∈ l, o.2.1 = (p : Int) → o.1 = 0) → (A.getD p 0 = B.getD p 0 ∨ ∃ o ∈ l, o.2.1 = (p : Int)) → (applyL A l).getD p 0 = (applyL B l).getD p 0
 | [], A, B, _, _, _, h => by
   rcases h with h | ⟨o, ho, _⟩
   ·exact h
   ·cases ho
 | o :: l, A, B, hl, hp, hk, h => by
   show (applyL (apOne A o) l).getD p 0 = (applyL (apOne B o) l).getD p 0
   refine apply_forget p l _ _ (by rw [apOne_len, apOne_len, hl]) (by rw [apOne_len]; exact hp) (fun o2 h2 => hk o2 (by simp [h2])) ?_
   by_cases he : o.2.1 = (p : Int)
   ·left
    have hr : 0 ≤ o.2.1 ∧ o.2.1 < (A.length : Int) := by omega
    have hr2 : 0 ≤ o.2.1 ∧ o.2.1 < (B.length : Int) := by omega
    have hk0 := hk o (by simp) he
    unfold apOne
    rw [if_pos hr, if_pos hr2, doN_0 _ _ hk0, doN_0 _ _ hk0, getD_set, getD_set, if_pos ⟨by omega, hp⟩, if_pos ⟨by omega, by omega⟩]
   ·rcases h with h | ⟨o2, h2, h3⟩
    ·left
     rw [apOne_other A o p he, apOne_other B o p he]
     exact h
    ·right
     rcases List.mem_cons.1 h2 with rfl | h2
     ·exact absurd h3 he
     ·exact ⟨o2, h2, h3⟩
theorem apply_same (p : Nat) : ∀ (l : List Ox) (A B : List Nat), A.length = B.length → A.getD p 0 = B.getD p 0 → (applyL A l).getD p 0 = (applyL B l).getD p 0
 | [], A, B, _, h => h
 | o :: l, A, B, hl, h => by
   show (applyL (apOne A o) l).getD p 0 = (applyL (apOne B o) l).getD p 0
   refine apply_same p l _ _ (by rw [apOne_len, apOne_len, hl]) ?_
   by_cases he : o.2.1 = (p : Int)
   ·have ht : o.2.1.toNat = p := by omega
    unfold apOne
    by_cases hr : 0 ≤ o.2.1 ∧ o.2.1 < (A.length : Int)
    ·have hp : p < B.length := by omega
     have hp2 : p < A.length := by omega
     rw [if_pos hr, if_pos (by omega), getD_set, getD_set, ht, h, if_pos ⟨rfl, hp2⟩, if_pos ⟨rfl, hp⟩]
    ·rw [if_neg hr, if_neg (by omega)]
     exact h
   ·rw [apOne_other A o p he, apOne_other B o p he]
    exact h
theorem lane_kind {I : List Nat} {L ln : Nat} {ops : List Ox} (h : laneD I L ln = some ops) : ∀ o ∈ ops, ((10 + 73 * L + gNat I.length L : Nat) : Int) ≤ o.2.1 → o.1 = 0 := by
 unfold laneD at h
 split at h
 ·split at h
  ·unfold notedD at h
   split at h
   ·cases h
   ·split at h
    ·cases h
    ·split at h
     ·cases h
      intro o ho _
      obtain ⟨x, _, hx⟩ := List.mem_flatMap.1 ho
      unfold entOps at hx
      obtain ⟨i, _, rfl⟩ := List.mem_map.1 hx
      rfl
     ·cases h
  ·split at h
   ·intro o ho hle
    have := decided_ok h o ho
    unfold opIn at this
    have := of_decide_eq_true this
    omega
   ·cases h
    intro o ho
    cases ho
 ·cases h
theorem lanes_kind {I : List Nat} {L : Nat} : ∀ {k : Nat} {ops : List Ox}, lanesD I L k = some ops → ∀ o ∈ ops, ((10 + 73 * L + gNat I.length L : Nat) : Int) ≤ o.2.1 → o.1 = 0
 | 0, ops, h => by unfold lanesD at h; cases h; intro o ho; cases ho
 | k + 1, ops, h => by
   unfold lanesD at h
   split at h
   ·rename_i a b h1 h2
    cases h
    intro o ho
    rcases List.mem_append.1 ho with ho | ho
    ·exact lanes_kind h1 o ho
    ·exact lane_kind h2 o ho
   ·cases h
theorem places_sp {l : List Sp} {y : Int} (h : y ∈ placesL l) : ∃ s ∈ l, s.1 ≤ y ∧ y < s.1 + s.2 := by
 unfold placesL at h
 obtain ⟨s, hs, hy⟩ := List.mem_flatMap.1 h
 unfold pwL at hy
 obtain ⟨i, hi, rfl⟩ := List.mem_map.1 hy
 have := List.mem_range.1 hi
 exact ⟨s, hs, by omega, by omega⟩
section
variable {I : List Nat} {L ln : Nat} {m : List Ox}
theorem part_low (hm : ∀ o ∈ m, inCh I.length L o.2.1 = true) (p : Nat) (hp : p < 10 + 73 * L + gNat I.length L) : (applyL I m).getD p 0 = I.getD p 0 :=
 apply_other p m I (fun o ho e => by
  have := of_decide_eq_true (show decide _ = true from hm o ho)
  omega)
theorem part_drop (hm : ∀ o ∈ m, inCh I.length L o.2.1 = true) (a n : Nat) (h : a + n ≤ 10 + 73 * L + gNat I.length L) : ((applyL I m).drop a).take n = (I.drop a).take n := by
 apply ext_getD
 ·rw [List.length_take, List.length_take, List.length_drop, List.length_drop, applyL_len]
 ·intro i hi
  rw [List.length_take] at hi
  rw [take_getD _ _ _ (by omega), take_getD _ _ _ (by omega), List.getD_eq_getElem?_getD, List.getD_eq_getElem?_getD, List.getElem?_drop, List.getElem?_drop, ← List.getD_eq_getElem?_getD, ← List.getD_eq_getElem?_getD]
  exact part_low hm _ (by omega)
theorem part_tab (hm : ∀ o ∈ m, inCh I.length L o.2.1 = true) : tabW (applyL I m) L = tabW I L := by
 unfold tabW
 rw [applyL_len]
 exact part_drop hm _ _ (Nat.le_refl _)
theorem part_log (hm : ∀ o ∈ m, inCh I.length L o.2.1 = true) (j : Nat) : logSp (applyL I m) L j = logSp I L j := by
 unfold logSp
 rw [part_tab hm, applyL_len]
theorem part_gath (h : ∀ o ∈ m, ∀ s ∈ logSp I L ln, ¬ (s.1 ≤ o.2.1 ∧ o.2.1 < s.1 + s.2)) : gathL (applyL I m) (logSp I L ln) = gathL I (logSp I L ln) := by
 unfold gathL
 apply List.map_congr_left
 intro y hy
 obtain ⟨s, hs, h1, h2⟩ := places_sp hy
 unfold imgAt
 split
 ·rename_i h0
  refine apply_other _ m I (fun o ho e => h o ho s hs ?_)
  omega
 ·rfl
theorem part_noted (hm : ∀ o ∈ m, inCh I.length L o.2.1 = true) (h : ∀ o ∈ m, ∀ s ∈ logSp I L ln, ¬ (s.1 ≤ o.2.1 ∧ o.2.1 < s.1 + s.2)) (hg : gOk (I.length : Nat) (L : Nat) = true) (hln : ln < L) (c g : Nat) : notedD (applyL I m) L ln c g = notedD I L ln c g := by
 unfold notedD
 rw [part_log hm, applyL_len]
 by_cases ht : totS (logSp I L ln) < (c : Int)
 ·rw [if_pos ht, if_pos ht]
 ·rw [if_neg ht, if_neg ht, gath_cut _ (logSp_PB hg hln) c (by omega), gath_cut _ (logSp_PB hg hln) c (by omega), part_gath h]
theorem part_decided (hm : ∀ o ∈ m, inCh I.length L o.2.1 = true) (j c : Nat) (hj : j < L) : decidedD (applyL I m) L j c = decidedD I L j c := by
 have e : redoW (applyL I m) L j = redoW I L j := by
  unfold redoW
  exact part_drop hm _ _ (by omega)
 unfold decidedD
 rw [e, applyL_len]
theorem part_lane (hm : ∀ o ∈ m, inCh I.length L o.2.1 = true) (h : ∀ o ∈ m, ∀ s ∈ logSp I L ln, ¬ (s.1 ≤ o.2.1 ∧ o.2.1 < s.1 + s.2)) (hg : gOk (I.length : Nat) (L : Nat) = true) (hoth : ∀ j, j < L → j ≠ ln → ¬ mkS (I.getD (10 + j) 0) = 1) (j : Nat) (hj : j < L) : laneD (applyL I m) L j = laneD I L j := by
 unfold laneD
 rw [part_low hm (10 + j) (by omega), part_decided hm j _ hj]
 by_cases e : j = ln
 ·subst e
  rw [part_noted hm h hg hj]
 ·rw [if_neg (hoth j hj e), if_neg (hoth j hj e)]
theorem part_lanes (hm : ∀ o ∈ m, inCh I.length L o.2.1 = true) (h : ∀ o ∈ m, ∀ s ∈ logSp I L ln, ¬ (s.1 ≤ o.2.1 ∧ o.2.1 < s.1 + s.2)) (hg : gOk (I.length : Nat) (L : Nat) = true) (hoth : ∀ j, j < L → j ≠ ln → ¬ mkS (I.getD (10 + j) 0) = 1) : ∀ k, k ≤ L → lanesD (applyL I m) L k = lanesD I L k
 | 0, _ => rfl
 | k + 1, hk => by
   unfold lanesD
   rw [part_lanes hm h hg hoth k (by omega), part_lane hm h hg hoth k (by omega)]
end
theorem part_pool {I : List Nat} {m : List Ox} (hm : ∀ o ∈ m, inCh I.length (I.getD 3 0) o.2.1 = true) : poolB (applyL I m) = poolB I ∧ (applyL I m).getD 3 0 = I.getD 3 0 := by
 have e3 : (applyL I m).getD 3 0 = I.getD 3 0 := part_low hm 3 (by omega)
 have e8 : (applyL I m).take 8 = I.take 8 := by
  have := part_drop hm 0 8 (by omega)
  simpa using this
 refine ⟨?_, e3⟩
 unfold poolB sOk
 rw [e3, part_tab hm, applyL_len, e8]
theorem mend_part {I : List Nat} {ln : Nat} {l : List Ox} (k : Nat) (hp : poolB I = true) (hln : ln < I.getD 3 0) (hs : mkS (I.getD (10 + ln) 0) = 1) (hoth : ∀ j, j < I.getD 3 0 → j ≠ ln → ¬ mkS (I.getD (10 + j) 0) = 1)
 (hl : laneD I (I.getD 3 0) ln = some l) (hlog : ∀ o ∈ l, ∀ s ∈ logSp I (I.getD 3 0) ln, ¬ (s.1 ≤ o.2.1 ∧ o.2.1 < s.1 + s.2)) : mendD (applyL I (l.take k)) = mendD I := by
 have hm : ∀ o ∈ l.take k, inCh I.length (I.getD 3 0) o.2.1 = true := fun o ho => by
  have hl2 := hl
  unfold laneD at hl2
  split at hl2
  ·first | rw [if_pos hs] at hl2 | skip
   exact noted_ok hl2 o (List.mem_of_mem_take ho)
  ·cases hl2
 have hg := (gOk_pool (pool_t hp).1).2
 obtain ⟨e1, e3⟩ := part_pool hm
 have e4 := part_lanes hm (fun o ho => hlog o (List.mem_of_mem_take ho)) hg hoth (I.getD 3 0) (Nat.le_refl _)
 unfold mendD
 rw [e1, e3, e4, if_pos hp, if_pos hp]
 cases hla : lanesD I (I.getD 3 0) (I.getD 3 0) with
 | none => rfl
 | some ops =>
   have hap : applyL (applyL I (l.take k)) ops = applyL I ops := by
    apply ext_getD
    ·rw [applyL_len, applyL_len, applyL_len]
    ·intro p hpl
     rw [applyL_len, applyL_len] at hpl
     by_cases hlow : p < 10 + 73 * I.getD 3 0 + gNat I.length (I.getD 3 0)
     ·by_cases hany : ∃ o ∈ ops, o.2.1 = (p : Int)
      ·exact apply_same p ops _ _ (by rw [applyL_len]) (part_low hm p hlow)
      ·exact apply_same p ops _ _ (by rw [applyL_len]) (part_low hm p hlow)
     ·refine apply_forget p ops _ _ (by rw [applyL_len]) (by rw [applyL_len]; exact hpl) (fun o ho e => lanes_kind hla o ho (by omega)) ?_
      by_cases hany : ∃ o ∈ ops, o.2.1 = (p : Int)
      ·exact .inr hany
      ·left
       refine apply_other p _ I (fun o ho e => hany ⟨o, ?_, e⟩)
       obtain ⟨l2, h1, h2⟩ := lanes_each hla ln hln
       rw [hl] at h1
       cases h1
       exact h2 o (List.mem_of_mem_take ho)
   simp only [hap]
end Go.Proofs.YtkdhdibjbabgfaaGreatDoor
end
