/-
  Part of the proof of JournalUndo.
-/
import Derived.Test.YtkkbngcgphlikaaGreatDoorJu35
import Derived.Test.YtkkbngcgphlikaaGreatDoorRows
import Derived.Test.YtkkbngcgphlikaaGreatDoorJu0
set_option maxRecDepth 100000
set_option maxHeartbeats 1000000
set_option linter.unusedVariables false
set_option linter.unusedSimpArgs false
section
namespace Go.Proofs.YtkkbngcgphlikaaGreatDoor
open Go.Lib Go.RowKit Go.ChangeShapes Go.WideShapes Go.Deep Go.Shelf
attribute [local go_sem] Oper.semAt_some
theorem HB.kp {w w1 : World} {n₀ Bo b : Nat} {cs : Array Value} {t : TypeId} (h : HB w b cs t) (hk : Kp n₀ Bo w w1) (hne : b ≠ Bo) (ho : ¬ OwnAt w Bo b) : HB w1 b cs t := (hk.2.1 b _ _ _ h hne ho).trans h
abbrev Lx := Value × Option (List Ox)
def lanesS (I : List Nat) (L k : Nat) : List (Option (List Ox)) := (List.range k).map (laneD I L)
theorem lanesS_succ (I : List Nat) (L k : Nat) : lanesS I L (k + 1) = lanesS I L k ++ [laneD I L k] := by unfold lanesS; rw [List.range_succ, List.map_append]; rfl
theorem lanesS_pre (I : List Nat) (L k : Nat) (h : k ≤ L) : lanesS I L k <+: lanesS I L L := by
 unfold lanesS
 have : List.range k = (List.range L).take k := by rw [List.take_range, Nat.min_eq_left h]
 rw [this, List.map_take]
 exact List.take_prefix _ _
theorem lanesS_len (I : List Nat) (L k : Nat) : (lanesS I L k).length = k := by unfold lanesS; simp
theorem lanesD_t {I : List Nat} {L : Nat} : ∀ (k : Nat), (∀ o ∈ lanesS I L k, o.isSome = true) → lanesD I L k = some ((lanesS I L k).flatMap fun o => o.getD [])
 | 0, _ => rfl
 | k + 1, h => by
   rw [lanesS_succ] at h ⊢
   have ih := lanesD_t k (fun o ho => h o (List.mem_append_left _ ho))
   have hk := h _ (List.mem_append_right _ (List.mem_singleton.2 rfl))
   unfold lanesD
   rw [ih]
   cases hl : laneD I L k with
   | none => rw [hl] at hk; cases hk
   | some b => simp
theorem lanesD_f {I : List Nat} {L : Nat} : ∀ (k : Nat), none ∈ lanesS I L k → lanesD I L k = none
 | 0, h => by unfold lanesS at h; simp at h
 | k + 1, h => by
   rw [lanesS_succ] at h
   unfold lanesD
   rcases List.mem_append.1 h with h | h
   ·rw [lanesD_f k h]
   ·rw [List.mem_singleton] at h
    rw [← h]
    split
    ·rename_i h1; cases h1
    ·rfl
theorem evsF_sum (gn : Nat) : ∀ (f : Nat) (ws : List Nat), (((evsF gn f ws).filterMap id).map fun x => x.2.length).sum ≤ ws.length
 | _, [] => by unfold evsF; simp
 | 0, _ :: _ => by unfold evsF; simp
 | f + 1, w :: ws => by
   unfold evsF
   split
   ·rename_i ht
    obtain ⟨h1, h2, h3, h4⟩ := tkB_t ht
    have ih := evsF_sum gn f ((w :: ws).drop (manyN (w :: ws) + 2))
    rw [List.length_drop] at ih
    have hl : (((w :: ws).drop 1).take (manyN (w :: ws))).length = manyN (w :: ws) := by rw [List.length_take, List.length_drop]; omega
    rw [List.filterMap_cons]
    simp only [id_eq, List.map_cons, List.sum_cons]
    unfold peN
    simp only []
    rw [hl]
    omega
   ·simp
theorem evsF_WL (gn : Nat) : ∀ (f : Nat) (ws : List Nat), WL ws → ∀ x ∈ (evsF gn f ws).filterMap id, WL x.2
 | _, [], _, x, h => by unfold evsF at h; simp at h
 | 0, _ :: _, _, x, h => by unfold evsF at h; simp at h
 | f + 1, w :: ws, hW, x, h => by
   unfold evsF at h
   split at h
   ·rw [List.filterMap_cons] at h
    simp only [id_eq, List.mem_cons] at h
    rcases h with rfl | h
    ·unfold peN
     exact fun y hy => hW y (List.mem_of_mem_drop (List.mem_of_mem_take hy))
    ·exact evsF_WL gn f _ (fun y hy => hW y (List.mem_of_mem_drop hy)) x h
   ·simp at h
theorem ents_sum : ∀ (es : List Pe), (es.reverse.flatMap entOps).length = (es.map fun x => x.2.length).sum
 | [] => rfl
 | x :: es => by
   rw [List.reverse_cons, List.flatMap_append, List.length_append, ents_sum es, List.map_cons, List.sum_cons]
   simp only [List.flatMap_cons, List.flatMap_nil, List.append_nil, entOps_len]
   omega
theorem entOps_OV {x : Pe} (h : WL x.2) : OVs (entOps x) := fun o ho => by
 unfold entOps at ho
 obtain ⟨i, hi, rfl⟩ := List.mem_map.1 ho
 exact h.getN i
theorem lane_bd {I : List Nat} {L ln : Nat} {ops : List Ox} (hW : WL I) (hg : gOk (I.length : Nat) (L : Nat) = true) (hln : ln < L) (hN : I.length ≤ 800) (h : laneD I L ln = some ops) : ops.length ≤ 800 ∧ OVs ops := by
 unfold laneD at h
 split at h
 rotate_left
 ·cases h
 split at h
 rotate_left
 ·split at h
  rotate_left
  ·cases h
   exact ⟨Nat.zero_le _, fun o ho => by cases ho⟩
  unfold decidedD at h
  split at h
  ·rename_i q
   cases h
   refine ⟨by rw [opsN_len]; omega, ?_⟩
   intro o ho
   unfold opsN at ho
   obtain ⟨i, hi, rfl⟩ := List.mem_map.1 ho
   exact (hW.part (10 + L + ln * 72 + 32) 40).getN _
  cases h
 unfold notedD at h
 split at h
 ·cases h
 rename_i hct
 split at h
 ·cases h
 rename_i es hd
 split at h
 rotate_left
 ·cases h
 cases h
 have hPB := logSp_PB hg hln
 have ht := logSp_tot hg hln hN
 have hgc := gath_cut I hPB (mkC (I.getD (10 + ln) 0)) (by omega)
 have hgw := gath_WL hW (cutL (logSp I L ln) (0, ((mkC (I.getD (10 + ln) 0) : Nat) : Int)))
 have hl := congrArg List.length hgc
 rw [List.length_take] at hl
 unfold decL at hd
 split at hd
 ·cases hd
 cases hd
 refine ⟨?_, ?_⟩
 ·rw [ents_sum]
  have := evsF_sum (mkG (I.getD (10 + ln) 0)) (gathL I (cutL (logSp I L ln) (0, ((mkC (I.getD (10 + ln) 0) : Nat) : Int)))).length (gathL I (cutL (logSp I L ln) (0, ((mkC (I.getD (10 + ln) 0) : Nat) : Int))))
  unfold evs
  omega
 intro o ho
 obtain ⟨x, hx, ho⟩ := List.mem_flatMap.1 ho
 exact entOps_OV (evsF_WL _ _ _ hgw x (List.mem_reverse.1 hx)) o ho
theorem lane_len {I : List Nat} {L : Nat} (hW : WL I) (hg : gOk (I.length : Nat) (L : Nat) = true) (hN : I.length ≤ 800) (k : Nat) (hk : k < L) : ((laneD I L k).getD []).length ≤ 800 := by
 cases h : laneD I L k with
 | none => exact Nat.zero_le _
 | some ops => exact (lane_bd hW hg hk hN h).1
structure Ml (n₀ Bo Bg Bi nn L : Nat) (v : Value) (W : World) (J : List Lx → World → Prop) (pre : List Lx) (w : World) : Prop where
 B : Below n₀ W w
 j : J pre w
 J : ∀ W1 W2, J pre W1 → Below W1.heap.size W1 W2 → J pre W2
 n : n₀ ≤ W.heap.size
 o : Bo < w.heap.size
 lt : OwnLt w Bo
 g : HB w Bg #[.int .i64 (nn : Nat), .int .i64 (L : Nat)] 37
 i : Boxed w Bi 25 v
 ng : Bg ≠ Bo
 ni : Bi ≠ Bo
 og : ¬ OwnAt w Bo Bg
 oi : ¬ OwnAt w Bo Bi
theorem Ml.keep {n₀ Bo Bg Bi nn L : Nat} {v : Value} {W w w1 : World} {J : List Lx → World → Prop} {pre : List Lx} (h : Ml n₀ Bo Bg Bi nn L v W J pre w) (hb : Below w.heap.size w w1) : Ml n₀ Bo Bg Bi nn L v W J pre w1 :=
 ⟨h.B.trans (hb.mono (Nat.le_trans h.n h.B.size)), h.J _ _ h.j hb, h.J, h.n, Nat.lt_of_lt_of_le h.o hb.size, fun b q => Nat.lt_of_lt_of_le (h.lt b ((ownAt_keep hb h.o).1 q)) hb.size, h.g.keep hb, bx_keep h.i hb, h.ng, h.ni, fun q => h.og ((ownAt_keep hb h.o).1 q), fun q => h.oi ((ownAt_keep hb h.o).1 q)⟩
theorem Ml.kp {n₀ Bo Bg Bi nn L : Nat} {v : Value} {W w w1 : World} {J : List Lx → World → Prop} {pre pre' : List Lx} (h : Ml n₀ Bo Bg Bi nn L v W J pre w) (hk : Kp n₀ Bo w w1) (hj : J pre' w1) (hJ : ∀ W1 W2, J pre' W1 → Below W1.heap.size W1 W2 → J pre' W2) : Ml n₀ Bo Bg Bi nn L v W J pre' w1 :=
 ⟨h.B.trans hk.1, hj, hJ, h.n, Nat.lt_of_lt_of_le h.o hk.1.size, hk.2.2.2 h.lt, h.g.kp hk h.ng h.og, bx_kp h.i hk h.ni h.oi, h.ng, h.ni, fun q => h.og (hk.2.2.1 Bg h.g.lt q), fun q => h.oi (hk.2.2.1 Bi h.i.lt q)⟩
theorem pre_snoc {pre : List Lx} {y : Lx} {l : List (Option (List Ox))} (h : pre.map Prod.snd = l) : (pre ++ [y]).map Prod.snd = l ++ [y.2] := by rw [List.map_append, h]; rfl
theorem lns1_in (n : Nat) (hn : 1 ≤ n) (l Bo Bg Bi n₀ L : Nat) (v : Value) (I : List Nat) (hW : WL I) (hg : gOk (I.length : Nat) (L : Nat) = true) (hcm : CalmW (tabW I L)) (hN : I.length ≤ 800) (J Jx : List Lx → World → Prop)
 (hJ : ∀ pre W1 W2, J pre W1 → Below W1.heap.size W1 W2 → J pre W2)
 (hY : ∀ pre (y : Lx) W, J pre W → OPL W y.1 (y.2.getD []) ∧ (y.2.getD []).length ≤ 800 → pre.length < L → YieldAt Fence.wide (n - 1) Tryz.prog l #[y.1, .bool y.2.isSome] W fun e W' =>
   (e = .returned (.bool true) ∧ J (pre ++ [y]) W' ∧ Kp n₀ Bo W W') ∨ (e = .returned (.bool false) ∧ Jx (pre ++ [y]) W'))
 (W : World) (hBo : Bo < W.heap.size) (hOl : OwnLt W Bo) (hBg : HB W Bg #[.int .i64 (I.length : Nat), .int .i64 (L : Nat)] 37) (hBi : Boxed W Bi 25 v) (hng : Bg ≠ Bo) (hni : Bi ≠ Bo) (hog : ¬ OwnAt W Bo Bg) (hoi : ¬ OwnAt W Bo Bi) (hn₀ : n₀ ≤ W.heap.size)
 (hC : ∀ w1, Below n₀ W w1 → Lw w1 ∧ KL .u64 w1 v I) (h0 : J [] W) :
 CallsIn Fence.wide n Tryz.prog 120 #[.func (.yield l) #[] #[], .pointer (some ⟨Bg, 0, none⟩), .pointer (some ⟨Bi, 0, none⟩)] W fun e W' => (∃ v, e = .returned v) ∧
  ((∃ ys, ys.map Prod.snd = lanesS I L L ∧ J ys W') ∨ (∃ pre, pre.map Prod.snd <+: lanesS I L L ∧ Jx pre W')) := by
 have hL64 := (pool_size hg).2.1
 obtain ⟨nn, hnn⟩ : ∃ n, I.length = n := ⟨_, rfl⟩
 have hDo := lh (fun k (hk : k < L) w1 (hb : Below n₀ W w1) => done_any v I L k w1 (hC w1 hb).1 hW (hC w1 hb).2 hg hk hcm hN)
 rw [hnn] at hDo hBg
 have hmk : Ml n₀ Bo Bg Bi nn L v W J [] W := ⟨Below.refl _ _, h0, hJ [], hn₀, hBo, hOl, hBg, hBi, hng, hni, hog, hoi⟩
 have hss := lh (fun k => lanesS_succ I L k)
 have hbd := lh (fun k (hk : k < L) => lane_len hW hg hN k hk)
 have hsp := lh (fun k (h : k ≤ L) => lanesS_pre I L k h)
 have hs0 : ([] : List Lx).map Prod.snd = lanesS I L 0 := rfl
 replace hs0 := lh hs0
 have hsl := lh (fun k => lanesS_len I L k)
 replace hJ := lh hJ
 replace hY := lh hY
 replace hnn := lh hnn
 obtain ⟨q0, q1⟩ := hBg.c2
 clear h0 hC hW hg hN hBo hOl hBi hng hni hog hoi hn₀ hBg
 refine callsIn_of_wp Tryz.func120 rfl trivial ?_ rfl
 simp only [Tryz.ntmps120, List.size_toArray, List.length_cons, List.length_nil, Nat.reduceAdd, Nat.reduceSub, Array.replicate_succ, Array.replicate_zero, List.push_toArray, List.append_toArray, List.nil_append, List.cons_append]
 gi_wp2
 clear q0 q1
 gi_loopw [9] (fun x wr => ∃ (k : Nat) (pre : List Lx), k ≤ L ∧ x = .int .i64 (k : Int) ∧ Hid (pre.map Prod.snd = lanesS I L k) ∧ Ml n₀ Bo Bg Bi nn L v W J pre wr)
  (fun x wr => L + 1 - (intOf x).toNat)
 case atStart => exact ⟨0, [], Nat.zero_le _, rfl, hs0, hmk⟩
 obtain ⟨k, pre, hk, rfl, hpr, hmr⟩ := hrel
 clear hmk
 by_cases hlt : k < L
 rotate_left
 ·obtain rfl : k = L := by omega
  gi_wp2
  go_end0
  exact ⟨⟨_, rfl⟩, .inl ⟨pre, hpr.out, hmr.j⟩⟩
 have hlt' : (k : Int) < (L : Int) := by omega
 obtain ⟨q0, q1⟩ := hmr.g.c2
 have i0 := hmr.i.cell
 have hD := hDo.out k hlt wr hmr.B
 have hsn := hss.out k
 obtain ⟨D, hDD⟩ : ∃ D, laneD I L k = D := ⟨_, rfl⟩
 have hb8 := hbd.out k hlt
 rw [hDD] at hD hsn hb8
 gi_wp2
 refine ⟨trivial, (callsIn_wide.2 hD).mono ?_⟩
 rintro e w1 ⟨v', rfl, hO, hb1⟩
 have hm1 := hmr.keep hb1
 have hpl : pre.length < L := by
  have := congrArg List.length hpr.out
  rw [List.length_map, hsl.out] at this
  omega
 have hpr2 := lh (show (pre ++ [((v', D) : Lx)]).map Prod.snd = lanesS I L (k + 1) from by rw [pre_snoc hpr.out, hsn])
 obtain ⟨fn, tmps, assign, body, hy, hR⟩ := hY.out pre ((v', D) : Lx) _ hm1.j ⟨hO, hb8⟩ hpl
 dsimp only at hy
 clear hD hsn hb8 q0 q1 i0 hmr hb1 hO hpr hDD
 gi_wp2
 refine hR.mono ?_
 rintro e W3 (⟨rfl, hJ3, hk3⟩ | ⟨rfl, hJx3⟩)
 ·have hM3 := hm1.kp hk3 hJ3 (hJ.out _)
  clear hm1 hk3 hJ3 hy hR
  gi_wp2
  go_roundw
  case rel => exact ⟨k + 1, _, by omega, by go_num, hpr2, hM3⟩
  first | (simp [intOf]; done) | (simp [intOf]; omega)
 gi_wp2
 refine bodyPost_ret (results_none rfl _ _ _) rfl ?_
 exact ⟨⟨_, rfl⟩, .inr ⟨_, by rw [hpr2.out]; exact hsp.out _ (by omega), hJx3⟩⟩
theorem abides_below3 {α : Type} {J : List α → World → Prop} {B : Nat} (h : AbidesFrom B J) : ∀ pre W1 W2, J pre W1 → Below W1.heap.size W1 W2 → J pre W2 := fun pre W1 W2 hj hb =>
 h pre W1 W2 none hj ⟨hb.os, hb.tape, hb.output, hb.size, fun k hk _ => hb.block k hk⟩ (fun r e => by cases e)
theorem lanes_in (n : Nat) (A : Option Addr) (m c : Nat) (N L : Nat) (w : World) :
 CallsIn Fence.wide n Tryz.prog 63 #[.slice A m c, .agg #[.int .i64 (N : Nat), .int .i64 (L : Nat)]] w fun e w' => e = .returned (.func (.func 120) #[] #[.pointer (some ⟨w.heap.size + 1, 0, none⟩), .pointer (some ⟨w.heap.size, 0, none⟩)]) ∧ (w.alloc (.cells #[.slice A m c] 25)).alloc (.cells #[.int .i64 (N : Nat), .int .i64 (L : Nat)] 37) = w' := by
 refine callsIn_wide.2 ?_
 go_enter Tryz.func63, Tryz.ntmps63
 go_wp2
 go_ret
 exact ⟨rfl, rfl⟩
theorem lns_told (n : Nat) (hn : 1 ≤ n) (Bo Bg Bi n₀ L : Nat) (v : Value) (I : List Nat) (hW : WL I) (hg : gOk (I.length : Nat) (L : Nat) = true) (hcm : CalmW (tabW I L)) (hN : I.length ≤ 800)
 (w : World) (hBo : Bo < w.heap.size) (hOl : OwnLt w Bo) (hBg : HB w Bg #[.int .i64 (I.length : Nat), .int .i64 (L : Nat)] 37) (hBi : Boxed w Bi 25 v) (hng : Bg ≠ Bo) (hni : Bi ≠ Bo) (hog : ¬ OwnAt w Bo Bg) (hoi : ¬ OwnAt w Bo Bi) (hn₀ : n₀ ≤ w.heap.size)
 (hC : ∀ w1, Below n₀ w w1 → Lw w1 ∧ KL .u64 w1 v I) :
 SeqTold Fence.wide n Tryz.prog 120 #[.pointer (some ⟨Bg, 0, none⟩), .pointer (some ⟨Bi, 0, none⟩)] (fun y : Lx => #[y.1, .bool y.2.isSome]) (Kp n₀ Bo) (fun y W => OPL W y.1 (y.2.getD []) ∧ (y.2.getD []).length ≤ 800) (fun ys => ys.map Prod.snd = lanesS I L L) (fun pre => pre.map Prod.snd <+: lanesS I L L) L w := fun l J Jx W hb hJ _ hY h0 =>
 lns1_in n hn l Bo Bg Bi n₀ L v I hW hg hcm hN J Jx (abides_below3 hJ) hY W (Nat.lt_of_lt_of_le hBo hb.size) (fun b q => Nat.lt_of_lt_of_le (hOl b ((ownAt_keep hb hBo).1 q)) hb.size) (hBg.keep hb) (bx_keep hBi hb) hng hni (fun q => hog ((ownAt_keep hb hBo).1 q)) (fun q => hoi ((ownAt_keep hb hBo).1 q)) (Nat.le_trans hn₀ hb.size) (fun w1 hb1 => hC w1 ((hb.mono hn₀).trans hb1)) h0
end Go.Proofs.YtkkbngcgphlikaaGreatDoor
end
section
namespace Go.Proofs.YtkkbngcgphlikaaGreatDoor
open Go.Lib Go.RowKit Go.ChangeShapes Go.WideShapes Go.Deep Go.Shelf
attribute [local go_sem] Oper.semAt_some noPan_ret
def curM (pre : List Lx) : List Ox := pre.flatMap fun y => y.2.getD []
theorem curM_snoc (pre : List Lx) (y : Lx) : curM (pre ++ [y]) = curM pre ++ y.2.getD [] := by unfold curM; rw [List.flatMap_append]; simp
theorem curM_all {I : List Nat} {L : Nat} {ys : List Lx} (h : ys.map Prod.snd = lanesS I L L) (hs : ∀ y ∈ ys, y.2.isSome = true) : lanesD I L L = some (curM ys) := by
 rw [lanesD_t L (fun o ho => by rw [← h] at ho; obtain ⟨y, hy, rfl⟩ := List.mem_map.1 ho; exact hs y hy), ← h]
 unfold curM
 rw [List.flatMap_map]
theorem curM_none {I : List Nat} {L : Nat} {pre : List Lx} (h : pre.map Prod.snd <+: lanesS I L L) (hs : ∃ y ∈ pre, y.2.isSome = false) : lanesD I L L = none := by
 obtain ⟨y, hy, hn⟩ := hs
 refine lanesD_f L (h.subset (List.mem_map.2 ⟨y, hy, ?_⟩))
 cases hy2 : y.2 with
 | none => rfl
 | some a => rw [hy2] at hn; cases hn
theorem lanes_OV {I : List Nat} {L : Nat} (hW : WL I) (hg : gOk (I.length : Nat) (L : Nat) = true) (hN : I.length ≤ 800) : ∀ {k : Nat} {ops : List Ox}, k ≤ L → lanesD I L k = some ops → OVs ops
 | 0, ops, _, h => by unfold lanesD at h; cases h; intro o ho; cases ho
 | k + 1, ops, hk, h => by
   unfold lanesD at h
   split at h
   ·rename_i a b h1 h2
    cases h
    intro o ho
    rcases List.mem_append.1 ho with ho | ho
    ·exact lanes_OV hW hg hN (by omega) h1 o ho
    ·exact (lane_bd hW hg (by omega) hN h2).2 o ho
   ·cases h
theorem mend_any (v : Value) (I : List Nat) (w : World) (hw : Lw w) (hW : WL I) (hv : KL .u64 w v I) (hcm : poolB I = true → CalmW (tabW I (I.getD 3 0))) (hN : I.length ≤ 800) :
 Calls Tryz.prog 21 #[v] w fun e w' => ∃ v', e = .returned (.tuple #[v', .int .i64 (if (mendD I).isSome = true then 0 else 7)]) ∧ OwnU w' w.heap.size v' ((mendD I).getD []) ∧ Below w.heap.size w w' := by
 have hD := fun w1 (hb : Below w.heap.size w w1) => dec_any v I w1 hW (KL.sl (hv.keep hb))
 obtain ⟨nn, hnn⟩ : ∃ n, I.length = n := ⟨_, rfl⟩
 have hb0 := Below.refl w.heap.size w
 cases hs : sOk I with
 | false =>
   have hno := lh (show mendD I = none from by unfold mendD poolB; rw [hs]; rfl)
   rw [hs] at hD
   replace hD := lh (fun w1 hb => show Calls Tryz.prog 61 #[v] w1 (fun e w' => e = .returned (.tuple #[.agg #[.int .i64 0, .int .i64 0], .int .i64 7]) ∧ Below w1.heap.size w1 w') from hD w1 hb)
   clear hs hv hW hw hN
   replace hnn := lh hnn
   refine callsIn_wide.1 (callsIn_of_wp_marks (n := 4) Tryz.func21 rfl trivial ?_ rfl)
   simp only [Tryz.ntmps21, List.size_toArray, List.length_cons, List.length_nil, Nat.reduceAdd, Nat.reduceSub, Array.replicate_succ, Array.replicate_zero, List.push_toArray, List.append_toArray, List.nil_append, List.cons_append]
   refine wpIn_wide.2 (Code.wp_mono (Q := noPan _) noPan_to ?_)
   go_wp2_with fail
   refine wp_scope_straight ?_
   go_wp2_with fail
   refine (hD.out _ hb0).mono ?_
   rintro e w1 ⟨rfl, hb1⟩
   have hB1 := hb1.alloc hb1.size (.cells #[.int .i64 0, .int .i64 0] 37)
   clear hD hb0
   go_wp2_with fail
   exact ⟨.tuple #[.slice none 0 0, .int .i64 7], by simp [results, Tryz.f21, go_sem], _, by rw [hno.out]; rfl, by rw [hno.out]; exact World.ownsRow_nil _ _ _ _, hB1⟩
 | true =>
   obtain ⟨L, hL⟩ : ∃ L, I.getD 3 0 = L := ⟨_, rfl⟩
   have hg := (gOk_pool hs).2
   rw [hL] at hg
   have hsz := pool_size hg
   have hRd := lh (fun w1 (hb : Below w.heap.size w w1) => readable_any v I (nn : Nat) (L : Nat) w1 (hw.keep hb) hW (hv.keep hb))
   have hre : readB I (nn : Nat) (L : Nat) = poolB I := by unfold readB; rw [hnn, hL, decide_eq_true (p := ((nn : Nat) : Int) = (nn : Nat) ∧ ((L : Nat) : Int) = (L : Nat)) ⟨rfl, rfl⟩, Bool.and_true]
   rw [hre] at hRd
   rw [hs, hL, hnn] at hD
   replace hD := lh (fun w1 hb => show Calls Tryz.prog 61 #[v] w1 (fun e w' => e = .returned (.tuple #[.agg #[.int .i64 (nn : Nat), .int .i64 (L : Nat)], .int .i64 0]) ∧ Below w1.heap.size w1 w') from hD w1 hb)
   cases hp : poolB I with
   | false =>
     have hno := lh (show mendD I = none from by unfold mendD; rw [hp]; rfl)
     rw [hp] at hRd
     clear hs hv hW hw hN hp hre hg hL hsz
     replace hnn := lh hnn
     refine callsIn_wide.1 (callsIn_of_wp_marks (n := 4) Tryz.func21 rfl trivial ?_ rfl)
     simp only [Tryz.ntmps21, List.size_toArray, List.length_cons, List.length_nil, Nat.reduceAdd, Nat.reduceSub, Array.replicate_succ, Array.replicate_zero, List.push_toArray, List.append_toArray, List.nil_append, List.cons_append]
     refine wpIn_wide.2 (Code.wp_mono (Q := noPan _) noPan_to ?_)
     go_wp2_with fail
     refine wp_scope_straight ?_
     go_wp2_with fail
     refine (hD.out _ hb0).mono ?_
     rintro e w1 ⟨rfl, hb1⟩
     have gG := HB.new w1 #[.int .i64 (nn : Nat), .int .i64 (L : Nat)] 37
     have hB1 := hb1.alloc hb1.size (.cells #[.int .i64 (nn : Nat), .int .i64 (L : Nat)] 37)
     obtain ⟨q0, q1⟩ := gG.c2
     clear hD hb0
     go_wp2_with fail
     refine (hRd.out _ hB1).mono ?_
     rintro e w2 ⟨rfl, hb2⟩
     have hB2 := hB1.trans (hb2.mono hB1.size)
     clear q0 q1 hRd gG
     go_wp2_with fail
     exact ⟨.tuple #[.slice none 0 0, .int .i64 7], by simp [results, Tryz.f21, go_sem], _, by rw [hno.out]; rfl, by rw [hno.out]; exact World.ownsRow_nil _ _ _ _, hB2⟩
   | true =>
     have hmd := lh (show mendD I = (match lanesD I L L with | none => none | some ops => some (restL (applyL I ops) L)) from by unfold mendD; rw [if_pos hp, hL]; rfl)
     have hOV := lh (fun ops (h : lanesD I L L = some ops) => lanes_OV hW hg hN (Nat.le_refl L) h)
     rw [hp] at hRd
     replace hcm := hcm hp
     rw [hL] at hcm
     obtain ⟨g, off, cap, rfl, hcap, hgs⟩ := hv.addr hnn (by omega)
     have hAp := lh (fun ops u w1 (hb : Below w.heap.size w w1) (ho : OVs ops) (hlen : ops.length ≤ 100000) (hu : OPL w1 u ops) => apply_any (.slice (some ⟨g, off, none⟩) nn cap) u I ops w1 hW (by omega) ho hlen (hv.keep hb) hu)
     have hC := lh (fun w1 (hb : Below w.heap.size w w1) => And.intro (hw.keep hb) (hv.keep hb))
     have hWa := lh (fun ops (ho : OVs ops) => show WL (applyL I ops) from applyL_WL ho hW)
     have hLn := lh (fun ops => applyL_len ops I)
     have hL10 : L ≤ 64 := hsz.2.1
     clear hs hv hre hp hL
     refine callsIn_wide.1 (callsIn_of_wp_marks (n := 4) Tryz.func21 rfl trivial ?_ rfl)
     simp only [Tryz.ntmps21, List.size_toArray, List.length_cons, List.length_nil, Nat.reduceAdd, Nat.reduceSub, Array.replicate_succ, Array.replicate_zero, List.push_toArray, List.append_toArray, List.nil_append, List.cons_append]
     refine wpIn_wide.2 (Code.wp_mono (Q := noPan _) noPan_to ?_)
     go_wp2_with fail
     refine wp_scope_straight ?_
     go_wp2_with fail
     refine (hD.out _ hb0).mono ?_
     rintro e w1 ⟨rfl, hb1⟩
     have gG := HB.new w1 #[.int .i64 (nn : Nat), .int .i64 (L : Nat)] 37
     have hB1 := hb1.alloc hb1.size (.cells #[.int .i64 (nn : Nat), .int .i64 (L : Nat)] 37)
     obtain ⟨q0, q1⟩ := gG.c2
     clear hD hb0
     go_wp2_with fail
     refine (hRd.out _ hB1).mono ?_
     rintro e w2 ⟨rfl, hb2⟩
     have hB2 := hB1.trans (hb2.mono hB1.size)
     have gG2 := gG.keep hb2
     have hgl2 := gG2.lt
     clear q0 q1 hRd gG hb2
     obtain ⟨G4, hG4⟩ : ∃ G4, w1.heap.size = G4 := ⟨_, rfl⟩
     rw [hG4] at gG2 hgl2 ⊢
     clear hB1 hb1
     have e1 := bZ w2 (.cells #[.slice none 0 0] 29)
     have gG3 := gG2.keep e1
     have bO3 := HB.new w2 #[.slice none 0 0] 29
     have hB3 := hB2.trans (e1.mono hB2.size)
     have e2 := (Below.refl _ (w2.alloc (.cells #[.slice none 0 0] 29))).alloc (Nat.le_refl _) (.cells #[.bool true] 4)
     have gG4 := gG3.keep e2
     have bO4 := bO3.keep e2
     have bR4 := HB.new (w2.alloc (.cells #[.slice none 0 0] 29)) #[.bool true] 4
     have hB4 := hB3.trans (e2.mono hB3.size)
     have e12 := e1.trans (e2.mono e1.size)
     simp only [World.size_alloc] at bR4
     obtain ⟨q0, q1⟩ := gG4.c2
     clear gG3 bO3 e1 e2 hB3 gG2
     go_wp2_with fail
     refine wp_label ?_
     go_wp2_with fail
     refine (callsIn_wide.1 (lanes_in 3 (some ⟨g, off, none⟩) nn cap nn L _)).mono ?_
     rintro e w' ⟨rfl, rfl⟩
     clear q0 q1
     obtain ⟨w4, hw4⟩ : ∃ w4, (w2.alloc (.cells #[.slice none 0 0] 29)).alloc (.cells #[.bool true] 4) = w4 := ⟨_, rfl⟩
     have hs4 : w4.heap.size = w2.heap.size + 2 := by rw [← hw4]; simp
     rw [hw4] at gG4 bO4 bR4 hB4 e12 ⊢
     clear hw4
     have e3 := bZ w4 (.cells #[.slice (some ⟨g, off, none⟩) nn cap] 25)
     have bI5 := HB.new w4 #[.slice (some ⟨g, off, none⟩) nn cap] 25
     have e4 := (Below.refl _ (w4.alloc (.cells #[.slice (some ⟨g, off, none⟩) nn cap] 25))).alloc (Nat.le_refl _) (.cells #[.int .i64 (nn : Nat), .int .i64 (L : Nat)] 37)
     have bI6 := bI5.keep e4
     have bG6 := HB.new (w4.alloc (.cells #[.slice (some ⟨g, off, none⟩) nn cap] 25)) #[.int .i64 (nn : Nat), .int .i64 (L : Nat)] 37
     have gG6 := (gG4.keep e3).keep e4
     have bO6 := (bO4.keep e3).keep e4
     have bR6 := (bR4.keep e3).keep e4
     have e34 := e3.trans (e4.mono e3.size)
     have e16 := e12.trans (e34.mono e12.size)
     have hB6 := hB4.trans (e34.mono hB4.size)
     simp only [World.size_alloc] at bG6
     go_wp2_with fail
     refine (wpIn_wide (n := 4)).1 ?_
     obtain ⟨W0, hW0⟩ : ∃ W0, ((w4.alloc (.cells #[.slice (some ⟨g, off, none⟩) nn cap] 25)).alloc (.cells #[.int .i64 (nn : Nat), .int .i64 (L : Nat)] 37)) = W0 := ⟨_, rfl⟩
     have hs6 : W0.heap.size = w2.heap.size + 4 := by rw [← hW0]; simp; omega
     rw [hW0] at bI6 bG6 gG6 bO6 bR6 e16 hB6 ⊢
     clear hW0 e3 e4 bI5 gG4 bO4 bR4 hB4 e12 e34
     obtain ⟨B, hBB⟩ : ∃ B, w2.heap.size = B := ⟨_, rfl⟩
     rw [hs4, hBB] at bI6 bG6
     rw [hBB] at bO6 bR6 e16 hs6 hs4 hgl2 ⊢
     have hwB : w.heap.size ≤ B := by rw [← hBB]; exact hB2.size
     replace hnn := lh hnn
     have bO7 : Boxed W0 B 29 (.slice none 0 0) := bO6
     have hLI := lh (fun ys (h : List.map Prod.snd (ys : List Lx) = lanesS I L L) => show ys.length = L from by have := congrArg List.length h; rw [List.length_map, lanesS_len] at this; exact this)
     refine wpIn_rangeFunc_told rfl (by omega) (gf := 120) (lb := #[.pointer (some ⟨B + 2 + 1, 0, none⟩), .pointer (some ⟨B + 2, 0, none⟩)]) rfl trivial (enters_of Tryz.func120 (by kernel_rfl) rfl)
      (lns_told 3 (by omega) B (B + 2 + 1) (B + 2) B L (.slice (some ⟨g, off, none⟩) nn cap) I hW hg hcm hN W0 (by omega) (ownLt_of bO7 (fun b q => by simp [Value.ownBlock] at q)) (by rw [hnn.out]; exact bG6) bI6 (by omega) (by omega) (fun q => by have := (ownAt_iff bO7).1 q; simp [Value.ownBlock] at this) (fun q => by have := (ownAt_iff bO7).1 q; simp [Value.ownBlock] at this) (by omega) (fun w1 hb => hC.out w1 (hB6.trans (hb.mono hwB))))
      kp_t (kp_b (by omega) (by omega)) (Below.refl _ _) (fun _ => rfl)
      (fun pre W => ∃ v0, OI B B w2 (curM pre) W v0 ∧ (∀ y ∈ pre, y.2.isSome = true) ∧ (curM pre).length ≤ 800 * pre.length ∧ HB W G4 #[.int .i64 (nn : Nat), .int .i64 (L : Nat)] 37 ∧ HB W (B + 1) #[.bool true] 4)
      (fun c pre W => c = .exit 0 ∧ (∃ y ∈ pre, y.2.isSome = false) ∧ HB W (B + 1) #[.bool false] 4 ∧ Below w.heap.size w W)
      (fun s A1 B1 row hs hgr hr => by
        obtain ⟨v0, h1, h2, h3, h4, h5⟩ := hs
        exact ⟨v0, h1.walk hgr (ownFrom_below (β := Unit) (n₀ := B) (by omega) (by omega) () A1 B1 row h1.B hgr hr) (fun r e => (hr r e).2), h2, h3, h4.walk hgr (fun r e => (hr r e).2), h5.walk hgr (fun r e => (hr r e).2)⟩)
      (fun c s A1 B1 row hs hgr hr => by
        obtain ⟨h1, h2, h3, h4⟩ := hs
        exact ⟨h1, h2, h3.walk hgr (fun r e => (hr r e).2), ownFrom_below (β := Unit) (Nat.le_refl w.heap.size) (by omega) () A1 B1 row h4 hgr hr⟩)
      ⟨_, ⟨bO7, OwnE.nil _ _ _ _ _, e16⟩, (fun y hy => by cases hy), Nat.zero_le _, gG6, bR6⟩
      (fun y a' W => OPL W y.1 (y.2.getD []) ∧ (y.2.getD []).length ≤ 800 ∧ a' = { tmps := #[.slice (some ⟨g, off, none⟩) nn cap, undef, .slice none 0 0, .int .i64 0, .pointer (some ⟨G4, 0, none⟩), .int .i64 0, .pointer (some ⟨B, 0, none⟩), .pointer (some ⟨B + 1, 0, none⟩), y.1, .bool y.2.isSome, undef, .tuple #[.agg #[.int .i64 (nn : Nat), .int .i64 (L : Nat)], .int .i64 0], .slice (some ⟨g, off, none⟩) nn cap, .tuple #[.agg #[.int .i64 (nn : Nat), .int .i64 (L : Nat)], .int .i64 0], .agg #[.int .i64 (nn : Nat), .int .i64 (L : Nat)], .int .i64 0, .int .i64 0, .bool false, .bool false, .slice (some ⟨g, off, none⟩) nn cap, .agg #[.int .i64 (nn : Nat), .int .i64 (L : Nat)], .bool true, .bool false, .bool false, .slice (some ⟨g, off, none⟩) nn cap, .agg #[.int .i64 (nn : Nat), .int .i64 (L : Nat)], .func (.func 120) #[] #[.pointer (some ⟨B + 2 + 1, 0, none⟩), .pointer (some ⟨B + 2, 0, none⟩)], y.1, .bool y.2.isSome, undef, undef, undef, undef, undef, undef, undef, undef, undef, undef, undef, undef, undef, undef], defers := [] })
      (fun y a' _ X Y row hs hgr hr => ⟨EL.walk opE_len hs.1 hgr (fun r e => (hr r e).2), hs.2.1, hs.2.2⟩)
      ?assign ?body ?done ?stop
     case assign =>
      rintro l pre y W K hNI hTT hK2
      obtain ⟨yv, yo⟩ := y
      dsimp only at *
      gi_wp2
      exact hK2 _ _ ((KeepsOthers.refl _).from _) (by obtain ⟨v0, hOI, _⟩ := hNI; exact kp_of (Below.refl _ _) (Nat.le_of_lt hOI.b.lt) hOI.b.lt) hNI ⟨hTT.1, hTT.2, rfl⟩
     case body =>
      rintro l pre y a' W ⟨v0, hOI, hal, hle, hG, hR⟩ ⟨hO, hl8, rfl⟩ hlt
      have hsn := lh (curM_snoc pre y)
      obtain ⟨yv, yo⟩ := y
      dsimp only at *
      cases yo with
      | none =>
        have hR9 : Boxed W (B + 1) 4 (.bool true) := hR
        have f0 := hR9.cell
        have f1 := hR9.frozen
        have e1 : HB (W.setCell ⟨B + 1, 0, none⟩ (.bool false)) (B + 1) #[.bool false] 4 := hR9.set (.bool false)
        have hBe := (hB2.trans (hOI.B.mono hwB)).setCell (p := ⟨B + 1, 0, none⟩) (by simp; omega) (.bool false)
        clear hOI hG hR hO hl8 hR9
        gi_wp2
        exact ⟨(KeepsOthers.setCell _ _ _).from _, rfl, ⟨_, List.mem_append_right _ (List.mem_singleton.2 rfl), rfl⟩, e1, hBe⟩
      | some ops =>
        simp only [Option.getD_some, Option.isSome_some] at *
        obtain ⟨A8, m8, c8, w8, hrun, hbv, hO8, hk8, hkp8, hoth⟩ := hOI.addL (Nat.le_refl _) (by omega) (by omega) hO (by omega)
        have hbc := hOI.b.cell
        have hbd := hbv.cell
        have hbf := hbv.frozen
        have hG8 := hoth _ _ _ hG (by omega) (by decide)
        have hR8 := hoth _ _ _ hR (by omega) (by decide)
        rw [← hsn.out] at hO8
        clear hOI hG hR hO hoth hbv
        gi_wp2_with (gi_at_builtin; refine wpListIn_append_run rfl _ _ 29 rfl _ _ _ rfl rfl hrun ?_)
        exact ⟨hk8.from _, hkp8, _, hO8, fun y hy => by
         rcases List.mem_append.1 hy with hy | hy
         ·exact hal y hy
         rw [List.mem_singleton] at hy; rw [hy]; rfl, by rw [hsn.out, List.length_append, List.length_append]; simp; omega, hG8, hR8⟩
     case done =>
      rintro D ys W hD hys ⟨v0, hOI, hal, hle, hG, hR⟩ hKD
      have hops := curM_all hys hal
      have hyl := hLI.out ys hys
      obtain ⟨ops, hop⟩ : ∃ ops, curM ys = ops := ⟨_, rfl⟩
      rw [hop] at hops hle hOI
      have hyes := lh (show mendD I = some (restL (applyL I ops) L) from by rw [hmd.out, hops])
      have hOVo := hOV.out ops hops
      have hWo := hWa.out ops hOVo
      have hlo := hLn.out ops
      rw [hnn.out] at hlo
      have hBW := hB2.trans (hOI.B.mono hwB)
      have hApp := hAp.out ops v0 W hBW hOVo (by rw [hyl] at hle; omega) (hOI.o.el opE_len)
      have f0 := (show Boxed W (B + 1) 4 (.bool true) from hR).cell
      have b0 := hOI.b.cell
      have hDl := (Array.getElem?_eq_some_iff.1 hKD).1
      have hg2 : gOk (nn : Nat) (L : Nat) = true := by rw [← hnn.out]; exact hg
      replace hOVo := lh hOVo
      replace hop := lh hop
      replace hops := lh hops
      replace hyl := lh hyl
      replace hlo := lh hlo
      clear hal hle hys hOI hR
      go_wp2_with fail
      refine hApp.mono ?_
      rintro e w7 ⟨v7, rfl, hU7, hb7⟩
      have hB7 := hBW.trans (hb7.mono hBW.size)
      have hKD7 := (hb7.block D hDl).trans hKD
      obtain ⟨A7, c7, hv7, hf7⟩ := hU7.form
      rw [hlo.out] at hv7 hf7
      subst hv7
      obtain ⟨B7, rfl, hB7l, hB7u⟩ := hf7 (by have := hnn.out; omega)
      have hRs := rest_any B7 nn c7 (applyL I ops) L w w7 hw hB7 hWo hlo.out (hU7.mono (by have := hBW.size; omega)) hg2
      obtain ⟨q0, q1⟩ := (hG.keep hb7).c2
      have hDB : ¬ D = B7 := by omega
      clear b0 f0 hApp hU7 hG hb7
      go_wp2_with fail
      refine hRs.mono ?_
      rintro e w8 ⟨rfl, hU8, hc8⟩
      have hDl7 := (Array.getElem?_eq_some_iff.1 hKD7).1
      have hKD8 := (hc8.block D hDl7 hDB).trans hKD7
      have hB8 := hB7.trans (hc8.below (N := w.heap.size) (fun k hk => by rw [hk]; have := hBW.size; omega) hB7.size)
      have ho9 := hU8.walk (grownBy_putObj' _ D (.deferred none)) (fun r e => by cases e; exact ⟨_, hKD8, rfl⟩)
      have hBf := hB8.trans (belowK_b (w := w) (Nat.le_refl _) _ D _ (.deferred none) (by omega) hKD8 rfl rfl)
      clear q0 q1 hRs hU8 hc8
      go_wp2_with fail
      refine ⟨by simp, .inl ⟨_, _, rfl, run_takeDeferred hKD8, ?_⟩⟩
      refine ⟨.tuple #[.slice (some ⟨B7, 0, none⟩) nn c7, .int .i64 0], by simp [results, Tryz.f21, go_sem], .slice (some ⟨B7, 0, none⟩) nn c7, by rw [hyes.out]; rfl, by rw [hyes.out]; exact ho9, hBf⟩
     rintro D cc pre W hD hpre ⟨rfl, hex, hR, hB9⟩ hKD
     have hno := lh (show mendD I = none from by rw [hmd.out, curM_none hpre hex])
     have f0 := (show Boxed W (B + 1) 4 (.bool false) from hR).cell
     have hBf := hB9.trans (belowK_b (w := w) (Nat.le_refl _) _ D _ (.deferred none) (by omega) hKD rfl rfl)
     clear hpre hex hR hB9
     refine wpIn_exit ?_
     go_wp2_with fail
     refine ⟨by simp, .inl ⟨_, _, rfl, run_takeDeferred hKD, ?_⟩⟩
     refine ⟨.tuple #[.slice none 0 0, .int .i64 7], by simp [results, Tryz.f21, go_sem], .slice none 0 0, by rw [hno.out]; rfl, by rw [hno.out]; exact World.ownsRow_nil _ _ _ _, hBf⟩
end Go.Proofs.YtkkbngcgphlikaaGreatDoor
end
section
namespace Go.Proofs.YtkkbngcgphlikaaGreatDoor
open Go.Lib Go.RowKit Go.ChangeShapes Go.WideShapes Go.Deep Go.Shelf
theorem HB.chg {S : Nat → Prop} {w w1 : World} {b : Nat} {cs : Array Value} {t : TypeId} (h : HB w b cs t) (hc : Chg S w w1) (hn : ¬ S b) : HB w1 b cs t := (hc.block b h.lt hn).trans h
theorem HB.ne_row {w : World} {b g n c base : Nat} {cs : Array Value} {t : TypeId} {l : List Nat} (h : HB w b cs t) (ho : OwnU w base (.slice (some ⟨g, 0, none⟩) n c) l) (ht : t ≠ 40) : b ≠ g := fun e => by
 obtain ⟨_, cur, hg⟩ := OwnU_row ho
 subst e
 have h3 := (show w.heap[b]? = _ from h).symm.trans hg
 simp at h3
 exact ht h3.2
def putK (X : List Nat) (a : Nat) (l : List Nat) : Nat → List Nat
 | 0 => X
 | k + 1 => (putK X a l k).set (a + k) (l.getD k 0)
def putL (X : List Nat) (a : Nat) (l : List Nat) : List Nat := putK X a l l.length
theorem putK_len (X : List Nat) (a : Nat) (l : List Nat) : ∀ k, (putK X a l k).length = X.length
 | 0 => rfl
 | k + 1 => by rw [putK, List.length_set, putK_len X a l k]
theorem putL_len (X : List Nat) (a : Nat) (l : List Nat) : (putL X a l).length = X.length := putK_len _ _ _ _
theorem putK_stop (X : List Nat) (a : Nat) (l : List Nat) (j : Nat) (h : X.length ≤ a + j) : ∀ k, putK X a l (j + k) = putK X a l j
 | 0 => rfl
 | k + 1 => by
   rw [show j + (k + 1) = (j + k) + 1 from rfl, putK, putK_stop X a l j h k]
   exact List.set_eq_of_length_le (by rw [putK_len]; omega)
theorem putK_WL {X : List Nat} {a : Nat} {l : List Nat} (hX : WL X) (hl : WL l) : ∀ k, WL (putK X a l k)
 | 0 => hX
 | k + 1 => (putK_WL hX hl k).setN _ _ (hl.getN k)
theorem putL_WL {X : List Nat} {a : Nat} {l : List Nat} (hX : WL X) (hl : WL l) : WL (putL X a l) := putK_WL hX hl _
theorem put_any15 (B N c a : Nat) (u : Value) (X l : List Nat) (b0 : Nat) (w : World) (ho : OwnU w b0 (.slice (some ⟨B, 0, none⟩) N c) X) (hX : X.length = N) (hu : ∀ w1, Chg (fun k => k = B) w w1 → KL .u64 w1 u l) (ha : a ≤ 100000) (hl : l.length ≤ 100000) (hN : N ≤ 100000) :
 Calls Tryz.prog 78 #[.slice (some ⟨B, 0, none⟩) N c, .int .i64 (a : Nat), u] w fun e w' => e = .returned (.tuple #[]) ∧ OwnU w' b0 (.slice (some ⟨B, 0, none⟩) N c) (putL X a l) ∧ Chg (fun k => k = B) w w' := by
 obtain ⟨n, hn⟩ : ∃ n, l.length = n := ⟨_, rfl⟩
 obtain ⟨A, cap, rfl, -⟩ := (hu w (Chg.refl _ _)).form hn
 have hC := lh (fun w1 i (hc : Chg (fun k => k = B) w w1) (hi : i < n) => show ∃ g off, A = some ⟨g, off, none⟩ ∧ n ≤ cap ∧ g < w1.heap.size ∧ w1.cell? ⟨g, off + i, none⟩ = some (.int .u64 (l.getD i 0 : Nat)) from by
  obtain ⟨A2, c2, hv2, h⟩ := (hu w1 hc).form hn
  cases hv2
  obtain ⟨g, off, h1, h2, h3, h4⟩ := h w1 i (Below.refl _ _) hi
  exact ⟨g, off, h1, h2, h3, h4⟩)
 have hst := lh (fun k => show putK X a l (k + 1) = (putK X a l k).set (a + k) (l.getD k 0) from rfl)
 have hpl := lh (fun k => (putK_len X a l k).trans hX)
 have hfin := lh (show putL X a l = putK X a l n from by unfold putL; rw [hn])
 have hstop := lh (fun j (hj : j ≤ n) (h : N ≤ a + j) => show putK X a l n = putK X a l j from by
  have := putK_stop X a l j (by omega) (n - j)
  rwa [show j + (n - j) = n from by omega] at this)
 replace hn := lh hn
 have hn9 : n ≤ 100000 := by have := hn.out; omega
 clear hu hl
 go_enter Tryz.func78, Tryz.ntmps78
 go_wp2_with fail
 go_loopw [6] (fun i wr => ∃ (j : Nat), j ≤ n ∧ i = .int .i64 j ∧ OwnU wr b0 (.slice (some ⟨B, 0, none⟩) N c) (putK X a l j) ∧ Chg (fun k => k = B) w wr) (fun i _ => n + 1 - (intOf i).toNat)
 case atStart => exact ⟨0, Nat.zero_le _, rfl, ho, Chg.refl _ _⟩
 obtain ⟨j, hj, rfl, hor, hcr⟩ := hrel
 clear ho
 have hw1 : IntKind.i64.wrap ((a : Int) + (j : Int)) = (a : Int) + (j : Int) := by rw [IntKind.wrap_i64]; omega
 by_cases hlt : j < n
 rotate_left
 ·obtain rfl : j = n := by omega
  have hlt' : decide ((j : Int) < (j : Int)) = false := decide_eq_false (by omega)
  go_wp2_with fail
  (first | go_end0 | go_ret)
  exact ⟨rfl, by rw [hfin.out]; exact hor, hcr⟩
 have hlt' : (j : Int) < (n : Int) := by omega
 by_cases hf : a + j < N
 rotate_left
 ·have hf' : decide ((a : Int) + (j : Int) < (N : Int)) = false := decide_eq_false (by omega)
  have hs := lh (hstop.out j (by omega) (by omega))
  go_wp2_with fail
  (first | go_end0 | go_ret)
  exact ⟨rfl, by rw [hfin.out, hs.out]; exact hor, hcr⟩
 have hf' : (a : Int) + (j : Int) < (N : Int) := by omega
 obtain ⟨g, off, rfl, hcap, hg, c0⟩ := hC.out wr j hcr hlt
 obtain ⟨d0, d1⟩ := hor.cell (hpl.out j) hf
 have ho2 := hor.set (y := l.getD j 0) (hpl.out j) hf
 rw [← hst.out j] at ho2
 have hc2 := hcr.trans (Chg.setCell (S := fun k => k = B) wr B (a + j) (.int .u64 (l.getD j 0 : Nat)) rfl) (fun k h => .inl h)
 generalize l.getD j 0 = x at *
 obtain ⟨q, hq⟩ : ∃ q, a + j = q := ⟨_, rfl⟩
 have hq' : (a : Int) + (j : Int) = (q : Int) := by omega
 rw [hq'] at hw1 hf'
 rw [hq] at d0 d1 ho2 hc2
 replace hq := lh hq
 have hq2 := hq'
 clear hor hcr hf
 go_wp2_with fail
 go_roundw
 case rel => exact ⟨j + 1, by omega, by go_num, ho2, hc2⟩
 first | (simp [intOf]; done) | (simp [intOf]; omega)
end Go.Proofs.YtkkbngcgphlikaaGreatDoor
end
section
namespace Go.Proofs.YtkkbngcgphlikaaGreatDoor
open Go.Lib Go.RowKit Go.ChangeShapes Go.WideShapes Go.Deep Go.Shelf
abbrev Itm := Nat × Nat × Nat × List Pe × List Ox
abbrev ItV := Nat × Nat × Nat × (Value × List Pe) × (Value × List Ox)
def eIt (x : ItV) : List Value := [.int .u8 (x.1 : Nat), .int .u8 (x.2.1 : Nat), .int .u64 (x.2.2.1 : Nat), slV x.2.2.2.1.1, slV x.2.2.2.2.1]
def itm (x : ItV) : Itm := (x.1, x.2.1, x.2.2.1, x.2.2.2.1.2, x.2.2.2.2.2)
def eSl (s : Nat × Nat) : List Value := [.int .u16 (s.1 : Nat), .int .u64 (s.2 : Nat)]
structure Gv where
 a : Nat
 b : Nat
 tiles : List Nat
 fill : List Nat
 items : List Itm
 root : Nat
 epoch : Nat
 spoil : List (Nat × Nat)
structure GvM (w : World) (vT vF vI vS : Value) (xs : List ItV) (p : Gv) : Prop where
 t : KL .u16 w vT p.tiles
 f : KL .u64 w vF p.fill
 i : EL 5 eIt w vI xs
 e : ∀ x ∈ xs, EN w x.2.2.2.1.1 x.2.2.2.1.2
 o : ∀ x ∈ xs, OPL w x.2.2.2.2.1 x.2.2.2.2.2
 x : xs.map itm = p.items
 s : EL 2 eSl w vS p.spoil
structure GvB (p : Gv) : Prop where
 a : p.a < 256
 b : p.b < 256
 t : HL p.tiles
 f : WL p.fill
 i : ∀ x ∈ p.items, x.1 < 256 ∧ x.2.1 < 256 ∧ x.2.2.1 < 18446744073709551616 ∧ (∀ e ∈ x.2.2.2.1, WL e.2) ∧ OVs x.2.2.2.2
 r : p.root < 18446744073709551616
 e : p.epoch < 18446744073709551616
 s : ∀ x ∈ p.spoil, x.1 < 65536 ∧ x.2 < 18446744073709551616
def gvV (p : Gv) (vT vF vI vS : Value) : Value := .agg #[.int .u8 (p.a : Nat), .int .u8 (p.b : Nat), vT, vF, vI, .int .u64 (p.root : Nat), .int .u64 (p.epoch : Nat), vS]
def gvC (p : Gv) (vT vF vI vS : Value) : Array Value := #[.int .u8 (p.a : Nat), .int .u8 (p.b : Nat), vT, vF, vI, .int .u64 (p.root : Nat), .int .u64 (p.epoch : Nat), vS]
theorem EN.sl {w : World} {v : Value} {l : List Pe} (h : EN w v l) : ∃ A c, v = .slice A l.length c := by
 obtain ⟨xs, h1, h2, h3⟩ := h
 obtain ⟨A, c, hv, _⟩ := h1
 exact ⟨A, c, by rw [hv, ← h3, List.length_map]⟩
theorem EL.sl {α : Type} [Inhabited α] {sz : Nat} {en : α → List Value} {w : World} {v : Value} {l : List α} (h : EL sz en w v l) : ∃ A c, v = .slice A l.length c := by
 obtain ⟨A, c, hv, _⟩ := h
 exact ⟨A, c, hv⟩
theorem GvM.item {w : World} {vT vF vS : Value} {AI : Option Addr} {n cI : Nat} {xs : List ItV} {p : Gv} (h : GvM w vT vF (.slice AI n cI) vS xs p) (hn : p.items.length = n) (w1 : World) (hb : Below w.heap.size w w1) (j : Nat) (hj : j < n) :
 ∃ g off ln st gn Ae ce Ao co es ops, AI = some ⟨g, off, none⟩ ∧ n ≤ cI ∧ g < w.heap.size ∧ p.items.getD j default = (ln, st, gn, es, ops) ∧ (ln, st, gn, es, ops) ∈ p.items ∧ EN w1 (.slice Ae es.length ce) es ∧ OPL w1 (.slice Ao ops.length co) ops ∧
   (w1.cell? ⟨g, off + j * 5, none⟩ = some (.int .u8 (ln : Nat)) ∧ w1.cell? ⟨g, off + j * 5 + 1, none⟩ = some (.int .u8 (st : Nat)) ∧ w1.cell? ⟨g, off + j * 5 + 2, none⟩ = some (.int .u64 (gn : Nat)) ∧ w1.cell? ⟨g, off + j * 5 + 3, none⟩ = some (.slice Ae es.length ce) ∧ w1.cell? ⟨g, off + j * 5 + 4, none⟩ = some (.slice Ao ops.length co)) := by
 have hl : xs.length = n := by rw [← hn, ← h.x, List.length_map]
 obtain ⟨A, c, hv, hc⟩ := EL.form h.i hl
 cases hv
 obtain ⟨g, off, rfl, h1, h2, h3, h4⟩ := hc w1 j hb hj
 have hm : xs.getD j default ∈ xs := by rw [List.getD_eq_getElem?_getD, List.getElem?_eq_getElem (by omega)]; exact List.getElem_mem _
 have hit : p.items.getD j default = itm (xs.getD j default) := by
  rw [← h.x, List.getD_eq_getElem?_getD, List.getD_eq_getElem?_getD, List.getElem?_map, List.getElem?_eq_getElem (by omega)]
  rfl
 have hE := (h.e _ hm).keep hb
 have hO := (h.o _ hm).keep hb
 have hmi : itm (xs.getD j default) ∈ p.items := by rw [← h.x]; exact List.mem_map_of_mem hm
 obtain ⟨q, hq⟩ : ∃ q, xs.getD j default = q := ⟨_, rfl⟩
 rw [hq] at hE hO hit hmi h4
 obtain ⟨ln, st, gn, ⟨ve, es⟩, ⟨vo, ops⟩⟩ := q
 simp only [] at hE hO
 obtain ⟨Ae, ce, rfl⟩ := hE.sl
 obtain ⟨Ao, co, rfl⟩ := EL.sl hO
 exact ⟨g, off, ln, st, gn, Ae, ce, Ao, co, es, ops, rfl, h1, h2, hit, hmi, hE, hO, h4 0 (by omega), h4 1 (by omega), h4 2 (by omega), h4 3 (by omega), h4 4 (by omega)⟩
def gvL (p : Gv) : Nat := 1 + p.a % 3
def gvG (p : Gv) : Nat := 1 + p.b % 8
def gvN (p : Gv) : Nat := 10 + 73 * gvL p + 33 * gvG p
theorem geom_any (p : Gv) (AT AF AI AS : Option Addr) (nT cT nF cF nI cI nS cS : Nat) (w : World) (hB : GvB p) :
 Calls Tryz.prog 13 #[gvV p (.slice AT nT cT) (.slice AF nF cF) (.slice AI nI cI) (.slice AS nS cS)] w fun e w' => e = .returned (.agg #[.int .i64 (gvN p : Nat), .int .i64 (gvL p : Nat)]) ∧ Below w.heap.size w w' := by
 have ha := hB.a
 have hb := hB.b
 unfold gvV gvN gvL gvG
 obtain ⟨a, hpa⟩ : ∃ a, p.a = a := ⟨_, rfl⟩
 obtain ⟨b, hpb⟩ : ∃ b, p.b = b := ⟨_, rfl⟩
 rw [hpa] at ha
 rw [hpb] at hb
 rw [hpa, hpb]
 generalize p.root = r
 generalize p.epoch = ep
 obtain ⟨a3, ha3⟩ : ∃ a3, a % 3 = a3 := ⟨_, rfl⟩
 obtain ⟨b8, hb8⟩ : ∃ b8, b % 8 = b8 := ⟨_, rfl⟩
 have m1 : (a : Int) % 3 = (a3 : Int) := by omega
 have m2 : (b : Int) % 8 = (b8 : Int) := by omega
 have m3 : (a : Int).tmod 3 = (a3 : Int) := by rw [Int.tmod_eq_emod_of_nonneg (by omega)]; exact m1
 have m4 : (b : Int).tmod 8 = (b8 : Int) := by rw [Int.tmod_eq_emod_of_nonneg (by omega)]; exact m2
 have hS := lh (fun w1 => show Calls Tryz.prog 52 #[.int .u8 (a3 : Nat), .int .u8 (b8 : Nat), .int .u8 0] w1 (fun e w' => e = .returned (.agg #[.int .i64 ((10 + 73 * (1 + a3) + 33 * (1 + b8) : Nat) : Int), .int .i64 ((1 + a3 : Nat) : Int)]) ∧ Below w1.heap.size w1 w') from by
  have h := small_any (a3 : Nat) (b8 : Nat) 0 w1 (by omega) (by omega) (by omega) (by omega) (by omega) (by omega)
  rw [show ((10 + 73 * (1 + a3) + 33 * (1 + b8) : Nat) : Int) = smW (a3 : Nat) (b8 : Nat) 0 from by unfold smW; omega, show ((1 + a3 : Nat) : Int) = smL (a3 : Nat) from by unfold smL; omega]
  exact h)
 rw [ha3, hb8]
 generalize 10 + 73 * (1 + a3) + 33 * (1 + b8) = N at *
 generalize 1 + a3 = L at *
 have hB1 := bZ w (.cells #[.int .u8 (a : Nat), .int .u8 (b : Nat), .slice AT nT cT, .slice AF nF cF, .slice AI nI cI, .int .u64 (r : Nat), .int .u64 (ep : Nat), .slice AS nS cS] 43)
 have gP := HB.new w #[.int .u8 (a : Nat), .int .u8 (b : Nat), .slice AT nT cT, .slice AF nF cF, .slice AI nI cI, .int .u64 (r : Nat), .int .u64 (ep : Nat), .slice AS nS cS] 43
 obtain ⟨wa, hwa⟩ : ∃ x, w.alloc (.cells #[.int .u8 (a : Nat), .int .u8 (b : Nat), .slice AT nT cT, .slice AF nF cF, .slice AI nI cI, .int .u64 (r : Nat), .int .u64 (ep : Nat), .slice AS nS cS] 43) = x := ⟨_, rfl⟩
 have hsa : wa.heap.size = w.heap.size + 1 := by rw [← hwa]; simp
 rw [hwa] at hB1 gP
 have gR := HB.new wa #[.int .i64 0, .int .i64 0] 37
 have e2 := bZ wa (.cells #[.int .i64 0, .int .i64 0] 37)
 have gP2 := gP.keep e2
 have hB2 := hB1.trans (e2.mono hB1.size)
 obtain ⟨wb, hwb⟩ : ∃ x, wa.alloc (.cells #[.int .i64 0, .int .i64 0] 37) = x := ⟨_, rfl⟩
 rw [hwb] at gP2 gR hB2
 rw [hsa] at gR
 obtain ⟨C, hC⟩ : ∃ C, w.heap.size = C := ⟨_, rfl⟩
 rw [hC] at gP2 gR hsa
 have p0 := (row_cell gP2 0).1
 have p1 := (row_cell gP2 1).1
 clear hB1 gP e2 m1 m2 ha3 hb8
 have m1 : (a : Int) % 3 = (a3 : Int) := by rw [← m3, Int.tmod_eq_emod_of_nonneg (by omega)]
 have m2 : (b : Int) % 8 = (b8 : Int) := by rw [← m4, Int.tmod_eq_emod_of_nonneg (by omega)]
 go_enter Tryz.func13, Tryz.ntmps13
 subst hwb hwa
 go_wp2_with fail
 refine (hS.out _).mono ?_
 rintro e w1 ⟨rfl, hb1⟩
 have gR1 := gR.keep hb1
 have hB3 := hB2.trans (hb1.mono hB2.size)
 obtain ⟨r0, f0⟩ := row_cell gR1 0
 obtain ⟨r1, f1⟩ := row_cell gR1 1
 obtain ⟨w9, h9, ⟨c0, c1⟩, hb9⟩ := st2_ex (HB.c2 gR1) (.int .i64 (N : Nat)) (.int .i64 (L : Nat))
 have hB9 := hB3.trans (hb9.mono (by omega))
 clear gP2 gR gR1 hb1 hb9 hB2 hB3 p0 p1 hS
 subst h9
 go_wp2_with fail
 refine bodyPost_ret (v := .agg #[.int .i64 (N : Nat), .int .i64 (L : Nat)]) (by simp [results, Tryz.results13, go_sem, c0, c1]) rfl ⟨rfl, hB9⟩
def fewI (x : Itm) : Bool := decide (x.2.2.2.1.length ≤ 12) && decide (x.2.2.2.2.length ≤ 22) && x.2.2.2.1.all fun e => decide (e.2.length ≤ 20)
def fewB (p : Gv) : Bool := decide (p.tiles.length ≤ 20 ∧ p.fill.length ≤ 40 ∧ p.items.length ≤ 4 ∧ p.spoil.length ≤ 4) && p.items.all fewI
end Go.Proofs.YtkkbngcgphlikaaGreatDoor
end
section
namespace Go.Proofs.YtkkbngcgphlikaaGreatDoor
open Go.RowKit Go.ChangeShapes Go.WideShapes Go.Deep
theorem ci : Tryz.prog.cellsOf 3 = 1 := by kernel_rfl
def OL (l : List Ox) : Prop := l.length ≤ 9223372036854775807 ∧ ∀ o ∈ l, OB o
theorem OL.ov {l : List Ox} (h : OL l) : ∀ o ∈ l, o.2.2 < 18446744073709551616 := fun o ho => (h.2 o ho).2.2.2.2
theorem ops_open {H : Type} {enc : TypeId × Value → H} {W : World} {ad : Option Addr} {len cap : Nat} {d : DataW H} {p : List MemPlace}
 (h : DataW.Trod enc Tryz.prog W 0 (fun _ => true) true 29 (.slice ad len cap) d p) : ∃ l : List Ox, OL l ∧ OPL W (.slice ad len cap) l := by
 refine els_open (Ok := OB) Tryz.underlying29 (by kernel_rfl) (by decide) (fun fuel cs x hl hx => ?_) h
 obtain ⟨xs, n, _, _, _, hxl, hf⟩ := DataW.trod_struct Tryz.underlying107 hx
 match xs, hxl, cs, hl with
 | [y0, y1, y2], _, [v0, v1, v2], _ =>
   have ci : Tryz.prog.cellsOf 3 = 1 := by kernel_rfl
   have cu : Tryz.prog.cellsOf 40 = 1 := by kernel_rfl
   have g0 : DataW.trod enc Tryz.prog W 0 (fun _ => true) true n 3 ((([v0, v1, v2] : List Value).drop 0).take (Tryz.prog.cellsOf 3)) = some y0 := hf 0 _ rfl
   have g1 : DataW.trod enc Tryz.prog W 0 (fun _ => true) true n 3 ((([v0, v1, v2] : List Value).drop 1).take (Tryz.prog.cellsOf 3)) = some y1 := hf 1 _ rfl
   have g2 : DataW.trod enc Tryz.prog W 0 (fun _ => true) true n 40 ((([v0, v1, v2] : List Value).drop 2).take (Tryz.prog.cellsOf 40)) = some y2 := hf 2 _ rfl
   rw [ci] at g0 g1
   rw [cu] at g2
   obtain ⟨a0, e0, _, w0⟩ := DataW.trod_int Tryz.underlying3 g0
   obtain ⟨a1, e1, _, w1⟩ := DataW.trod_int Tryz.underlying3 g1
   obtain ⟨a2, e2, _, w2⟩ := DataW.trod_int Tryz.underlying40 g2
   simp at e0 e1 e2
   subst e0 e1 e2
   have b0 := bounds_i64 w0
   have b1 := bounds_i64 w1
   have b2 := bounds_u64 w2
   obtain ⟨n2, rfl⟩ := Int.eq_ofNat_of_zero_le (show 0 ≤ a2 by omega)
   exact ⟨(a0, a1, n2), ⟨by simp only []; omega, by simp only []; omega, by simp only []; omega, by simp only []; omega, by simp only []; omega⟩, rfl⟩
theorem sl_cell {H : Type} {enc : TypeId × Value → H} {P : Program} {W : World} {n : Nat} {t e : TypeId} {u : Value} {y : DataW H × List MemPlace} (ht : P.underlying t = some (.slice e)) (h : DataW.trod enc P W 0 (fun _ => true) true n t [u] = some y) :
 ∃ ad len cap, u = .slice ad len cap ∧ DataW.Trod enc P W 0 (fun _ => true) true t (.slice ad len cap) y.1 y.2 := by
 have hs : ∃ ad len cap, u = .slice ad len cap := by
  obtain ⟨d, p⟩ := y
  rcases open_slice ht h with ⟨hcs, _⟩ | ⟨a, len', cap', m, n', D, Pl, hcs, _⟩
  ·simp at hcs; exact ⟨none, 0, 0, hcs⟩
  simp at hcs; exact ⟨some a, len', cap', hcs⟩
 obtain ⟨ad, len, cap, rfl⟩ := hs
 exact ⟨ad, len, cap, rfl, ⟨n, by obtain ⟨d, p⟩ := y; simpa [Value.cells] using h⟩⟩
theorem c8 : Tryz.prog.cellsOf 5 = 1 := by kernel_rfl
end Go.Proofs.YtkkbngcgphlikaaGreatDoor
end
