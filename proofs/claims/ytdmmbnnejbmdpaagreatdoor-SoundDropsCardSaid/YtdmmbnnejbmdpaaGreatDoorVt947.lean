/-
  Part of the proof of SoundApart,SoundTwins,SoundWords.
-/
import Derived.Test.YtdmmbnnejbmdpaaGreatDoorVt939
import Derived.Test.YtdmmbnnejbmdpaaGreatDoorVt940
import Derived.Test.YtdmmbnnejbmdpaaGreatDoorVt944
import Derived.Test.YtdmmbnnejbmdpaaGreatDoorVt90
set_option maxRecDepth 10000
set_option maxHeartbeats 1000000
set_option linter.unusedVariables false
set_option linter.unusedSimpArgs false
section
namespace Go.Proofs.YtdmmbnnejbmdpaaGreatDoor
open Go.Lib Go.RowKit Go.ChangeShapes Go.WideShapes Go.Deep Go.Shelf
theorem stkN_lo {s : Sk} {N L : Nat} {R : List Bl} {X : List Nat} (p : Nat) (hp : p < 10 + 73 * L + gNat N L) (h8 : p ≠ 8) : ∀ k, (stkN s N L R X k).getD p 0 = X.getD p 0
 | 0 => rfl
 | k + 1 => by
   rw [stkN]
   have hq : p < plc N L (R.getD k default) := by rw [plc_pos]; omega
   unfold stkS
   split
   ·rw [getD_setS, if_neg (by omega), getD_setS, if_neg (by omega), getD_setS, if_neg (by omega), stkN_lo p hp h8 k]
   ·rw [getD_setS, if_neg (by omega), getD_setS, if_neg (by omega), stkN_lo p hp h8 k]
theorem base_at (s : Sk) (p : Nat) (hp : p < 10 + 73 * gvL (gvS s) + gvG (gvS s)) (h8 : p ≠ 8) : (stockL s).getD p 0 = (make0 (gvS s)).getD p 0 := by
 unfold stockL
 rw [stkN_lo p (by rw [(gv_geo (gvS s)).2.2.1]; exact hp) h8, stock_low s p hp]
theorem make0_head (v : Gv) (p : Nat) (hp : p < 8) : (make0 v).getD p 0 = (headW (gvN v) (gvL v) (gvG v)).getD p 0 := by
 have hN : gvN v = 10 + 73 * gvL v + 33 * gvG v := rfl
 unfold make0 putL
 rw [putK_loS p (by omega), getD_setS, if_neg (by omega), getD_setS, if_neg (by omega), headW_len]
 have h := putK_atS (X := List.replicate (gvN v) 0) (a := 0) (l := headW (gvN v) (gvL v) (gvG v)) p (by rw [List.length_replicate]; omega) 8 hp
 rw [Nat.zero_add] at h
 exact h
theorem make0_mid (v : Gv) (p : Nat) (h10 : 10 ≤ p) (hp : p < 10 + 73 * gvL v) : (make0 v).getD p 0 = 0 := by
 unfold make0 putL
 rw [putK_loS p hp, getD_setS, if_neg (by omega), getD_setS, if_neg (by omega), putK_hi9 _ _ (by rw [headW_len]; omega), List.getD_eq_getElem?_getD, List.getElem?_replicate]
 split <;> rfl
theorem make0_8 (v : Gv) : (make0 v).getD 8 0 = v.root := by
 have hN : gvN v = 10 + 73 * gvL v + 33 * gvG v := rfl
 unfold make0 putL
 rw [putK_loS 8 (by omega), getD_setS, if_neg (by omega), getD_setS, if_pos ⟨rfl, by rw [putK_len, List.length_replicate]; omega⟩]
theorem make0_9 (v : Gv) : (make0 v).getD 9 0 = v.epoch := by
 have hN : gvN v = 10 + 73 * gvL v + 33 * gvG v := rfl
 unfold make0 putL
 rw [putK_loS 9 (by omega), getD_setS, if_pos ⟨rfl, by rw [List.length_set, putK_len, List.length_replicate]; omega⟩]
theorem ok_lt {x : Nat} (h : okN x = true) : x < 4294967296 := (okN_t h).1
theorem base_tab (s : Sk) (p : Nat) (h1 : 10 + 73 * gvL (gvS s) ≤ p) (hp : p < 10 + 73 * gvL (gvS s) + gvG (gvS s)) : (stockL s).getD p 0 < 4294967296 := by
 have h := (stock_word s (p - (10 + 73 * gvL (gvS s))) (by omega)).1
 rw [show 10 + 73 * gvL (gvS s) + (p - (10 + 73 * gvL (gvS s))) = p from by omega] at h
 rw [base_at s p hp (by omega), ← stock_low s p hp]
 exact ok_lt h
theorem pigeon : ∀ (S D : List Nat), S.Nodup → (∀ x ∈ S, x ∈ D) → S.length ≤ D.length
 | [], D, _, _ => Nat.zero_le _
 | a :: S, D, hn, hs => by
   have ha := hs a (List.mem_cons_self ..)
   rw [List.nodup_cons] at hn
   have h1 := pigeon S (D.erase a) hn.2 (fun x hx => (List.mem_erase_of_ne (fun e => hn.1 (by rw [← e]; exact hx))).2 (hs x (List.mem_cons_of_mem _ hx)))
   rw [List.length_erase_of_mem ha] at h1
   have h2 := List.length_pos_of_mem ha
   rw [List.length_cons]
   omega
theorem spoil_len : ∀ (l : List (Nat × Nat)) (X : List Nat), (l.foldl spoilS X).length = X.length
 | [], X => rfl
 | y :: l, X => by rw [List.foldl_cons, spoil_len l]; unfold spoilS; rw [List.length_set]
theorem spoil_hit : ∀ (l : List (Nat × Nat)) (X : List Nat) (p : Nat), ¬ (l.foldl spoilS X).getD p 0 = X.getD p 0 → p ∈ l.map (fun y => y.1 % X.length)
 | [], X, p, h => absurd rfl h
 | y :: l, X, p, h => by
   rw [List.map_cons, List.mem_cons]
   by_cases e : p = y.1 % X.length
   ·exact .inl e
   ·right
    have h2 := spoil_hit l (spoilS X y) p (fun q => h (by
     rw [List.foldl_cons, q]
     unfold spoilS
     rw [getD_setS, if_neg (fun u => e u.1.symm)]))
    rw [show (spoilS X y).length = X.length from by unfold spoilS; rw [List.length_set]] at h2
    exact h2
theorem head7 : ∀ L, L < 4 → ∀ G, G < 9 → ∀ K, K < L → 1 ≤ K → 1 ≤ G → moreN 0 (headL (10 + 73 * L + 33 * G) K (gNat (10 + 73 * L + 33 * G) K)) ≠ moreN 0 (headL (10 + 73 * L + 33 * G) L G) := by decide +kernel
theorem hw3 (W L G : Nat) : (headW W L G).getD 3 0 = L := rfl
theorem hw4 (W L G : Nat) : (headW W L G).getD 4 0 = G := rfl
theorem hw7 (W L G : Nat) : (headW W L G).getD 7 0 = moreN 0 (headL W L G) := rfl
theorem decH_hi {l : List Nat} {t s n : Nat} (h : decH l = some (t, s, n)) : 4294967296 ≤ l.getD 0 0 := by
 unfold decH at h
 split at h
 ·cases h
 ·split at h
  ·rename_i h2
   rw [Bool.and_eq_true] at h2
   have := of_decide_eq_true h2.2
   omega
  ·cases h
theorem bl_word {t : List Nat} {b : Bl} (h : b ∈ blksT t) : ¬ t.getD b.1 0 = 0 := by
 unfold blksT at h
 split at h
 ·obtain ⟨i, hi, hb⟩ := blFrom_mem 0 t h
  rw [Nat.zero_add] at hb
  intro e
  unfold blksAt at hb
  split at hb
  ·rename_i hk
   obtain ⟨j, hj, rfl⟩ := List.mem_map.1 hb
   simp only [] at e
   rw [e] at hk
   exact absurd hk (by decide)
  ·split at hb
   ·rename_i hk
    rw [List.mem_singleton] at hb
    subst hb
    simp only [] at e
    rw [e] at hk
    exact absurd hk (by decide)
   ·cases hb
 ·cases h
theorem spoilt_start (s : Sk) (l : List (Nat × Nat)) (hl : l.length ≤ 4) {o : Ob} (hs : soundB (l.foldl spoilS (stockL s)) = true)
 (ho : o ∈ objsP (l.foldl spoilS (stockL s)) ((l.foldl spoilS (stockL s)).getD 3 0)) : 10 + 73 * gvL (gvS s) + gvG (gvS s) ≤ o.1 := by
 have hXl : (l.foldl spoilS (stockL s)).length = gvN (gvS s) := by rw [spoil_len]; exact stockL_len s
 have hhit := spoil_hit l (stockL s)
 rw [stockL_len] at hhit
 obtain ⟨hg, hgN, hgat, hL1, hL3, hG1, hG8⟩ := gv_geo (gvS s)
 have hNN : gvN (gvS s) = 10 + 73 * gvL (gvS s) + 33 * gvG (gvS s) := rfl
 have hB3 : (stockL s).getD 3 0 = gvL (gvS s) := by rw [base_at s 3 (by omega) (by decide), make0_head _ 3 (by decide), hw3]
 have hB4 : (stockL s).getD 4 0 = gvG (gvS s) := by rw [base_at s 4 (by omega) (by decide), make0_head _ 4 (by decide), hw4]
 have hB7 : (stockL s).getD 7 0 = moreN 0 (headL (gvN (gvS s)) (gvL (gvS s)) (gvG (gvS s))) := by rw [base_at s 7 (by omega) (by decide), make0_head _ 7 (by decide), hw7]
 have hBm : ∀ p, 10 ≤ p → p < 10 + 73 * gvL (gvS s) → (stockL s).getD p 0 = 0 := fun p h1 h2 => by rw [base_at s p (by omega) (by omega), make0_mid _ p h1 h2]
 have hBt := base_tab s
 generalize stockL s = B at *
 generalize gvN (gvS s) = N at *
 generalize gvL (gvS s) = L at *
 generalize gvG (gvS s) = G at *
 obtain ⟨X, hX⟩ : ∃ X, l.foldl spoilS B = X := ⟨_, rfl⟩
 rw [hX] at hs ho hXl hhit
 have hN8 : X.length ≤ 800 := by rw [hXl]; omega
 obtain ⟨hso, hr, hal⟩ := sound_parts hs
 unfold sOk at hso
 simp only [Bool.and_eq_true, decide_eq_true_eq] at hso
 obtain ⟨h8, hgx, hhd⟩ := hso
 obtain ⟨K, hK⟩ : ∃ K, X.getD 3 0 = K := ⟨_, rfl⟩
 rw [hK] at hgx hhd ho hr hal
 rw [hXl] at hhd
 have hgx' := hgx
 rw [hXl] at hgx'
 obtain ⟨s1, s2, s3, s4, s5, s6, s7, s8⟩ := pool_size hgx'
 have hgb := gN_bd hgx'
 rw [s5] at hgb
 have hX : ∀ p, p < 8 → X.getD p 0 = (headW N K (gNat N K)).getD p 0 := fun p hp => by
  rw [← hhd, List.getD_eq_getElem?_getD, List.getD_eq_getElem?_getD, List.getElem?_take_of_lt hp]
 -- the object's block
 unfold objsP at ho
 rw [if_pos hal] at ho
 obtain ⟨b, hb, rfl⟩ := List.mem_map.1 ho
 obtain ⟨c1, c2, c3, c4, c5, c6, c7⟩ := plc_bd hgx hb
 have hso := List.all_eq_true.1 hal b hb
 have hp1 := (objE_bd (by omega) hso).1
 rw [hp1, hXl]
 rw [hXl] at c1 c7
 have hhdr : 4294967296 ≤ X.getD (plc N K b) 0 := by
  unfold objH at hso
  rw [hXl] at hso
  rcases hd : hdAt X (plc N K b) with _ | ⟨t, s, n⟩
  ·rw [hd] at hso; cases hso
  ·have := decH_hi hd
   rw [List.getD_eq_getElem?_getD, List.getElem?_take_of_lt (by decide), List.getElem?_drop, ← List.getD_eq_getElem?_getD, Nat.add_zero] at this
   exact this
 have hq : ¬ X.getD (10 + 73 * K + b.1) 0 = 0 := by
  have h := bl_word hb
  unfold tabW at h
  rw [hXl, List.getD_eq_getElem?_getD, List.getElem?_take_of_lt c1, List.getElem?_drop, ← List.getD_eq_getElem?_getD] at h
  exact h
 by_cases hLK : L ≤ K
 ·omega
 ·rw [Nat.not_le] at hLK
  false_or_by_contra
  rename_i hlt
  have hd3 : 3 ∈ l.map (fun y => y.1 % N) := hhit 3 (by rw [hX 3 (by decide), hw3, hB3]; omega)
  have hd4 : 4 ∈ l.map (fun y => y.1 % N) := hhit 4 (by rw [hX 4 (by decide), hw4, hB4]; omega)
  have hd7 : 7 ∈ l.map (fun y => y.1 % N) := hhit 7 (by
   rw [hX 7 (by decide), hw7, hB7, hNN]
   exact head7 L (by omega) G (by omega) K hLK s1 hG1)
  have hdq : 10 + 73 * K + b.1 ∈ l.map (fun y => y.1 % N) := hhit _ (by rw [hBm _ (by omega) (by omega)]; exact hq)
  have hdp : plc N K b ∈ l.map (fun y => y.1 % N) := hhit _ (by
   intro e
   by_cases h : plc N K b < 10 + 73 * L
   ·rw [hBm _ (by omega) h] at e; omega
   ·have := hBt (plc N K b) (by omega) (by omega)
    omega)
  have h5 := pigeon [3, 4, 7, 10 + 73 * K + b.1, plc N K b] _ (by
   simp only [List.nodup_cons, List.mem_cons, List.not_mem_nil, or_false, not_or, List.nodup_nil, and_true, not_false_eq_true]
   omega) (fun x hx => by
   simp only [List.mem_cons, List.not_mem_nil, or_false] at hx
   rcases hx with rfl | rfl | rfl | rfl | rfl
   ·exact hd3
   ·exact hd4
   ·exact hd7
   ·exact hdq
   ·exact hdp)
  rw [List.length_map] at h5
  simp only [List.length_cons, List.length_nil] at h5
  omega
end Go.Proofs.YtdmmbnnejbmdpaaGreatDoor
end
section
namespace Go.Proofs.YtdmmbnnejbmdpaaGreatDoor
open Go.RowKit Go.ChangeShapes Go.WideShapes Go.Deep
def BL9 (l : List Nat) : Prop := ∀ x ∈ l, x < 256
theorem bytes_open9 {H : Type} {enc : TypeId × Value → H} {P : Program} {W : World} {t e : TypeId} (ht : P.underlying t = some (.slice e)) (he : P.underlying e = some (.int .u8)) (hc : P.cellsOf e = 1) {ad : Option Addr} {len cap : Nat} {d : DataW H} {p : List MemPlace}
 (h : DataW.Trod enc P W 0 (fun _ => true) true t (.slice ad len cap) d p) : ∃ l : List Nat, BL9 l ∧ KL .u8 W (.slice ad len cap) l := by
 obtain ⟨fuel, hf⟩ := h
 rcases open_ints ht he hc hf with ⟨hcs, _⟩ | ⟨a, len', cap', zs, hcs, _, hl, hm, hz, _, hcell, hwz⟩
 ·simp [Value.cells] at hcs
  obtain ⟨rfl, rfl, rfl⟩ := hcs
  exact ⟨[], fun x hx => by simp at hx, none, 0, rfl, fun h => by simp at h⟩
 ·simp [Value.cells] at hcs
  obtain ⟨rfl, rfl, rfl⟩ := hcs
  simp only [if_true] at hz
  have hb : ∀ z ∈ zs, 0 ≤ z ∧ z ≤ 255 := fun z hz => bounds_u8 (hwz z hz)
  have hlen : ((zs.take len).map Int.toNat).length = len := by simp; omega
  refine ⟨(zs.take len).map Int.toNat, fun x hx => ?_, some a, cap, by rw [hlen], fun h0 => ?_⟩
  ·obtain ⟨z, hz1, rfl⟩ := List.mem_map.1 hx
   have := hb z (List.mem_of_mem_take hz1)
   omega
  ·rw [hlen] at h0 ⊢
   have hc0 := hcell 0 (by omega)
   have hsp : a.spot = none := by
    have := spot_none hc0
    unfold Addr.add at this
    simpa using this
   obtain ⟨g, off, sp⟩ := a
   simp only at hsp
   subst hsp
   refine ⟨g, off, rfl, ?_, by omega, fun i hil => ?_⟩
   ·have := World.block_lt_of_cell? _ _ hc0
    simpa [add_plain] using this
   ·have := hcell i (by omega)
    rw [add_plain] at this
    rw [this]
    have hzi : i < zs.length := by omega
    have e1 : ((zs.take len).map Int.toNat).getD i 0 = (zs[i]).toNat := by
     rw [List.getD_eq_getElem?_getD, List.getElem?_map, List.getElem?_take, if_pos hil, List.getElem?_eq_getElem hzi]
     rfl
    have e2 : zs.getD i 0 = zs[i] := by rw [List.getD_eq_getElem?_getD, List.getElem?_eq_getElem hzi]; rfl
    rw [e1, e2, Int.toNat_of_nonneg (hb _ (List.getElem_mem hzi)).1]
abbrev Sx := (Value × Value × Value × Value) × Sk
def SOk (W : World) (g : Sx) : Prop := SkM W g.1.1 g.1.2.1 g.1.2.2.1 g.1.2.2.2 g.2 ∧ SkB g.2
def sxV (g : Sx) : Value := skV g.2 g.1.1 g.1.2.1 g.1.2.2.1 g.1.2.2.2
theorem stock_open {H : Type} {enc : TypeId × Value → H} {W : World} {r : Reach} {b1 : Nat} {v : Value} {d : DataW H} {p : List MemPlace} (hv : Value.okWide Tryz.prog W r b1 27 v) (h : DataW.Trod enc Tryz.prog W 0 (fun _ => true) true 27 v d p) :
 ∃ g : Sx, SOk W g ∧ v = sxV g := by
 obtain ⟨cs, rfl, hsz⟩ := okWide_struct Tryz.underlying27 hv
 obtain ⟨fuel, h⟩ := h
 rw [show Tryz.prog.cellsOf 27 = 8 by kernel_rfl] at hsz
 obtain ⟨xs, n, _, _, _, hxl, hf⟩ := DataW.trod_struct Tryz.underlying27 h
 have hl : (Value.agg cs).cells.toList.length = 8 := by simpa [Value.cells] using hsz
 have hcs : (Value.agg cs).cells.toList = cs.toList := rfl
 rw [hcs] at hf hl
 obtain ⟨ls, hls⟩ : ∃ ls, cs.toList = ls := ⟨_, rfl⟩
 rw [hls] at hf hl
 match xs, hxl, ls, hl, hls with
 | [y0, y1, y2, y3, y4, y5, y6, y7], _, [u0, u1, u2, u3, u4, u5, u6, u7], _, hls =>
   have g0 : DataW.trod enc Tryz.prog W 0 (fun _ => true) true n 5 ((([u0, u1, u2, u3, u4, u5, u6, u7] : List Value).drop 0).take (Tryz.prog.cellsOf 5)) = some y0 := hf 0 _ rfl
   rw [show Tryz.prog.cellsOf 5 = 1 by kernel_rfl] at g0
   have g1 : DataW.trod enc Tryz.prog W 0 (fun _ => true) true n 5 ((([u0, u1, u2, u3, u4, u5, u6, u7] : List Value).drop 1).take (Tryz.prog.cellsOf 5)) = some y1 := hf 1 _ rfl
   rw [show Tryz.prog.cellsOf 5 = 1 by kernel_rfl] at g1
   have g2 : DataW.trod enc Tryz.prog W 0 (fun _ => true) true n 22 ((([u0, u1, u2, u3, u4, u5, u6, u7] : List Value).drop 2).take (Tryz.prog.cellsOf 22)) = some y2 := hf 2 _ rfl
   rw [show Tryz.prog.cellsOf 22 = 1 by kernel_rfl] at g2
   have g3 : DataW.trod enc Tryz.prog W 0 (fun _ => true) true n 23 ((([u0, u1, u2, u3, u4, u5, u6, u7] : List Value).drop 3).take (Tryz.prog.cellsOf 23)) = some y3 := hf 3 _ rfl
   rw [show Tryz.prog.cellsOf 23 = 1 by kernel_rfl] at g3
   have g4 : DataW.trod enc Tryz.prog W 0 (fun _ => true) true n 23 ((([u0, u1, u2, u3, u4, u5, u6, u7] : List Value).drop 4).take (Tryz.prog.cellsOf 23)) = some y4 := hf 4 _ rfl
   rw [show Tryz.prog.cellsOf 23 = 1 by kernel_rfl] at g4
   have g5 : DataW.trod enc Tryz.prog W 0 (fun _ => true) true n 24 ((([u0, u1, u2, u3, u4, u5, u6, u7] : List Value).drop 5).take (Tryz.prog.cellsOf 24)) = some y5 := hf 5 _ rfl
   rw [show Tryz.prog.cellsOf 24 = 1 by kernel_rfl] at g5
   have g6 : DataW.trod enc Tryz.prog W 0 (fun _ => true) true n 5 ((([u0, u1, u2, u3, u4, u5, u6, u7] : List Value).drop 6).take (Tryz.prog.cellsOf 5)) = some y6 := hf 6 _ rfl
   rw [show Tryz.prog.cellsOf 5 = 1 by kernel_rfl] at g6
   have g7 : DataW.trod enc Tryz.prog W 0 (fun _ => true) true n 25 ((([u0, u1, u2, u3, u4, u5, u6, u7] : List Value).drop 7).take (Tryz.prog.cellsOf 25)) = some y7 := hf 7 _ rfl
   rw [show Tryz.prog.cellsOf 25 = 1 by kernel_rfl] at g7
   obtain ⟨a0, e0, _, w0⟩ := DataW.trod_int Tryz.underlying5 g0
   simp at e0
   subst e0
   have b0 := bounds_u8 w0
   obtain ⟨n0, rfl⟩ := Int.eq_ofNat_of_zero_le (show 0 ≤ a0 by omega)
   obtain ⟨a1, e1, _, w1⟩ := DataW.trod_int Tryz.underlying5 g1
   simp at e1
   subst e1
   have b1 := bounds_u8 w1
   obtain ⟨n1, rfl⟩ := Int.eq_ofNat_of_zero_le (show 0 ≤ a1 by omega)
   obtain ⟨A2, l2, c2, rfl, T2⟩ := sl_cell Tryz.underlying22 g2
   obtain ⟨A3, l3, c3, rfl, T3⟩ := sl_cell Tryz.underlying23 g3
   obtain ⟨A4, l4, c4, rfl, T4⟩ := sl_cell Tryz.underlying23 g4
   obtain ⟨a5, e5, _, w5⟩ := DataW.trod_int Tryz.underlying24 g5
   simp at e5
   subst e5
   have b5 := bounds_u32 w5
   obtain ⟨n5, rfl⟩ := Int.eq_ofNat_of_zero_le (show 0 ≤ a5 by omega)
   obtain ⟨a6, e6, _, w6⟩ := DataW.trod_int Tryz.underlying5 g6
   simp at e6
   subst e6
   have b6 := bounds_u8 w6
   obtain ⟨n6, rfl⟩ := Int.eq_ofNat_of_zero_le (show 0 ≤ a6 by omega)
   obtain ⟨A7, l7, c7, rfl, T7⟩ := sl_cell Tryz.underlying25 g7
   obtain ⟨lt, ht, kt⟩ := halves_open Tryz.underlying22 Tryz.underlying32 (by kernel_rfl) T2
   obtain ⟨ly, hy, ky⟩ := bytes_open9 Tryz.underlying23 Tryz.underlying5 (by kernel_rfl) T3
   obtain ⟨le, he, ke⟩ := bytes_open9 Tryz.underlying23 Tryz.underlying5 (by kernel_rfl) T4
   obtain ⟨lf, hf2, kf⟩ := wordsK_open Tryz.underlying25 Tryz.underlying33 (by kernel_rfl) T7
   refine ⟨((.slice A2 l2 c2, .slice A3 l3 c3, .slice A4 l4 c4, .slice A7 l7 c7), ⟨n0, n1, lt, ly, le, n5, n6, lf⟩), ⟨⟨kt, ky, ke, kf⟩, ⟨by simp only []; omega, by simp only []; omega, ht, fun x hx => hy x hx, fun x hx => he x hx, by simp only []; omega, by simp only []; omega, hf2⟩⟩, ?_⟩
   show Value.agg cs = Value.agg _
   congr 1
   rw [← Array.toList_inj, hls]
end Go.Proofs.YtdmmbnnejbmdpaaGreatDoor
end
