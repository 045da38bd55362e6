/-
  Part of the proof of SoundApart,SoundTwins,SoundWords.
-/
import Derived.Test.YtdmmbnnejbmdpaaGreatDoorVt947
import Derived.Test.YtdmmbnnejbmdpaaGreatDoorVt90
set_option linter.unusedVariables false
set_option linter.unusedSimpArgs false
section
namespace Go.Proofs.YtdmmbnnejbmdpaaGreatDoor
open Go.Lib Go.RowKit Go.ChangeShapes Go.WideShapes Go.Deep Go.Shelf
theorem chK_more (x M m : Nat) (hm : m < M) : ¬ (chK x M m).1 = 3 ∧ ((chK x M m).1 = 2 → (m : Int) + (chK x M m).2.2.2.1 ≤ (M : Int)) ∧ ((chK x M m).1 = 4 → x % 6 = 5) := by
 unfold chK
 split
 ·simp
 split
 ·simp
 split
 ·split
  ·simp
  ·simp; omega
 split
 ·simp
 ·simp; omega
theorem zeros_right : ∀ n, rightT (List.replicate n 0) = true
 | 0 => rfl
 | n + 1 => by
   rw [List.replicate_succ]
   exact rightT_app (t := [0]) (rightT_one (by decide) (by decide) (by decide)) (zeros_right n)
theorem chF_right (x M m : Nat) (hm : m < M) : rightT (chF x M m) = true ∧ m + (chF x M m).length ≤ M ∧ (¬ x % 6 = 5 → ∀ y ∈ chF x M m, ¬ kN y = 4) := by
 obtain ⟨k, c, l, q, b, e, hr, hb, hq⟩ := chK_right x M m
 obtain ⟨m1, m2, m3⟩ := chK_more x M m hm
 unfold chF
 rw [e] at m1 m2 m3 ⊢
 simp only [] at m1 m2 m3 ⊢
 obtain ⟨z, hz, h1, h2, h3⟩ := okN_word (right_yes hr) hb
 rw [hz, Int.toNat_natCast]
 by_cases hk : k = 2
 ·have hq4 := hq hk
  have hm2 := m2 hk
  have hq1 : 1 ≤ q := by unfold RightP at hr; omega
  rw [if_pos hk]
  refine ⟨rightT_huge h1 (by omega) (by omega), ?_, fun _ y hy => ?_⟩
  ·rw [List.length_cons, List.length_replicate]; omega
  ·rcases List.mem_cons.1 hy with rfl | hy
   ·omega
   ·obtain ⟨-, rfl⟩ := List.mem_replicate.1 hy
    decide
 ·rw [if_neg hk]
  refine ⟨rightT_one h1 (by omega) (by omega), ?_, fun hx y hy => ?_⟩
  ·simp; omega
  ·rcases List.mem_cons.1 hy with rfl | hy
   ·intro h4; exact hx (m3 (by omega))
   ·cases hy
theorem madeT_right (M : Nat) : ∀ (l P : List Nat), rightT P = true → P.length ≤ M → (∀ y ∈ P, ¬ kN y = 4) → (∀ x ∈ l, ¬ x % 6 = 5) → rightT (l.foldl (madeS M) P) = true ∧ (l.foldl (madeS M) P).length ≤ M ∧ ∀ y ∈ l.foldl (madeS M) P, ¬ kN y = 4
 | [], P, h1, h2, h3, _ => ⟨h1, h2, h3⟩
 | x :: l, P, h1, h2, h3, h4 => by
   rw [List.foldl_cons]
   have hx := h4 x (List.mem_cons_self ..)
   unfold madeS
   split
   ·rename_i hm
    obtain ⟨c1, c2, c3⟩ := chF_right x M P.length hm
    exact madeT_right M l _ (rightT_app h1 c1) (by rw [List.length_append]; exact c2) (fun y hy => by
     rcases List.mem_append.1 hy with hy | hy
     ·exact h3 y hy
     ·exact c3 hx y hy) (fun y hy => h4 y (List.mem_cons_of_mem _ hy))
   ·exact madeT_right M l P h1 h2 h3 (fun y hy => h4 y (List.mem_cons_of_mem _ hy))
theorem make0_tab (v : Gv) (hM : (madeT v.tiles (gvG v)).length ≤ gvG v) (i : Nat) (hi : i < gvG v) : (make0 v).getD (10 + 73 * gvL v + i) 0 = (madeT v.tiles (gvG v)).getD i 0 := by
 have hN : gvN v = 10 + 73 * gvL v + 33 * gvG v := rfl
 unfold make0 putL
 generalize hM9 : madeT v.tiles (gvG v) = Mw at *
 by_cases h : i < Mw.length
 ·rw [putK_atS i (by rw [List.length_set, List.length_set, putK_len, List.length_replicate]; omega) _ h]
 ·rw [putK_hi9 _ _ (by omega), getD_setS, if_neg (by omega), getD_setS, if_neg (by omega), putK_hi9 _ _ (by rw [headW_len]; omega), List.getD_eq_getElem?_getD, List.getElem?_replicate, List.getD_eq_getElem?_getD, List.getElem?_eq_none (by omega)]
  split <;> rfl
theorem ext_getD {l m : List Nat} (hl : l.length = m.length) (h : ∀ i, i < l.length → l.getD i 0 = m.getD i 0) : l = m := by
 refine List.ext_getElem hl (fun i h1 h2 => ?_)
 have := h i h1
 rw [List.getD_eq_getElem?_getD, List.getD_eq_getElem?_getD, List.getElem?_eq_getElem h1, List.getElem?_eq_getElem h2] at this
 exact this
theorem tab_at {I : List Nat} {L i : Nat} (hi : i < gNat I.length L) : (tabW I L).getD i 0 = I.getD (10 + 73 * L + i) 0 := by
 unfold tabW
 rw [List.getD_eq_getElem?_getD, List.getElem?_take_of_lt hi, List.getElem?_drop, ← List.getD_eq_getElem?_getD]
theorem stock_tab (s : Sk) : rightT (tabW (stockL s) (gvL (gvS s))) = true ∧ calmT (tabW (stockL s) (gvL (gvS s))) = true ∧ tabW (stockL s) (gvL (gvS s)) = tabW (makeL (gvS s)) (gvL (gvS s)) := by
 obtain ⟨hg, hgN, hgat, hL1, hL3, hG1, hG8⟩ := gv_geo (gvS s)
 have hNN : gvN (gvS s) = 10 + 73 * gvL (gvS s) + 33 * gvG (gvS s) := rfl
 have hl := stockL_len s
 have hl2 := (gv_len (gvS s)).1
 obtain ⟨m1, m2, m3⟩ := madeT_right (gvG (gvS s)) (gvS s).tiles [] rfl (Nat.zero_le _) (fun y hy => by cases hy) (fun x hx => by
  have := (List.mem_filter.1 hx).2
  rw [Bool.not_eq_true'] at this
  exact of_decide_eq_false this)
 have htl : (tabW (stockL s) (gvL (gvS s))).length = gvG (gvS s) := by rw [tab_len (by rw [hl]; exact hg), hl, hgat]
 have htl2 : (tabW (makeL (gvS s)) (gvL (gvS s))).length = gvG (gvS s) := by rw [tab_len (by rw [hl2]; exact hg), hl2, hgat]
 have e : tabW (stockL s) (gvL (gvS s)) = madeT (gvS s).tiles (gvG (gvS s)) ++ List.replicate (gvG (gvS s) - (madeT (gvS s).tiles (gvG (gvS s))).length) 0 := by
  refine ext_getD ?_ (fun i hi => ?_)
  ·rw [htl, List.length_append, List.length_replicate]; unfold madeT; omega
  ·rw [htl] at hi
   rw [tab_at (by rw [hl, hgat]; exact hi), base_at s _ (by omega) (by omega), make0_tab _ m2 i hi]
   by_cases h : i < (madeT (gvS s).tiles (gvG (gvS s))).length
   ·rw [List.getD_eq_getElem?_getD, List.getD_eq_getElem?_getD, List.getElem?_append_left h]
   ·rw [List.getD_eq_getElem?_getD, List.getElem?_eq_none (by omega), List.getD_eq_getElem?_getD, List.getElem?_append_right (by omega), List.getElem?_replicate]
    split <;> rfl
 refine ⟨?_, ?_, ?_⟩
 ·rw [e]; exact rightT_app m1 (zeros_right _)
 ·rw [e]
  unfold calmT
  refine List.all_eq_true.2 (fun y hy => ?_)
  rw [Bool.not_eq_true']
  refine decide_eq_false ?_
  rcases List.mem_append.1 hy with hy | hy
  ·exact m3 y hy
  ·obtain ⟨-, rfl⟩ := List.mem_replicate.1 hy
   decide
 ·refine ext_getD (by rw [htl, htl2]) (fun i hi => ?_)
  rw [htl] at hi
  rw [tab_at (by rw [hl, hgat]; exact hi), tab_at (by rw [hl2, hgat]; exact hi), base_at s _ (by omega) (by omega), stock_low s _ (by omega)]
theorem oneN_8 {l : List Nat} (h : ∀ x ∈ l, x < 256) (i : Nat) : oneN l i < 256 := oneN_lt h (by decide) i
def obS (s : Sk) (N L i : Nat) (b : Bl) : Ob := (plc N L b, 1 + oneN s.types i, szS s i b.2.2, 4294967296 * s.ep + (i + 1))
theorem szS_rom (s : Sk) (i m : Nat) (h : m = 4 ∨ m = 8 ∨ m = 16 ∨ (32 ≤ m ∧ m ≤ 128 ∧ m % 32 = 0)) : romJ (szS s i m : Nat) = (m : Nat) ∧ szS s i m ≤ 4096 ∧ szS s i m + 2 ≤ m := by
 have h3 : oneN s.less i % 3 < 3 := Nat.mod_lt _ (by decide)
 have h4 : oneN s.less i % 4 < 4 := Nat.mod_lt _ (by decide)
 have h8 : oneN s.less i % 8 < 8 := Nat.mod_lt _ (by decide)
 have h16 : oneN s.less i % 16 < 16 := Nat.mod_lt _ (by decide)
 rcases h with rfl | rfl | rfl | ⟨h1, h2, h5⟩
 ·have e : szS s i 4 = 2 - oneN s.less i % 3 := rfl
  obtain ⟨z, hz⟩ : ∃ z, 2 - oneN s.less i % 3 = z := ⟨_, rfl⟩
  rw [e, hz]
  unfold romJ
  rw [if_neg (by omega), if_pos (by omega)]; omega
 ·have e : szS s i 8 = 6 - oneN s.less i % 4 := rfl
  obtain ⟨z, hz⟩ : ∃ z, 6 - oneN s.less i % 4 = z := ⟨_, rfl⟩
  rw [e, hz]
  unfold romJ
  rw [if_neg (by omega), if_neg (by omega), if_pos (by omega)]; omega
 ·have e : szS s i 16 = 14 - oneN s.less i % 8 := rfl
  obtain ⟨z, hz⟩ : ∃ z, 14 - oneN s.less i % 8 = z := ⟨_, rfl⟩
  rw [e, hz]
  unfold romJ
  rw [if_neg (by omega), if_neg (by omega), if_neg (by omega), if_pos (by omega)]; omega
 ·have e : szS s i m = m - 2 - oneN s.less i % 16 := by unfold szS; rw [if_neg (by omega), if_neg (by omega), if_neg (by omega)]
  obtain ⟨z, hz⟩ : ∃ z, m - 2 - oneN s.less i % 16 = z := ⟨_, rfl⟩
  rw [e, hz]
  unfold romJ
  rw [if_neg (by omega), if_neg (by omega), if_neg (by omega), if_neg (by omega), if_pos (by omega)]; omega
theorem decH_of {l : List Nat} {t sz n : Nat} (hl : 2 ≤ l.length) (h0 : l.getD 0 0 = hdW t sz) (h1 : l.getD 1 0 = n) (ht : 1 ≤ t) (ht2 : t ≤ 65535) (hs : sz ≤ 4096) (hn : 1 ≤ n) : decH l = some (t, sz, n) := by
 have e1 : hdW t sz % 65536 = t := by unfold hdW; omega
 have e2 : hdW t sz / 65536 % 65536 = sz := by unfold hdW; omega
 have e3 : hdW t sz / 4294967296 = 4200005632 := by unfold hdW; omega
 unfold decH
 rw [if_neg (by omega), h0, h1, e1, e2, e3]
 have e4 : hdB (t : Nat) (sz : Nat) (n : Nat) = true := by unfold hdB; exact decide_eq_true (by omega)
 rw [e4]
 rfl
theorem hd_at0 {I : List Nat} {p : Nat} : ((I.drop p).take 2).getD 0 0 = I.getD p 0 := by
 rw [List.getD_eq_getElem?_getD, List.getElem?_take_of_lt (by decide), List.getElem?_drop, ← List.getD_eq_getElem?_getD, Nat.add_zero]
theorem hd_at1 {I : List Nat} {p : Nat} : ((I.drop p).take 2).getD 1 0 = I.getD (p + 1) 0 := by
 rw [List.getD_eq_getElem?_getD, List.getElem?_take_of_lt (by decide), List.getElem?_drop, ← List.getD_eq_getElem?_getD]
theorem stkN_at {s : Sk} {N L : Nat} {R : List Bl} {X : List Nat} (hX : ∀ b ∈ R, plc N L b + 4 ≤ X.length) (h8 : 8 < 10 + 73 * L + gNat N L) (hX8 : X.getD 8 0 = 0) (h4 : ∀ b ∈ R, 4 ≤ b.2.2) (hP : R.Pairwise (fun a b => posB a + a.2.2 ≤ posB b)) : ∀ k, k ≤ R.length →
 (∀ i, i < k → (stkN s N L R X k).getD (plc N L (R.getD i default)) 0 = hdW (1 + oneN s.types i) (szS s i (R.getD i default).2.2) ∧ (stkN s N L R X k).getD (plc N L (R.getD i default) + 1) 0 = 4294967296 * s.ep + (i + 1)) ∧
 (stkN s N L R X k).getD 8 0 = if 1 ≤ s.root ∧ s.root ≤ k then plc N L (R.getD (s.root - 1) default) else 0
 | 0, _ => ⟨fun i hi => absurd hi (Nat.not_lt_zero _), by rw [if_neg (by omega)]; exact hX8⟩
 | k + 1, hk => by
   obtain ⟨ih1, ih2⟩ := stkN_at hX h8 hX8 h4 hP k (by omega)
   have hm : ∀ i, i < R.length → R.getD i default ∈ R := fun i hi => by rw [List.getD_eq_getElem?_getD, List.getElem?_eq_getElem hi]; exact List.getElem_mem hi
   have hlen : ∀ j, (stkN s N L R X j).length = X.length := fun j => stkN_len s N L R X j
   have hXk := hX _ (hm k (by omega))
   have hpk : 10 + 73 * L + gNat N L ≤ plc N L (R.getD k default) := by rw [plc_pos]; omega
   have hlt : ∀ i, i < k → plc N L (R.getD i default) + 4 ≤ plc N L (R.getD k default) ∧ 10 + 73 * L + gNat N L ≤ plc N L (R.getD i default) := fun i hi => by
    have h1 := List.pairwise_iff_getElem.1 hP i k (by omega) (by omega) hi
    have e1 : R.getD i default = R[i]'(by omega) := by rw [List.getD_eq_getElem?_getD, List.getElem?_eq_getElem (by omega)]; rfl
    have e2 : R.getD k default = R[k]'(by omega) := by rw [List.getD_eq_getElem?_getD, List.getElem?_eq_getElem (by omega)]; rfl
    have h2 := h4 _ (hm i (by omega))
    rw [e1] at h2
    rw [plc_pos, plc_pos, e1, e2]
    omega
   rw [stkN]
   generalize hbk : R.getD k default = b at *
   have hat : ∀ Y : List Nat, Y.length = X.length → ∀ a c : Nat, ((Y.set (plc N L b) a).set (plc N L b + 1) c).getD (plc N L b) 0 = a ∧ ((Y.set (plc N L b) a).set (plc N L b + 1) c).getD (plc N L b + 1) 0 = c := fun Y hY a c => by
    refine ⟨?_, ?_⟩
    ·rw [getD_setS, if_neg (by omega), getD_setS, if_pos ⟨rfl, by omega⟩]
    ·rw [getD_setS, if_pos ⟨rfl, by rw [List.length_set]; omega⟩]
   have hother : ∀ (Y : List Nat) (a c p : Nat), p < plc N L b → ((Y.set (plc N L b) a).set (plc N L b + 1) c).getD p 0 = Y.getD p 0 := fun Y a c p hp => by
    rw [getD_setS, if_neg (by omega), getD_setS, if_neg (by omega)]
   refine ⟨fun i hi => ?_, ?_⟩
   ·unfold stkS
    by_cases e : i = k
    ·subst e
     rw [hbk]
     obtain ⟨a1, a2⟩ := hat (stkN s N L R X i) (hlen i) (hdW (1 + oneN s.types i) (szS s i b.2.2)) (4294967296 * s.ep + (i + 1))
     split
     ·rw [getD_setS, if_neg (by omega), getD_setS (p := plc N L b + 1) (i := 8), if_neg (by omega)]
      exact ⟨a1, a2⟩
     ·exact ⟨a1, a2⟩
    ·obtain ⟨q1, q2⟩ := hlt i (by omega)
     obtain ⟨r1, r2⟩ := ih1 i (by omega)
     split
     ·rw [getD_setS, if_neg (by omega), hother _ _ _ _ (by omega), getD_setS (i := 8), if_neg (by omega), hother _ _ _ _ (by omega)]
      exact ⟨r1, r2⟩
     ·rw [hother _ _ _ _ (by omega), hother _ _ _ _ (by omega)]
      exact ⟨r1, r2⟩
   ·unfold stkS
    split
    ·rename_i hr
     rw [getD_setS, if_pos ⟨rfl, by rw [List.length_set, List.length_set, hlen]; omega⟩, if_pos (by omega), hr, Nat.add_sub_cancel, hbk]
    ·rename_i hr
     rw [hother _ _ _ _ (by omega), ih2]
     by_cases h : 1 ≤ s.root ∧ s.root ≤ k
     ·rw [if_pos h, if_pos (by omega)]
     ·rw [if_neg h, if_neg (by omega)]
structure StkP (s : Sk) (B : List Nat) (N L G : Nat) (R : List Bl) : Prop where
 len : B.length = N
 g : gOk (N : Nat) (L : Nat) = true
 gn : gNat N L = G
 hN : N = 10 + 73 * L + 33 * G
 l1 : 1 ≤ L
 l3 : L ≤ 3
 g1 : 1 ≤ G
 g8 : G ≤ 8
 w3 : B.getD 3 0 = L
 ok : sOk B = true
 mks : ∀ i, i < L → B.getD (10 + i) 0 = 0
 right : rightT (tabW B L) = true
 calm : calmT (tabW B L) = true
 bl : blI B L = R
 w8 : B.getD 8 0 = if 1 ≤ s.root ∧ s.root ≤ R.length then plc N L (R.getD (s.root - 1) default) else 0
 w9 : B.getD 9 0 = s.ep
 hd : ∀ i, i < R.length → objH B L (R.getD i default) = some (obS s N L i (R.getD i default))
 bk : ∀ b ∈ R, plc N L b + 4 ≤ N ∧ 4 ≤ b.2.2 ∧ 10 + 73 * L + G ≤ plc N L b
 n64 : R.length ≤ 64
theorem take8_of {X : List Nat} {l : List Nat} (h8 : 8 ≤ X.length) (hl : l.length = 8) (h : ∀ p, p < 8 → X.getD p 0 = l.getD p 0) : X.take 8 = l := by
 refine ext_getD (by rw [List.length_take]; omega) (fun i hi => ?_)
 rw [List.length_take] at hi
 rw [List.getD_eq_getElem?_getD, List.getElem?_take_of_lt (by omega), ← List.getD_eq_getElem?_getD, h i (by omega)]
theorem stock_parts {s : Sk} (hB : SkB s) : ∃ R, StkP s (stockL s) (gvN (gvS s)) (gvL (gvS s)) (gvG (gvS s)) R := by
 obtain ⟨hg, hgN, hgat, hL1, hL3, hG1, hG8⟩ := gv_geo (gvS s)
 have hNN : gvN (gvS s) = 10 + 73 * gvL (gvS s) + 33 * gvG (gvS s) := rfl
 have hl := stockL_len s
 have hml := (gv_len (gvS s)).1
 obtain ⟨t1, t2, t3⟩ := stock_tab s
 have hR : blI (stockL s) (gvL (gvS s)) = blI (makeL (gvS s)) (gvL (gvS s)) := by unfold blI; rw [t3]
 have hbk : ∀ b ∈ blI (makeL (gvS s)) (gvL (gvS s)), plc (gvN (gvS s)) (gvL (gvS s)) b + 4 ≤ gvN (gvS s) ∧ 4 ≤ b.2.2 ∧ 10 + 73 * gvL (gvS s) + gvG (gvS s) ≤ plc (gvN (gvS s)) (gvL (gvS s)) b := fun b hb => by
  have h := plc_bd (I := makeL (gvS s)) (L := gvL (gvS s)) (by rw [hml]; exact hg) hb
  rw [hml, hgat] at h
  exact ⟨h.2.2.2.2.2.1, h.2.2.2.1, h.2.2.2.2.2.2⟩
 have hasc := (asc_T (t := tabW (makeL (gvS s)) (gvL (gvS s))) (by rw [← t3]; exact t1)).1
 have hm8 : (makeL (gvS s)).getD 8 0 = 0 := by rw [stock_low s 8 (by omega), make0_8]; rfl
 obtain ⟨a1, a2⟩ := stkN_at (s := s) (N := gvN (gvS s)) (L := gvL (gvS s)) (R := blI (makeL (gvS s)) (gvL (gvS s))) (X := makeL (gvS s)) (fun b hb => by rw [hml]; exact (hbk b hb).1) (by omega) hm8 (fun b hb => (hbk b hb).2.1) hasc _ (Nat.le_refl _)
 have hst : stkN s (gvN (gvS s)) (gvL (gvS s)) (blI (makeL (gvS s)) (gvL (gvS s))) (makeL (gvS s)) (blI (makeL (gvS s)) (gvL (gvS s))).length = stockL s := rfl
 rw [hst] at a1 a2
 have hw3 : (stockL s).getD 3 0 = gvL (gvS s) := by rw [base_at s 3 (by omega) (by decide), make0_head _ 3 (by decide), hw3]
 refine ⟨blI (makeL (gvS s)) (gvL (gvS s)), ⟨hl, hg, hgat, rfl, hL1, hL3, hG1, hG8, hw3, ?_, fun i hi => ?_, t1, t2, hR, a2, ?_, fun i hi => ?_, hbk, ?_⟩⟩
 ·unfold sOk
  rw [hw3, hl, hg, hgat, decide_eq_true (show 8 ≤ gvN (gvS s) by omega), Bool.true_and, Bool.true_and]
  refine decide_eq_true (take8_of (by omega) (headW_len _ _ _) (fun p hp => ?_))
  rw [base_at s p (by omega) (by omega), make0_head _ p hp]
 ·rw [base_at s _ (by omega) (by omega), make0_mid _ _ (by omega) (by omega)]
 ·rw [base_at s 9 (by omega) (by decide), make0_9]; rfl
 ·have hm : (blI (makeL (gvS s)) (gvL (gvS s))).getD i default ∈ blI (makeL (gvS s)) (gvL (gvS s)) := by rw [List.getD_eq_getElem?_getD, List.getElem?_eq_getElem hi]; exact List.getElem_mem hi
  obtain ⟨b1, b2⟩ := a1 i hi
  obtain ⟨p1, p2, p3⟩ := hbk _ hm
  have hbl := stock_blk hm
  have h32 := bl_bd hm
  generalize (blI (makeL (gvS s)) (gvL (gvS s))).getD i default = b at *
  obtain ⟨r1, r2, r3⟩ := szS_rom s i b.2.2 (by
   rcases h32.2 with h | h
   ·omega
   ·right; right; right
    have := h.2.2.1
    omega)
  have ht := oneN_8 hB.y i
  have hd : hdAt (stockL s) (plc (gvN (gvS s)) (gvL (gvS s)) b) = some (1 + oneN s.types i, szS s i b.2.2, 4294967296 * s.ep + (i + 1)) := by
   unfold hdAt
   exact decH_of (by rw [List.length_take, List.length_drop]; omega) (by rw [hd_at0]; exact b1) (by rw [hd_at1]; exact b2) (by omega) (by omega) r2 (by omega)
  unfold objH
  rw [hl, hd]
  simp only
  rw [if_pos r1]
  rfl
 ·have h := bl_len (I := makeL (gvS s)) (L := gvL (gvS s)) (by rw [hml]; exact hg)
  rw [hml, hgat] at h
  omega
theorem StkP.objs {s : Sk} {B : List Nat} {N L G : Nat} {R : List Bl} (h : StkP s B N L G R) : allO B L R = true ∧ R.map (objE B L) = (List.range R.length).map (fun i => obS s N L i (R.getD i default)) := by
 have hg : ∀ i (hi : i < R.length), R.getD i default = R[i] := fun i hi => by rw [List.getD_eq_getElem?_getD, List.getElem?_eq_getElem hi]; rfl
 refine ⟨List.all_eq_true.2 (fun b hb => ?_), List.ext_getElem (by simp) (fun i h1 h2 => ?_)⟩
 ·obtain ⟨i, hi, rfl⟩ := List.getElem_of_mem hb
  have := h.hd i hi
  rw [hg i hi] at this
  rw [this]; rfl
 ·rw [List.length_map] at h1
  rw [List.getElem_map, List.getElem_map, List.getElem_range]
  have := h.hd i h1
  rw [hg i h1] at this ⊢
  unfold objE
  rw [this]; rfl
theorem StkP.obsP {s : Sk} {B : List Nat} {N L G : Nat} {R : List Bl} (h : StkP s B N L G R) : objsP B L = (List.range R.length).map (fun i => obS s N L i (R.getD i default)) := by
 obtain ⟨h1, h2⟩ := h.objs
 unfold objsP
 rw [h.bl, if_pos h1, h2]
theorem StkP.ser {s : Sk} {B : List Nat} {N L G : Nat} {R : List Bl} (h : StkP s B N L G R) : (serO (objsP B L)).length = R.length ∧ ∀ i, i < R.length → (serO (objsP B L)).getD i 0 = 4294967296 * s.ep + (i + 1) := by
 rw [h.obsP]
 unfold serO
 refine ⟨by simp, fun i hi => ?_⟩
 rw [List.map_map, List.getD_eq_getElem?_getD, List.getElem?_map, List.getElem?_range hi]
 rfl
theorem restN_zero {I : List Nat} {L : Nat} (h : ∀ i, i < L → I.getD (10 + i) 0 = 0) : restN I L = true := by
 unfold restN
 refine List.all_eq_true.2 (fun i hi => ?_)
 rw [h i (List.mem_range.1 hi)]
 decide
theorem distR_of {l : List Nat} {n : Nat} (h : ∀ i, i < n → ∀ j, j < i → ¬ l.getD j 0 = l.getD i 0) : distR l n = true := by
 unfold distR
 refine List.all_eq_true.2 (fun i hi => List.all_eq_true.2 (fun j hj => ?_))
 rw [decide_eq_false (h i (List.mem_range.1 hi) j (List.mem_range.1 hj))]
 rfl
theorem StkP.sound {s : Sk} {B : List Nat} {N L G : Nat} {R : List Bl} (h : StkP s B N L G R) (hep : s.ep < 4294967296) : soundB B = true := by
 obtain ⟨h1, h2⟩ := h.objs
 obtain ⟨h3, h4⟩ := h.ser
 have hn := h.n64
 unfold soundB
 have hol : (objsP B L).length = R.length := by rw [h.obsP]; simp
 rw [h.w3, h.ok, restN_zero h.mks, h.right, h.calm, h.bl, h1, hol, distR_of (fun i hi j hj => by rw [h4 i hi, h4 j (by omega)]; omega)]
 simp only [Bool.true_and]
 rw [Bool.and_eq_true]
 refine ⟨?_, ?_⟩
 ·unfold epoB
  rw [h.w9, decide_eq_true (show s.ep ≤ 4294967295 by omega), Bool.true_and, h.obsP]
  refine List.all_eq_true.2 (fun o ho => ?_)
  obtain ⟨i, hi, rfl⟩ := List.mem_map.1 ho
  have := List.mem_range.1 hi
  refine decide_eq_true ?_
  show (4294967296 * s.ep + (i + 1)) / 4294967296 ≤ s.ep
  omega
 ·unfold rootB
  rw [h.w8, h.obsP]
  by_cases hr : 1 ≤ s.root ∧ s.root ≤ R.length
  ·rw [if_pos hr, Bool.or_eq_true]
   right
   refine List.any_eq_true.2 ⟨_, List.mem_map.2 ⟨s.root - 1, List.mem_range.2 (by omega), rfl⟩, ?_⟩
   exact decide_eq_true rfl
  ·rw [if_neg hr]; rfl
end Go.Proofs.YtdmmbnnejbmdpaaGreatDoor
end
section
namespace Go.Proofs.YtdmmbnnejbmdpaaGreatDoor
open Go.Lib Go.RowKit Go.ChangeShapes Go.WideShapes Go.Deep Go.Shelf
theorem objH_same {B X : List Nat} {L : Nat} {b : Bl} (hl : X.length = B.length) (h0 : X.getD (plc B.length L b) 0 = B.getD (plc B.length L b) 0) (h1 : X.getD (plc B.length L b + 1) 0 = B.getD (plc B.length L b + 1) 0) : objH X L b = objH B L b := by
 have e : hdAt X (plc B.length L b) = hdAt B (plc B.length L b) := by
  unfold hdAt
  congr 1
  refine ext_getD (by simp only [List.length_take, List.length_drop, hl]) (fun i hi => ?_)
  have hi2 : i < 2 := by rw [List.length_take] at hi; omega
  have h3 : i = 0 ∨ i = 1 := by omega
  rcases h3 with rfl | rfl
  ·rw [hd_at0, hd_at0, h0]
  ·rw [hd_at1, hd_at1, h1]
 unfold objH
 rw [hl, e]
theorem same_lo {B X : List Nat} {L : Nat} (hg : gOk (B.length : Nat) (L : Nat) = true) (hl : X.length = B.length) (h3 : B.getD 3 0 = L) (hlo : ∀ p, p < 10 + 73 * L + gNat B.length L → p ≠ 8 → p ≠ 9 → X.getD p 0 = B.getD p 0) :
 X.getD 3 0 = L ∧ sOk X = sOk B ∧ restN X L = restN B L ∧ tabW X L = tabW B L ∧ blI X L = blI B L := by
 obtain ⟨s1, s2, s3, s4, s5, s6, s7, s8⟩ := pool_size hg
 have e3 : X.getD 3 0 = L := by rw [hlo 3 (by omega) (by decide) (by decide), h3]
 have e8 : X.take 8 = B.take 8 := ext_getD (by simp only [List.length_take, hl]) (fun i hi => by
  have hi8 : i < 8 := by rw [List.length_take] at hi; omega
  have := hlo i (by omega) (by omega) (by omega)
  rw [List.getD_eq_getElem?_getD, List.getElem?_take_of_lt hi8, List.getD_eq_getElem?_getD, List.getElem?_take_of_lt hi8, ← List.getD_eq_getElem?_getD, ← List.getD_eq_getElem?_getD]
  exact this)
 have et : tabW X L = tabW B L := by
  have hgx : gOk (X.length : Nat) (L : Nat) = true := by rw [hl]; exact hg
  refine ext_getD (by rw [tab_len hgx, tab_len hg, hl]) (fun i hi => ?_)
  rw [tab_len hgx, hl] at hi
  rw [tab_at (by rw [hl]; exact hi), tab_at hi, hlo _ (by omega) (by omega) (by omega)]
 refine ⟨e3, ?_, ?_, et, by unfold blI; rw [et]⟩
 ·unfold sOk; rw [e3, h3, hl, e8]
 ·unfold restN
  rw [Bool.eq_iff_iff, List.all_eq_true, List.all_eq_true]
  constructor
  ·intro h i hi
   have := h i hi
   rw [hlo _ (by have := List.mem_range.1 hi; omega) (by omega) (by omega)] at this
   exact this
  ·intro h i hi
   have := h i hi
   rw [hlo _ (by have := List.mem_range.1 hi; omega) (by omega) (by omega)]
   exact this
theorem StkP.far {s : Sk} {B : List Nat} {N L G : Nat} {R : List Bl} (h : StkP s B N L G R) {i j : Nat} (hij : i < j) (hj : j < R.length) : plc N L (R.getD i default) + (R.getD i default).2.2 ≤ plc N L (R.getD j default) := by
 have hr := h.right
 have h1 := (asc_T hr).1
 rw [show blksT (tabW B L) = R from h.bl] at h1
 have h2 := List.pairwise_iff_getElem.1 h1 i j (by omega) hj hij
 rw [plc_pos, plc_pos, List.getD_eq_getElem?_getD, List.getD_eq_getElem?_getD, List.getElem?_eq_getElem hj, List.getElem?_eq_getElem (show i < R.length by omega)]
 show 10 + 73 * L + gNat N L + posB R[i] + R[i].2.2 ≤ 10 + 73 * L + gNat N L + posB R[j]
 omega
theorem StkP.mem {s : Sk} {B : List Nat} {N L G : Nat} {R : List Bl} (h : StkP s B N L G R) {i : Nat} (hi : i < R.length) : R.getD i default ∈ R := by
 rw [List.getD_eq_getElem?_getD, List.getElem?_eq_getElem hi]; exact List.getElem_mem hi
theorem StkP.tell {s : Sk} {B : List Nat} {N L G : Nat} {R : List Bl} (h : StkP s B N L G R) (hep : s.ep < 4294967296) : (objL B).length = R.length ∧ ∀ i, i < R.length → (objL B).getD i default = ojOf B (obS s N L i (R.getD i default)) := by
 have hs := h.sound hep
 unfold objL
 rw [if_pos hs, h.w3, h.obsP]
 refine ⟨by simp, fun i hi => ?_⟩
 rw [List.map_map, List.getD_eq_getElem?_getD, List.getElem?_map, List.getElem?_range hi]
 rfl
theorem StkP.tell1 {s : Sk} {B : List Nat} {N L G : Nat} {R : List Bl} (h : StkP s B N L G R) (hep : s.ep < 4294967296) {i : Nat} (hi : i < R.length) : ((objL B).getD i default).1.1 = plc N L (R.getD i default) ∧ plc N L (R.getD i default) + 4 ≤ N ∧ 10 + 73 * L + G ≤ plc N L (R.getD i default) := by
 have hb := h.bk _ (h.mem hi)
 rw [(h.tell hep).2 i hi]
 exact ⟨rfl, hb.1, hb.2.2⟩
theorem StkP.epoch {s : Sk} {B : List Nat} {N L G : Nat} {R : List Bl} (h : StkP s B N L G R) (hep : s.ep < 4294967296) (e : Nat) : soundB (B.set 9 e) = (decide (e ≤ 4294967295) && (decide (R.length = 0) || decide (s.ep ≤ e))) := by
 have hN := h.hN
 have h1 := h.l1
 have h2 := h.g1
 have hlen := h.len
 have hgn := h.gn
 have hg := h.g
 have hat : ∀ p, p ≠ 9 → (B.set 9 e).getD p 0 = B.getD p 0 := fun p hp => by rw [getD_setS, if_neg (by omega)]
 obtain ⟨e1, e2, e3, e4, e5⟩ := same_lo (B := B) (X := B.set 9 e) (L := L) (by rw [hlen]; exact hg) List.length_set h.w3 (fun p _ _ hp => hat p hp)
 have hob : ∀ b ∈ R, objH (B.set 9 e) L b = objH B L b := fun b hb => by
  have := (h.bk b hb).2.2
  exact objH_same List.length_set (hat _ (by rw [hlen]; omega)) (hat _ (by rw [hlen]; omega))
 have hall : allO (B.set 9 e) L R = true := by
  have := h.objs.1
  unfold allO at this ⊢
  refine List.all_eq_true.2 (fun b hb => ?_)
  rw [hob b hb]
  exact List.all_eq_true.1 this b hb
 have hmap : R.map (objE (B.set 9 e) L) = R.map (objE B L) := List.map_congr_left (fun b hb => by unfold objE; rw [hob b hb])
 have hobj : objsP (B.set 9 e) L = objsP B L := by
  unfold objsP
  rw [e5, h.bl, if_pos hall, if_pos h.objs.1, hmap]
 have hs := h.sound hep
 unfold soundB at hs ⊢
 rw [h.w3] at hs
 rw [e1, e2, e3, e4, e5, hobj, h.bl, hall]
 rw [h.bl] at hs
 simp only [Bool.and_eq_true] at hs
 obtain ⟨q1, q2, ⟨q3, q4⟩, q5, q6, q7, q8⟩ := hs
 rw [q1, q2, q3, q4, q6]
 have h8 : rootB (B.set 9 e) (objsP B L) = true := by
  unfold rootB at q8 ⊢
  rw [hat 8 (by decide)]
  exact q8
 rw [h8]
 simp only [Bool.true_and, Bool.and_true]
 unfold epoB
 rw [getD_setS, if_pos ⟨rfl, by omega⟩, h.obsP]
 congr 1
 rw [Bool.eq_iff_iff, List.all_eq_true]
 simp only [Bool.or_eq_true, decide_eq_true_eq]
 have h64 := h.n64
 constructor
 ·intro q
  by_cases h0 : R.length = 0
  ·exact .inl h0
  ·right
   have := q _ (List.mem_map.2 ⟨0, List.mem_range.2 (by omega), rfl⟩)
   have h3 : (4294967296 * s.ep + (0 + 1)) / 4294967296 ≤ e := this
   omega
 ·intro q o ho
  obtain ⟨i, hi, rfl⟩ := List.mem_map.1 ho
  have hi := List.mem_range.1 hi
  show (4294967296 * s.ep + (i + 1)) / 4294967296 ≤ e
  rcases q with q | q
  ·omega
  ·omega
theorem set_same {l : List Nat} {p : Nat} : l.set p (l.getD p 0) = l := ext_getD List.length_set (fun i hi => by
 rw [getD_setS]
 split
 ·rename_i q; rw [q.1]
 ·rfl)
theorem StkP.twin {s : Sk} {B : List Nat} {N L G : Nat} {R : List Bl} (h : StkP s B N L G R) (hep : s.ep < 4294967296) {i k : Nat} (hi : i < R.length) (hk : k < R.length) :
 soundB (B.set (plc N L (R.getD i default) + 1) (B.getD (plc N L (R.getD k default) + 1) 0)) = decide (i = k) := by
 have hsnd := h.sound hep
 have hN := h.hN
 have h1 := h.l1
 have h2 := h.g1
 have hlen := h.len
 have hgn := h.gn
 have hg := h.g
 by_cases hik : i = k
 ·subst hik
  rw [set_same, hsnd, decide_eq_true rfl]
 ·rw [decide_eq_false hik]
  have hbi := h.bk _ (h.mem hi)
  obtain ⟨y, hy⟩ : ∃ y, B.getD (plc N L (R.getD k default) + 1) 0 = y := ⟨_, rfl⟩
  rw [hy]
  obtain ⟨pi, hpi⟩ : ∃ p, plc N L (R.getD i default) = p := ⟨_, rfl⟩
  rw [hpi] at hbi ⊢
  have hat : ∀ p, p ≠ pi + 1 → (B.set (pi + 1) y).getD p 0 = B.getD p 0 := fun p hp => by rw [getD_setS, if_neg (by omega)]
  obtain ⟨e1, e2, e3, e4, e5⟩ := same_lo (B := B) (X := B.set (pi + 1) y) (L := L) (by rw [hlen]; exact hg) List.length_set h.w3 (fun p hp _ _ => hat p (by rw [hlen, hgn] at hp; omega))
  cases hs : soundB (B.set (pi + 1) y) with
  | false => rfl
  | true =>
    exfalso
    have hd := sound_dist hs
    obtain ⟨-, -, hal⟩ := sound_parts hs
    rw [e1] at hd hal
    rw [e5, h.bl] at hal
    have hob : objsP (B.set (pi + 1) y) L = R.map (objE (B.set (pi + 1) y) L) := by
     unfold objsP
     rw [e5, h.bl, if_pos hal]
    have hser : ∀ j, j < R.length → (serO (objsP (B.set (pi + 1) y) L)).getD j 0 = (objE (B.set (pi + 1) y) L (R.getD j default)).2.2.2 := fun j hj => by
     rw [hob]
     unfold serO
     rw [List.map_map, List.getD_eq_getElem?_getD, List.getElem?_map, List.getD_eq_getElem?_getD, List.getElem?_eq_getElem hj]
     rfl
    have hn : (objsP (B.set (pi + 1) y) L).length = R.length := by rw [hob, List.length_map]
    rw [hn] at hd
    have hword : ∀ j, j < R.length → (objE (B.set (pi + 1) y) L (R.getD j default)).2.2.2 = (B.set (pi + 1) y).getD (plc N L (R.getD j default) + 1) 0 := fun j hj => by
     have hsome := List.all_eq_true.1 hal _ (h.mem hj)
     unfold objE objH at *
     rw [List.length_set, hlen] at *
     rcases hd2 : hdAt (B.set (pi + 1) y) (plc N L (R.getD j default)) with _ | ⟨t, z, n⟩
     ·rw [hd2] at hsome; cases hsome
     ·rw [hd2] at hsome
      simp only at hsome ⊢
      split
      ·show n = _
       unfold hdAt at hd2
       unfold decH at hd2
       split at hd2
       ·cases hd2
       ·split at hd2
        ·cases hd2; exact hd_at1
        ·cases hd2
      ·rename_i q; rw [if_neg q] at hsome; cases hsome
    have hwi : (B.set (pi + 1) y).getD (plc N L (R.getD i default) + 1) 0 = y := by
     rw [hpi, getD_setS, if_pos ⟨rfl, by omega⟩]
    have hwk : (B.set (pi + 1) y).getD (plc N L (R.getD k default) + 1) 0 = y := by
     have hne : plc N L (R.getD k default) ≠ pi := by
      rw [← hpi]
      rcases Nat.lt_or_gt_of_ne hik with q | q
      ·have := h.far q hk
       have := (h.bk _ (h.mem hi)).2.1
       omega
      ·have := h.far q hi
       have := (h.bk _ (h.mem hk)).2.1
       omega
     rw [hat _ (by omega), hy]
    rcases Nat.lt_or_gt_of_ne hik with q | q
    ·exact distR_at hd hk q (by rw [hser i hi, hser k hk, hword i hi, hword k hk, hwi, hwk])
    ·exact distR_at hd hi q (by rw [hser i hi, hser k hk, hword i hi, hword k hk, hwi, hwk])
theorem StkP.word {s : Sk} {B : List Nat} {N L G : Nat} {R : List Bl} (h : StkP s B N L G R) (hep : s.ep < 4294967296) {i k v : Nat} (hi : i < R.length) (hk : k < szS s i (R.getD i default).2.2) :
 objL (B.set (plc N L (R.getD i default) + 2 + k) v) = (objL B).set i (((objL B).getD i default).1, ((objL B).getD i default).2.set k v) ∧ rootO (B.set (plc N L (R.getD i default) + 2 + k) v) = rootO B ∧ ((objL B).getD i default).2.length = szS s i (R.getD i default).2.2 ∧ plc N L (R.getD i default) + 2 + szS s i (R.getD i default).2.2 ≤ N := by
 have hsnd := h.sound hep
 have hN := h.hN
 have h1 := h.l1
 have h2 := h.g1
 have h3 := h.l3
 have h4 := h.g8
 have hlen := h.len
 have hgn := h.gn
 have hg := h.g
 have hbi := h.bk _ (h.mem hi)
 obtain ⟨hasc, hbd⟩ := objs_asc hsnd (by rw [hlen]; omega)
 rw [h.w3, h.obsP] at hbd hasc
 have hob0 : ∀ j, j < R.length → objE B L (R.getD j default) = obS s N L j (R.getD j default) := fun j hj => by unfold objE; rw [h.hd j hj]; rfl
 have hszj : ∀ j, j < R.length → szS s j (R.getD j default).2.2 + 2 ≤ (R.getD j default).2.2 := fun j hj => by
  have hm := h.mem hj
  have h5 := (objE_bd (I := B) (L := L) (b := R.getD j default) (by have := (h.bk _ hm).2.1; omega) (by rw [h.hd j hj]; rfl)).2.1
  rw [hob0 j hj] at h5
  exact h5
 have hsz := hszj i hi
 have hin : ∀ j, j < R.length → plc N L (R.getD j default) + 2 + szS s j (R.getD j default).2.2 ≤ N := fun j hj => by
  have := (hbd _ (List.mem_map.2 ⟨j, List.mem_range.2 hj, rfl⟩)).2.1
  rw [hlen] at this
  exact this
 obtain ⟨q, hq⟩ : ∃ q, plc N L (R.getD i default) + 2 + k = q := ⟨_, rfl⟩
 rw [hq]
 have hat : ∀ p, p ≠ q → (B.set q v).getD p 0 = B.getD p 0 := fun p hp => by rw [getD_setS, if_neg (by omega)]
 obtain ⟨e1, e2, e3, e4, e5⟩ := same_lo (B := B) (X := B.set q v) (L := L) (by rw [hlen]; exact hg) List.length_set h.w3 (fun p hp _ _ => hat p (by rw [hlen, hgn] at hp; omega))
 have hob : ∀ b ∈ R, objH (B.set q v) L b = objH B L b := fun b hb => by
  obtain ⟨j, hj, rfl⟩ := List.getElem_of_mem hb
  have e : R[j] = R.getD j default := by rw [List.getD_eq_getElem?_getD, List.getElem?_eq_getElem hj]; rfl
  rw [e]
  have hfar : plc N L (R.getD j default) + 1 < q ∨ q < plc N L (R.getD j default) := by
   rcases Nat.lt_trichotomy j i with c | c | c
   ·have := h.far c hi
    have := (h.bk _ (h.mem hj)).2.1
    omega
   ·subst c; omega
   ·have := h.far c hj
    omega
  exact objH_same List.length_set (hat _ (by rw [hlen]; omega)) (hat _ (by rw [hlen]; omega))
 have hall : allO (B.set q v) L R = true := by
  have := h.objs.1
  unfold allO at this ⊢
  refine List.all_eq_true.2 (fun b hb => ?_)
  rw [hob b hb]
  exact List.all_eq_true.1 this b hb
 have hmap : R.map (objE (B.set q v) L) = R.map (objE B L) := List.map_congr_left (fun b hb => by unfold objE; rw [hob b hb])
 have hobj : objsP (B.set q v) L = objsP B L := by
  unfold objsP
  rw [e5, h.bl, if_pos hall, if_pos h.objs.1, hmap]
 have h8 : (B.set q v).getD 8 0 = B.getD 8 0 := hat 8 (by omega)
 have h9 : (B.set q v).getD 9 0 = B.getD 9 0 := hat 9 (by omega)
 have hs2 : soundB (B.set q v) = true := by
  have hs := hsnd
  unfold soundB at hs ⊢
  rw [h.w3] at hs
  rw [e1, e2, e3, e4, e5, hobj, h.bl, hall]
  rw [h.bl, h.objs.1] at hs
  unfold epoB rootB at hs ⊢
  rw [h8, h9]
  exact hs
 have hdl : (ojOf B (obS s N L i (R.getD i default))).2.length = szS s i (R.getD i default).2.2 := by
  have := hin i hi
  unfold ojOf obS
  simp only []
  rw [List.length_take, List.length_drop, hlen]
  omega
 obtain ⟨t1, t2⟩ := h.tell hep
 refine ⟨?_, ?_, by rw [t2 i hi]; exact hdl, hin i hi⟩
 ·refine List.ext_getElem ?_ (fun j j1 j2 => ?_)
  ·rw [List.length_set, t1]
   unfold objL
   rw [if_pos hs2, e1, hobj, h.obsP]
   simp
  ·rw [List.length_set, t1] at j2
   have ej : (objL (B.set q v))[j] = ojOf (B.set q v) (obS s N L j (R.getD j default)) := by
    have hx : objL (B.set q v) = (objsP B L).map (ojOf (B.set q v)) := by unfold objL; rw [if_pos hs2, e1, hobj]
    have hy : (objL (B.set q v)).getD j default = ojOf (B.set q v) (obS s N L j (R.getD j default)) := by
     rw [hx, h.obsP, List.map_map, List.getD_eq_getElem?_getD, List.getElem?_map, List.getElem?_range j2]
     rfl
    rw [← hy, List.getD_eq_getElem?_getD, List.getElem?_eq_getElem j1]
    rfl
   have e0 : (objL B)[j]'(by rw [t1]; exact j2) = ojOf B (obS s N L j (R.getD j default)) := by
    rw [← t2 j j2, List.getD_eq_getElem?_getD, List.getElem?_eq_getElem (by rw [t1]; exact j2)]
    rfl
   rw [ej, List.getElem_set]
   by_cases c : i = j
   ·subst c
    rw [if_pos rfl, t2 i hi]
    unfold ojOf
    refine Prod.ext rfl ?_
    show ((B.set q v).drop (plc N L (R.getD i default) + 2)).take (szS s i (R.getD i default).2.2) = ((B.drop (plc N L (R.getD i default) + 2)).take (szS s i (R.getD i default).2.2)).set k v
    rw [List.drop_set, if_neg (by omega), ← List.take_set, show q - (plc N L (R.getD i default) + 2) = k from by omega]
   ·rw [if_neg c, e0]
    unfold ojOf
    refine Prod.ext rfl ?_
    show ((B.set q v).drop (plc N L (R.getD j default) + 2)).take (szS s j (R.getD j default).2.2) = (B.drop (plc N L (R.getD j default) + 2)).take (szS s j (R.getD j default).2.2)
    have hsj := hszj j j2
    refine ext_getD (by simp only [List.length_take, List.length_drop, List.length_set]) (fun a ha => ?_)
    rw [List.length_take] at ha
    have ha2 : a < szS s j (R.getD j default).2.2 := by omega
    rw [List.getD_eq_getElem?_getD, List.getElem?_take_of_lt ha2, List.getElem?_drop, ← List.getD_eq_getElem?_getD, List.getD_eq_getElem?_getD (l := List.take _ _), List.getElem?_take_of_lt ha2, List.getElem?_drop, ← List.getD_eq_getElem?_getD]
    refine hat _ ?_
    rcases Nat.lt_or_gt_of_ne c with c | c
    ·have := h.far c j2
     omega
    ·have := h.far c hi
     omega
 ·unfold rootO rootL
  rw [if_pos hs2, if_pos hsnd, e1, hobj, h.w3, h8]
end Go.Proofs.YtdmmbnnejbmdpaaGreatDoor
end
