/-
  Part of the proof of JournalUndo.
-/
import Derived.Test.YtkkbngcgphlikaaGreatDoorJu40
import Derived.Test.YtkkbngcgphlikaaGreatDoorRows
import Derived.Test.YtkkbngcgphlikaaGreatDoorJu0
set_option maxRecDepth 10000
set_option maxHeartbeats 1000000
set_option linter.unusedVariables false
set_option linter.unusedSimpArgs false
section
namespace Go.Proofs.YtkkbngcgphlikaaGreatDoor
open Go.Lib Go.RowKit Go.ChangeShapes Go.WideShapes Go.Deep Go.Shelf
theorem stkN_lo {s : Sk} {N L : Nat} {R : List Bl} {X : List Nat} (p : Nat) (hp : p < 10 + 73 * L + gNat N L) (h8 : p ≠ 8) : ∀ k, (stkN s N L R X k).getD p 0 = X.getD p 0
 | 0 => rfl
 | k + 1 => by
   rw [stkN]
   have hq : p < plc N L (R.getD k default) := by rw [plc_pos]; omega
   unfold stkS
   split
   ·rw [getD_setS, if_neg (by omega), getD_setS, if_neg (by omega), getD_setS, if_neg (by omega), stkN_lo p hp h8 k]
   ·rw [getD_setS, if_neg (by omega), getD_setS, if_neg (by omega), stkN_lo p hp h8 k]
theorem base_at (s : Sk) (p : Nat) (hp : p < 10 + 73 * gvL (gvS s) + gvG (gvS s)) (h8 : p ≠ 8) : (stockL s).getD p 0 = (make0 (gvS s)).getD p 0 := by
 unfold stockL
 rw [stkN_lo p (by rw [(gv_geo (gvS s)).2.2.1]; exact hp) h8, stock_low s p hp]
theorem make0_head (v : Gv) (p : Nat) (hp : p < 8) : (make0 v).getD p 0 = (headW (gvN v) (gvL v) (gvG v)).getD p 0 := by
 have hN : gvN v = 10 + 73 * gvL v + 33 * gvG v := rfl
 unfold make0 putL
 rw [putK_loS p (by omega), getD_setS, if_neg (by omega), getD_setS, if_neg (by omega), headW_len]
 have h := putK_atS (X := List.replicate (gvN v) 0) (a := 0) (l := headW (gvN v) (gvL v) (gvG v)) p (by rw [List.length_replicate]; omega) 8 hp
 rw [Nat.zero_add] at h
 exact h
theorem make0_mid (v : Gv) (p : Nat) (h10 : 10 ≤ p) (hp : p < 10 + 73 * gvL v) : (make0 v).getD p 0 = 0 := by
 unfold make0 putL
 rw [putK_loS p hp, getD_setS, if_neg (by omega), getD_setS, if_neg (by omega), putK_hi9 _ _ (by rw [headW_len]; omega), List.getD_eq_getElem?_getD, List.getElem?_replicate]
 split <;> rfl
theorem make0_8 (v : Gv) : (make0 v).getD 8 0 = v.root := by
 have hN : gvN v = 10 + 73 * gvL v + 33 * gvG v := rfl
 unfold make0 putL
 rw [putK_loS 8 (by omega), getD_setS, if_neg (by omega), getD_setS, if_pos ⟨rfl, by rw [putK_len, List.length_replicate]; omega⟩]
theorem make0_9 (v : Gv) : (make0 v).getD 9 0 = v.epoch := by
 have hN : gvN v = 10 + 73 * gvL v + 33 * gvG v := rfl
 unfold make0 putL
 rw [putK_loS 9 (by omega), getD_setS, if_pos ⟨rfl, by rw [List.length_set, putK_len, List.length_replicate]; omega⟩]
theorem hw3 (W L G : Nat) : (headW W L G).getD 3 0 = L := rfl
theorem hw4 (W L G : Nat) : (headW W L G).getD 4 0 = G := rfl
theorem hw7 (W L G : Nat) : (headW W L G).getD 7 0 = moreN 0 (headL W L G) := rfl
end Go.Proofs.YtkkbngcgphlikaaGreatDoor
end
section
namespace Go.Proofs.YtkkbngcgphlikaaGreatDoor
open Go.Lib Go.RowKit Go.ChangeShapes Go.WideShapes Go.Deep Go.Shelf
theorem chK_more (x M m : Nat) (hm : m < M) : ¬ (chK x M m).1 = 3 ∧ ((chK x M m).1 = 2 → (m : Int) + (chK x M m).2.2.2.1 ≤ (M : Int)) ∧ ((chK x M m).1 = 4 → x % 6 = 5) := by
 unfold chK
 split
 ·simp
 split
 ·simp
 split
 ·split
  ·simp
  simp; omega
 split
 ·simp
 simp; omega
theorem zeros_right : ∀ n, rightT (List.replicate n 0) = true
 | 0 => rfl
 | n + 1 => by
   rw [List.replicate_succ]
   exact rightT_app (t := [0]) (rightT_one (by decide) (by decide) (by decide)) (zeros_right n)
theorem chF_right (x M m : Nat) (hm : m < M) : rightT (chF x M m) = true ∧ m + (chF x M m).length ≤ M ∧ (¬ x % 6 = 5 → ∀ y ∈ chF x M m, ¬ kN y = 4) := by
 obtain ⟨k, c, l, q, b, e, hr, hb, hq⟩ := chK_right x M m
 obtain ⟨m1, m2, m3⟩ := chK_more x M m hm
 unfold chF
 rw [e] at m1 m2 m3 ⊢
 simp only [] at m1 m2 m3 ⊢
 obtain ⟨z, hz, h1, h2, h3⟩ := okN_word (right_yes hr) hb
 rw [hz, Int.toNat_natCast]
 by_cases hk : k = 2
 ·have hq4 := hq hk
  have hm2 := m2 hk
  have hq1 : 1 ≤ q := by unfold RightP at hr; omega
  rw [if_pos hk]
  refine ⟨rightT_huge h1 (by omega) (by omega), ?_, fun _ y hy => ?_⟩
  ·rw [List.length_cons, List.length_replicate]; omega
  rcases List.mem_cons.1 hy with rfl | hy
  ·omega
  obtain ⟨-, rfl⟩ := List.mem_replicate.1 hy
  decide
 rw [if_neg hk]
 refine ⟨rightT_one h1 (by omega) (by omega), ?_, fun hx y hy => ?_⟩
 ·simp; omega
 rcases List.mem_cons.1 hy with rfl | hy
 ·intro h4; exact hx (m3 (by omega))
 cases hy
theorem madeT_right (M : Nat) : ∀ (l P : List Nat), rightT P = true → P.length ≤ M → (∀ y ∈ P, ¬ kN y = 4) → (∀ x ∈ l, ¬ x % 6 = 5) → rightT (l.foldl (madeS M) P) = true ∧ (l.foldl (madeS M) P).length ≤ M ∧ ∀ y ∈ l.foldl (madeS M) P, ¬ kN y = 4
 | [], P, h1, h2, h3, _ => ⟨h1, h2, h3⟩
 | x :: l, P, h1, h2, h3, h4 => by
   rw [List.foldl_cons]
   have hx := h4 x (List.mem_cons_self ..)
   unfold madeS
   split
   ·rename_i hm
    obtain ⟨c1, c2, c3⟩ := chF_right x M P.length hm
    exact madeT_right M l _ (rightT_app h1 c1) (by rw [List.length_append]; exact c2) (fun y hy => by
     rcases List.mem_append.1 hy with hy | hy
     ·exact h3 y hy
     ·exact c3 hx y hy) (fun y hy => h4 y (List.mem_cons_of_mem _ hy))
   ·exact madeT_right M l P h1 h2 h3 (fun y hy => h4 y (List.mem_cons_of_mem _ hy))
theorem make0_tab (v : Gv) (hM : (madeT v.tiles (gvG v)).length ≤ gvG v) (i : Nat) (hi : i < gvG v) : (make0 v).getD (10 + 73 * gvL v + i) 0 = (madeT v.tiles (gvG v)).getD i 0 := by
 have hN : gvN v = 10 + 73 * gvL v + 33 * gvG v := rfl
 unfold make0 putL
 generalize hM9 : madeT v.tiles (gvG v) = Mw at *
 by_cases h : i < Mw.length
 ·rw [putK_atS i (by rw [List.length_set, List.length_set, putK_len, List.length_replicate]; omega) _ h]
 rw [putK_hi9 _ _ (by omega), getD_setS, if_neg (by omega), getD_setS, if_neg (by omega), putK_hi9 _ _ (by rw [headW_len]; omega), List.getD_eq_getElem?_getD, List.getElem?_replicate, List.getD_eq_getElem?_getD, List.getElem?_eq_none (by omega)]
 split <;> rfl
theorem ext_getD_so {l m : List Nat} (hl : l.length = m.length) (h : ∀ i, i < l.length → l.getD i 0 = m.getD i 0) : l = m := by
 refine List.ext_getElem hl (fun i h1 h2 => ?_)
 have := h i h1
 rw [List.getD_eq_getElem?_getD, List.getD_eq_getElem?_getD, List.getElem?_eq_getElem h1, List.getElem?_eq_getElem h2] at this
 exact this
theorem tab_at {I : List Nat} {L i : Nat} (hi : i < gNat I.length L) : (tabW I L).getD i 0 = I.getD (10 + 73 * L + i) 0 := by
 unfold tabW
 rw [List.getD_eq_getElem?_getD, List.getElem?_take_of_lt hi, List.getElem?_drop, ← List.getD_eq_getElem?_getD]
theorem stock_tab (s : Sk) : rightT (tabW (stockL s) (gvL (gvS s))) = true ∧ calmT (tabW (stockL s) (gvL (gvS s))) = true ∧ tabW (stockL s) (gvL (gvS s)) = tabW (makeL (gvS s)) (gvL (gvS s)) := by
 obtain ⟨hg, hgN, hgat, hL1, hL3, hG1, hG8⟩ := gv_geo (gvS s)
 have hNN : gvN (gvS s) = 10 + 73 * gvL (gvS s) + 33 * gvG (gvS s) := rfl
 have hl := stockL_len s
 have hl2 := (gv_len (gvS s)).1
 obtain ⟨m1, m2, m3⟩ := madeT_right (gvG (gvS s)) (gvS s).tiles [] rfl (Nat.zero_le _) (fun y hy => by cases hy) (fun x hx => by
  have := (List.mem_filter.1 hx).2
  rw [Bool.not_eq_true'] at this
  exact of_decide_eq_false this)
 have htl : (tabW (stockL s) (gvL (gvS s))).length = gvG (gvS s) := by rw [tab_len (by rw [hl]; exact hg), hl, hgat]
 have htl2 : (tabW (makeL (gvS s)) (gvL (gvS s))).length = gvG (gvS s) := by rw [tab_len (by rw [hl2]; exact hg), hl2, hgat]
 have e : tabW (stockL s) (gvL (gvS s)) = madeT (gvS s).tiles (gvG (gvS s)) ++ List.replicate (gvG (gvS s) - (madeT (gvS s).tiles (gvG (gvS s))).length) 0 := by
  refine ext_getD_so ?_ (fun i hi => ?_)
  ·rw [htl, List.length_append, List.length_replicate]; unfold madeT; omega
  rw [htl] at hi
  rw [tab_at (by rw [hl, hgat]; exact hi), base_at s _ (by omega) (by omega), make0_tab _ m2 i hi]
  by_cases h : i < (madeT (gvS s).tiles (gvG (gvS s))).length
  ·rw [List.getD_eq_getElem?_getD, List.getD_eq_getElem?_getD, List.getElem?_append_left h]
  rw [List.getD_eq_getElem?_getD, List.getElem?_eq_none (by omega), List.getD_eq_getElem?_getD, List.getElem?_append_right (by omega), List.getElem?_replicate]
  split <;> rfl
 refine ⟨?_, ?_, ?_⟩
 ·rw [e]; exact rightT_app m1 (zeros_right _)
 ·rw [e]
  unfold calmT
  refine List.all_eq_true.2 (fun y hy => ?_)
  rw [Bool.not_eq_true']
  refine decide_eq_false ?_
  rcases List.mem_append.1 hy with hy | hy
  ·exact m3 y hy
  obtain ⟨-, rfl⟩ := List.mem_replicate.1 hy
  decide
 refine ext_getD_so (by rw [htl, htl2]) (fun i hi => ?_)
 rw [htl] at hi
 rw [tab_at (by rw [hl, hgat]; exact hi), tab_at (by rw [hl2, hgat]; exact hi), base_at s _ (by omega) (by omega), stock_low s _ (by omega)]
theorem oneN_8 {l : List Nat} (h : ∀ x ∈ l, x < 256) (i : Nat) : oneN l i < 256 := oneN_lt h (by decide) i
def obS (s : Sk) (N L i : Nat) (b : Bl) : Ob := (plc N L b, 1 + oneN s.types i, szS s i b.2.2, 4294967296 * s.ep + (i + 1))
theorem szS_rom (s : Sk) (i m : Nat) (h : m = 4 ∨ m = 8 ∨ m = 16 ∨ (32 ≤ m ∧ m ≤ 128 ∧ m % 32 = 0)) : romJ (szS s i m : Nat) = (m : Nat) ∧ szS s i m ≤ 4096 ∧ szS s i m + 2 ≤ m := by
 have h3 : oneN s.less i % 3 < 3 := Nat.mod_lt _ (by decide)
 have h4 : oneN s.less i % 4 < 4 := Nat.mod_lt _ (by decide)
 have h8 : oneN s.less i % 8 < 8 := Nat.mod_lt _ (by decide)
 have h16 : oneN s.less i % 16 < 16 := Nat.mod_lt _ (by decide)
 rcases h with rfl | rfl | rfl | ⟨h1, h2, h5⟩
 ·have e : szS s i 4 = 2 - oneN s.less i % 3 := rfl
  obtain ⟨z, hz⟩ : ∃ z, 2 - oneN s.less i % 3 = z := ⟨_, rfl⟩
  rw [e, hz]
  unfold romJ
  rw [if_neg (by omega), if_pos (by omega)]; omega
 ·have e : szS s i 8 = 6 - oneN s.less i % 4 := rfl
  obtain ⟨z, hz⟩ : ∃ z, 6 - oneN s.less i % 4 = z := ⟨_, rfl⟩
  rw [e, hz]
  unfold romJ
  rw [if_neg (by omega), if_neg (by omega), if_pos (by omega)]; omega
 ·have e : szS s i 16 = 14 - oneN s.less i % 8 := rfl
  obtain ⟨z, hz⟩ : ∃ z, 14 - oneN s.less i % 8 = z := ⟨_, rfl⟩
  rw [e, hz]
  unfold romJ
  rw [if_neg (by omega), if_neg (by omega), if_neg (by omega), if_pos (by omega)]; omega
 have e : szS s i m = m - 2 - oneN s.less i % 16 := by unfold szS; rw [if_neg (by omega), if_neg (by omega), if_neg (by omega)]
 obtain ⟨z, hz⟩ : ∃ z, m - 2 - oneN s.less i % 16 = z := ⟨_, rfl⟩
 rw [e, hz]
 unfold romJ
 rw [if_neg (by omega), if_neg (by omega), if_neg (by omega), if_neg (by omega), if_pos (by omega)]; omega
theorem decH_of {l : List Nat} {t sz n : Nat} (hl : 2 ≤ l.length) (h0 : l.getD 0 0 = hdW t sz) (h1 : l.getD 1 0 = n) (ht : 1 ≤ t) (ht2 : t ≤ 65535) (hs : sz ≤ 4096) (hn : 1 ≤ n) : decH l = some (t, sz, n) := by
 have e1 : hdW t sz % 65536 = t := by unfold hdW; omega
 have e2 : hdW t sz / 65536 % 65536 = sz := by unfold hdW; omega
 have e3 : hdW t sz / 4294967296 = 4200005632 := by unfold hdW; omega
 unfold decH
 rw [if_neg (by omega), h0, h1, e1, e2, e3]
 have e4 : hdB (t : Nat) (sz : Nat) (n : Nat) = true := by unfold hdB; exact decide_eq_true (by omega)
 rw [e4]
 rfl
theorem hd_at0 {I : List Nat} {p : Nat} : ((I.drop p).take 2).getD 0 0 = I.getD p 0 := by
 rw [List.getD_eq_getElem?_getD, List.getElem?_take_of_lt (by decide), List.getElem?_drop, ← List.getD_eq_getElem?_getD, Nat.add_zero]
theorem hd_at1 {I : List Nat} {p : Nat} : ((I.drop p).take 2).getD 1 0 = I.getD (p + 1) 0 := by
 rw [List.getD_eq_getElem?_getD, List.getElem?_take_of_lt (by decide), List.getElem?_drop, ← List.getD_eq_getElem?_getD]
theorem stkN_at {s : Sk} {N L : Nat} {R : List Bl} {X : List Nat} (hX : ∀ b ∈ R, plc N L b + 4 ≤ X.length) (h8 : 8 < 10 + 73 * L + gNat N L) (hX8 : X.getD 8 0 = 0) (h4 : ∀ b ∈ R, 4 ≤ b.2.2) (hP : R.Pairwise (fun a b => posB a + a.2.2 ≤ posB b)) : ∀ k, k ≤ R.length →
 (∀ i, i < k → (stkN s N L R X k).getD (plc N L (R.getD i default)) 0 = hdW (1 + oneN s.types i) (szS s i (R.getD i default).2.2) ∧ (stkN s N L R X k).getD (plc N L (R.getD i default) + 1) 0 = 4294967296 * s.ep + (i + 1)) ∧
 (stkN s N L R X k).getD 8 0 = if 1 ≤ s.root ∧ s.root ≤ k then plc N L (R.getD (s.root - 1) default) else 0
 | 0, _ => ⟨fun i hi => absurd hi (Nat.not_lt_zero _), by rw [if_neg (by omega)]; exact hX8⟩
 | k + 1, hk => by
   obtain ⟨ih1, ih2⟩ := stkN_at hX h8 hX8 h4 hP k (by omega)
   have hm : ∀ i, i < R.length → R.getD i default ∈ R := fun i hi => by rw [List.getD_eq_getElem?_getD, List.getElem?_eq_getElem hi]; exact List.getElem_mem hi
   have hlen : ∀ j, (stkN s N L R X j).length = X.length := fun j => stkN_len s N L R X j
   have hXk := hX _ (hm k (by omega))
   have hpk : 10 + 73 * L + gNat N L ≤ plc N L (R.getD k default) := by rw [plc_pos]; omega
   have hlt : ∀ i, i < k → plc N L (R.getD i default) + 4 ≤ plc N L (R.getD k default) ∧ 10 + 73 * L + gNat N L ≤ plc N L (R.getD i default) := fun i hi => by
    have h1 := List.pairwise_iff_getElem.1 hP i k (by omega) (by omega) hi
    have e1 : R.getD i default = R[i]'(by omega) := by rw [List.getD_eq_getElem?_getD, List.getElem?_eq_getElem (by omega)]; rfl
    have e2 : R.getD k default = R[k]'(by omega) := by rw [List.getD_eq_getElem?_getD, List.getElem?_eq_getElem (by omega)]; rfl
    have h2 := h4 _ (hm i (by omega))
    rw [e1] at h2
    rw [plc_pos, plc_pos, e1, e2]
    omega
   rw [stkN]
   generalize hbk : R.getD k default = b at *
   have hat : ∀ Y : List Nat, Y.length = X.length → ∀ a c : Nat, ((Y.set (plc N L b) a).set (plc N L b + 1) c).getD (plc N L b) 0 = a ∧ ((Y.set (plc N L b) a).set (plc N L b + 1) c).getD (plc N L b + 1) 0 = c := fun Y hY a c => by
    refine ⟨?_, ?_⟩
    ·rw [getD_setS, if_neg (by omega), getD_setS, if_pos ⟨rfl, by omega⟩]
    ·rw [getD_setS, if_pos ⟨rfl, by rw [List.length_set]; omega⟩]
   have hother : ∀ (Y : List Nat) (a c p : Nat), p < plc N L b → ((Y.set (plc N L b) a).set (plc N L b + 1) c).getD p 0 = Y.getD p 0 := fun Y a c p hp => by
    rw [getD_setS, if_neg (by omega), getD_setS, if_neg (by omega)]
   refine ⟨fun i hi => ?_, ?_⟩
   ·unfold stkS
    by_cases e : i = k
    ·subst e
     rw [hbk]
     obtain ⟨a1, a2⟩ := hat (stkN s N L R X i) (hlen i) (hdW (1 + oneN s.types i) (szS s i b.2.2)) (4294967296 * s.ep + (i + 1))
     split
     ·rw [getD_setS, if_neg (by omega), getD_setS (p := plc N L b + 1) (i := 8), if_neg (by omega)]
      exact ⟨a1, a2⟩
     ·exact ⟨a1, a2⟩
    ·obtain ⟨q1, q2⟩ := hlt i (by omega)
     obtain ⟨r1, r2⟩ := ih1 i (by omega)
     split
     ·rw [getD_setS, if_neg (by omega), hother _ _ _ _ (by omega), getD_setS (i := 8), if_neg (by omega), hother _ _ _ _ (by omega)]
      exact ⟨r1, r2⟩
     ·rw [hother _ _ _ _ (by omega), hother _ _ _ _ (by omega)]
      exact ⟨r1, r2⟩
   ·unfold stkS
    split
    ·rename_i hr
     rw [getD_setS, if_pos ⟨rfl, by rw [List.length_set, List.length_set, hlen]; omega⟩, if_pos (by omega), hr, Nat.add_sub_cancel, hbk]
    ·rename_i hr
     rw [hother _ _ _ _ (by omega), ih2]
     by_cases h : 1 ≤ s.root ∧ s.root ≤ k
     ·rw [if_pos h, if_pos (by omega)]
     ·rw [if_neg h, if_neg (by omega)]
structure StkP (s : Sk) (B : List Nat) (N L G : Nat) (R : List Bl) : Prop where
 len : B.length = N
 g : gOk (N : Nat) (L : Nat) = true
 gn : gNat N L = G
 hN : N = 10 + 73 * L + 33 * G
 l1 : 1 ≤ L
 l3 : L ≤ 3
 g1 : 1 ≤ G
 g8 : G ≤ 8
 w3 : B.getD 3 0 = L
 ok : sOk B = true
 mks : ∀ i, i < L → B.getD (10 + i) 0 = 0
 right : rightT (tabW B L) = true
 calm : calmT (tabW B L) = true
 bl : blI B L = R
 w8 : B.getD 8 0 = if 1 ≤ s.root ∧ s.root ≤ R.length then plc N L (R.getD (s.root - 1) default) else 0
 w9 : B.getD 9 0 = s.ep
 hd : ∀ i, i < R.length → objH B L (R.getD i default) = some (obS s N L i (R.getD i default))
 bk : ∀ b ∈ R, plc N L b + 4 ≤ N ∧ 4 ≤ b.2.2 ∧ 10 + 73 * L + G ≤ plc N L b
 n64 : R.length ≤ 64
theorem take8_of {X : List Nat} {l : List Nat} (h8 : 8 ≤ X.length) (hl : l.length = 8) (h : ∀ p, p < 8 → X.getD p 0 = l.getD p 0) : X.take 8 = l := by
 refine ext_getD_so (by rw [List.length_take]; omega) (fun i hi => ?_)
 rw [List.length_take] at hi
 rw [List.getD_eq_getElem?_getD, List.getElem?_take_of_lt (by omega), ← List.getD_eq_getElem?_getD, h i (by omega)]
theorem stock_parts {s : Sk} (hB : SkB s) : ∃ R, StkP s (stockL s) (gvN (gvS s)) (gvL (gvS s)) (gvG (gvS s)) R := by
 obtain ⟨hg, hgN, hgat, hL1, hL3, hG1, hG8⟩ := gv_geo (gvS s)
 have hNN : gvN (gvS s) = 10 + 73 * gvL (gvS s) + 33 * gvG (gvS s) := rfl
 have hl := stockL_len s
 have hml := (gv_len (gvS s)).1
 obtain ⟨t1, t2, t3⟩ := stock_tab s
 have hR : blI (stockL s) (gvL (gvS s)) = blI (makeL (gvS s)) (gvL (gvS s)) := by unfold blI; rw [t3]
 have hbk : ∀ b ∈ blI (makeL (gvS s)) (gvL (gvS s)), plc (gvN (gvS s)) (gvL (gvS s)) b + 4 ≤ gvN (gvS s) ∧ 4 ≤ b.2.2 ∧ 10 + 73 * gvL (gvS s) + gvG (gvS s) ≤ plc (gvN (gvS s)) (gvL (gvS s)) b := fun b hb => by
  have h := plc_bd (I := makeL (gvS s)) (L := gvL (gvS s)) (by rw [hml]; exact hg) hb
  rw [hml, hgat] at h
  exact ⟨h.2.2.2.2.2.1, h.2.2.2.1, h.2.2.2.2.2.2⟩
 have hasc := (asc_T (t := tabW (makeL (gvS s)) (gvL (gvS s))) (by rw [← t3]; exact t1)).1
 have hm8 : (makeL (gvS s)).getD 8 0 = 0 := by rw [stock_low s 8 (by omega), make0_8]; rfl
 obtain ⟨a1, a2⟩ := stkN_at (s := s) (N := gvN (gvS s)) (L := gvL (gvS s)) (R := blI (makeL (gvS s)) (gvL (gvS s))) (X := makeL (gvS s)) (fun b hb => by rw [hml]; exact (hbk b hb).1) (by omega) hm8 (fun b hb => (hbk b hb).2.1) hasc _ (Nat.le_refl _)
 have hst : stkN s (gvN (gvS s)) (gvL (gvS s)) (blI (makeL (gvS s)) (gvL (gvS s))) (makeL (gvS s)) (blI (makeL (gvS s)) (gvL (gvS s))).length = stockL s := rfl
 rw [hst] at a1 a2
 have hw3 : (stockL s).getD 3 0 = gvL (gvS s) := by rw [base_at s 3 (by omega) (by decide), make0_head _ 3 (by decide), hw3]
 refine ⟨blI (makeL (gvS s)) (gvL (gvS s)), ⟨hl, hg, hgat, rfl, hL1, hL3, hG1, hG8, hw3, ?_, fun i hi => ?_, t1, t2, hR, a2, ?_, fun i hi => ?_, hbk, ?_⟩⟩
 ·unfold sOk
  rw [hw3, hl, hg, hgat, decide_eq_true (show 8 ≤ gvN (gvS s) by omega), Bool.true_and, Bool.true_and]
  refine decide_eq_true (take8_of (by omega) (headW_len _ _ _) (fun p hp => ?_))
  rw [base_at s p (by omega) (by omega), make0_head _ p hp]
 ·rw [base_at s _ (by omega) (by omega), make0_mid _ _ (by omega) (by omega)]
 ·rw [base_at s 9 (by omega) (by decide), make0_9]; rfl
 rotate_left
 ·have h := bl_len (I := makeL (gvS s)) (L := gvL (gvS s)) (by rw [hml]; exact hg)
  rw [hml, hgat] at h
  omega
 have hm : (blI (makeL (gvS s)) (gvL (gvS s))).getD i default ∈ blI (makeL (gvS s)) (gvL (gvS s)) := by rw [List.getD_eq_getElem?_getD, List.getElem?_eq_getElem hi]; exact List.getElem_mem hi
 obtain ⟨b1, b2⟩ := a1 i hi
 obtain ⟨p1, p2, p3⟩ := hbk _ hm
 have hbl := stock_blk hm
 have h32 := bl_bd hm
 generalize (blI (makeL (gvS s)) (gvL (gvS s))).getD i default = b at *
 obtain ⟨r1, r2, r3⟩ := szS_rom s i b.2.2 (by
  rcases h32.2 with h | h
  ·omega
  right; right; right
  have := h.2.2.1
  omega)
 have ht := oneN_8 hB.y i
 have hd : hdAt (stockL s) (plc (gvN (gvS s)) (gvL (gvS s)) b) = some (1 + oneN s.types i, szS s i b.2.2, 4294967296 * s.ep + (i + 1)) := by
  unfold hdAt
  exact decH_of (by rw [List.length_take, List.length_drop]; omega) (by rw [hd_at0]; exact b1) (by rw [hd_at1]; exact b2) (by omega) (by omega) r2 (by omega)
 unfold objH
 rw [hl, hd]
 simp only
 rw [if_pos r1]
 rfl
end Go.Proofs.YtkkbngcgphlikaaGreatDoor
end
section
namespace Go.Proofs.YtkkbngcgphlikaaGreatDoor
theorem lanes_one {I : List Nat} {L ln : Nat} {ops : List Ox} (hoth : ∀ j, j < L → j ≠ ln → laneD I L j = some []) (hl : laneD I L ln = some ops) : ∀ k, k ≤ L → lanesD I L k = some (if ln < k then ops else [])
 | 0, _ => by rw [if_neg (by omega)]; rfl
 | k + 1, hk => by
   rw [lanesD, lanes_one hoth hl k (by omega)]
   by_cases e : k = ln
   ·subst e
    rw [hl, if_neg (by omega), if_pos (by omega)]
    rfl
   ·rw [hoth k (by omega) e]
    by_cases h : ln < k
    ·rw [if_pos h, if_pos (by omega)]; simp
    ·rw [if_neg h, if_neg (by omega)]; rfl
theorem mend_one {I : List Nat} {L ln : Nat} {ops : List Ox} (hp : poolB I = true) (h3 : I.getD 3 0 = L) (hln : ln < L) (hoth : ∀ j, j < L → j ≠ ln → laneD I L j = some []) (hl : laneD I L ln = some ops) : mendD I = some (restL (applyL I ops) L) := by
 unfold mendD
 rw [if_pos hp, h3, lanes_one hoth hl L (Nat.le_refl _), if_pos hln]
theorem lane_idle {I : List Nat} {L j : Nat} (h : I.getD (10 + j) 0 = 0) : laneD I L j = some [] := by
 unfold laneD
 rw [h, if_pos (by decide), if_neg (by decide), if_neg (by decide)]
end Go.Proofs.YtkkbngcgphlikaaGreatDoor
end
section
namespace Go.Proofs.YtkkbngcgphlikaaGreatDoor
open Go.RowKit Go.ChangeShapes Go.WideShapes Go.Deep
def BL9 (l : List Nat) : Prop := ∀ x ∈ l, x < 256
theorem bytes_open9 {H : Type} {enc : TypeId × Value → H} {P : Program} {W : World} {t e : TypeId} (ht : P.underlying t = some (.slice e)) (he : P.underlying e = some (.int .u8)) (hc : P.cellsOf e = 1) {ad : Option Addr} {len cap : Nat} {d : DataW H} {p : List MemPlace}
 (h : DataW.Trod enc P W 0 (fun _ => true) true t (.slice ad len cap) d p) : ∃ l : List Nat, BL9 l ∧ KL .u8 W (.slice ad len cap) l := by
 obtain ⟨fuel, hf⟩ := h
 rcases open_ints ht he hc hf with ⟨hcs, _⟩ | ⟨a, len', cap', zs, hcs, _, hl, hm, hz, _, hcell, hwz⟩
 ·simp [Value.cells] at hcs
  obtain ⟨rfl, rfl, rfl⟩ := hcs
  exact ⟨[], fun x hx => by simp at hx, none, 0, rfl, fun h => by simp at h⟩
 simp [Value.cells] at hcs
 obtain ⟨rfl, rfl, rfl⟩ := hcs
 simp only [if_true] at hz
 have hb : ∀ z ∈ zs, 0 ≤ z ∧ z ≤ 255 := fun z hz => bounds_u8 (hwz z hz)
 have hlen : ((zs.take len).map Int.toNat).length = len := by simp; omega
 refine ⟨(zs.take len).map Int.toNat, fun x hx => ?_, some a, cap, by rw [hlen], fun h0 => ?_⟩
 ·obtain ⟨z, hz1, rfl⟩ := List.mem_map.1 hx
  have := hb z (List.mem_of_mem_take hz1)
  omega
 rw [hlen] at h0 ⊢
 have hc0 := hcell 0 (by omega)
 have hsp : a.spot = none := by
  have := spot_none hc0
  unfold Addr.add at this
  simpa using this
 obtain ⟨g, off, sp⟩ := a
 simp only at hsp
 subst hsp
 refine ⟨g, off, rfl, ?_, by omega, fun i hil => ?_⟩
 ·have := World.block_lt_of_cell? _ _ hc0
  simpa [add_plain] using this
 have := hcell i (by omega)
 rw [add_plain] at this
 rw [this]
 have hzi : i < zs.length := by omega
 have e1 : ((zs.take len).map Int.toNat).getD i 0 = (zs[i]).toNat := by
  rw [List.getD_eq_getElem?_getD, List.getElem?_map, List.getElem?_take, if_pos hil, List.getElem?_eq_getElem hzi]
  rfl
 have e2 : zs.getD i 0 = zs[i] := by rw [List.getD_eq_getElem?_getD, List.getElem?_eq_getElem hzi]; rfl
 rw [e1, e2, Int.toNat_of_nonneg (hb _ (List.getElem_mem hzi)).1]
abbrev Sx := (Value × Value × Value × Value) × Sk
def SOk_so (W : World) (g : Sx) : Prop := SkM W g.1.1 g.1.2.1 g.1.2.2.1 g.1.2.2.2 g.2 ∧ SkB g.2
def sxV (g : Sx) : Value := skV g.2 g.1.1 g.1.2.1 g.1.2.2.1 g.1.2.2.2
theorem stock_open {H : Type} {enc : TypeId × Value → H} {W : World} {r : Reach} {b1 : Nat} {v : Value} {d : DataW H} {p : List MemPlace} (hv : Value.okWide Tryz.prog W r b1 27 v) (h : DataW.Trod enc Tryz.prog W 0 (fun _ => true) true 27 v d p) :
 ∃ g : Sx, SOk_so W g ∧ v = sxV g := by
 obtain ⟨cs, rfl, hsz⟩ := okWide_struct Tryz.underlying27 hv
 obtain ⟨fuel, h⟩ := h
 rw [show Tryz.prog.cellsOf 27 = 8 by kernel_rfl] at hsz
 obtain ⟨xs, n, _, _, _, hxl, hf⟩ := DataW.trod_struct Tryz.underlying27 h
 have hl : (Value.agg cs).cells.toList.length = 8 := by simpa [Value.cells] using hsz
 have hcs : (Value.agg cs).cells.toList = cs.toList := rfl
 rw [hcs] at hf hl
 obtain ⟨ls, hls⟩ : ∃ ls, cs.toList = ls := ⟨_, rfl⟩
 rw [hls] at hf hl
 match xs, hxl, ls, hl, hls with
 | [y0, y1, y2, y3, y4, y5, y6, y7], _, [u0, u1, u2, u3, u4, u5, u6, u7], _, hls =>
   have g0 : DataW.trod enc Tryz.prog W 0 (fun _ => true) true n 5 ((([u0, u1, u2, u3, u4, u5, u6, u7] : List Value).drop 0).take (Tryz.prog.cellsOf 5)) = some y0 := hf 0 _ rfl
   rw [show Tryz.prog.cellsOf 5 = 1 by kernel_rfl] at g0
   have g1 : DataW.trod enc Tryz.prog W 0 (fun _ => true) true n 5 ((([u0, u1, u2, u3, u4, u5, u6, u7] : List Value).drop 1).take (Tryz.prog.cellsOf 5)) = some y1 := hf 1 _ rfl
   rw [show Tryz.prog.cellsOf 5 = 1 by kernel_rfl] at g1
   have g2 : DataW.trod enc Tryz.prog W 0 (fun _ => true) true n 22 ((([u0, u1, u2, u3, u4, u5, u6, u7] : List Value).drop 2).take (Tryz.prog.cellsOf 22)) = some y2 := hf 2 _ rfl
   rw [show Tryz.prog.cellsOf 22 = 1 by kernel_rfl] at g2
   have g3 : DataW.trod enc Tryz.prog W 0 (fun _ => true) true n 23 ((([u0, u1, u2, u3, u4, u5, u6, u7] : List Value).drop 3).take (Tryz.prog.cellsOf 23)) = some y3 := hf 3 _ rfl
   rw [show Tryz.prog.cellsOf 23 = 1 by kernel_rfl] at g3
   have g4 : DataW.trod enc Tryz.prog W 0 (fun _ => true) true n 23 ((([u0, u1, u2, u3, u4, u5, u6, u7] : List Value).drop 4).take (Tryz.prog.cellsOf 23)) = some y4 := hf 4 _ rfl
   rw [show Tryz.prog.cellsOf 23 = 1 by kernel_rfl] at g4
   have g5 : DataW.trod enc Tryz.prog W 0 (fun _ => true) true n 24 ((([u0, u1, u2, u3, u4, u5, u6, u7] : List Value).drop 5).take (Tryz.prog.cellsOf 24)) = some y5 := hf 5 _ rfl
   rw [show Tryz.prog.cellsOf 24 = 1 by kernel_rfl] at g5
   have g6 : DataW.trod enc Tryz.prog W 0 (fun _ => true) true n 5 ((([u0, u1, u2, u3, u4, u5, u6, u7] : List Value).drop 6).take (Tryz.prog.cellsOf 5)) = some y6 := hf 6 _ rfl
   rw [show Tryz.prog.cellsOf 5 = 1 by kernel_rfl] at g6
   have g7 : DataW.trod enc Tryz.prog W 0 (fun _ => true) true n 25 ((([u0, u1, u2, u3, u4, u5, u6, u7] : List Value).drop 7).take (Tryz.prog.cellsOf 25)) = some y7 := hf 7 _ rfl
   rw [show Tryz.prog.cellsOf 25 = 1 by kernel_rfl] at g7
   obtain ⟨a0, e0, _, w0⟩ := DataW.trod_int Tryz.underlying5 g0
   simp at e0
   subst e0
   have b0 := bounds_u8 w0
   obtain ⟨n0, rfl⟩ := Int.eq_ofNat_of_zero_le (show 0 ≤ a0 by omega)
   obtain ⟨a1, e1, _, w1⟩ := DataW.trod_int Tryz.underlying5 g1
   simp at e1
   subst e1
   have b1 := bounds_u8 w1
   obtain ⟨n1, rfl⟩ := Int.eq_ofNat_of_zero_le (show 0 ≤ a1 by omega)
   obtain ⟨A2, l2, c2, rfl, T2⟩ := sl_cell Tryz.underlying22 g2
   obtain ⟨A3, l3, c3, rfl, T3⟩ := sl_cell Tryz.underlying23 g3
   obtain ⟨A4, l4, c4, rfl, T4⟩ := sl_cell Tryz.underlying23 g4
   obtain ⟨a5, e5, _, w5⟩ := DataW.trod_int Tryz.underlying24 g5
   simp at e5
   subst e5
   have b5 := bounds_u32 w5
   obtain ⟨n5, rfl⟩ := Int.eq_ofNat_of_zero_le (show 0 ≤ a5 by omega)
   obtain ⟨a6, e6, _, w6⟩ := DataW.trod_int Tryz.underlying5 g6
   simp at e6
   subst e6
   have b6 := bounds_u8 w6
   obtain ⟨n6, rfl⟩ := Int.eq_ofNat_of_zero_le (show 0 ≤ a6 by omega)
   obtain ⟨A7, l7, c7, rfl, T7⟩ := sl_cell Tryz.underlying25 g7
   obtain ⟨lt, ht, kt⟩ := halves_open Tryz.underlying22 Tryz.underlying66 (by kernel_rfl) T2
   obtain ⟨ly, hy, ky⟩ := bytes_open9 Tryz.underlying23 Tryz.underlying5 (by kernel_rfl) T3
   obtain ⟨le, he, ke⟩ := bytes_open9 Tryz.underlying23 Tryz.underlying5 (by kernel_rfl) T4
   obtain ⟨lf, hf2, kf⟩ := wordsK_open Tryz.underlying25 Tryz.underlying40 (by kernel_rfl) T7
   refine ⟨((.slice A2 l2 c2, .slice A3 l3 c3, .slice A4 l4 c4, .slice A7 l7 c7), ⟨n0, n1, lt, ly, le, n5, n6, lf⟩), ⟨⟨kt, ky, ke, kf⟩, ⟨by simp only []; omega, by simp only []; omega, ht, fun x hx => hy x hx, fun x hx => he x hx, by simp only []; omega, by simp only []; omega, hf2⟩⟩, ?_⟩
   show Value.agg cs = Value.agg _
   congr 1
   rw [← Array.toList_inj, hls]
end Go.Proofs.YtkkbngcgphlikaaGreatDoor
end
