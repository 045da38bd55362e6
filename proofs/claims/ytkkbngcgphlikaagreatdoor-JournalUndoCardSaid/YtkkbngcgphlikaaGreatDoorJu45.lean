/-
  Part of the proof of JournalUndo.
-/
import Derived.Test.YtkkbngcgphlikaaGreatDoorJu41
import Derived.Test.YtkkbngcgphlikaaGreatDoorJu43
import Derived.Test.YtkkbngcgphlikaaGreatDoorJu44
import Derived.Test.YtkkbngcgphlikaaGreatDoorJu0
set_option maxRecDepth 10000
set_option maxHeartbeats 1000000
set_option linter.unusedVariables false
set_option linter.unusedSimpArgs false
section
namespace Go.Proofs.YtkkbngcgphlikaaGreatDoor
theorem pwL_dropJ (x : Sp) (m d : Nat) : (pwL x m).drop d = (List.range (m - d)).map fun i : Nat => x.1 + (d : Int) + (i : Int) := by
 refine List.ext_getElem (by simp [pwL]) (fun i h1 h2 => ?_)
 simp [pwL]
 omega
theorem places_inter1G (x : Sp) (a b n : Int) (ha : 0 ≤ a) (hb : 0 ≤ b) (hx : 0 ≤ x.2) (hn : 0 ≤ n) : placesL (inter1 n (a, b) x) = ((pwL x x.2.toNat).take (a + b - n).toNat).drop (a - n).toNat := by
 rw [pwL_min, pwL_dropJ]
 unfold inter1
 simp only []
 by_cases h : max (a - n) 0 < min (a + b - n) x.2
 ·rw [if_pos h]
  unfold placesL
  simp only [List.flatMap_cons, List.flatMap_nil, List.append_nil]
  unfold pwL
  simp only []
  have e1 : (min (a + b - n) x.2 - max (a - n) 0).toNat = min (a + b - n).toNat x.2.toNat - (a - n).toNat := by omega
  rw [e1]
  refine List.map_congr_left (fun i _ => ?_)
  omega
 rw [if_neg h]
 have e : min (a + b - n).toNat x.2.toNat - (a - n).toNat = 0 := by omega
 rw [e]
 rfl
theorem places_interG (a b : Int) (ha : 0 ≤ a) (hb : 0 ≤ b) : ∀ (l : List Sp) (n : Int), 0 ≤ n → PBs l → placesL (interL (a, b) n l) = ((placesL l).take (a + b - n).toNat).drop (a - n).toNat
 | [], n, _, _ => by simp [interL, placesL]
 | x :: l, n, hn, hl => by
   have hx := hl x (by simp)
   have hx2 : 0 ≤ x.2 := hx.2.1
   have ih := places_interG a b ha hb l (n + x.2) (by have := hx.2.1; omega) (fun y hy => hl y (List.mem_cons_of_mem _ hy))
   have e0 : placesL (x :: l) = pwL x x.2.toNat ++ placesL l := rfl
   have e1 : placesL (interL (a, b) n (x :: l)) = placesL (inter1 n (a, b) x) ++ placesL (interL (a, b) (n + x.2) l) := by
    rw [interL]; unfold placesL; rw [List.flatMap_append]
   rw [e1, ih, places_inter1G x a b n ha hb hx.2.1 hn, e0, List.take_append, List.drop_append, pwL_len]
   congr 1
   have e2 : (a + b - (n + x.2)).toNat = (a + b - n).toNat - x.2.toNat := by omega
   rw [e2, List.length_take, pwL_len]
   by_cases h : x.2.toNat ≤ (a + b - n).toNat
   ·rw [Nat.min_eq_right h, show (a - (n + x.2)).toNat = (a - n).toNat - x.2.toNat from by omega]
   ·rw [show (a + b - n).toNat - x.2.toNat = 0 from by omega]
    simp
theorem cut_places {l : List Sp} (h : PBs l) {c k : Nat} (hk : 1 ≤ k) (h2 : ((c + k : Nat) : Int) ≤ totS l) : placesL (cutL l ((c : Nat), ((k : Nat) : Int))) = ((placesL l).drop c).take k := by
 unfold cutL
 rw [if_neg (by simp only []; omega), if_pos (by simp only []; omega), places_interG _ _ (by omega) (by omega) l 0 (by omega) h]
 rw [show ((c : Int) + (k : Int) - 0).toNat = k + c from by omega, show ((c : Int) - 0).toNat = c from by omega, List.take_drop, Nat.add_comm k c]
theorem atL_places {l : List Sp} (h : PBs l) {i : Nat} (hi : ((i + 1 : Nat) : Int) ≤ totS l) : atL l (i : Nat) = (placesL l).getD i 0 := by
 have hpl := placesL_len l h
 have hc := cut_places h (c := i) (k := 1) (by omega) hi
 have h1 := inter_one ((i : Int), 1) l 0
 have he : cutL l ((i : Nat), ((1 : Nat) : Int)) = interL ((i : Int), 1) 0 l := by
  unfold cutL
  rw [if_neg (by simp only []; omega), if_pos (by simp only []; omega)]
  rfl
 have e0 : (placesL l).getD i 0 = (placesL (cutL l ((i : Nat), ((1 : Nat) : Int)))).getD 0 0 := by
  rw [hc, List.getD_eq_getElem?_getD, List.getD_eq_getElem?_getD, List.getElem?_take_of_lt (by omega), List.getElem?_drop]
  rfl
 have el : (placesL (cutL l ((i : Nat), ((1 : Nat) : Int)))).length = 1 := by rw [hc, List.length_take, List.length_drop]; omega
 rw [e0]
 show headP (cutL l ((i : Nat), ((1 : Nat) : Int))) = _
 rw [← he] at h1
 cases hq : cutL l ((i : Nat), ((1 : Nat) : Int)) with
 | nil => rw [hq] at el; simp [placesL] at el
 | cons x t =>
   rw [hq] at h1
   have hx := h1 x (by simp)
   obtain ⟨n, hn⟩ : ∃ n, x.2.toNat = n + 1 := ⟨x.2.toNat - 1, by omega⟩
   have e : placesL (x :: t) = pwL x x.2.toNat ++ placesL t := rfl
   rw [e, hn]
   unfold pwL
   rw [List.range_succ_eq_map]
   simp [headP]
theorem room_at {l : List Sp} (h : PBs l) {c k i : Nat} (hi : i < k) (h2 : ((c + k : Nat) : Int) ≤ totS l) : atL (cutL l ((c : Nat), ((k : Nat) : Int))) (i : Nat) = (placesL l).getD (c + i) 0 := by
 have ht := cut_tot (l := l) (s := ((c : Nat), ((k : Nat) : Int))) h (by simp only []; omega) (by simp only []; omega) (by simp only []; omega)
 simp only [] at ht
 rw [atL_places (cut_pb _ h).1 (by rw [ht]; omega), cut_places h (by omega) h2, List.getD_eq_getElem?_getD, List.getElem?_take_of_lt hi, List.getElem?_drop, ← List.getD_eq_getElem?_getD]
theorem room_cov {l : List Sp} (h : PBs l) {c k i : Nat} (hi : i < k) (h2 : ((c + k : Nat) : Int) ≤ totS l) : ∃ x ∈ cutL l ((c : Nat), ((k : Nat) : Int)), x.1 ≤ (placesL l).getD (c + i) 0 ∧ (placesL l).getD (c + i) 0 < x.1 + x.2 := by
 refine places_sp ?_
 have hl := placesL_len l h
 rw [cut_places h (by omega) h2, List.getD_eq_getElem?_getD, List.getElem?_eq_getElem (by omega)]
 refine List.mem_iff_getElem.2 ⟨i, by rw [List.length_take, List.length_drop]; omega, ?_⟩
 rw [List.getElem_take, List.getElem_drop]
 rfl
theorem stoR_L (s : Dv) (room : List Sp) (ws : List Nat) : ∀ k, (stoR s room ws k).L = s.L ∧ (stoR s room ws k).f = s.f
 | 0 => ⟨rfl, rfl⟩
 | k + 1 => by
   rw [stoR_succ, (store_L _ _ _).1, (store_L _ _ _).2.1]
   exact stoR_L s room ws k
theorem has_stoR (s : Dv) (room : List Sp) (ws : List Nat) (k : Nat) (y : Int) : hasD (stoR s room ws k) y = hasD s y := by
 unfold hasD
 rw [(stoR_L s room ws k).1]
theorem al_stoR {A : Nat → Nat → Prop} {s : Dv} (h : Al A s) (room : List Sp) (ws : List Nat) : ∀ k, (∀ i, i < k → ∀ q : Nat, atL room (i : Nat) = (q : Int) → q < s.L.length → A q (ws.getD i 0)) → Al A (stoR s room ws k)
 | 0, _ => h
 | k + 1, hA => by
   rw [stoR_succ]
   refine Al.store (al_stoR h room ws k (fun i hi => hA i (by omega))) _ _ (fun q e hq => hA k (by omega) q e (by rw [(stoR_L s room ws k).1] at hq; exact hq))
theorem stoR_c {s : Dv} {room : List Sp} {ws : List Nat} : ∀ {k : Nat}, (stoR s room ws k).dead = false → (∀ i, i < k → hasD s (atL room (i : Nat)) = true) → (∀ i j, i < k → j < k → atL room (i : Nat) = atL room (j : Nat) → i = j) → ∀ i, i < k → (stoR s room ws k).c (atL room (i : Nat)) = some (ws.getD i 0)
 | 0, _, _, _, i, hi => by omega
 | k + 1, h, hh, hd, i, hi => by
   rw [stoR_succ] at h ⊢
   obtain ⟨-, -, q2, -, -⟩ := store_of h (by rw [has_stoR]; exact hh k (by omega))
   rw [q2]
   unfold putU
   by_cases e : i = k
   ·subst e; rw [if_pos rfl]
   ·rw [if_neg (fun q => e (hd i k hi (by omega) q))]
    exact stoR_c (alive_store h) (fun j hj => hh j (by omega)) (fun a b ha hb => hd a b (by omega) (by omega)) i (by omega)
theorem alive_flushL : ∀ (l : List Sp) {s : Dv}, (flushL s l).dead = false → s.dead = false
 | [], _, h => h
 | x :: l, s, h => alive_flush (alive_flushL l (s := flushD s x.1 x.2) h)
theorem flushL_inA {i v : Nat} : ∀ (l : List Sp) {s : Dv}, (flushL s l).dead = false → i < s.L.length → s.c (i : Int) = some v → (∃ x ∈ l, x.1 ≤ (i : Int) ∧ (i : Int) < x.1 + x.2) → (flushL s l).f (i : Int) = some v
 | [], s, _, _, _, h => by obtain ⟨x, hx, _⟩ := h; simp at hx
 | x :: l, s, hd, hi, hc, h => by
   have e2 : (flushD s x.1 x.2).dead = false := alive_flushL l (s := flushD s x.1 x.2) hd
   by_cases hx : x.1 ≤ (i : Int) ∧ (i : Int) < x.1 + x.2
   ·exact flushL_stay l (flush_in e2 hi hx.1 hx.2 hc) (by rw [(flush_L s x.1 x.2).2]; exact hc)
   ·refine flushL_inA l (s := flushD s x.1 x.2) hd (by rw [(flush_L s x.1 x.2).1]; exact hi) (by rw [(flush_L s x.1 x.2).2]; exact hc) ?_
    obtain ⟨y, hy, h2⟩ := h
    rcases List.mem_cons.1 hy with e | e
    ·subst e; exact absurd h2 hx
    ·exact ⟨y, e, h2⟩
theorem alive_fenceL {l : List Sp} {s : Dv} (h : (fenceL s l).dead = false) : s.dead = false := alive_flushL l (alive_fence h)
theorem fenceL_len (s : Dv) (l : List Sp) : (fenceL s l).L.length = s.L.length := by unfold fenceL; rw [fence_len, flushL_L]
theorem has_of {s : Dv} {i : Nat} (h : i < s.L.length) : hasD s (i : Int) = true := by
 unfold hasD
 rw [Bool.and_eq_true]
 exact ⟨decide_eq_true (by omega), decide_eq_true (by omega)⟩
theorem load_c {s : Dv} {i v : Nat} (h : i < s.L.length) (hc : s.c (i : Int) = some v) : loadD s (i : Int) = v := by
 unfold loadD
 rw [if_pos (has_of h), hc]
 rfl
theorem save_al {s : Dv} {N m : Nat} (hg : GoodJ s N m) (l : List Sp) (hd : (fenceL s l).dead = false) {i : Nat} (hi : i < N) (h : ∃ x ∈ l, x.1 ≤ (i : Int) ∧ (i : Int) < x.1 + x.2) : ∀ u, PV (fenceL s l) i u → u = loadD s (i : Int) := by
 have hi2 : i < s.L.length := by rw [hg.len]; exact hi
 cases hc : s.c (i : Int) with
 | none =>
   have e : loadD s (i : Int) = s.L.getD i 0 := by
    unfold loadD
    rw [if_pos (has_of hi2), hc]
    rfl
   rw [e]
   have hA : Al (fun j v => j = i → v = s.L.getD i 0) s := fun j hj v hv e => by
    subst e
    rcases hv with q | q | q
    ·exact q
    ·obtain ⟨b, hb⟩ := hg.fin _ _ q
     rw [hc] at hb
     cases hb
    rw [hc] at q
    cases q
   exact fun u hu => (Al.fenceL l hA) i (by rw [fenceL_len]; exact hi2) u hu rfl
 | some v =>
   rw [load_c hi2 hc]
   have h1 := flushL_inA l (alive_fence hd) hi2 hc h
   have h2 : (flushL s l).c (i : Int) = some v := by rw [flushL_c]; exact hc
   exact (fence_cl hd (by rw [flushL_L]; exact hi2) h1 h2).2.2
theorem dead_stoR {s : Dv} (h : s.dead = true) (room : List Sp) (ws : List Nat) : ∀ k, stoR s room ws k = s
 | 0 => rfl
 | k + 1 => by rw [stoR_succ, dead_stoR h room ws k, dead_store h]
theorem dead_flushL {s : Dv} (h : s.dead = true) : ∀ l : List Sp, flushL s l = s
 | [] => rfl
 | x :: l => by
   show flushL (flushD s x.1 x.2) l = s
   rw [dead_flush h]
   exact dead_flushL h l
theorem dead_fenceL {s : Dv} (h : s.dead = true) (l : List Sp) : fenceL s l = s := by unfold fenceL; rw [dead_flushL h, dead_fence h]
theorem dead_lay {s : Dv} (h : s.dead = true) (x : Int) (v : Nat) : layD s x v = s := by unfold layD; rw [dead_store h, dead_flush h, dead_fence h]
theorem dead_note {s : Dv} (h : s.dead = true) (N L ln A m : Nat) : noteD s N L ln A m = s := by unfold noteD; rw [dead_stoR h, dead_fenceL h, dead_lay h]
def AF (Y : List Nat) (Fr : Nat → Prop) (i v : Nat) : Prop := v < 18446744073709551616 ∧ (Fr i ∨ v = Y.getD i 0)
theorem AF.fix {Y : List Nat} {Fr : Nat → Prop} {i v : Nat} (h : AF Y Fr i v) (hn : ¬ Fr i) : v = Y.getD i 0 := by
 rcases h.2 with q | q
 ·exact absurd q hn
 exact q
theorem AF.wd {Y : List Nat} {Fr : Nat → Prop} {s : Dv} (h : Al (AF Y Fr) s) : WD s := h.mono (fun _ _ q => q.1)
def wrN (Y : List Nat) (P : List Nat) (c : Nat) (ws : List Nat) : Nat → List Nat
 | 0 => Y
 | k + 1 => (wrN Y P c ws k).set (P.getD (c + k) 0) (ws.getD k 0)
theorem wrN_len (Y P : List Nat) (c : Nat) (ws : List Nat) : ∀ k, (wrN Y P c ws k).length = Y.length
 | 0 => rfl
 | k + 1 => by rw [wrN, List.length_set, wrN_len Y P c ws k]
theorem wrN_ne {Y P : List Nat} {c : Nat} {ws : List Nat} {p : Nat} : ∀ k, (∀ i, i < k → ¬ P.getD (c + i) 0 = p) → (wrN Y P c ws k).getD p 0 = Y.getD p 0
 | 0, _ => rfl
 | k + 1, h => by
   rw [wrN, getD_set_md, if_neg (fun q => h k (by omega) q.1)]
   exact wrN_ne k (fun i hi => h i (by omega))
theorem wrN_at {Y P : List Nat} {c : Nat} {ws : List Nat} : ∀ k, (∀ i, i < k → P.getD (c + i) 0 < Y.length) → (∀ i j, i < k → j < k → P.getD (c + i) 0 = P.getD (c + j) 0 → i = j) → ∀ i, i < k → (wrN Y P c ws k).getD (P.getD (c + i) 0) 0 = ws.getD i 0
 | 0, _, _, i, hi => by omega
 | k + 1, hl, hd, i, hi => by
   rw [wrN, getD_set_md]
   by_cases e : i = k
   ·subst e
    rw [if_pos ⟨rfl, by rw [wrN_len]; exact hl i (by omega)⟩]
   ·rw [if_neg (fun q => e (hd i k hi (by omega) q.1.symm))]
    exact wrN_at k (fun j hj => hl j (by omega)) (fun a b ha hb => hd a b (by omega) (by omega)) i (by omega)
theorem wrN_WL {Y P : List Nat} {c : Nat} {ws : List Nat} (hY : WL Y) (hw : WL ws) : ∀ k, k ≤ ws.length → WL (wrN Y P c ws k)
 | 0, _ => hY
 | k + 1, h => fun x hx => by
   rw [wrN] at hx
   rcases List.mem_or_eq_of_mem_set hx with hx | rfl
   ·exact wrN_WL hY hw k (by omega) x hx
   ·exact hw.at _ (by omega)
end Go.Proofs.YtkkbngcgphlikaaGreatDoor
end
section
namespace Go.Proofs.YtkkbngcgphlikaaGreatDoor
theorem restL_len (I : List Nat) (L : Nat) : (restL I L).length = I.length := by unfold restL; rw [clrL_len, idlesL_len]
def encP (gn : Nat) (x : Pe) : List Nat := encW gn x.1.toNat x.2
def encAll (gn : Nat) (l : List Pe) : List Nat := l.flatMap (encP gn)
def rightP (x : Pe) : Bool := canB x.1 x.2.length
theorem encP_len (gn : Nat) (x : Pe) : (encP gn x).length = x.2.length + 2 := by unfold encP encW; simp
theorem firstW_at {gn a m : Nat} (ha : a < 1048576) (hm : m < 65536) : firstW gn a m % 1048576 = a ∧ firstW gn a m / 1048576 % 65536 = m := by
 unfold firstW
 generalize gn % 65536 = q
 omega
theorem firstW_gen {gn o a m : Nat} (ha : a < 1048576) (hm : m < 65536) : firstW gn a m = firstW o a m ↔ gn % 65536 = o % 65536 := by
 unfold firstW
 generalize gn % 65536 = q
 generalize o % 65536 = r
 omega
theorem right_nat {x : Pe} (h : rightP x = true) : ∃ a : Nat, x.1 = (a : Int) ∧ a < 65536 ∧ 1 ≤ x.2.length ∧ x.2.length ≤ 4096 := by
 obtain ⟨h1, h2, h3, h4⟩ := canB_iff.1 h
 obtain ⟨a, ha⟩ := Int.eq_ofNat_of_zero_le h1
 exact ⟨a, ha, by omega, by omega, by omega⟩
theorem enc_at {gn : Nat} {x : Pe} (h : rightP x = true) (rest : List Nat) : ((atN (encP gn x ++ rest) : Nat) : Int) = x.1 ∧ manyN (encP gn x ++ rest) = x.2.length ∧ (encP gn x ++ rest).getD 0 0 = firstW gn x.1.toNat x.2.length := by
 obtain ⟨a, ha, h1, h2, h3⟩ := right_nat h
 obtain ⟨p, q⟩ := firstW_at (gn := gn) (a := a) (m := x.2.length) (by omega) (by omega)
 have e : (encP gn x ++ rest).getD 0 0 = firstW gn a x.2.length := by unfold encP encW; rw [ha]; rfl
 unfold atN manyN
 rw [e, p, q, ha]
 exact ⟨rfl, rfl, rfl⟩
theorem enc_parts {gn : Nat} {x : Pe} (rest : List Nat) : ((encP gn x ++ rest).drop 1).take x.2.length = x.2 ∧ (encP gn x ++ rest).drop (x.2.length + 2) = rest ∧ (encP gn x ++ rest).take (x.2.length + 1) = firstW gn x.1.toNat x.2.length :: x.2 ∧ (encP gn x ++ rest).getD (x.2.length + 1) 0 = moreN 0 (firstW gn x.1.toNat x.2.length :: x.2) := by
 refine ⟨?_, ?_, ?_, ?_⟩
 ·unfold encP encW
  simp
 ·rw [List.drop_append_of_le_length (by rw [encP_len]; exact Nat.le_refl _), List.drop_of_length_le (by rw [encP_len]; exact Nat.le_refl _), List.nil_append]
 ·unfold encP encW
  simp
 unfold encP encW
 rw [List.getD_eq_getElem?_getD]
 simp
theorem enc_tk {gn o : Nat} {x : Pe} (h : rightP x = true) (rest : List Nat) : tkB o (encP gn x ++ rest) = decide (gn % 65536 = o % 65536) := by
 obtain ⟨e1, e2, e3⟩ := enc_at (gn := gn) h rest
 obtain ⟨p1, p2, p3, p4⟩ := enc_parts (gn := gn) (x := x) rest
 obtain ⟨a, ha, h1, h2, h3⟩ := right_nat h
 unfold tkB
 have hl : x.2.length + 2 ≤ (encP gn x ++ rest).length := by rw [List.length_append, encP_len]; omega
 have ea : atN (encP gn x ++ rest) = a := by rw [ha] at e1; omega
 have hr : canB ((a : Nat) : Int) (x.2.length : Nat) = true := by rw [← ha]; exact h
 rw [e2, p3, p4, decide_eq_true hl, ea, hr, e3, ha, Int.toNat_natCast]
 simp only [Bool.true_and, Bool.and_true, decide_true]
 refine decide_eq_decide.2 ?_
 rw [firstW_gen (by omega) (by omega)]
 exact ⟨fun q => q.symm, fun q => q.symm⟩
theorem enc_pe {gn : Nat} {x : Pe} (h : rightP x = true) (rest : List Nat) : peN (encP gn x ++ rest) = x := by
 obtain ⟨e1, e2, e3⟩ := enc_at (gn := gn) h rest
 obtain ⟨p1, _⟩ := enc_parts (gn := gn) (x := x) rest
 unfold peN
 rw [e1, e2, p1]
theorem evs_enc {gn o : Nat} {x : Pe} (h : rightP x = true) (hg : gn % 65536 = o % 65536) (rest : List Nat) : evs o (encP gn x ++ rest) = some x :: evs o rest := by
 rw [evs_t (by rw [List.length_append, encP_len]; omega) (by rw [enc_tk h, decide_eq_true hg]), enc_pe h, (enc_at h rest).2.1, (enc_parts rest).2.1]
theorem evs_encAll {gn o : Nat} (hg : gn % 65536 = o % 65536) : ∀ (l : List Pe), (∀ x ∈ l, rightP x = true) → evs o (encAll gn l) = l.map some
 | [], _ => rfl
 | x :: l, h => by
   show evs o (encP gn x ++ encAll gn l) = _
   rw [evs_enc (h x (by simp)) hg, evs_encAll hg l (fun y hy => h y (by simp [hy]))]
   rfl
theorem decL_of_evs {gn : Nat} {ws : List Nat} {xs : List Pe} (h : evs gn ws = xs.map some) : decL gn ws = some xs := by
 unfold decL
 rw [h, if_neg (by simp)]
 rw [List.filterMap_map]
 congr 1
 exact List.filterMap_some
theorem decL_enc {gn o : Nat} (hg : gn % 65536 = o % 65536) {l : List Pe} (h : ∀ x ∈ l, rightP x = true) : decL o (encAll gn l) = some l := decL_of_evs (evs_encAll hg l h)
def covE (es : List Pe) (p : Nat) : Prop := ∃ e ∈ es, e.1 ≤ (p : Int) ∧ (p : Int) < e.1 + (e.2.length : Int)
theorem entOps_k (e : Pe) (Z : List Nat) (p : Nat) (hp : p < Z.length) : ∀ k : Nat, (applyL Z ((List.range k).map fun i : Nat => ((0 : Int), e.1 + (i : Int), e.2.getD i 0))).getD p 0 = if e.1 ≤ (p : Int) ∧ (p : Int) < e.1 + (k : Int) then e.2.getD ((p : Int) - e.1).toNat 0 else Z.getD p 0
 | 0 => by rw [if_neg (by omega)]; rfl
 | k + 1 => by
   have e1 : applyL Z ((List.range (k + 1)).map fun i : Nat => ((0 : Int), e.1 + (i : Int), e.2.getD i 0)) = apOne (applyL Z ((List.range k).map fun i : Nat => ((0 : Int), e.1 + (i : Int), e.2.getD i 0))) ((0 : Int), e.1 + (k : Int), e.2.getD k 0) := by
    rw [List.range_succ, List.map_append]
    unfold applyL
    rw [List.foldl_append]
    rfl
   have ih := entOps_k e Z p hp k
   rw [e1]
   by_cases h : e.1 + (k : Int) = (p : Int)
   ·unfold apOne
    rw [if_pos (by simp only []; rw [applyL_len]; omega), getD_set_md, if_pos ⟨by simp only []; omega, by rw [applyL_len]; exact hp⟩, if_pos (by omega), doN_0 _ _ rfl]
    simp only []
    rw [show ((p : Int) - e.1).toNat = k from by omega]
   ·rw [apOne_other _ _ _ (by simp only []; exact h), ih]
    by_cases h2 : e.1 ≤ (p : Int) ∧ (p : Int) < e.1 + (k : Int)
    ·rw [if_pos h2, if_pos (by omega)]
    ·rw [if_neg h2, if_neg (by omega)]
theorem entOps_at (e : Pe) (Z : List Nat) (p : Nat) (hp : p < Z.length) : (applyL Z (entOps e)).getD p 0 = if e.1 ≤ (p : Int) ∧ (p : Int) < e.1 + (e.2.length : Int) then e.2.getD ((p : Int) - e.1).toNat 0 else Z.getD p 0 := entOps_k e Z p hp e.2.length
theorem applyL_app (Z : List Nat) (a b : List Ox) : applyL Z (a ++ b) = applyL (applyL Z a) b := by unfold applyL; rw [List.foldl_append]
def unE (es : List Pe) : List Ox := es.reverse.flatMap entOps
theorem unE_snoc (es : List Pe) (e : Pe) : unE (es ++ [e]) = entOps e ++ unE es := by
 unfold unE
 rw [List.reverse_append]
 rfl
theorem unE_cov {es : List Pe} {o : Ox} (ho : o ∈ unE es) {p : Nat} (hp : o.2.1 = (p : Int)) : covE es p := by
 obtain ⟨e, he, h2⟩ := List.mem_flatMap.1 ho
 unfold entOps at h2
 obtain ⟨i, hi, rfl⟩ := List.mem_map.1 h2
 have := List.mem_range.1 hi
 simp only [] at hp
 exact ⟨e, List.mem_reverse.1 he, by omega, by omega⟩
theorem unE_ne {es : List Pe} {p : Nat} (h : ¬ covE es p) (Z : List Nat) : (applyL Z (unE es)).getD p 0 = Z.getD p 0 := apply_other p _ _ (fun o ho e => h (unE_cov ho e))
def BackE (x : List Nat) (es : List Pe) : Prop := ∀ Z : List Nat, Z.length = x.length → ∀ p, p < x.length → covE es p → (applyL Z (unE es)).getD p 0 = x.getD p 0
theorem BackE.nil (x : List Nat) : BackE x [] := fun Z _ p _ h => by
 obtain ⟨e, he, _⟩ := h
 cases he
theorem covE_snoc {es : List Pe} {e : Pe} {p : Nat} : covE (es ++ [e]) p ↔ covE es p ∨ (e.1 ≤ (p : Int) ∧ (p : Int) < e.1 + (e.2.length : Int)) := by
 constructor
 ·rintro ⟨y, hy, h⟩
  rcases List.mem_append.1 hy with q | q
  ·exact .inl ⟨y, q, h⟩
  rw [List.mem_singleton] at q
  subst q
  exact .inr h
 rintro (⟨y, hy, h⟩ | h)
 ·exact ⟨y, by simp [hy], h⟩
 exact ⟨e, by simp, h⟩
theorem BackE.snoc {x : List Nat} {es : List Pe} {e : Pe} (h : BackE x es) (he : ∀ p, p < x.length → e.1 ≤ (p : Int) → (p : Int) < e.1 + (e.2.length : Int) → ¬ covE es p → e.2.getD ((p : Int) - e.1).toNat 0 = x.getD p 0) : BackE x (es ++ [e]) := fun Z hZ p hp hc => by
 rw [unE_snoc, applyL_app]
 have hl : (applyL Z (entOps e)).length = x.length := by rw [applyL_len]; exact hZ
 by_cases q : covE es p
 ·exact h _ hl p hp q
 ·rw [unE_ne q, entOps_at e Z p (by omega)]
  rcases covE_snoc.1 hc with r | r
  ·exact absurd r q
  ·rw [if_pos r]
   exact he p hp r.1 r.2 q
structure PoolX (x : List Nat) (N L G : Nat) : Prop where
 len : x.length = N
 g : gOk (N : Nat) (L : Nat) = true
 gn : gNat N L = G
 hN : N = 10 + 73 * L + 33 * G
 n8 : N ≤ 800
 w3 : x.getD 3 0 = L
 ok : sOk x = true
 mks : ∀ i, i < L → x.getD (10 + i) 0 = 0
 tab : ∀ p, p < G → okN (x.getD (10 + 73 * L + p) 0) = true ∧ ¬ kN (x.getD (10 + 73 * L + p) 0) = 4
 W : WL x
theorem noLog_calm {v : Nat} (h : ¬ kN v = 4) : noLog v = v := by
 unfold noLog
 rw [if_neg (fun q => h q.2)]
def pln (Y : List Nat) (L ln : Nat) : List Nat := (placesL (logSp Y L ln)).map Int.toNat
structure NoS (x : List Nat) (N L G ln g E : Nat) (es : List Pe) (Y : List Nat) (Fr : Nat → Prop) : Prop where
 len : Y.length = N
 W : WL Y
 lo : ∀ i, i < 10 → ¬ Fr i ∧ Y.getD i 0 = x.getD i 0
 mks : ∀ j, j < L → j ≠ ln → ¬ Fr (10 + j) ∧ Y.getD (10 + j) 0 = 0
 mkw : ¬ Fr (10 + ln) ∧ Y.getD (10 + ln) 0 = 1 + (encAll g es).length * 4 + g * 65536
 c14 : (encAll g es).length ≤ 16383
 g48 : g ≤ 281474976710655
 tab : ∀ p, p < G → ¬ Fr (10 + 73 * L + p) ∧ okN (Y.getD (10 + 73 * L + p) 0) = true ∧ Y.getD (10 + 73 * L + p) 0 = x.getD (10 + 73 * L + p) 0
 cnt : (encAll g es).length ≤ (pln Y L ln).length
 log : ∀ j, j < (encAll g es).length → ¬ Fr ((pln Y L ln).getD j 0) ∧ Y.getD ((pln Y L ln).getD j 0) 0 = (encAll g es).getD j 0
 free : ∀ j, (encAll g es).length ≤ j → j < (pln Y L ln).length → Fr ((pln Y L ln).getD j 0)
 redo : ∀ j, j < 40 → Fr (10 + L + ln * 72 + 32 + j)
 ent : ∀ e ∈ es, canB e.1 e.2.length = true ∧ (E : Int) ≤ e.1 ∧ e.1 + (e.2.length : Int) ≤ (N : Int)
 plo : ∀ j, j < (pln Y L ln).length → 10 + L ≤ (pln Y L ln).getD j 0 ∧ (pln Y L ln).getD j 0 < E ∧ ((pln Y L ln).getD j 0 < 10 + L + ln * 72 + 32 ∨ 10 + 73 * L + G ≤ (pln Y L ln).getD j 0)
 nd : ∀ i j, i < (pln Y L ln).length → j < (pln Y L ln).length → (pln Y L ln).getD i 0 = (pln Y L ln).getD j 0 → i = j
 back : BackE x es
 rest : ∀ p, E ≤ p → p < N → ¬ covE es p → ¬ Fr p ∧ Y.getD p 0 = x.getD p 0
 fcov : ∀ p, covE es p → Fr p
theorem sOk_same {x I : List Nat} (hs : sOk x = true) (hl : I.length = x.length) (h : ∀ p, p < 8 → I.getD p 0 = x.getD p 0) : sOk I = true := by
 have e : I.take 8 = x.take 8 := ext_getD_md (by rw [List.length_take, List.length_take, hl]) (fun i hi => by
  rw [List.length_take] at hi
  rw [take_getD _ _ _ (by omega), take_getD _ _ _ (by omega)]
  exact h i (by omega))
 unfold sOk at hs ⊢
 rw [e, hl, h 3 (by omega)]
 exact hs
theorem tab_same {Y I : List Nat} {N L G : Nat} (hg : gOk (N : Nat) (L : Nat) = true) (hgn : gNat N L = G) (hY : Y.length = N) (hI : I.length = N) (h : ∀ p, p < G → I.getD (10 + 73 * L + p) 0 = Y.getD (10 + 73 * L + p) 0) : tabW I L = tabW Y L := by
 have l1 : (tabW I L).length = G := by rw [tabW_len (by rw [hI]; exact hg), hI, hgn]
 have l2 : (tabW Y L).length = G := by rw [tabW_len (by rw [hY]; exact hg), hY, hgn]
 refine ext_getD_md (by rw [l1, l2]) (fun i hi => ?_)
 rw [l1] at hi
 rw [tab_at (by rw [hI, hgn]; exact hi), tab_at (by rw [hY, hgn]; exact hi)]
 exact h i hi
def ImgA (Y : List Nat) (Fr : Nat → Prop) (N : Nat) (I : List Nat) : Prop := I.length = N ∧ ∀ i, i < N → AF Y Fr i (I.getD i 0)
theorem NoS.pool {x Y : List Nat} {N L G ln g E : Nat} {es : List Pe} {Fr : Nat → Prop} (h : NoS x N L G ln g E es Y Fr) (hx : PoolX x N L G) (hln : ln < L) {I : List Nat} (hI : ImgA Y Fr N I) :
 poolB I = true ∧ I.getD 3 0 = L ∧ tabW I L = tabW Y L ∧ logSp I L ln = logSp Y L ln ∧ logP I (N : Nat) (L : Nat) (ln : Nat) = logSp Y L ln := by
 obtain ⟨hl, hA⟩ := hI
 have hN := hx.hN
 have hlo : ∀ p, p < 10 → I.getD p 0 = x.getD p 0 := fun p hp => ((hA p (by omega)).fix (h.lo p hp).1).trans (h.lo p hp).2
 have h3 : I.getD 3 0 = L := (hlo 3 (by omega)).trans hx.w3
 have ht : tabW I L = tabW Y L := tab_same hx.g hx.gn h.len hl (fun p hp => (hA _ (by omega)).fix (h.tab p hp).1)
 have hs : sOk I = true := sOk_same hx.ok (by rw [hl, hx.len]) (fun p hp => hlo p (by omega))
 have hp : poolB I = true := by
  unfold poolB
  rw [hs, h3, ht, Bool.true_and]
  refine List.all_eq_true.2 (fun y hy => ?_)
  obtain ⟨i, hi, rfl⟩ := List.getElem_of_mem hy
  have l2 : (tabW Y L).length = G := by rw [tabW_len (by rw [h.len]; exact hx.g), h.len, hx.gn]
  have e := tab_at (I := Y) (L := L) (i := i) (by rw [h.len, hx.gn]; omega)
  rw [List.getD_eq_getElem?_getD, List.getElem?_eq_getElem hi] at e
  rw [show (tabW Y L)[i] = Y.getD (10 + 73 * L + i) 0 from e]
  exact (h.tab i (by omega)).2.1
 have e4 : logSp I L ln = logSp Y L ln := by
  unfold logSp
  rw [ht, hl, h.len]
 refine ⟨hp, h3, ht, e4, ?_⟩
 unfold logP laneB readB
 rw [hp, h3, hl, Int.toNat_natCast, Int.toNat_natCast, e4]
 rw [decide_eq_true (show ((N : Nat) : Int) = (N : Nat) ∧ ((L : Nat) : Int) = (L : Nat) from ⟨rfl, rfl⟩), decide_eq_true (show (0 : Int) ≤ (ln : Nat) ∧ ((ln : Nat) : Int) < (L : Nat) from by omega)]
 rfl
theorem pln_len (Y : List Nat) (L ln : Nat) : (pln Y L ln).length = (placesL (logSp Y L ln)).length := by unfold pln; rw [List.length_map]
theorem pln_int {Y : List Nat} {L ln : Nat} (h : PBs (logSp Y L ln)) {j : Nat} (hj : j < (pln Y L ln).length) : (placesL (logSp Y L ln)).getD j 0 = (((pln Y L ln).getD j 0 : Nat) : Int) := by
 rw [pln_len] at hj
 unfold pln
 rw [List.getD_eq_getElem?_getD, List.getElem?_eq_getElem hj, List.getD_eq_getElem?_getD, List.getElem?_map, List.getElem?_eq_getElem hj]
 have := (places_nn h _ (List.getElem_mem hj)).1
 show (placesL (logSp Y L ln))[j] = (((placesL (logSp Y L ln))[j].toNat : Nat) : Int)
 omega
theorem NoS.pbs {x Y : List Nat} {N L G ln g E : Nat} {es : List Pe} {Fr : Nat → Prop} (h : NoS x N L G ln g E es Y Fr) (hx : PoolX x N L G) (hln : ln < L) : PBs (logSp Y L ln) := fun s hs => by
 have := logSp_in (I := Y) (by rw [h.len]; exact hx.g) hln s hs
 have h8 := hx.n8
 rw [h.len] at this
 unfold PB
 omega
theorem NoS.gath {x Y : List Nat} {N L G ln g E : Nat} {es : List Pe} {Fr : Nat → Prop} (h : NoS x N L G ln g E es Y Fr) (hx : PoolX x N L G) (hln : ln < L) {I : List Nat} (hI : ImgA Y Fr N I) :
 ¬ totS (logSp I L ln) < ((encAll g es).length : Int) ∧ gathL I (cutL (logSp I L ln) (0, ((encAll g es).length : Int))) = encAll g es := by
 obtain ⟨h1, h2, h3, h4, h5⟩ := h.pool hx hln hI
 have hP := h.pbs hx hln
 have hpl := placesL_len _ hP
 have hc := h.cnt
 rw [pln_len] at hc
 rw [h4]
 have ht : ((encAll g es).length : Int) ≤ totS (logSp Y L ln) := by omega
 refine ⟨by omega, ?_⟩
 rw [gath_cut I hP _ ht]
 have hgl : (gathL I (logSp Y L ln)).length = (placesL (logSp Y L ln)).length := by unfold gathL; rw [List.length_map]
 refine ext_getD_md (by rw [List.length_take, hgl]; omega) (fun j hj => ?_)
 rw [List.length_take, hgl] at hj
 have hj2 : j < (pln Y L ln).length := by rw [pln_len]; omega
 have hpj := pln_int hP hj2
 rw [take_getD _ _ _ (by omega)]
 have e : (gathL I (logSp Y L ln)).getD j 0 = imgAt I ((placesL (logSp Y L ln)).getD j 0) := by
  unfold gathL
  rw [List.getD_eq_getElem?_getD, List.getElem?_map, List.getElem?_eq_getElem (by omega), List.getD_eq_getElem?_getD, List.getElem?_eq_getElem (by omega)]
  rfl
 rw [e, hpj]
 unfold imgAt
 rw [if_pos (by omega), Int.toNat_natCast]
 obtain ⟨g1, g2⟩ := h.log j (by omega)
 have hlt : (pln Y L ln).getD j 0 < N := by
  obtain ⟨s, hs, q1, q2⟩ := places_sp (l := logSp Y L ln) (y := (placesL (logSp Y L ln)).getD j 0) (by
   rw [List.getD_eq_getElem?_getD, List.getElem?_eq_getElem (by omega)]
   exact List.getElem_mem _)
  have := logSp_in (I := Y) (by rw [h.len]; exact hx.g) hln s hs
  rw [h.len] at this
  omega
 rw [(hI.2 _ hlt).fix g1, g2]
theorem NoS.lane {x Y : List Nat} {N L G ln g E : Nat} {es : List Pe} {Fr : Nat → Prop} (h : NoS x N L G ln g E es Y Fr) (hx : PoolX x N L G) (hln : ln < L) (hE : 10 + 73 * L + G ≤ E) {I : List Nat} (hI : ImgA Y Fr N I) : laneD I L ln = some (unE es) := by
 obtain ⟨g1, g2⟩ := h.gath hx hln hI
 have hN := hx.hN
 have hG := hx.gn
 have hm : I.getD (10 + ln) 0 = 1 + (encAll g es).length * 4 + g * 65536 := ((hI.2 _ (by omega)).fix h.mkw.1).trans h.mkw.2
 have c14 := h.c14
 have g48 := h.g48
 have e1 : mkS (I.getD (10 + ln) 0) = 1 := by rw [hm]; unfold mkS; omega
 have e2 : mkC (I.getD (10 + ln) 0) = (encAll g es).length := by rw [hm]; unfold mkC; omega
 have e3 : mkG (I.getD (10 + ln) 0) = g := by rw [hm]; unfold mkG; omega
 unfold laneD
 rw [if_pos (by unfold mkOk; rw [e1, e2, e3]; exact okB_1c c14 g48), if_pos e1, e2, e3]
 unfold notedD
 rw [if_neg g1, g2, decL_enc rfl (fun e he => (h.ent e he).1)]
 simp only []
 rw [if_pos]
 ·rfl
 refine List.all_eq_true.2 (fun e he => ?_)
 obtain ⟨q1, q2, q3⟩ := h.ent e he
 have q4 := canB_iff.1 q1
 unfold entIn inCh
 rw [hI.1, hG, Bool.and_eq_true]
 exact ⟨decide_eq_true (by omega), decide_eq_true (by omega)⟩
def HeapX (x : List Nat) (N L G E : Nat) (J : List Nat) : Prop := J.length = N ∧ (∀ p, p < 10 → J.getD p 0 = x.getD p 0) ∧ (∀ p, p < G → J.getD (10 + 73 * L + p) 0 = x.getD (10 + 73 * L + p) 0) ∧ ∀ p, E ≤ p → p < N → J.getD p 0 = x.getD p 0
def SafeX (x : List Nat) (N L G E : Nat) (A : Nat → Nat → Prop) : Prop := ∀ I : List Nat, I.length = N → (∀ i, i < N → A i (I.getD i 0)) → ∃ J, mendD I = some J ∧ (I.getD 3 0 = L ∧ CalmW (tabW I L)) ∧ HeapX x N L G E J
theorem PoolX.calm {x : List Nat} {N L G : Nat} (hx : PoolX x N L G) : CalmW (tabW x L) := fun i hi => by
 rw [tabW_len (by rw [hx.len]; exact hx.g), hx.len, hx.gn] at hi
 rw [tab_at (by rw [hx.len, hx.gn]; exact hi)]
 exact (hx.tab i hi).2
theorem NoS.calm {x Y : List Nat} {N L G ln g E : Nat} {es : List Pe} {Fr : Nat → Prop} (h : NoS x N L G ln g E es Y Fr) (hx : PoolX x N L G) (hln : ln < L) {I : List Nat} (hI : ImgA Y Fr N I) : CalmW (tabW I L) := by
 rw [(h.pool hx hln hI).2.2.1, tab_same hx.g hx.gn hx.len h.len (fun p hp => (h.tab p hp).2.2)]
 exact hx.calm
theorem NoS.safe {x Y : List Nat} {N L G ln g E : Nat} {es : List Pe} {Fr : Nat → Prop} (h : NoS x N L G ln g E es Y Fr) (hx : PoolX x N L G) (hln : ln < L) (hE : 10 + 73 * L + G ≤ E) : SafeX x N L G E (AF Y Fr) := fun I hl hA => by
 have hI : ImgA Y Fr N I := ⟨hl, hA⟩
 obtain ⟨h1, h2, h3, h4, h5⟩ := h.pool hx hln hI
 have hlane := h.lane hx hln hE hI
 have hN := hx.hN
 have hG := hx.gn
 have hoth : ∀ j, j < L → j ≠ ln → laneD I L j = some [] := fun j hj hne => by
  refine lane_idle ?_
  rw [(hA _ (by omega)).fix (h.mks j hj hne).1, (h.mks j hj hne).2]
 refine ⟨_, mend_one h1 h2 hln hoth hlane, ⟨h2, h.calm hx hln hI⟩, by rw [restL_len, applyL_len, hl], fun p hp => ?_, fun p hp => ?_, fun p hp hpN => ?_⟩
 ·have hnc : ¬ covE es p := fun ⟨e, he, q1, q2⟩ => by have := (h.ent e he).2.1; omega
  rw [restL_get _ _ _ (by rw [applyL_len, hl]; omega), if_neg (by omega), if_neg (by omega), unE_ne hnc, (hA p (by omega)).fix (h.lo p hp).1, (h.lo p hp).2]
 ·have hnc : ¬ covE es (10 + 73 * L + p) := fun ⟨e, he, q1, q2⟩ => by have := (h.ent e he).2.1; omega
  obtain ⟨t1, t2, t3⟩ := h.tab p hp
  rw [restL_get _ _ _ (by rw [applyL_len, hl]; omega), applyL_len, hl, hG, if_pos (by omega), unE_ne hnc, (hA _ (by omega)).fix t1, t3, noLog_calm (hx.tab p hp).2]
 ·rw [restL_get _ _ _ (by rw [applyL_len, hl]; omega), applyL_len, hl, hG, if_neg (by omega), if_neg (by omega)]
  by_cases hc : covE es p
  ·exact h.back I (by rw [hl, hx.len]) p (by rw [hx.len]; exact hpN) hc
  ·rw [unE_ne hc, (hA p hpN).fix (h.rest p hp hpN hc).1, (h.rest p hp hpN hc).2]
theorem idle_safe {x I : List Nat} {N L G E : Nat} (hx : PoolX x N L G) (hE : 10 + 73 * L + G ≤ E) (hl : I.length = N) (hlo : ∀ p, p < 10 → I.getD p 0 = x.getD p 0) (hmk : ∀ j, j < L → mkOk (I.getD (10 + j) 0) = true ∧ mkS (I.getD (10 + j) 0) = 0) (htab : ∀ p, p < G → I.getD (10 + 73 * L + p) 0 = x.getD (10 + 73 * L + p) 0) (hch : ∀ p, E ≤ p → p < N → I.getD p 0 = x.getD p 0) :
 ∃ J, mendD I = some J ∧ (I.getD 3 0 = L ∧ CalmW (tabW I L)) ∧ HeapX x N L G E J := by
 have hN := hx.hN
 have hG := hx.gn
 have h3 : I.getD 3 0 = L := (hlo 3 (by omega)).trans hx.w3
 have ht : tabW I L = tabW x L := tab_same hx.g hx.gn hx.len hl htab
 have hs : sOk I = true := sOk_same hx.ok (by rw [hl, hx.len]) (fun p hp => hlo p (by omega))
 have hp : poolB I = true := by
  unfold poolB
  rw [hs, h3, ht, Bool.true_and]
  refine List.all_eq_true.2 (fun y hy => ?_)
  obtain ⟨i, hi, rfl⟩ := List.getElem_of_mem hy
  have l2 : (tabW x L).length = G := by rw [tabW_len (by rw [hx.len]; exact hx.g), hx.len, hx.gn]
  have e := tab_at (I := x) (L := L) (i := i) (by rw [hx.len, hx.gn]; omega)
  rw [List.getD_eq_getElem?_getD, List.getElem?_eq_getElem hi] at e
  rw [show (tabW x L)[i] = x.getD (10 + 73 * L + i) 0 from e]
  exact (hx.tab i (by omega)).1
 have hL1 : 1 ≤ L := (pool_size hx.g).1
 have hlane : ∀ j, j < L → laneD I L j = some [] := fun j hj => by
  obtain ⟨m1, m2⟩ := hmk j hj
  unfold laneD
  rw [if_pos m1, if_neg (by omega), if_neg (by omega)]
 have hm := mend_one hp h3 (show 0 < L by omega) (fun j hj _ => hlane j hj) (hlane 0 (by omega))
 refine ⟨_, hm, ⟨h3, by rw [ht]; exact hx.calm⟩, by rw [restL_len, applyL_len, hl], fun p hp => ?_, fun p hp => ?_, fun p hp hpN => ?_⟩
 ·rw [restL_get _ _ _ (by rw [applyL_len, hl]; omega), if_neg (by omega), if_neg (by omega)]
  exact hlo p hp
 ·rw [restL_get _ _ _ (by rw [applyL_len, hl]; omega), applyL_len, hl, hG, if_pos (by omega)]
  show noLog (I.getD _ 0) = _
  rw [htab p hp, noLog_calm (hx.tab p hp).2]
 rw [restL_get _ _ _ (by rw [applyL_len, hl]; omega), applyL_len, hl, hG, if_neg (by omega), if_neg (by omega)]
 exact hch p hp hpN
end Go.Proofs.YtkkbngcgphlikaaGreatDoor
end
section
namespace Go.Proofs.YtkkbngcgphlikaaGreatDoor
theorem view_img {Y : List Nat} {Fr : Nat → Prop} {s : Dv} {N : Nat} (h : Al (AF Y Fr) s) (hl : s.L.length = N) : ImgA Y Fr N (viewD s) := ⟨by rw [view_len, hl], fun i hi => by rw [view_at s (by omega)]; exact load_al h (by omega)⟩
theorem cur_mk {c g : Nat} (hc : c ≤ 16383) (hg : g ≤ 281474976710655) : curS (1 + c * 4 + g * 65536) = 1 ∧ curC (1 + c * 4 + g * 65536) = c ∧ curG (1 + c * 4 + g * 65536) = g := by
 have e1 : mkS (1 + c * 4 + g * 65536) = 1 := by unfold mkS; omega
 have e2 : mkC (1 + c * 4 + g * 65536) = c := by unfold mkC; omega
 have e3 : mkG (1 + c * 4 + g * 65536) = g := by unfold mkG; omega
 have ek : mkOk (1 + c * 4 + g * 65536) = true := by unfold mkOk; rw [e1, e2, e3]; exact okB_1c hc hg
 unfold curS curC curG
 rw [if_pos ek, if_pos ek, if_pos ek]
 exact ⟨e1, e2, e3⟩
theorem gath1_at (I : List Nat) {A m k : Nat} (hk : k < m) : (gathL I [((A : Int), (m : Int))]).getD k 0 = I.getD (A + k) 0 := by
 have e : gathL I [((A : Int), (m : Int))] = (pwL ((A : Int), (m : Int)) m).map (imgAt I) := by
  unfold gathL placesL
  simp
 rw [e, List.getD_eq_getElem?_getD, List.getElem?_map]
 unfold pwL
 rw [List.getElem?_map, List.getElem?_range hk]
 show imgAt I ((A : Int) + (k : Int)) = _
 unfold imgAt
 rw [if_pos (by omega), show ((A : Int) + (k : Int)).toNat = A + k from by omega]
theorem noteL_enc (I : List Nat) (g A m : Nat) : noteL I g A m = encP g ((A : Int), gathL I [((A : Int), (m : Int))]) := by
 unfold noteL encP
 rw [Int.toNat_natCast]
theorem encAll_snoc (g : Nat) (es : List Pe) (e : Pe) : encAll g (es ++ [e]) = encAll g es ++ encP g e := by
 unfold encAll
 simp
theorem getD_appL {a b : List Nat} {j : Nat} (h : j < a.length) : (a ++ b).getD j 0 = a.getD j 0 := by
 rw [List.getD_eq_getElem?_getD, List.getElem?_append_left h, ← List.getD_eq_getElem?_getD]
theorem getD_appR (a b : List Nat) (i : Nat) : (a ++ b).getD (a.length + i) 0 = b.getD i 0 := by
 rw [List.getD_eq_getElem?_getD, List.getElem?_append_right (by omega), ← List.getD_eq_getElem?_getD, Nat.add_sub_cancel_left]
theorem pln_same {Y Y' : List Nat} {L ln : Nat} (hl : Y'.length = Y.length) (ht : tabW Y' L = tabW Y L) : pln Y' L ln = pln Y L ln := by
 unfold pln logSp
 rw [ht, hl]
def SafeA (x : List Nat) (N L G E : Nat) (A : Nat → Nat → Prop) : Prop := (∀ i v, A i v → v < 18446744073709551616) ∧ SafeX x N L G E A
theorem NoS.safeA {x Y : List Nat} {N L G ln g E : Nat} {es : List Pe} {Fr : Nat → Prop} (h : NoS x N L G ln g E es Y Fr) (hx : PoolX x N L G) (hln : ln < L) (hE : 10 + 73 * L + G ≤ E) : SafeA x N L G E (AF Y Fr) := ⟨fun _ _ q => q.1, h.safe hx hln hE⟩
theorem NoS.wr_pln {x Y : List Nat} {N L G ln g E : Nat} {es : List Pe} {Fr : Nat → Prop} (h : NoS x N L G ln g E es Y Fr) (hx : PoolX x N L G) (hln : ln < L) (hE : 10 + 73 * L + G ≤ E) (ws : List Nat) (k mw : Nat) (hc : (encAll g es).length + k ≤ (pln Y L ln).length) : pln ((wrN Y (pln Y L ln) (encAll g es).length ws k).set (10 + ln) mw) L ln = pln Y L ln := by
 have hN := hx.hN
 have hplo := h.plo
 refine pln_same (by rw [List.length_set, wrN_len]) (tab_same hx.g hx.gn h.len (by rw [List.length_set, wrN_len, h.len]) (fun p hp => ?_))
 rw [getD_set_md, if_neg (by omega), wrN_ne _ (fun i hi => by have := hplo ((encAll g es).length + i) (by omega); omega)]
theorem NoS.next {x Y : List Nat} {N L G ln g E : Nat} {es : List Pe} {Fr : Nat → Prop} (h : NoS x N L G ln g E es Y Fr) (hx : PoolX x N L G) (hln : ln < L) (hE : 10 + 73 * L + G ≤ E) {A m : Nat} {old : List Nat} (hEA : E ≤ A) (hAm : A + m ≤ N) (hm1 : 1 ≤ m) (hm2 : m ≤ 4096) (ho : old.length = m) (hoW : WL old)
 (hc : (encAll g es).length + (m + 2) ≤ (pln Y L ln).length) (hc2 : (encAll g es).length + (m + 2) ≤ 16383)
 (hold : ∀ k, k < m → ¬ covE es (A + k) → old.getD k 0 = x.getD (A + k) 0) :
 NoS x N L G ln g E (es ++ [((A : Int), old)]) ((wrN Y (pln Y L ln) (encAll g es).length (encP g ((A : Int), old)) (m + 2)).set (10 + ln) (1 + ((encAll g es).length + (m + 2)) * 4 + g * 65536))
  (fun p => (Fr p ∧ ¬ ∃ i, i < m + 2 ∧ (pln Y L ln).getD ((encAll g es).length + i) 0 = p) ∨ (A ≤ p ∧ p < A + m)) := by
 have hN := hx.hN
 have hn8 := hx.n8
 have hlw : (encP g ((A : Int), old)).length = m + 2 := by rw [encP_len, ho]
 obtain ⟨C, hC⟩ : ∃ C, (encAll g es).length = C := ⟨_, rfl⟩
 have hCe : (encAll g (es ++ [((A : Int), old)])).length = C + (m + 2) := by rw [encAll_snoc, List.length_append, hlw, hC]
 have hWw : WL (encP g ((A : Int), old)) := by
  unfold encP
  exact encW_WL2 (by simp only [Int.toNat_natCast]; omega) (by simp only []; omega) hoW
 have hplo := h.plo
 have hnd := h.nd
 have hlog := h.log
 have hfree := h.free
 rw [hC] at hc hc2 hlog hfree ⊢
 obtain ⟨P, hP⟩ : ∃ P, pln Y L ln = P := ⟨_, rfl⟩
 rw [hP] at hc hplo hnd hlog hfree ⊢
 obtain ⟨ws, hws⟩ : ∃ ws, encP g ((A : Int), old) = ws := ⟨_, rfl⟩
 rw [hws] at hlw hWw ⊢
 have hPN : ∀ j, j < P.length → P.getD j 0 < Y.length := fun j hj => by have := hplo j hj; rw [h.len]; omega
 obtain ⟨mw, hmw⟩ : ∃ mw, 1 + (C + (m + 2)) * 4 + g * 65536 = mw := ⟨_, rfl⟩
 have g48 := h.g48
 rw [hmw]
 have hYl : ((wrN Y P C ws (m + 2)).set (10 + ln) mw).length = N := by rw [List.length_set, wrN_len, h.len]
 have hne : ∀ p, p ≠ 10 + ln → (∀ i, i < m + 2 → ¬ P.getD (C + i) 0 = p) → ((wrN Y P C ws (m + 2)).set (10 + ln) mw).getD p 0 = Y.getD p 0 := fun p h1 h2 => by
  rw [getD_set_md, if_neg (fun q => h1 q.1.symm), wrN_ne _ h2]
 have hat : ∀ i, i < m + 2 → ((wrN Y P C ws (m + 2)).set (10 + ln) mw).getD (P.getD (C + i) 0) 0 = ws.getD i 0 := fun i hi => by
  have := hplo (C + i) (by omega)
  rw [getD_set_md, if_neg (fun q => by omega), wrN_at (m + 2) (fun j hj => hPN _ (by omega)) (fun a b ha hb q => by have := hnd (C + a) (C + b) (by omega) (by omega) q; omega) i hi]
 have hT : tabW ((wrN Y P C ws (m + 2)).set (10 + ln) mw) L = tabW Y L := tab_same hx.g hx.gn h.len hYl (fun p hp => hne _ (by omega) (fun i hi => by have := hplo (C + i) (by omega); omega))
 have hP' : pln ((wrN Y P C ws (m + 2)).set (10 + ln) mw) L ln = P := by rw [pln_same (by rw [hYl, h.len]) hT, hP]
 have hcov : ∀ p, covE (es ++ [((A : Int), old)]) p ↔ covE es p ∨ (A ≤ p ∧ p < A + m) := fun p => by
  rw [covE_snoc, ho]
  simp only []
  constructor
  ·rintro (q | q)
   ·exact .inl q
   exact .inr (by omega)
  rintro (q | q)
  ·exact .inl q
  exact .inr (by omega)
 refine ⟨hYl, ?_, fun i hi => ?_, fun j hj hne2 => ?_, ?_, ?_, g48, fun p hp => ?_, ?_, ?_, ?_, fun j hj => ?_, ?_, ?_, ?_, ?_, fun p hp hpN hc3 => ?_, fun p hc3 => ?_⟩
 ·intro y hy
  rcases List.mem_or_eq_of_mem_set hy with q | q
  ·exact wrN_WL h.W hWw _ (by omega) y q
  omega
 ·obtain ⟨q1, q2⟩ := h.lo i hi
  refine ⟨?_, ?_⟩
  ·rintro (q | q)
   ·exact q1 q.1
   omega
  rw [hne i (by omega) (fun k hk => by have := hplo (C + k) (by omega); omega)]
  exact q2
 ·obtain ⟨q1, q2⟩ := h.mks j hj hne2
  refine ⟨?_, ?_⟩
  ·rintro (q | q)
   ·exact q1 q.1
   omega
  rw [hne _ (by omega) (fun k hk => by have := hplo (C + k) (by omega); omega)]
  exact q2
 ·refine ⟨?_, ?_⟩
  ·rintro (q | q)
   ·exact h.mkw.1 q.1
   omega
  rw [getD_set_md, if_pos ⟨rfl, by rw [wrN_len, h.len]; omega⟩, hCe, hmw]
 ·rw [hCe]; exact hc2
 ·obtain ⟨q1, q2, q3⟩ := h.tab p hp
  have e := hne (10 + 73 * L + p) (by omega) (fun k hk => by have := hplo (C + k) (by omega); omega)
  refine ⟨?_, by rw [e]; exact q2, by rw [e]; exact q3⟩
  rintro (q | q)
  ·exact q1 q.1
  omega
 ·rw [hP', hCe]; exact hc
 ·intro j hj
  rw [hCe] at hj
  rw [hP', encAll_snoc, hws]
  by_cases hjC : j < C
  ·obtain ⟨q1, q2⟩ := hlog j hjC
   have hb := hplo j (by omega)
   refine ⟨?_, ?_⟩
   ·rintro (q | q)
    ·exact q1 q.1
    omega
   rw [getD_appL (by rw [hC]; exact hjC), ← q2]
   exact hne _ (by omega) (fun k hk q => by have := hnd (C + k) j (by omega) (by omega) q; omega)
  obtain ⟨k, rfl⟩ := Nat.exists_eq_add_of_le (Nat.le_of_not_lt hjC)
  have hb := hplo (C + k) (by omega)
  refine ⟨?_, ?_⟩
  ·rintro (q | q)
   ·exact q.2 ⟨k, by omega, rfl⟩
   omega
  rw [hat k (by omega)]
  have := getD_appR (encAll g es) ws k
  rw [hC] at this
  exact this.symm
 ·intro j hj hj2
  rw [hP'] at hj2 ⊢
  rw [hCe] at hj
  refine .inl ⟨hfree j (by omega) hj2, ?_⟩
  rintro ⟨i, hi, q⟩
  have := hnd (C + i) j (by omega) hj2 q
  omega
 ·refine .inl ⟨h.redo j hj, ?_⟩
  rintro ⟨i, hi, q⟩
  have := hplo (C + i) (by omega)
  omega
 ·intro e he
  rcases List.mem_append.1 he with q | q
  ·exact h.ent e q
  rw [List.mem_singleton] at q
  subst q
  simp only []
  rw [ho]
  exact ⟨canB_iff.2 (by omega), by omega, by omega⟩
 ·rw [hP']; exact hplo
 ·rw [hP']; exact hnd
 ·refine h.back.snoc (fun p hp h1 h2 h3 => ?_)
  simp only [] at h1 h2 ⊢
  rw [ho] at h2
  have e : p = A + (p - A) := by omega
  rw [show ((p : Int) - (A : Int)).toNat = p - A from by omega, hold (p - A) (by omega) (by rw [← e]; exact h3), ← e]
 ·have hn1 : ¬ (covE es p ∨ (A ≤ p ∧ p < A + m)) := fun q => hc3 ((hcov p).2 q)
  obtain ⟨q1, q2⟩ := h.rest p hp hpN (fun q => hn1 (.inl q))
  refine ⟨?_, ?_⟩
  ·rintro (q | q)
   ·exact q1 q.1
   exact hn1 (.inr q)
  rw [hne p (by omega) (fun k hk => by have := hplo (C + k) (by omega); omega)]
  exact q2
 rcases (hcov p).1 hc3 with q | q
 ·refine .inl ⟨h.fcov p q, ?_⟩
  rintro ⟨i, hi, q3⟩
  have h1 := hplo (C + i) (by omega)
  obtain ⟨e, he, q4, q5⟩ := q
  have h2 := (h.ent e he).2.1
  omega
 exact .inr q
theorem NoS.note {x Y : List Nat} {N L G ln g E : Nat} {es : List Pe} {Fr : Nat → Prop} (h : NoS x N L G ln g E es Y Fr) (hx : PoolX x N L G) (hln : ln < L) (hE : 10 + 73 * L + G ≤ E) {s : Dv} {k0 : Nat} (hg : GoodJ s N k0) (hal : Al (AF Y Fr) s) {A m : Nat} (hEA : E ≤ A) (hAm : A + m ≤ N) (hm1 : 1 ≤ m) (hm2 : m ≤ 4096)
 (hf1 : ((curC (loadD s (10 + (ln : Int))) + (m + 2) : Nat) : Int) ≤ totS (logP (viewD s) (N : Nat) (L : Nat) (ln : Nat))) (hf2 : curC (loadD s (10 + (ln : Int))) + (m + 2) ≤ 16383) :
 ((noteD s N L ln A m).dead = true ∧ ∃ A', Al A' (noteD s N L ln A m) ∧ SafeA x N L G E A') ∨ ((noteD s N L ln A m).dead = false ∧ ∃ Y' Fr', NoS x N L G ln g E (es ++ [((A : Int), gathL (viewD s) [((A : Int), (m : Int))])]) Y' Fr' ∧ Al (AF Y' Fr') (noteD s N L ln A m) ∧ pln Y' L ln = pln Y L ln) := by
 have hN := hx.hN
 have hn8 := hx.n8
 have ec : (10 : Int) + (ln : Int) = ((10 + ln : Nat) : Int) := by omega
 obtain ⟨C, hC⟩ : ∃ C, (encAll g es).length = C := ⟨_, rfl⟩
 have c14 := h.c14
 have g48 := h.g48
 have hxm : loadD s (10 + (ln : Int)) = 1 + C * 4 + g * 65536 := by
  rw [ec]
  exact ((load_al hal (i := 10 + ln) (by rw [hg.len]; omega)).fix h.mkw.1).trans (h.mkw.2.trans (by rw [hC]))
 obtain ⟨c1, c2, c3⟩ := cur_mk (c := C) (g := g) (by omega) g48
 have hv := view_img hal hg.len
 obtain ⟨p1, p2, p3, p4, p5⟩ := h.pool hx hln hv
 have hP := h.pbs hx hln
 have hpl := placesL_len _ hP
 have hol := gath1_len (viewD s) (N := N) (by omega) hAm
 have hoW : WL (gathL (viewD s) [((A : Int), (m : Int))]) := gath_WL (viewD_WL (AF.wd hal)) _
 have er : roomJ s N L ln m = cutL (logSp Y L ln) ((C : Nat), ((m + 2 : Nat) : Int)) := by
  unfold roomJ
  rw [hxm, c2, p5]
 rw [hxm, c2] at hf1 hf2
 rw [p5] at hf1
 have hlen : (pln Y L ln).length = (totS (logSp Y L ln)).toNat := by rw [pln_len, hpl.1]
 have hcl : C + (m + 2) ≤ (pln Y L ln).length := by omega
 have hold : ∀ k, k < m → ¬ covE es (A + k) → (gathL (viewD s) [((A : Int), (m : Int))]).getD k 0 = x.getD (A + k) 0 := fun k hk hnc => by
  rw [gath1_at _ hk]
  obtain ⟨q1, q2⟩ := h.rest (A + k) (by omega) (by omega) hnc
  rw [(hv.2 (A + k) (by omega)).fix q1, q2]
 have hnext := h.next hx hln hE hEA hAm hm1 hm2 hol hoW (by rw [hC]; exact hcl) (by rw [hC]; exact hf2) hold
 have hwp := fun ws mw => h.wr_pln hx hln hE ws (m + 2) mw (by rw [hC]; exact hcl)
 rw [hC] at hwp
 unfold noteD
 rw [er, hxm, c2, c3, noteL_enc]
 rw [hC] at hnext
 have hlw : (encP g ((A : Int), gathL (viewD s) [((A : Int), (m : Int))])).length = m + 2 := by rw [encP_len, hol]
 have hWw : WL (encP g ((A : Int), gathL (viewD s) [((A : Int), (m : Int))])) := by
  unfold encP
  exact encW_WL2 (by simp only [Int.toNat_natCast]; omega) (by simp only []; omega) hoW
 obtain ⟨ws, hws⟩ : ∃ ws, encP g ((A : Int), gathL (viewD s) [((A : Int), (m : Int))]) = ws := ⟨_, rfl⟩
 obtain ⟨old, hod⟩ : ∃ o, gathL (viewD s) [((A : Int), (m : Int))] = o := ⟨_, rfl⟩
 rw [hws] at hnext hlw hWw ⊢
 rw [hod] at hnext ⊢
 have hroom : ∀ i, i < m + 2 → atL (cutL (logSp Y L ln) ((C : Nat), ((m + 2 : Nat) : Int))) (i : Nat) = (((pln Y L ln).getD (C + i) 0 : Nat) : Int) := fun i hi => by
  rw [room_at hP hi (by omega)]
  exact pln_int hP (by omega)
 have hrcov : ∀ i, i < m + 2 → ∃ y ∈ cutL (logSp Y L ln) ((C : Nat), ((m + 2 : Nat) : Int)), y.1 ≤ (((pln Y L ln).getD (C + i) 0 : Nat) : Int) ∧ (((pln Y L ln).getD (C + i) 0 : Nat) : Int) < y.1 + y.2 := fun i hi => by
  have := room_cov hP hi (c := C) (by omega)
  rw [pln_int hP (by omega)] at this
  exact this
 obtain ⟨room, hrm⟩ : ∃ r, cutL (logSp Y L ln) ((C : Nat), ((m + 2 : Nat) : Int)) = r := ⟨_, rfl⟩
 rw [hrm] at hroom hrcov ⊢
 have hplo := h.plo
 have hnd := h.nd
 have hfree := h.free
 rw [hC] at hfree
 obtain ⟨P, hPe⟩ : ∃ P, pln Y L ln = P := ⟨_, rfl⟩
 rw [hPe] at hnext hroom hrcov hplo hnd hfree hcl hwp ⊢
 have hPN : ∀ j, j < P.length → P.getD j 0 < N := fun j hj => by have := hplo j hj; omega
 have hpl2 : ∀ i, i < m + 2 → C + i < P.length := fun i hi => by omega
 obtain ⟨mw, hmw⟩ : ∃ mw, 1 + (C + (m + 2)) * 4 + g * 65536 = mw := ⟨_, rfl⟩
 have hmw64 : mw < 18446744073709551616 := by omega
 rw [hmw] at hnext ⊢
 have ha1 : Al (AF Y Fr) (stoR s room ws (m + 2)) := al_stoR hal room ws _ (fun i hi q hq hql => by
  rw [hroom i hi] at hq
  have e : (P.getD (C + i) 0) = q := by omega
  refine ⟨hWw.at i (by omega), .inl ?_⟩
  rw [← e]
  exact hfree (C + i) (by omega) (hpl2 i hi))
 have hg1 := GoodJ.stoR hg room ws (m + 2)
 have ha2 : Al (AF Y Fr) (fenceL (stoR s room ws (m + 2)) room) := Al.fenceL room ha1
 by_cases hd2 : (fenceL (stoR s room ws (m + 2)) room).dead = true
 ·left
  rw [dead_lay hd2]
  exact ⟨hd2, _, ha2, h.safeA hx hln hE⟩
 have hd2' : (fenceL (stoR s room ws (m + 2)) room).dead = false := by
  cases hh : (fenceL (stoR s room ws (m + 2)) room).dead with
  | true => exact absurd hh hd2
  | false => rfl
 have hd1 := alive_fenceL hd2'
 have hhas : ∀ i, i < m + 2 → hasD s (atL room (i : Nat)) = true := fun i hi => by
  rw [hroom i hi]
  exact has_of (by rw [hg.len]; exact hPN _ (hpl2 i hi))
 have hc1 := stoR_c hd1 hhas (fun i j hi hj q => by
  rw [hroom i hi, hroom j hj] at q
  have := hnd (C + i) (C + j) (hpl2 i hi) (hpl2 j hj) (by omega)
  omega)
 have hcl2 : ∀ i, i < m + 2 → ∀ u, PV (fenceL (stoR s room ws (m + 2)) room) (P.getD (C + i) 0) u → u = ws.getD i 0 := fun i hi u hu => by
  have hc := hc1 i hi
  rw [hroom i hi] at hc
  rw [save_al hg1 room hd2' (hPN _ (hpl2 i hi)) (hrcov i hi) u hu]
  exact load_c (by rw [hg1.len]; exact hPN _ (hpl2 i hi)) hc
 obtain ⟨s2, hs2⟩ : ∃ z, fenceL (stoR s room ws (m + 2)) room = z := ⟨_, rfl⟩
 rw [hs2] at ha2 hd2 hd2' hcl2 ⊢
 have hg2 : GoodJ s2 N (k0 + (m + 2) + room.length * N + 1) := by rw [← hs2]; exact GoodJ.fences (by omega) room hg1
 have hmx : ∀ i, i < m + 2 → P.getD (C + i) 0 ≠ 10 + ln := fun i hi => by have := hplo (C + i) (hpl2 i hi); omega
 -- what may be there once the entry's words are fenced
 have ha3 : Al (fun p v => AF Y Fr p v ∧ ∀ i, i < m + 2 → P.getD (C + i) 0 = p → v = ws.getD i 0) s2 := fun p hp u hu => ⟨ha2 p hp u hu, fun i hi e => by subst e; exact hcl2 i hi u hu⟩
 -- the mark, old or new
 have ha4 : Al (fun p v => (p = 10 + ln ∧ v = mw) ∨ (AF Y Fr p v ∧ ∀ i, i < m + 2 → P.getD (C + i) 0 = p → v = ws.getD i 0)) (layD s2 (10 + (ln : Int)) mw) := (ha3.mono (fun _ _ q => .inr q)).lay _ _ (fun i hi _ => .inl ⟨by omega, rfl⟩)
 have hYn : ∀ p v, p < N → ((p = 10 + ln ∧ v = mw) ∨ (p ≠ 10 + ln ∧ AF Y Fr p v ∧ ∀ i, i < m + 2 → P.getD (C + i) 0 = p → v = ws.getD i 0)) →
  AF ((wrN Y P C ws (m + 2)).set (10 + ln) mw) (fun p => (Fr p ∧ ¬ ∃ i, i < m + 2 ∧ P.getD (C + i) 0 = p) ∨ (A ≤ p ∧ p < A + m)) p v := fun p v hp hq => by
  rcases hq with ⟨rfl, rfl⟩ | ⟨h0, hq, hw⟩
  ·exact ⟨hmw64, .inr (by rw [getD_set_md, if_pos ⟨rfl, by rw [wrN_len, h.len]; omega⟩])⟩
  ·refine ⟨hq.1, ?_⟩
   by_cases he : ∃ i, i < m + 2 ∧ P.getD (C + i) 0 = p
   ·obtain ⟨i, hi, e⟩ := he
    right
    rw [hw i hi e, ← e, getD_set_md, if_neg (fun z => hmx i hi z.1.symm)]
    exact (wrN_at (m + 2) (fun j hj => by rw [h.len]; exact hPN _ (hpl2 j hj)) (fun a b ha hb q => by have := hnd (C + a) (C + b) (hpl2 a ha) (hpl2 b hb) q; omega) i hi).symm
   ·rcases hq.2 with q | q
    ·exact .inl (.inl ⟨q, he⟩)
    ·right
     rw [getD_set_md, if_neg (fun z => h0 z.1.symm), wrN_ne _ (fun i hi e => he ⟨i, hi, e⟩)]
     exact q
 have hsafe := hnext.safe hx hln hE
 by_cases hd3 : (layD s2 (10 + (ln : Int)) mw).dead = true
 ·left
  refine ⟨hd3, _, ha4, fun p v q => ?_, fun I hl hI => ?_⟩
  ·rcases q with q | q
   ·omega
   exact q.1.1
  by_cases hm0 : I.getD (10 + ln) 0 = mw
  ·refine hsafe I hl (fun p hp => hYn p _ hp ?_)
   by_cases e : p = 10 + ln
   ·subst e; exact .inl ⟨rfl, hm0⟩
   rcases hI p hp with q | q
   ·exact absurd q.1 e
   exact .inr ⟨e, q⟩
  refine h.safe hx hln hE I hl (fun p hp => ?_)
  rcases hI p hp with q | q
  ·exfalso
   rw [q.1] at q
   exact hm0 q.2
  exact q.1
 right
 have hd3' : (layD s2 (10 + (ln : Int)) mw).dead = false := by
  cases hh : (layD s2 (10 + (ln : Int)) mw).dead with
  | true => exact absurd hh hd3
  | false => rfl
 refine ⟨hd3', _, _, hnext, fun p hp u hu => ?_, hwp ws mw⟩
 have hpN : p < N := by rw [lay_len, hg2.len] at hp; exact hp
 by_cases e : p = 10 + ln
 ·subst e
  rw [ec] at hd3' hu
  exact hYn _ _ hpN (.inl ⟨rfl, (lay_cl hd3' (by rw [hg2.len]; omega)).2.2 u hu⟩)
 rcases ha4 p hp u hu with q | q
 ·exact absurd q.1 e
 exact hYn _ _ hpN (.inr ⟨e, q⟩)
structure InvL (x : List Nat) (N L G ln E : Nat) (l : List Sp) (c pn : Nat) (s : Dv) : Prop where
 wd : WD s
 len : s.L.length = N
 st : (s.dead = true ∧ ∃ A, Al A s ∧ SafeA x N L G E A) ∨ (s.dead = false ∧ ∃ g es Y Fr, NoS x N L G ln g E es Y Fr ∧ Al (AF Y Fr) s ∧ (∀ p, covE es p ↔ ∃ q ∈ l, q.1 ≤ (p : Int) ∧ (p : Int) < q.1 + q.2) ∧ (encAll g es).length ≤ c ∧ (pln Y L ln).length = pn)
theorem InvL.safe {x : List Nat} {N L G ln E : Nat} {l : List Sp} {c pn : Nat} {s : Dv} (h : InvL x N L G ln E l c pn s) (hx : PoolX x N L G) (hln : ln < L) (hE : 10 + 73 * L + G ≤ E) : ∃ A, Al A s ∧ SafeA x N L G E A := by
 rcases h.st with ⟨_, A, q⟩ | ⟨_, g, es, Y, Fr, q1, q2, _, _⟩
 ·exact ⟨A, q⟩
 exact ⟨_, q2, q1.safeA hx hln hE⟩
theorem InvL.calm {x : List Nat} {N L G ln E : Nat} {l : List Sp} {c pn : Nat} {s : Dv} (h : InvL x N L G ln E l c pn s) (hx : PoolX x N L G) (hln : ln < L) (hE : 10 + 73 * L + G ≤ E) : CalmW (tabW (viewD s) ((viewD s).getD 3 0)) := by
 obtain ⟨A, ha, hA⟩ := h.safe hx hln hE
 obtain ⟨J, _, ⟨h3, hc⟩, _⟩ := hA.2 (viewD s) (by rw [view_len, h.len]) (fun i hi => by rw [view_at s (by rw [h.len]; exact hi)]; exact load_al ha (by rw [h.len]; exact hi))
 rw [h3]
 exact hc
theorem InvL.of {x : List Nat} {N L G ln E : Nat} {l : List Sp} {c pn : Nat} {s : Dv} (hl : s.L.length = N) (h : (s.dead = true ∧ ∃ A, Al A s ∧ SafeA x N L G E A) ∨ (s.dead = false ∧ ∃ g es Y Fr, NoS x N L G ln g E es Y Fr ∧ Al (AF Y Fr) s ∧ (∀ p, covE es p ↔ ∃ q ∈ l, q.1 ≤ (p : Int) ∧ (p : Int) < q.1 + q.2) ∧ (encAll g es).length ≤ c ∧ (pln Y L ln).length = pn)) : InvL x N L G ln E l c pn s := by
 refine ⟨?_, hl, h⟩
 rcases h with ⟨_, A, q1, q2⟩ | ⟨_, g, es, Y, Fr, _, q2, _, _⟩
 ·exact q1.mono q2.1
 exact AF.wd q2
theorem InvL.note {x : List Nat} {N L G ln E : Nat} {l : List Sp} {c pn : Nat} {s : Dv} (h : InvL x N L G ln E l c pn s) (hx : PoolX x N L G) (hln : ln < L) (hE : 10 + 73 * L + G ≤ E) {k0 : Nat} (hg : GoodJ s N k0) {A m : Nat} (hEA : E ≤ A) (hAm : A + m ≤ N) (hm1 : 1 ≤ m) (hm2 : m ≤ 4096)
 (hf1 : ((curC (loadD s (10 + (ln : Int))) + (m + 2) : Nat) : Int) ≤ totS (logP (viewD s) (N : Nat) (L : Nat) (ln : Nat))) (hf2 : curC (loadD s (10 + (ln : Int))) + (m + 2) ≤ 16383) : InvL x N L G ln E (l ++ [((A : Int), (m : Int))]) (c + (m + 2)) pn (noteD s N L ln A m) := by
 have hlen : (noteD s N L ln A m).L.length = N := by
  unfold noteD
  rw [lay_len, fenceL_len, (stoR_L _ _ _ _).1, h.len]
 refine InvL.of hlen ?_
 rcases h.st with ⟨hd, A', q1, q2⟩ | ⟨hd, g, es, Y, Fr, q1, q2, q3, q4, q5⟩
 ·rw [dead_note hd]
  exact .inl ⟨hd, A', q1, q2⟩
 rcases q1.note hx hln hE hg q2 hEA hAm hm1 hm2 hf1 hf2 with z | ⟨z, Y', Fr', z1, z2, z3⟩
 ·exact .inl z
 have hol := gath1_len (viewD s) (N := N) (by have := hx.n8; omega) hAm
 refine .inr ⟨z, g, _, Y', Fr', z1, z2, fun p => ?_, by rw [encAll_snoc, List.length_append, encP_len, hol]; omega, by rw [z3]; exact q5⟩
 rw [covE_snoc, q3, hol]
 simp only []
 constructor
 ·rintro (⟨q, hq, r⟩ | r)
  ·exact ⟨q, by simp [hq], r⟩
  exact ⟨((A : Int), (m : Int)), by simp, r⟩
 rintro ⟨q, hq, r⟩
 rcases List.mem_append.1 hq with z | z
 ·exact .inl ⟨q, z, r⟩
 rw [List.mem_singleton] at z
 subst z
 exact .inr r
theorem InvL.store {x : List Nat} {N L G ln E : Nat} {l : List Sp} {c pn : Nat} {s : Dv} (h : InvL x N L G ln E l c pn s) (hx : PoolX x N L G) (hln : ln < L) (hE : 10 + 73 * L + G ≤ E) {y : Int} {v : Nat} (hv : v < 18446744073709551616) (hy : ∃ q ∈ l, q.1 ≤ y ∧ y < q.1 + q.2) : InvL x N L G ln E l c pn (storeD s y v) := by
 refine InvL.of (by rw [(store_L s y v).1]; exact h.len) ?_
 rcases h.st with ⟨hd, A', q1, q2⟩ | ⟨hd, g, es, Y, Fr, q1, q2, q3, q4, q5⟩
 ·rw [dead_store hd]
  exact .inl ⟨hd, A', q1, q2⟩
 have ha : Al (AF Y Fr) (storeD s y v) := q2.store y v (fun i hi _ => ⟨hv, .inl (q1.fcov i ((q3 i).2 (by rw [← hi]; exact hy)))⟩)
 cases hd2 : (storeD s y v).dead with
 | true => exact .inl ⟨rfl, _, ha, q1.safeA hx hln hE⟩
 | false => exact .inr ⟨rfl, g, es, Y, Fr, q1, ha, q3, q4, q5⟩
theorem InvL.evict {x : List Nat} {N L G ln E : Nat} {l : List Sp} {c pn : Nat} {s : Dv} (h : InvL x N L G ln E l c pn s) (hx : PoolX x N L G) (hln : ln < L) (hE : 10 + 73 * L + G ≤ E) (y : Int) : InvL x N L G ln E l c pn (evictD s y) := by
 have hlen : (evictD s y).L.length = N := by
  have hs := (stepD_same s).1
  unfold evictD
  split
  ·split
   ·split
    ·simp only [List.length_set]; exact h.len
    rw [hs]; exact h.len
   rw [hs]; exact h.len
  exact h.len
 refine InvL.of hlen ?_
 rcases h.st with ⟨hd, A', q1, q2⟩ | ⟨hd, g, es, Y, Fr, q1, q2, q3, q4, q5⟩
 ·rw [dead_evict hd]
  exact .inl ⟨hd, A', q1, q2⟩
 have ha : Al (AF Y Fr) (evictD s y) := q2.evict y
 cases hd2 : (evictD s y).dead with
 | true => exact .inl ⟨rfl, _, ha, q1.safeA hx hln hE⟩
 | false => exact .inr ⟨rfl, g, es, Y, Fr, q1, ha, q3, q4, q5⟩
theorem begin_inv {x : List Nat} {N L G ln E : Nat} (hx : PoolX x N L G) (hln : ln < L) (hE : 10 + 73 * L + G ≤ E) {s : Dv} {k0 : Nat} (hg : GoodJ s N k0) (hs : ∀ i, i < N → ∀ u, PV s i u → u = x.getD i 0) (hlog : logsT (tabW x L) (ln : Nat) = []) : InvL x N L G ln E [] 0 32 (layD s (10 + (ln : Int)) (begW (loadD s (10 + (ln : Int))))) := by
 have hN := hx.hN
 have hn8 := hx.n8
 have ec : (10 : Int) + (ln : Int) = ((10 + ln : Nat) : Int) := by omega
 have h0 : loadD s (10 + (ln : Int)) = 0 := by
  rw [ec]
  exact (hs _ (by omega) _ (load_PV (by rw [hg.len]; omega))).trans (hx.mks ln hln)
 have hb : begW (loadD s (10 + (ln : Int))) = 65537 := by rw [h0]; decide
 rw [hb]
 -- the words of the lane's log and redo may be anything
 have hpln : pln (x.set (10 + ln) 65537) L ln = (List.range 32).map fun i : Nat => 10 + L + ln * 72 + i := by
  have ht : tabW (x.set (10 + ln) 65537) L = tabW x L := tab_same hx.g hx.gn hx.len (by rw [List.length_set, hx.len]) (fun p hp => by rw [getD_set_md, if_neg (by omega)])
  unfold pln logSp
  rw [ht, hlog]
  unfold placesL pwL
  simp
  intro a ha
  omega
 have hpg : ∀ j, j < 32 → ((List.range 32).map fun i : Nat => 10 + L + ln * 72 + i).getD j 0 = 10 + L + ln * 72 + j := fun j hj => by
  rw [List.getD_eq_getElem?_getD, List.getElem?_map, List.getElem?_range hj]
  rfl
 have hpl : ((List.range 32).map fun i : Nat => 10 + L + ln * 72 + i).length = 32 := by simp
 have hLL : 10 + L + ln * 72 + 72 ≤ 10 + 73 * L := by omega
 have hY : ∀ p, p ≠ 10 + ln → (x.set (10 + ln) 65537).getD p 0 = x.getD p 0 := fun p hp => by rw [getD_set_md, if_neg (fun q => hp q.1.symm)]
 have hYm : (x.set (10 + ln) 65537).getD (10 + ln) 0 = 65537 := by rw [getD_set_md, if_pos ⟨rfl, by rw [hx.len]; omega⟩]
 have hno : NoS x N L G ln 1 E [] (x.set (10 + ln) 65537) (fun p => 10 + L + ln * 72 ≤ p ∧ p < 10 + L + ln * 72 + 72) := by
  refine ⟨by rw [List.length_set, hx.len], ?_, fun i hi => ⟨by omega, hY i (by omega)⟩, fun j hj hne => ⟨by omega, by rw [hY _ (by omega)]; exact hx.mks j hj⟩, ⟨by omega, by rw [hYm]; rfl⟩, Nat.zero_le _, by decide, fun p hp => ?_, Nat.zero_le _, fun j hj => absurd hj (Nat.not_lt_zero _), ?_, fun j hj => by omega, fun e he => (by cases he), ?_, ?_, BackE.nil x, fun p hp hpN _ => ⟨by omega, hY p (by omega)⟩, fun p ⟨e, he, _⟩ => (by cases he)⟩
  ·intro y hy
   rcases List.mem_or_eq_of_mem_set hy with q | q
   ·exact hx.W y q
   omega
  ·rw [hY _ (by omega)]
   exact ⟨by omega, (hx.tab p hp).1, rfl⟩
  ·rw [hpln]
   intro j _ hj
   rw [hpl] at hj
   rw [hpg j hj]
   omega
  ·rw [hpln]
   intro j hj
   rw [hpl] at hj
   rw [hpg j hj]
   omega
  rw [hpln]
  intro i j hi hj
  rw [hpl] at hi hj
  rw [hpg i hi, hpg j hj]
  omega
 have ha : Al (fun p v => v = x.getD p 0 ∨ (p = 10 + ln ∧ v = 65537)) (layD s (10 + (ln : Int)) 65537) := (show Al (fun p v => v = x.getD p 0 ∨ (p = 10 + ln ∧ v = 65537)) s from fun i hi u hu => .inl (hs i (by rw [← hg.len]; exact hi) u hu)).lay _ _ (fun i hi _ => .inr ⟨by omega, rfl⟩)
 have hAF : ∀ p v, p < N → ((p = 10 + ln ∧ v = 65537) ∨ (p ≠ 10 + ln ∧ v = x.getD p 0)) → AF (x.set (10 + ln) 65537) (fun p => 10 + L + ln * 72 ≤ p ∧ p < 10 + L + ln * 72 + 72) p v := fun p v hp q => by
  rcases q with ⟨rfl, rfl⟩ | ⟨h1, rfl⟩
  ·exact ⟨by decide, .inr hYm.symm⟩
  exact ⟨hx.W.at p (by rw [hx.len]; exact hp), .inr (hY p h1).symm⟩
 refine InvL.of (by rw [lay_len, hg.len]) ?_
 by_cases hd : (layD s (10 + (ln : Int)) 65537).dead = true
 rotate_left
 ·right
  have hd' : (layD s (10 + (ln : Int)) 65537).dead = false := by
   cases hh : (layD s (10 + (ln : Int)) 65537).dead with
   | true => exact absurd hh hd
   | false => rfl
  refine ⟨hd', 1, [], _, _, hno, fun p hp u hu => ?_, fun p => ⟨fun ⟨e, he, _⟩ => (by cases he), fun ⟨q, hq, _⟩ => (by simp at hq)⟩, Nat.le_refl _, by rw [hpln]; simp⟩
  have hpN : p < N := by rw [lay_len, hg.len] at hp; exact hp
  by_cases e : p = 10 + ln
  ·subst e
   rw [ec] at hd' hu
   exact hAF _ _ hpN (.inl ⟨rfl, (lay_cl hd' (by rw [hg.len]; omega)).2.2 u hu⟩)
  rcases ha p hp u hu with q | q
  ·exact hAF _ _ hpN (.inr ⟨e, q⟩)
  exact absurd q.1 e
 left
 refine ⟨hd, fun p v => p < N ∧ (v = x.getD p 0 ∨ (p = 10 + ln ∧ v = 65537)), fun i hi u hu => ⟨by rw [lay_len, hg.len] at hi; exact hi, ha i hi u hu⟩, fun p v q => ?_, fun I hl hI => ?_⟩
 ·rcases q.2 with e | e
  ·rw [e]; exact hx.W.at p (by rw [hx.len]; exact q.1)
  omega
 by_cases hm : I.getD (10 + ln) 0 = 65537
 ·refine hno.safe hx hln hE I hl (fun p hp => hAF p _ hp ?_)
  by_cases e : p = 10 + ln
  ·subst e; exact .inl ⟨rfl, hm⟩
  rcases (hI p hp).2 with q | q
  ·exact .inr ⟨e, q⟩
  exact absurd q.1 e
 have hIx : ∀ p, p < N → I.getD p 0 = x.getD p 0 := fun p hp => by
  rcases (hI p hp).2 with q | q
  ·exact q
  exfalso
  rw [q.1] at q
  exact hm q.2
 refine idle_safe hx hE hl (fun p hp => hIx p (by omega)) (fun j hj => ?_) (fun p hp => hIx _ (by omega)) (fun p _ hp => hIx p hp)
 rw [hIx _ (by omega), hx.mks j hj]
 decide
def noteOk (s : Dv) (N L ln m : Nat) : Prop := curS (loadD s (10 + (ln : Int))) = 1 ∧ ((curC (loadD s (10 + (ln : Int))) + (m + 2) : Nat) : Int) ≤ totS (logP (viewD s) (N : Nat) (L : Nat) (ln : Nat)) ∧ curC (loadD s (10 + (ln : Int))) + (m + 2) ≤ 16383
end Go.Proofs.YtkkbngcgphlikaaGreatDoor
end
section
namespace Go.Proofs.YtkkbngcgphlikaaGreatDoor
theorem InvL.fenceL {x : List Nat} {N L G ln E : Nat} {l : List Sp} {c pn : Nat} {s : Dv} (h : InvL x N L G ln E l c pn s) (hx : PoolX x N L G) (hln : ln < L) (hE : 10 + 73 * L + G ≤ E) (l' : List Sp) : InvL x N L G ln E l c pn (fenceL s l') := by
 refine InvL.of (by rw [fenceL_len]; exact h.len) ?_
 rcases h.st with ⟨hd, A', q1, q2⟩ | ⟨hd, g, es, Y, Fr, q1, q2, q3, q4, q5⟩
 ·rw [dead_fenceL hd]
  exact .inl ⟨hd, A', q1, q2⟩
 have ha : Al (AF Y Fr) (Go.Proofs.YtkkbngcgphlikaaGreatDoor.fenceL s l') := Al.fenceL l' q2
 cases hd2 : (Go.Proofs.YtkkbngcgphlikaaGreatDoor.fenceL s l').dead with
 | true => exact .inl ⟨rfl, _, ha, q1.safeA hx hln hE⟩
 | false => exact .inr ⟨rfl, g, es, Y, Fr, q1, ha, q3, q4, q5⟩
theorem InvL.storeR {x : List Nat} {N L G ln E : Nat} {l : List Sp} {c pn : Nat} {s : Dv} (h : InvL x N L G ln E l c pn s) (hx : PoolX x N L G) (hln : ln < L) (hE : 10 + 73 * L + G ≤ E) {v j : Nat} (hv : v < 18446744073709551616) (hj : j < 40) : InvL x N L G ln E l c pn (storeD s ((10 + L + ln * 72 + 32 + j : Nat) : Int) v) := by
 refine InvL.of (by rw [(store_L s _ v).1]; exact h.len) ?_
 rcases h.st with ⟨hd, A', q1, q2⟩ | ⟨hd, g, es, Y, Fr, q1, q2, q3, q4, q5⟩
 ·rw [dead_store hd]
  exact .inl ⟨hd, A', q1, q2⟩
 have ha : Al (AF Y Fr) (storeD s ((10 + L + ln * 72 + 32 + j : Nat) : Int) v) := q2.store _ v (fun i hi _ => ⟨hv, .inl (by rw [show i = 10 + L + ln * 72 + 32 + j from by omega]; exact q1.redo j hj)⟩)
 cases hd2 : (storeD s ((10 + L + ln * 72 + 32 + j : Nat) : Int) v).dead with
 | true => exact .inl ⟨rfl, _, ha, q1.safeA hx hln hE⟩
 | false => exact .inr ⟨rfl, g, es, Y, Fr, q1, ha, q3, q4, q5⟩
theorem InvL.stos {x : List Nat} {N L G ln E : Nat} {l : List Sp} {c pn : Nat} (hx : PoolX x N L G) (hln : ln < L) (hE : 10 + 73 * L + G ≤ E) : ∀ (ws : List Nat) {s : Dv} (j : Nat), InvL x N L G ln E l c pn s → WL ws → j + ws.length ≤ 40 → InvL x N L G ln E l c pn (stoL s ((10 + L + ln * 72 + 32 + j : Nat) : Int) ws)
 | [], _, _, h, _, _ => h
 | v :: ws, s, j, h, hW, hl => by
   rw [List.length_cons] at hl
   have h2 := InvL.stos hx hln hE ws (j + 1) (h.storeR hx hln hE (hW v (by simp)) (show j < 40 by omega)) (fun y hy => hW y (by simp [hy])) (by omega)
   show InvL x N L G ln E l c pn (stoL (storeD s ((10 + L + ln * 72 + 32 + j : Nat) : Int) v) (((10 + L + ln * 72 + 32 + j : Nat) : Int) + 1) ws)
   rw [show ((10 + L + ln * 72 + 32 + j : Nat) : Int) + 1 = ((10 + L + ln * 72 + 32 + (j + 1) : Nat) : Int) from by omega]
   exact h2
theorem InvL.ready {x : List Nat} {N L G ln E : Nat} {l : List Sp} {c pn : Nat} {s : Dv} (h : InvL x N L G ln E l c pn s) (hx : PoolX x N L G) (hln : ln < L) (hE : 10 + 73 * L + G ≤ E) {ops : List Ox} (hl : ops.length ≤ 19) (hW : WL (encS ops)) : InvL x N L G ln E l c pn (readyD s (10 + (L : Int) + (ln : Int) * 72 + 32) (encS ops)) := by
 unfold readyD
 rw [show 10 + (L : Int) + (ln : Int) * 72 + 32 = ((10 + L + ln * 72 + 32 + 0 : Nat) : Int) from by omega]
 exact (InvL.stos hx hln hE (encS ops) 0 h hW (by rw [encS_len]; omega)).fenceL hx hln hE _
theorem InvL.crash {x : List Nat} {N L G ln E : Nat} {l : List Sp} {c pn m : Nat} {s : Dv} (h : InvL x N L G ln E l c pn s) (hx : PoolX x N L G) (hln : ln < L) (hE : 10 + 73 * L + G ≤ E) (hg : GoodJ s N m) (keep : List Nat) : WL (crashD s keep).L ∧ ∃ J, mendD (crashD s keep).L = some J ∧ ((crashD s keep).L.getD 3 0 = L ∧ CalmW (tabW (crashD s keep).L L)) ∧ HeapX x N L G E J := by
 obtain ⟨A, ha, hA⟩ := h.safe hx hln hE
 have hc := hg.crashed ha keep
 have hl := (hg.crash keep).len
 refine ⟨fun y hy => ?_, hA.2 _ hl hc⟩
 obtain ⟨i, hi, rfl⟩ := List.getElem_of_mem hy
 have := hA.1 _ _ (hc i (by omega))
 rw [List.getD_eq_getElem?_getD, List.getElem?_eq_getElem hi] at this
 exact this
theorem heap_same {x J : List Nat} {N L G : Nat} (hx : PoolX x N L G) (h : HeapX x N L G (10 + 73 * L + G) J) : heapL J L = heapL x L := by
 obtain ⟨h1, h2, h3, h4⟩ := h
 have hN := hx.hN
 have hxl := hx.len
 have e1 : (J.drop 8).take 2 = (x.drop 8).take 2 := ext_getD_md (by simp [h1, hxl]) (fun i hi => by
  rw [List.length_take, List.length_drop] at hi
  rw [take_getD _ _ _ (by omega), take_getD _ _ _ (by omega)]
  simp only [List.getD_eq_getElem?_getD, List.getElem?_drop]
  have := h2 (8 + i) (by omega)
  simp only [List.getD_eq_getElem?_getD] at this
  exact this)
 have e2 : J.drop (10 + 73 * L) = x.drop (10 + 73 * L) := ext_getD_md (by rw [List.length_drop, List.length_drop, h1, hxl]) (fun i hi => by
  rw [List.length_drop, h1] at hi
  simp only [List.getD_eq_getElem?_getD, List.getElem?_drop]
  have h5 : J.getD (10 + 73 * L + i) 0 = x.getD (10 + 73 * L + i) 0 := by
   by_cases q : i < G
   ·exact h3 i q
   exact h4 _ (by omega) (by omega)
  simp only [List.getD_eq_getElem?_getD] at h5
  exact h5)
 unfold heapL
 rw [e1, e2]
end Go.Proofs.YtkkbngcgphlikaaGreatDoor
end
section
namespace Go.Proofs.YtkkbngcgphlikaaGreatDoor
open Go.RowKit Go.ChangeShapes Go.WideShapes Go.Deep
theorem bools_open {H : Type} {enc : TypeId × Value → H} {W : World} {ad : Option Addr} {len cap : Nat} {d : DataW H} {p : List MemPlace}
 (h : DataW.Trod enc Tryz.prog W 0 (fun _ => true) true 28 (.slice ad len cap) d p) : ∃ l : List Bool, (l.length ≤ 9223372036854775807 ∧ ∀ b ∈ l, True) ∧ EL 1 boE W (.slice ad len cap) l := by
 refine els_open (Ok := fun _ => True) Tryz.underlying28 (by kernel_rfl) (by decide) (fun fuel cs x hl hx => ?_) h
 obtain ⟨b, rfl, _⟩ := DataW.trod_bool Tryz.underlying4 hx
 exact ⟨b, trivial, rfl⟩
abbrev Wx := (Value × Value × Value × Value × Value) × Wk
def WkOk (W : World) (g : Wx) : Prop := WkM W g.1.1 g.1.2.1 g.1.2.2.1 g.1.2.2.2.1 g.1.2.2.2.2 g.2 ∧ WkB g.2
def wxV (g : Wx) : Value := .agg #[g.1.1, g.1.2.1, g.1.2.2.1, g.1.2.2.2.1, g.1.2.2.2.2]
theorem work_open {H : Type} {enc : TypeId × Value → H} {W : World} {r : Reach} {b1 : Nat} {v : Value} {d : DataW H} {p : List MemPlace} (hv : Value.okWide Tryz.prog W r b1 31 v) (h : DataW.Trod enc Tryz.prog W 0 (fun _ => true) true 31 v d p) :
 ∃ g : Wx, WkOk W g ∧ v = wxV g := by
 obtain ⟨cs, rfl, hsz⟩ := okWide_struct Tryz.underlying31 hv
 obtain ⟨fuel, h⟩ := h
 rw [show Tryz.prog.cellsOf 31 = 5 by kernel_rfl] at hsz
 obtain ⟨xs, n, _, _, _, hxl, hf⟩ := DataW.trod_struct Tryz.underlying31 h
 have hl : (Value.agg cs).cells.toList.length = 5 := by simpa [Value.cells] using hsz
 have hcs : (Value.agg cs).cells.toList = cs.toList := rfl
 rw [hcs] at hf hl
 obtain ⟨ls, hls⟩ : ∃ ls, cs.toList = ls := ⟨_, rfl⟩
 rw [hls] at hf hl
 match xs, hxl, ls, hl, hls with
 | [y0, y1, y2, y3, y4], _, [u0, u1, u2, u3, u4], _, hls =>
   have g0 : DataW.trod enc Tryz.prog W 0 (fun _ => true) true n 23 ((([u0, u1, u2, u3, u4] : List Value).drop 0).take (Tryz.prog.cellsOf 23)) = some y0 := hf 0 _ rfl
   rw [show Tryz.prog.cellsOf 23 = 1 by kernel_rfl] at g0
   have g1 : DataW.trod enc Tryz.prog W 0 (fun _ => true) true n 23 ((([u0, u1, u2, u3, u4] : List Value).drop 1).take (Tryz.prog.cellsOf 23)) = some y1 := hf 1 _ rfl
   rw [show Tryz.prog.cellsOf 23 = 1 by kernel_rfl] at g1
   have g2 : DataW.trod enc Tryz.prog W 0 (fun _ => true) true n 25 ((([u0, u1, u2, u3, u4] : List Value).drop 2).take (Tryz.prog.cellsOf 25)) = some y2 := hf 2 _ rfl
   rw [show Tryz.prog.cellsOf 25 = 1 by kernel_rfl] at g2
   have g3 : DataW.trod enc Tryz.prog W 0 (fun _ => true) true n 28 ((([u0, u1, u2, u3, u4] : List Value).drop 3).take (Tryz.prog.cellsOf 28)) = some y3 := hf 3 _ rfl
   rw [show Tryz.prog.cellsOf 28 = 1 by kernel_rfl] at g3
   have g4 : DataW.trod enc Tryz.prog W 0 (fun _ => true) true n 29 ((([u0, u1, u2, u3, u4] : List Value).drop 4).take (Tryz.prog.cellsOf 29)) = some y4 := hf 4 _ rfl
   rw [show Tryz.prog.cellsOf 29 = 1 by kernel_rfl] at g4
   obtain ⟨A0, l0, c0, rfl, T0⟩ := sl_cell Tryz.underlying23 g0
   obtain ⟨A1, l1, c1, rfl, T1⟩ := sl_cell Tryz.underlying23 g1
   obtain ⟨A2, l2, c2, rfl, T2⟩ := sl_cell Tryz.underlying25 g2
   obtain ⟨A3, l3, c3, rfl, T3⟩ := sl_cell Tryz.underlying28 g3
   obtain ⟨A4, l4, c4, rfl, T4⟩ := sl_cell Tryz.underlying29 g4
   obtain ⟨la, ha, ka⟩ := bytes_open9 Tryz.underlying23 Tryz.underlying5 (by kernel_rfl) T0
   obtain ⟨lm, hm, km⟩ := bytes_open9 Tryz.underlying23 Tryz.underlying5 (by kernel_rfl) T1
   obtain ⟨lv, hv2, kv⟩ := wordsK_open Tryz.underlying25 Tryz.underlying40 (by kernel_rfl) T2
   obtain ⟨le, _, ke⟩ := bools_open T3
   obtain ⟨lo, ho, ko⟩ := ops_open T4
   refine ⟨((.slice A0 l0 c0, .slice A1 l1 c1, .slice A2 l2 c2, .slice A3 l3 c3, .slice A4 l4 c4), ⟨la, lm, lv, le, lo⟩), ⟨⟨ka, km, kv, ke, ko⟩, ⟨ha, hm, hv2, ho.ov, fun x hx => ?_⟩⟩, ?_⟩
   ·have h1 := ho.2 x hx
    unfold OB at h1
    omega
   show Value.agg cs = Value.agg _
   congr 1
   rw [← Array.toList_inj, hls]
theorem laid_tail {P : Program} {x : String × DataW Unit} {r : List (String × DataW Unit)} {w : World} (h : laidMet P (x :: r) w) : laidMet P r w := by
 obtain ⟨ps, hv, hnd, hrows⟩ := h
 obtain ⟨n, d⟩ := x
 obtain ⟨g, t, cs, fuel, p, q, _, _, _, _, hq, rfl⟩ := hv
 exact ⟨q, hq, List.Nodup.sublist (List.sublist_append_right _ _) hnd, fun b off hm => hrows b off (List.mem_append_right _ hm)⟩
end Go.Proofs.YtkkbngcgphlikaaGreatDoor
end
