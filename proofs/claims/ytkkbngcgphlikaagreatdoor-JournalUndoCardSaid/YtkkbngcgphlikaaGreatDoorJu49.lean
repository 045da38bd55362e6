/-
  Part of the proof of JournalUndo.
-/
import Derived.Test.YtkkbngcgphlikaaGreatDoorJu45
import Derived.Test.YtkkbngcgphlikaaGreatDoorJu48
import Derived.Test.YtkkbngcgphlikaaGreatDoorJu0
set_option linter.unusedVariables false
set_option linter.unusedSimpArgs false
section
namespace Go.Proofs.YtkkbngcgphlikaaGreatDoor
open Go.Lib Go.RowKit Go.ChangeShapes Go.WideShapes Go.Deep Go.Shelf
theorem logP_len9 {I : List Nat} {N L ln : Nat} (hg : gOk (N : Nat) (L : Nat) = true) : (logP I (N : Nat) (L : Nat) (ln : Nat)).length ≤ 1 + gNat N L := by
 unfold logP
 split
 rotate_left
 ·exact Nat.zero_le _
 rename_i hb
 unfold laneB at hb
 rw [Bool.and_eq_true] at hb
 obtain ⟨hp, h1, h2⟩ := readB_t hb.1
 rw [Int.toNat_natCast, Int.toNat_natCast]
 have e : I.length = N := by omega
 have h3 := logSp_len (I := I) (L := L) (ln := ln) (by rw [e]; exact hg)
 rw [e] at h3
 exact h3
theorem room_len9 (s : Dv) {N L G ln : Nat} (m : Nat) (hg : gOk (N : Nat) (L : Nat) = true) (hG : gNat N L = G) (hN : N ≤ 1000) : (roomJ s N L ln m).length ≤ 1 + G := by
 have h1 := logP_len9 (I := viewD s) (ln := ln) hg
 have h2 := (cut_pb ((curC (loadD s (10 + (ln : Int))) : Nat), ((m + 2 : Nat) : Int)) (logP_PB (I := viewD s) (ln := ln) hg hN).1).2
 unfold roomJ
 omega
theorem note_bd (s : Dv) {N L G ln : Nat} (m : Nat) (hg : gOk (N : Nat) (L : Nat) = true) (hG : gNat N L = G) (hN : N ≤ 500) (hG8 : G ≤ 8) : (roomJ s N L ln m).length * N ≤ 4500 := by
 have h := room_len9 s (ln := ln) m hg hG (by omega)
 exact Nat.le_trans (Nat.mul_le_mul (show (roomJ s N L ln m).length ≤ 9 by omega) hN) (by decide)
theorem lOk_of {N L ln : Nat} (hg : gOk (N : Nat) (L : Nat) = true) (h : ln < L) : lOk (N : Nat) (L : Nat) (ln : Nat) = true := by
 unfold lOk
 rw [hg]
 simp
 omega
theorem jNote_any (B : Nat) (F : Nat → Prop) (s : Dv) (N L G ln A m : Nat) (w : World) (hw : Lw w) (h : DvAt w B F s) (k0 : Nat) (hgJ : GoodJ s N k0) (hgk : gOk (N : Nat) (L : Nat) = true) (hln : ln < L) (hG : gNat N L = G) (hN : N ≤ 500) (hG8 : G ≤ 8) (hW : WD s) (hm1 : 1 ≤ m) (hm8 : m ≤ 6) (hA1 : 10 + 73 * L + G ≤ A) (hA2 : A + m ≤ 10 + 73 * L + G + 32 * G) (hk : k0 ≤ 90000) (hcm : CalmW (tabW (viewD s) ((viewD s).getD 3 0))) :
 Calls Tryz.prog 34 #[.pointer (some ⟨B, 0, none⟩), .agg #[.int .i64 (N : Nat), .int .i64 (L : Nat)], .int .i64 (ln : Nat), .agg #[.int .i64 (A : Nat), .int .i64 (m : Nat)]] w fun e w' => ∃ r : Int, e = .returned (.int .i64 r) ∧ Chg F w w' ∧ ((r = 0 ∧ noteOk s N L ln m ∧ DvAt w' B F (noteD s N L ln A m)) ∨ (¬ r = 0 ∧ ¬ noteOk s N L ln m ∧ DvAt w' B F s)) := by
 obtain ⟨z1, z2, z3, z4, z5, z6, z7, z8⟩ := pool_size hgk
 rw [hG] at z5 z6 z7 z8
 have hlk := lOk_of hgk hln
 have hxb := hW.load (10 + (ln : Int))
 have hGd := hgJ.good (by omega) (by omega) (by omega)
 have hWv := viewD_WL hW
 have h40 : poolB (viewD s) = true → LgN (viewD s) ((viewD s).getD 3 0) := fun _ => ⟨h40J (by rw [view_len, hgJ.len]; omega) _, hcm⟩
 have hi : ∀ a : Int, ((10 + 73 * L + G : Nat) : Int) ≤ a → a < ((10 + 73 * L + G + 32 * G : Nat) : Int) → inB N L a = true := fun a h1 h2 => by
  unfold inB cFrom
  rw [z5]
  exact decide_eq_true (by omega)
 have hi1 := hi (A : Nat) (by omega) (by omega)
 have hi2 := hi ((A : Nat) + (m : Nat) - 1) (by omega) (by omega)
 by_cases h1 : curS (loadD s (10 + (ln : Int))) = 1
 ·by_cases h2 : ((curC (loadD s (10 + (ln : Int))) + (m + 2) : Nat) : Int) ≤ totS (logP (viewD s) (N : Nat) (L : Nat) (ln : Nat)) ∧ curC (loadD s (10 + (ln : Int))) + (m + 2) ≤ 16383
  ·have hb := note_bd s (ln := ln) m hgk hG hN hG8
   refine (jNote_ok B F s N L ln A m w hw h k0 hgJ (by omega) (by omega) hlk hxb hWv h40 (by omega) hm1 (by omega) (by omega) hi1 hi2 h1 h2.1 h2.2 (by omega) (roomJ_PS s m hgk (by omega))).mono ?_
   rintro e w' ⟨rfl, hD, hc⟩
   exact ⟨0, rfl, hc, .inl ⟨rfl, ⟨h1, h2.1, h2.2⟩, hD⟩⟩
  refine (jNote_full B F s N L ln A m w hw h hGd hlk hxb hWv h40 (by omega) hm1 (by omega) (by omega) hi1 hi2 h1 (by omega)).mono ?_
  rintro e w' ⟨rfl, hb⟩
  exact ⟨3, rfl, Chg.of_below F hb, .inr ⟨by decide, fun q => h2 ⟨q.2.1, q.2.2⟩, h.keep hb⟩⟩
 refine (jNote_no B F s N L ln (A : Nat) (m : Nat) w h hGd hlk hxb h1).mono ?_
 rintro e w' ⟨rfl, hb⟩
 exact ⟨8, rfl, Chg.of_below F hb, .inr ⟨by decide, fun q => h1 q.1, h.keep hb⟩⟩
end Go.Proofs.YtkkbngcgphlikaaGreatDoor
end
section
namespace Go.Proofs.YtkkbngcgphlikaaGreatDoor
open Go.Lib Go.RowKit Go.ChangeShapes Go.WideShapes Go.Deep Go.Shelf
theorem logs_none {t : List Nat} (ho : t.all okN = true) (hc : calmT t = true) (ln : Int) : logsT t ln = [] := by
 unfold logsT
 rw [if_pos ho]
 unfold logsR
 refine List.flatMap_eq_nil_iff.2 (fun n hn => ?_)
 unfold logsN
 refine List.filter_eq_nil_iff.2 (fun i hi => ?_)
 intro h
 unfold isLog at h
 simp only [Bool.and_eq_true, decide_eq_true_eq] at h
 have hi2 := List.mem_range.1 hi
 have hx := List.all_eq_true.1 hc (t.getD i 0) (by rw [List.getD_eq_getElem?_getD, List.getElem?_eq_getElem hi2]; exact List.getElem_mem _)
 simp at hx
 simp at h
 omega
theorem stk_pool {s : Sk} {N L G : Nat} {R : List Bl} (h : StkP s (stockL s) N L G R) (hW : WL (stockL s)) : PoolX (stockL s) N L G ∧ ∀ ln : Int, logsT (tabW (stockL s) L) ln = [] := by
 obtain ⟨r1, r2⟩ := rightT_t h.right
 have hl := h.len
 have hG := h.gn
 have hn := h.hN
 have h1 := h.l3
 have h2 := h.g8
 have htl : (tabW (stockL s) L).length = G := by rw [tab_len (by rw [hl]; exact h.g), hl, hG]
 refine ⟨⟨hl, h.g, hG, hn, by omega, h.w3, h.ok, h.mks, fun p hp => ?_, hW⟩, fun ln => logs_none r1 h.calm ln⟩
 have e := tab_at (I := stockL s) (L := L) (i := p) (by rw [hl, hG]; exact hp)
 have hm : (tabW (stockL s) L).getD p 0 ∈ tabW (stockL s) L := by
  rw [List.getD_eq_getElem?_getD, List.getElem?_eq_getElem (by omega)]
  exact List.getElem_mem _
 rw [← e]
 refine ⟨List.all_eq_true.1 r1 _ hm, ?_⟩
 have hc := List.all_eq_true.1 h.calm _ hm
 intro q
 rw [q] at hc
 exact absurd hc (by decide)
theorem dv0_x (x : List Nat) : ∀ i, i < x.length → ∀ u, PV (dv0 x) i u → u = x.getD i 0 := fun i _ u hu => by
 rcases hu with q | q | q
 ·exact q
 ·cases q
 ·cases q
end Go.Proofs.YtkkbngcgphlikaaGreatDoor
end
