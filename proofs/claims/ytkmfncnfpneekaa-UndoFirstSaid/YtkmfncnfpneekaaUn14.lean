/-
  Package undo: what is encoded is decoded; the chapter's example.
-/
import Derived.Test.YtkmfncnfpneekaaUn10
set_option linter.unusedVariables false
set_option linter.unusedSimpArgs false
namespace Go.Proofs.Ytkmfncnfpneekaa
open Go.RowKit Go.ChangeShapes Go.WideShapes Go.Deep

def encP (gn : Nat) (x : Pe) : List Nat := encW gn x.1.toNat x.2
/-- entries encoded one behind the other -/
def encAll (gn : Nat) (l : List Pe) : List Nat := l.flatMap (encP gn)
def rightP (x : Pe) : Bool := canB x.1 x.2.length
theorem encP_len (gn : Nat) (x : Pe) : (encP gn x).length = x.2.length + 2 := by unfold encP encW; simp
theorem firstW_at {gn a m : Nat} (ha : a < 1048576) (hm : m < 65536) : firstW gn a m % 1048576 = a ∧ firstW gn a m / 1048576 % 65536 = m := by
  unfold firstW
  generalize gn % 65536 = q
  omega
theorem firstW_gen {gn o a m : Nat} (ha : a < 1048576) (hm : m < 65536) : firstW gn a m = firstW o a m ↔ gn % 65536 = o % 65536 := by
  unfold firstW
  generalize gn % 65536 = q
  generalize o % 65536 = r
  omega
theorem right_nat {x : Pe} (h : rightP x = true) : ∃ a : Nat, x.1 = (a : Int) ∧ a < 65536 ∧ 1 ≤ x.2.length ∧ x.2.length ≤ 4096 := by
  obtain ⟨h1, h2, h3, h4⟩ := canB_iff.1 h
  obtain ⟨a, ha⟩ := Int.eq_ofNat_of_zero_le h1
  exact ⟨a, ha, by omega, by omega, by omega⟩
theorem enc_at {gn : Nat} {x : Pe} (h : rightP x = true) (rest : List Nat) : ((atN (encP gn x ++ rest) : Nat) : Int) = x.1 ∧ manyN (encP gn x ++ rest) = x.2.length ∧ (encP gn x ++ rest).getD 0 0 = firstW gn x.1.toNat x.2.length := by
  obtain ⟨a, ha, h1, h2, h3⟩ := right_nat h
  obtain ⟨p, q⟩ := firstW_at (gn := gn) (a := a) (m := x.2.length) (by omega) (by omega)
  have e : (encP gn x ++ rest).getD 0 0 = firstW gn a x.2.length := by unfold encP encW; rw [ha]; rfl
  unfold atN manyN
  rw [e, p, q, ha]
  exact ⟨rfl, rfl, rfl⟩
theorem enc_parts {gn : Nat} {x : Pe} (rest : List Nat) : ((encP gn x ++ rest).drop 1).take x.2.length = x.2 ∧ (encP gn x ++ rest).drop (x.2.length + 2) = rest ∧ (encP gn x ++ rest).take (x.2.length + 1) = firstW gn x.1.toNat x.2.length :: x.2 ∧ (encP gn x ++ rest).getD (x.2.length + 1) 0 = moreN 0 (firstW gn x.1.toNat x.2.length :: x.2) := by
  refine ⟨?_, ?_, ?_, ?_⟩
  · unfold encP encW
    simp
  · rw [List.drop_append_of_le_length (by rw [encP_len]; exact Nat.le_refl _), List.drop_of_length_le (by rw [encP_len]; exact Nat.le_refl _), List.nil_append]
  · unfold encP encW
    simp
  · unfold encP encW
    rw [List.getD_eq_getElem?_getD]
    simp
theorem enc_tk {gn o : Nat} {x : Pe} (h : rightP x = true) (rest : List Nat) : tkB o (encP gn x ++ rest) = decide (gn % 65536 = o % 65536) := by
  obtain ⟨e1, e2, e3⟩ := enc_at (gn := gn) h rest
  obtain ⟨p1, p2, p3, p4⟩ := enc_parts (gn := gn) (x := x) rest
  obtain ⟨a, ha, h1, h2, h3⟩ := right_nat h
  unfold tkB
  have hl : x.2.length + 2 ≤ (encP gn x ++ rest).length := by rw [List.length_append, encP_len]; omega
  have ea : atN (encP gn x ++ rest) = a := by rw [ha] at e1; omega
  have hr : canB ((a : Nat) : Int) (x.2.length : Nat) = true := by rw [← ha]; exact h
  rw [e2, p3, p4, decide_eq_true hl, ea, hr, e3, ha, Int.toNat_natCast]
  simp only [Bool.true_and, Bool.and_true, decide_true]
  refine decide_eq_decide.2 ?_
  rw [firstW_gen (by omega) (by omega)]
  exact ⟨fun q => q.symm, fun q => q.symm⟩
theorem enc_pe {gn : Nat} {x : Pe} (h : rightP x = true) (rest : List Nat) : peN (encP gn x ++ rest) = x := by
  obtain ⟨e1, e2, e3⟩ := enc_at (gn := gn) h rest
  obtain ⟨p1, _⟩ := enc_parts (gn := gn) (x := x) rest
  unfold peN
  rw [e1, e2, p1]
theorem evs_enc {gn o : Nat} {x : Pe} (h : rightP x = true) (hg : gn % 65536 = o % 65536) (rest : List Nat) : evs o (encP gn x ++ rest) = some x :: evs o rest := by
  rw [evs_t (by rw [List.length_append, encP_len]; omega) (by rw [enc_tk h, decide_eq_true hg]), enc_pe h, (enc_at h rest).2.1, (enc_parts rest).2.1]
theorem evs_encAll {gn o : Nat} (hg : gn % 65536 = o % 65536) : ∀ (l : List Pe), (∀ x ∈ l, rightP x = true) → evs o (encAll gn l) = l.map some
  | [], _ => rfl
  | x :: l, h => by
    show evs o (encP gn x ++ encAll gn l) = _
    rw [evs_enc (h x (by simp)) hg, evs_encAll hg l (fun y hy => h y (by simp [hy]))]
    rfl
theorem decL_of_evs {gn : Nat} {ws : List Nat} {xs : List Pe} (h : evs gn ws = xs.map some) : decL gn ws = some xs := by
  unfold decL
  rw [h, if_neg (by simp)]
  rw [List.filterMap_map]
  congr 1
  exact List.filterMap_some
/-- entries, encoded one behind the other, are decoded as they were -/
theorem decL_enc {gn o : Nat} (hg : gn % 65536 = o % 65536) {l : List Pe} (h : ∀ x ∈ l, rightP x = true) : decL o (encAll gn l) = some l := decL_of_evs (evs_encAll hg l h)
/-- of another generation they aren't -/
theorem decL_other {gn o : Nat} (hg : ¬ gn % 65536 = o % 65536) {l : List Pe} (h : ∀ x ∈ l, rightP x = true) (h0 : 0 < l.length) : decL o (encAll gn l) = none := by
  cases l with
  | nil => simp at h0
  | cons x l =>
    unfold decL
    rw [if_pos]
    show none ∈ evs o (encP gn x ++ encAll gn l)
    rw [evs_f (by rw [List.length_append, encP_len]; omega) (by rw [enc_tk (h x (by simp)), decide_eq_false hg])]
    simp
/-- nor are these words without their last one -/
theorem decL_cut {gn : Nat} : ∀ {l : List Pe}, (∀ x ∈ l, rightP x = true) → 0 < l.length → none ∈ evs gn ((encAll gn l).take ((encAll gn l).length - 1))
  | [], _, h0 => by simp at h0
  | [x], h, _ => by
    obtain ⟨a, ha, h1, h2, h3⟩ := right_nat (h x (by simp))
    have e : encAll gn [x] = encP gn x ++ [] := by unfold encAll; simp
    rw [e]
    obtain ⟨e1, e2, e3⟩ := enc_at (gn := gn) (h x (by simp)) []
    have hl : (encP gn x ++ []).length = x.2.length + 2 := by rw [List.append_nil, encP_len]
    generalize encP gn x ++ [] = ws at *
    rw [hl, show x.2.length + 2 - 1 = x.2.length + 1 from rfl]
    have hm : manyN (ws.take (x.2.length + 1)) = x.2.length := by
      rw [← e2]
      unfold manyN
      rw [getD_take ws _ 0 (by omega)]
    have hl2 : (ws.take (x.2.length + 1)).length = x.2.length + 1 := by rw [List.length_take]; omega
    rw [evs_f (by omega)]
    · simp
    · unfold tkB
      have hf : decide (x.2.length + 2 ≤ x.2.length + 1) = false := decide_eq_false (by omega)
      rw [hm, hl2, hf]
      simp
  | x :: y :: l, h, _ => by
    have e : encAll gn (x :: y :: l) = encP gn x ++ encAll gn (y :: l) := rfl
    have hp : 0 < (encAll gn (y :: l)).length := by
      show 0 < (encP gn y ++ encAll gn l).length
      rw [List.length_append, encP_len]; omega
    rw [e, List.length_append, show (encP gn x).length + (encAll gn (y :: l)).length - 1 = (encP gn x).length + ((encAll gn (y :: l)).length - 1) from by omega, List.take_length_add_append, evs_enc (h x (by simp)) rfl]
    exact List.mem_cons_of_mem _ (decL_cut (fun z hz => h z (List.mem_cons_of_mem _ hz)) (by simp))
theorem decL_short {gn : Nat} {l : List Pe} (h : ∀ x ∈ l, rightP x = true) (h0 : 0 < l.length) : decL gn ((encAll gn l).take ((encAll gn l).length - 1)) = none := by
  unfold decL
  rw [if_pos (decL_cut h h0)]
theorem encP_WL {gn : Nat} {x : Pe} (h : rightP x = true) (hx : WL x.2) : WL (encP gn x) := by
  obtain ⟨a, ha, h1, h2, h3⟩ := right_nat h
  intro y hy
  unfold encP encW at hy
  rw [ha, Int.toNat_natCast] at hy
  have := firstW_lt gn a x.2.length (by omega) (by omega)
  have := moreN_lt 0 (firstW gn a x.2.length :: x.2)
  simp only [List.cons_append, List.mem_cons, List.mem_append, List.not_mem_nil, or_false] at hy
  rcases hy with rfl | hy | rfl
  · assumption
  · exact hx y hy
  · omega
theorem EN.one {w : World} {a : Int} {A : Option Addr} {m c : Nat} {os : List Nat} (h : KL .u64 w (.slice A m c) os) : EN (w.alloc (.cells #[.int .i64 a, .slice A m c] (25 : Nat))) (.slice (some ⟨w.heap.size, 0, none⟩) 1 1) [(a, os)] :=
  ⟨[(a, .slice A m c, os)], (OwnE.lit 25 eS_len w [((a, .slice A m c, os) : Ex)] _ rfl (by simp)).el eS_len, fun x hx => by
    rw [List.mem_singleton] at hx
    subst hx
    exact h.keep ((Below.refl _ _).alloc (Nat.le_refl _) _), rfl⟩
set_option maxRecDepth 10000 in
set_option maxHeartbeats 2000000 in
theorem awake13 (w : World) : Calls Try.prog 10 #[] w fun e w' => e = .returned (.bool true) ∧ Below w.heap.size w w' := by
  have hK0 := KL.lit w [7, 8] (by simp)
  obtain ⟨w0, hw0⟩ : ∃ w0, w0 = w.alloc (.cells #[.int .u64 7, .int .u64 8] (22 : Nat)) := ⟨_, rfl⟩
  have hb0 : Below w.heap.size w w0 := by rw [hw0]; exact (Below.refl _ _).alloc (Nat.le_refl _) _
  replace hK0 : KL .u64 w0 (.slice (some ⟨w.heap.size, 0, none⟩) 2 2) [7, 8] := by rw [hw0]; exact hK0
  have hs0 : w0.heap.size = w.heap.size + 1 := by rw [hw0]; simp
  have hX0 := Bk.new w0 (.int .i64 5) (.slice (some ⟨w.heap.size, 0, none⟩) 2 2)
  have hb1 : Below w0.heap.size w0 (w0.alloc (.cells #[.int .i64 5, .slice (some ⟨w.heap.size, 0, none⟩) 2 2] 25)) := (Below.refl _ _).alloc (Nat.le_refl _) _
  have hK1 := hK0.keep hb1
  have hE1 := Encode_yes 3 (5, .slice (some ⟨w.heap.size, 0, none⟩) 2 2, [7, 8]) _ (by omega) hK1 (fun y hy => by simp at hy; omega) (by simp) rfl
  have hWe : Hid (WL (encP 3 (5, [7, 8]))) := encP_WL rfl (fun y hy => by simp at hy; omega)
  have hdl : Hid (decL 3 (encP 3 (5, [7, 8])) = some [(5, [7, 8])]) := by
    have := decL_enc (gn := 3) (o := 3) rfl (l := [(5, [7, 8])]) (fun x hx => by rw [List.mem_singleton] at hx; subst hx; rfl)
    rwa [show encAll 3 [(5, [7, 8])] = encP 3 (5, [7, 8]) from by unfold encAll; simp] at this
  have hel : Hid ((encP 3 (5, [7, 8])).length = 4) := encP_len _ _
  have hg0 : Hid ((encP 3 (5, [7, 8])).getD 0 0 = 844424932229125) := rfl
  have hg2 : Hid ((encP 3 (5, [7, 8])).getD 2 0 = 8) := rfl
  replace hE1 : Calls _ _ _ _ (fun e w' => ∃ v, e = .returned (.tuple #[v, .int .i64 0]) ∧ KL .u64 w' v (encP 3 (5, [7, 8])) ∧ Below _ _ w') := hE1
  simp only [eV, eE] at hE1
  have hbl : backL [0, 0, 0, 0, 0, 0, 0] [(5, [7, 8])] = [0, 0, 0, 0, 0, 7, 8] := by decide
  replace hbl := Lib.hid hbl
  generalize encP 3 (5, [7, 8]) = en at *
  have hs1 : (w0.alloc (.cells #[.int .i64 5, .slice (some ⟨w.heap.size, 0, none⟩) 2 2] 25)).heap.size = w.heap.size + 2 := by simp [hs0]
  have hbA := hb0.trans (hb1.mono hb0.size)
  have hs2 : ∀ w2 : World, ((w2.alloc (.cells #[.int .u64 0, .int .u64 0, .int .u64 0, .int .u64 0, .int .u64 0, .int .u64 0, .int .u64 0] (22 : Nat))).alloc (.cells #[.int .i64 5, .slice (some ⟨w.heap.size, 0, none⟩) 2 2] 25)).heap.size = w2.heap.size + 2 := fun w2 => by simp
  replace hs2 := Lib.hid hs2
  rw [hs0] at hX0
  subst hw0
  obtain ⟨x0, x1⟩ := hX0.c2
  go_enter Try.func10, Try.ntmps10
  go_wp2_with (first
    | (go_at_call 11; refine hE1.mono ?_; rintro e w1 ⟨v1, rfl, hKe, hbE⟩
       have hX1 := hX0.keep hbE
       have hb2 := hbA.trans (hbE.mono hbA.size)
       have hK2 := hK1.keep hbE
       have hDc := Decode_any 3 v1 en w1 (by omega) hWe.out (by rw [hel.out]; omega) hKe
       rw [hdl.out] at hDc
       simp only [Option.isSome_some, Option.getD_some] at hDc
       obtain ⟨A1, c1, hv1, hC1⟩ := hKe.form hel.out
       subst hv1
       obtain ⟨g1, o1, rfl, hc1, _, d0⟩ := hC1 w1 0 (Below.refl _ _) (by omega)
       have hC1h := Lib.hid hC1
       rw [hg0.out] at d0
       obtain ⟨x0, x1⟩ := hX1.c2
       clear hE1 hX0 hK1 hbA hbE hKe hC1)
    | (go_at_call 16; refine hDc.mono ?_; rintro e w2 ⟨v2, rfl, hE2, hbD⟩
       have hX2 := hX1.keep hbD
       have hb3 := hb2.trans (hbD.mono hb2.size)
       have hK3 := hK2.keep hbD
       have hbZ : Below w2.heap.size w2 (w2.alloc (.cells #[.int .u64 0, .int .u64 0, .int .u64 0, .int .u64 0, .int .u64 0, .int .u64 0, .int .u64 0] (22 : Nat))) := (Below.refl _ _).alloc (Nat.le_refl _) _
       have hKz := KL.lit w2 [0, 0, 0, 0, 0, 0, 0] (by simp)
       replace hKz : KL .u64 (w2.alloc (.cells #[.int .u64 0, .int .u64 0, .int .u64 0, .int .u64 0, .int .u64 0, .int .u64 0, .int .u64 0] (22 : Nat))) (.slice (some ⟨w2.heap.size, 0, none⟩) 7 7) [0, 0, 0, 0, 0, 0, 0] := hKz
       have hN3 := EN.one (a := 5) (hK3.keep hbZ)
       have hbY : Below (w2.alloc (.cells #[.int .u64 0, .int .u64 0, .int .u64 0, .int .u64 0, .int .u64 0, .int .u64 0, .int .u64 0] (22 : Nat))).heap.size (w2.alloc (.cells #[.int .u64 0, .int .u64 0, .int .u64 0, .int .u64 0, .int .u64 0, .int .u64 0, .int .u64 0] (22 : Nat))) ((w2.alloc (.cells #[.int .u64 0, .int .u64 0, .int .u64 0, .int .u64 0, .int .u64 0, .int .u64 0, .int .u64 0] (22 : Nat))).alloc (.cells #[.int .i64 5, .slice (some ⟨w.heap.size, 0, none⟩) 2 2] 25)) := (Below.refl _ _).alloc (Nat.le_refl _) _
       have hbX := hbZ.trans (hbY.mono hbZ.size)
       have hBk := Back_any _ _ [0, 0, 0, 0, 0, 0, 0] [(5, [7, 8])] _ (hKz.keep hbY) (by simp) (by simp) hN3 (fun x hx => by rw [List.mem_singleton] at hx; subst hx; unfold Near; simp)
       rw [hbl.out] at hBk
       simp only [World.size_alloc] at hBk
       have hX3 := hX2.keep hbX
       have hb4 := hb3.trans (hbX.mono hb3.size)
       have hE3 := hE2.keep hbX
       have hK4 := hK3.keep hbX
       obtain ⟨g2, o2, e2, _, _, d0⟩ := hC1h.out w2 0 hbD (by omega)
       cases e2
       rw [hg0.out] at d0
       obtain ⟨g2, o2, e2, _, _, d2⟩ := hC1h.out w2 2 hbD (by omega)
       cases e2
       rw [hg2.out] at d2
       have hbDX := hbD.trans (hbX.mono hbD.size)
       obtain ⟨x0, x1⟩ := (hX2.keep hbZ).c2
       clear hDc hX1 hK2 hb2 hbD hE2 hK3 hbZ hKz hN3 hbY hb3 hbX hX2)
    | (go_at_call 20; refine hBk.mono ?_; rintro e w3 ⟨v3, rfl, hO3, hbB⟩
       rw [← World.size_alloc, ← World.size_alloc] at hbB
       have hX4 := hX3.keep hbB
       have hb5 := hb4.trans (hbB.mono hb4.size)
       have hE4 := hE3.keep hbB
       have hK5 := hK4.keep hbB
       obtain ⟨A3, c3, hv3, hA3⟩ := hO3.form
       replace hv3 : v3 = .slice A3 7 c3 := hv3
       subst hv3
       obtain ⟨g3, rfl, _, _⟩ := hA3 (by simp)
       have hO3h := Lib.hid hO3
       have d5 : w3.cell? ⟨g3, 5, none⟩ = some (.int .u64 7) := (hO3.cell (i := 5) rfl (by omega)).1
       have hbL : Below w3.heap.size w3 (w3.alloc (.cells #[.int .i64 5, .slice (some ⟨w.heap.size, 0, none⟩) 2 2] (25 : Nat))) := (Below.refl _ _).alloc (Nat.le_refl _) _
       have hN4 := EN.one (a := 5) hK5
       have hSm := same_any v2 _ [(5, [7, 8])] [(5, [7, 8])] _ (by simp) (fun x hx => by rw [List.mem_singleton] at hx; subst hx; simp) (hE4.keep hbL) hN4
       rw [decide_eq_true rfl] at hSm
       have hb6 := hb5.trans (hbL.mono hb5.size)
       have hX5 := hX4.keep hbL
       have hbF := hbDX.trans ((hbB.trans (hbL.mono hbB.size)).mono hbDX.size)
       have d0 := d0
       obtain ⟨g4, o4, e4, _, _, d0⟩ := hC1h.out w3 0 (hbDX.trans (hbB.mono hbDX.size)) (by omega)
       cases e4
       rw [hg0.out] at d0
       replace d0 : w3.cell? ⟨g1, o1, none⟩ = some (.int .u64 844424932229125) := d0
       obtain ⟨g4, o4, e4, _, _, d2⟩ := hC1h.out w3 2 (hbDX.trans (hbB.mono hbDX.size)) (by omega)
       cases e4
       rw [hg2.out] at d2
       replace d2 : w3.cell? ⟨g1, o1 + 2, none⟩ = some (.int .u64 8) := d2
       obtain ⟨x0, x1⟩ := hX4.c2
       clear hBk hX3 hb4 hbB hE3 hK4 hO3 hE4 hK5 hN4 hb5 hX4)
    | (go_at_call 18; refine hSm.mono ?_; rintro e w5 ⟨rfl, hbS⟩
       have hX6 := hX5.keep hbS
       have hb7 := hb6.trans (hbS.mono hb6.size)
       have d6 : w5.cell? ⟨g3, 5, none⟩ = some (.int .u64 7) := (((hO3h.out.keep hbL).keep hbS).cell (i := 5) rfl (by omega)).1
       have hSz := Size_f 5 (some ⟨w.heap.size, 0, none⟩) 2 2 w5 rfl
       obtain ⟨x0, x1⟩ := hX6.c2
       clear hSm hX5 hb6 hbS)
    | (go_at_call 15; refine hSz.mono ?_; rintro e w6 ⟨rfl, hbT⟩
       have hb8 := hb7.trans (hbT.mono hb7.size)
       clear hSz))
  go_ret
  exact ⟨rfl, hb8⟩
end Go.Proofs.Ytkmfncnfpneekaa
