/-
  Package index: a whole chunk is put; DropLog.
-/
import Derived.Test.YtnjifmecaeagaaaDoorQIx6
set_option linter.unusedVariables false
set_option linter.unusedSimpArgs false
namespace Go.Proofs.YtnjifmecaeagaaaDoor
open Go.Lib Go.RowKit Go.ChangeShapes Go.WideShapes Go.Deep

theorem setL_put (S : List St) (i : Nat) (s : St) (h : i < S.length) : setL (S.flatMap eS) (i * 7) (eS s) = (S.set i s).flatMap eS := by
  apply List.ext_getElem?
  intro p
  have hS : (S.flatMap eS).length = S.length * 7 := fm_len eS_len S
  have hF : ((S.set i s).flatMap eS).length = S.length * 7 := by rw [fm_len eS_len, List.length_set]
  rw [setL_at _ _ _ _ (by rw [eS_len, hS]; omega), eS_len]
  by_cases hp : p < S.length * 7
  · have h7 : p % 7 < 7 := Nat.mod_lt _ (by omega)
    have hr := fm_at eS_len (S.set i s) (p / 7) (p % 7) (by rw [List.length_set]; omega) h7
    rw [show p / 7 * 7 + p % 7 = p by omega, getD_set] at hr
    rw [hr]
    by_cases q : i * 7 ≤ p ∧ p < i * 7 + 7
    · rw [if_pos q, if_pos ⟨by omega, h⟩, show p - i * 7 = p % 7 by omega]
    · rw [if_neg q, if_neg (by omega)]
      have h2 := fm_at eS_len S (p / 7) (p % 7) (by omega) h7
      rw [show p / 7 * 7 + p % 7 = p by omega] at h2
      exact h2
  · rw [if_neg (by omega), List.getElem?_eq_none (by rw [hS]; omega), List.getElem?_eq_none (by rw [hF]; omega)]
/-- a whole chunk is put -/
theorem IxAt.put {w : World} {base B g nn cap : Nat} {S : List St} (h : IxAt w base B (.slice (some ⟨g, 0, none⟩) nn cap) S) (hn : S.length = nn) {i : Nat} (hi : i < nn) (s : St) :
    IxAt (w.setCells g (i * 7) (eS s)) base B (.slice (some ⟨g, 0, none⟩) nn cap) (S.set i s) ∧ Chg (fun k => k = g) w (w.setCells g (i * 7) (eS s)) := by
  obtain ⟨k1, k2⟩ := stored_list (eS s) (S.flatMap eS) (i * 7) w (by have := h.row; unfold SKO OwnE at this; rw [hn] at this; exact this)
  refine ⟨⟨(k2.block B h.box.lt (fun q => h.ne g rfl q.symm)).trans h.box, ?_, h.lo⟩, k2⟩
  unfold SKO OwnE
  rw [List.length_set, hn, ← setL_put S i s (by omega)]
  exact k1
def dropLogS (S : List St) (i : Int) : Bool × List St := if 0 ≤ i ∧ i < S.length ∧ kN (gS S i.toNat).1 = 4 then (true, S.set i.toNat (0, 0, 0)) else (false, S)
set_option maxRecDepth 10000 in
set_option maxHeartbeats 1000000 in
theorem dropLog_out {w : World} {base B : Nat} {v : Value} {S : List St} (hI : IxAt w base B v S) (i : Int) (h : ¬ (0 ≤ i ∧ i < S.length)) :
    Calls Tryd.prog 49 #[.pointer (some ⟨B, 0, none⟩), .int .i64 i] w fun e w' => e = .returned (.bool false) ∧ Below w.heap.size w w' := by
  have xB := hI.box.cell
  obtain ⟨nn, hnn⟩ : ∃ n, S.length = n := ⟨_, rfl⟩
  obtain ⟨A, cap, rfl, _⟩ := SKL.form (hI.row.el eS_len) hnn
  rw [hnn] at h
  have hA := Below.refl w.heap.size w
  clear hI hnn
  by_cases h0 : i < 0
  · have d0 : decide (i < 0) = true := decide_eq_true h0
    clear h
    go_enter Tryd.func49, Tryd.ntmps49
    go_wp2_with fail
    go_ret
    exact ⟨rfl, hA⟩
  · have h1 : (nn : Int) ≤ i := by omega
    have d0 : decide (i < 0) = false := decide_eq_false h0
    have d1 : decide ((nn : Int) ≤ i) = true := decide_eq_true h1
    clear h
    go_enter Tryd.func49, Tryd.ntmps49
    go_wp2_with fail
    go_ret
    exact ⟨rfl, hA⟩
set_option maxRecDepth 10000 in
set_option maxHeartbeats 1000000 in
theorem dropLog_in {w : World} {base B : Nat} {v : Value} {S : List St} (hI : IxAt w base B v S) (i : Nat) (h : i < S.length) (hl : S.length ≤ 10000) :
    Calls Tryd.prog 49 #[.pointer (some ⟨B, 0, none⟩), .int .i64 (i : Nat)] w fun e w' => e = .returned (.bool (decide (kN (gS S i).1 = 4))) ∧ IxAt w' base B v (if kN (gS S i).1 = 4 then S.set i (0, 0, 0) else S) ∧ Chg (fun k => v.ownBlock = some k) w w' := by
  have xB := hI.box.cell
  obtain ⟨nn, hnn⟩ : ∃ n, S.length = n := ⟨_, rfl⟩
  obtain ⟨g, cap, rfl, _, hgl, hcap⟩ := hI.row.form (by omega)
  rw [hnn] at h hl hI hcap xB ⊢
  have hA := Below.refl w.heap.size w
  have hc0 := (OwnE.cell eS_len hI.row hnn (i := i) (j := 0) h (by omega)).1
  obtain ⟨hP, hCP⟩ := IxAt.put hI hnn h (0, 0, 0)
  have hfz := fun j (hj : j < 7) => OwnE.cell eS_len hI.row hnn (i := i) (j := j) h hj
  generalize hs : gS S i = s at *
  rw [show S.getD i default = s from hs] at hc0
  obtain ⟨x, lv, tk⟩ := s
  replace hc0 : w.cell? ⟨g, i * 7, none⟩ = some (.int .i64 (kN x : Nat)) := hc0
  have i1 : decide (((i : Nat) : Int) < 0) = false := decide_eq_false (by omega)
  have i2 : decide ((nn : Int) ≤ ((i : Nat) : Int)) = false := decide_eq_false (by omega)
  have i3 : decide (nn ≤ i) = false := decide_eq_false (by omega)
  have i4 : ((i : Nat) : Int) < (nn : Int) := by omega
  simp only []
  obtain ⟨c0, z0⟩ := hfz 0 (by omega)
  obtain ⟨c1, z1⟩ := hfz 1 (by omega)
  obtain ⟨c2, z2⟩ := hfz 2 (by omega)
  obtain ⟨c3, z3⟩ := hfz 3 (by omega)
  obtain ⟨c4, z4⟩ := hfz 4 (by omega)
  obtain ⟨c5, z5⟩ := hfz 5 (by omega)
  obtain ⟨c6, z6⟩ := hfz 6 (by omega)
  rw [show S.getD i default = (x, lv, tk) from hs] at c0 c1 c2 c3 c4 c5 c6
  replace c0 : w.cell? ⟨g, i * 7, none⟩ = some (.int .i64 (kN x : Nat)) := c0
  replace c1 : w.cell? ⟨g, i * 7 + 1, none⟩ = some (.int .i64 (cN x : Nat)) := c1
  replace c2 : w.cell? ⟨g, i * 7 + 2, none⟩ = some (.int .i64 (lnN x : Nat)) := c2
  replace c3 : w.cell? ⟨g, i * 7 + 3, none⟩ = some (.int .i64 (mN x : Nat)) := c3
  replace c4 : w.cell? ⟨g, i * 7 + 4, none⟩ = some (.int .u64 (bN x : Nat)) := c4
  replace c5 : w.cell? ⟨g, i * 7 + 5, none⟩ = some (.int .u64 (lv : Nat)) := c5
  replace c6 : w.cell? ⟨g, i * 7 + 6, none⟩ = some (.int .u64 (tk : Nat)) := c6
  rw [Nat.add_zero] at z0
  clear hfz hc0
  by_cases k4 : kN x = 4
  · have t1 : (((kN x : Nat) : Int) != 4) = false := by rw [bne_eq_false_iff_eq]; omega
    rw [decide_eq_true k4, if_pos k4]
    clear k4 hs
    go_enter Tryd.func49, Tryd.ntmps49
    go_wp2_with fail
    go_ret
    refine ⟨rfl, ?_, ?_⟩
    · exact hP
    · exact (Chg.refl (fun k => Value.ownBlock (.slice (some ⟨g, 0, none⟩) nn cap) = some k) w).trans hCP (fun j q => .inl (by rw [q]; rfl))
  · have t1 : (((kN x : Nat) : Int) != 4) = true := by rw [bne_iff_ne]; omega
    rw [decide_eq_false k4, if_neg k4]
    clear k4 hs hP hCP
    go_enter Tryd.func49, Tryd.ntmps49
    go_wp2_with fail
    go_ret
    exact ⟨rfl, ⟨hI.box, hI.row, hI.lo⟩, Chg.of_below _ hA⟩
theorem dropLog_any {w : World} {base B : Nat} {v : Value} {S : List St} (hI : IxAt w base B v S) (i : Int) (hl : S.length ≤ 10000) :
    Calls Tryd.prog 49 #[.pointer (some ⟨B, 0, none⟩), .int .i64 i] w fun e w' => e = .returned (.bool (dropLogS S i).1) ∧ IxAt w' base B v (dropLogS S i).2 ∧ Chg (fun k => v.ownBlock = some k) w w' := by
  unfold dropLogS
  by_cases h : 0 ≤ i ∧ i < S.length
  · obtain ⟨i, rfl⟩ : ∃ j : Nat, i = (j : Int) := ⟨i.toNat, by omega⟩
    have hd := dropLog_in hI i (by omega) hl
    rw [Int.toNat_natCast]
    by_cases k4 : kN (gS S i).1 = 4
    · rw [if_pos ⟨h.1, h.2, k4⟩]
      rw [decide_eq_true k4, if_pos k4] at hd
      exact hd
    · rw [if_neg (fun q => k4 q.2.2)]
      rw [decide_eq_false k4, if_neg k4] at hd
      exact hd
  · rw [if_neg (fun q => h ⟨q.1, q.2.1⟩)]
    refine (dropLog_out hI i h).mono ?_
    rintro e w2 ⟨rfl, hb⟩
    exact ⟨rfl, hI.keep hb, Chg.of_below _ hb⟩
end Go.Proofs.YtnjifmecaeagaaaDoor
