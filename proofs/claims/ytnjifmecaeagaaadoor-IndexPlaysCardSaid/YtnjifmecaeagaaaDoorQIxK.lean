/-
  The document's DropLog and TakeLog.
-/
import Derived.Test.YtnjifmecaeagaaaDoorQI
import Derived.Test.YtnjifmecaeagaaaDoorQK
set_option linter.unusedVariables false
set_option linter.unusedSimpArgs false
namespace Go.Proofs.YtnjifmecaeagaaaDoor
open Go.Lib Go.RowKit Go.ChangeShapes Go.WideShapes Go.Deep
set_option maxRecDepth 10000 in
set_option maxHeartbeats 1000000 in
theorem ddropLog_any {w : World} {base B : Nat} {v : Value} {S : List St} (hI : YAt w base B v S) (hl : S.length ≤ 10000) (i : Int) :
    Calls Tryd.prog 50 #[.pointer (some ⟨B, 0, none⟩), .int .i64 i] w fun e w' => e = .returned (.bool (dropLogS S i).1) ∧ YAt w' base B v (dropLogS S i).2 ∧ Chg (fun k => v.ownBlock = some k) w w' := by
  have xB := hI.box.cell
  obtain ⟨nn, hnn⟩ : ∃ n, S.length = n := ⟨_, rfl⟩
  have hRf := Chg.refl (fun k => v.ownBlock = some k) w
  by_cases h0 : 0 ≤ i ∧ i < nn
  · obtain ⟨j, rfl⟩ : ∃ j : Nat, i = (j : Int) := ⟨i.toNat, by omega⟩
    have hj : j < nn := by omega
    have t0 : decide ((j : Int) < 0) = false := decide_eq_false (by omega)
    have t1 : (j : Int) < (nn : Int) := by omega
    have t2 : decide ((nn : Int) ≤ (j : Int)) = false := decide_eq_false (by omega)
    obtain ⟨g, cap, rfl, _⟩ := hI.row.form (by omega)
    rw [hnn] at hI xB hRf ⊢
    obtain ⟨s, hs⟩ : ∃ s, gS S j = s := ⟨_, rfl⟩
    obtain ⟨x, lv, tk⟩ := s
    obtain ⟨c0, -⟩ := hI.at hnn hj hs
    by_cases k4 : kN x = 4
    · have hD : dropLogS S (j : Nat) = (true, S.set j (0, 0, 0)) := by
        unfold dropLogS
        rw [if_pos ⟨by omega, by omega, by rw [Int.toNat_natCast, hs]; exact k4⟩, Int.toNat_natCast]
      rw [hD]
      have q4 : ((kN x : Nat) : Int) = 4 := by omega
      rw [q4] at c0
      have hTh := Lib.hid (hI.there hnn hj)
      obtain ⟨hP, hCe⟩ := YAt.put hI hnn hj (0, 0, 0)
      rw [dS_zero] at hP hCe
      obtain ⟨W, hW⟩ : ∃ W, w.setCells g (j * 14) [.int .i64 0, .int .i64 0, .int .i64 0, .int .i64 0, .int .u64 0, .int .i64 0, .int .i64 0, .int .i64 0, .int .i64 0, .int .i64 0, .int .i64 0, .int .i64 0, .int .i64 0, .bool false] = W := ⟨_, rfl⟩
      rw [hW] at hP hCe
      replace hW := Lib.hid hW
      replace hP := Lib.hid hP
      replace hCe := Lib.hid hCe
      replace hnn := Lib.hid hnn
      clear hD hI hRf k4 q4 hs h0
      go_enter Tryd.func50, Tryd.ntmps50
      go_wp2_with (refine wpList_store_mid rfl _ _ _ rfl g (j * 14) #[.int .i64 0, .int .i64 0, .int .i64 0, .int .i64 0, .int .u64 0, .int .i64 0, .int .i64 0, .int .i64 0, .int .i64 0, .int .i64 0, .int .i64 0, .int .i64 0, .int .i64 0, .bool false] rfl rfl hTh.out infoD14 (oneD _ _ _ _ _ _ _ _ _ _ _ _ _ _) ?_; rw [show (w).setCells g (j * 14) (#[.int .i64 0, .int .i64 0, .int .i64 0, .int .i64 0, .int .u64 0, .int .i64 0, .int .i64 0, .int .i64 0, .int .i64 0, .int .i64 0, .int .i64 0, .int .i64 0, .int .i64 0, .bool false] : Array Value).toList = W from hW.out])
      go_ret
      exact ⟨rfl, hP.out, chgOwn hCe.out⟩
    · have hD : dropLogS S (j : Nat) = (false, S) := by
        unfold dropLogS
        rw [if_neg (fun q => k4 (by have := q.2.2; rw [Int.toNat_natCast, hs] at this; exact this))]
      rw [hD]
      have q4 : ¬ ((kN x : Nat) : Int) = 4 := by omega
      generalize ((kN x : Nat) : Int) = kx at *
      replace hnn := Lib.hid hnn
      have hI9 := Lib.hid hI
      clear hD k4 hs h0 hI
      go_enter Tryd.func50, Tryd.ntmps50
      go_wp2_with fail
      go_ret
      exact ⟨rfl, hI9.out, hRf⟩
  · have hD : dropLogS S i = (false, S) := by
      unfold dropLogS
      rw [if_neg (fun q => h0 ⟨q.1, by rw [← hnn]; exact q.2.1⟩)]
    rw [hD]
    obtain ⟨A, cap, rfl⟩ := hI.form hnn
    replace hnn := Lib.hid hnn
    have hI9 := Lib.hid hI
    by_cases h1 : i < 0
    · have t0 : decide (i < 0) = true := decide_eq_true h1
      clear h0 hI hD
      go_enter Tryd.func50, Tryd.ntmps50
      go_wp2_with fail
      go_ret
      exact ⟨rfl, hI9.out, hRf⟩
    · have t0 : decide (i < 0) = false := decide_eq_false h1
      have t1 : decide ((nn : Int) ≤ i) = true := decide_eq_true (by omega)
      have t2 : (nn : Int) ≤ i := by omega
      clear h0 hI hD
      go_enter Tryd.func50, Tryd.ntmps50
      go_wp2_with fail
      go_ret
      exact ⟨rfl, hI9.out, hRf⟩
set_option maxRecDepth 10000 in
set_option maxHeartbeats 1000000 in
theorem dtakeLog_no {w : World} (B : Nat) (ln nm : Int) (h : ¬ (0 ≤ ln ∧ ln < 64 ∧ 0 ≤ nm ∧ nm ≤ 7)) :
    Calls Tryd.prog 48 #[.pointer (some ⟨B, 0, none⟩), .int .i64 ln, .int .i64 nm] w fun e w' => e = .returned (.tuple #[.int .i64 0, .int .i64 1]) ∧ w = w' := by
  by_cases a1 : ln < 0
  · clear h
    go_enter Tryd.func48, Tryd.ntmps48
    go_wp2_with fail
    refine bodyPost_ret (v := .tuple #[.int .i64 0, .int .i64 1]) ?_ rfl ⟨rfl, rfl⟩
    simp [results, Tryd.f48, go_sem]
  by_cases a2 : 63 < ln
  · clear h
    go_enter Tryd.func48, Tryd.ntmps48
    go_wp2_with fail
    refine bodyPost_ret (v := .tuple #[.int .i64 0, .int .i64 1]) ?_ rfl ⟨rfl, rfl⟩
    simp [results, Tryd.f48, go_sem]
  by_cases a3 : nm < 0
  · clear h
    go_enter Tryd.func48, Tryd.ntmps48
    go_wp2_with fail
    refine bodyPost_ret (v := .tuple #[.int .i64 0, .int .i64 1]) ?_ rfl ⟨rfl, rfl⟩
    simp [results, Tryd.f48, go_sem]
  have a4 : 7 < nm := by omega
  clear h
  go_enter Tryd.func48, Tryd.ntmps48
  go_wp2_with fail
  refine bodyPost_ret (v := .tuple #[.int .i64 0, .int .i64 1]) ?_ rfl ⟨rfl, rfl⟩
  simp [results, Tryd.f48, go_sem]
set_option maxRecDepth 10000 in
set_option maxHeartbeats 1000000 in
theorem dtakeLog_yes {w : World} {base B : Nat} {v : Value} {S : List St} (hI : YAt w base B v S) (hS : SOk S) (hl : S.length ≤ 10000) (ln nm : Nat) (h1 : ln < 64) (h3 : nm ≤ 7) :
    Calls Tryd.prog 48 #[.pointer (some ⟨B, 0, none⟩), .int .i64 (ln : Nat), .int .i64 (nm : Nat)] w fun e w' => e = .returned (.tuple #[.int .i64 (takeLogS S (ln : Nat) (nm : Nat)).1, .int .i64 (takeLogS S (ln : Nat) (nm : Nat)).2.1]) ∧ YAt w' base B v (takeLogS S (ln : Nat) (nm : Nat)).2.2 ∧ Chg (fun k => v.ownBlock = some k) w w' := by
  have hRow := row_any hI hS hl 1 (Nat.le_refl _) (by omega)
  have hT : takeLogS S (ln : Nat) (nm : Nat) = (match (rowsTo S 1 S.length).head? with | none => ((0 : Int), (2 : Int), S) | some i => ((i : Nat), 0, S.set i (4 + 32 * ln + 2048 * nm, 0, 0))) := by
    unfold takeLogS
    rw [if_pos (by omega), Int.toNat_natCast, Int.toNat_natCast]
    cases (rowsTo S 1 S.length).head? <;> rfl
  have hDS := Lib.hid (dS_log h1 h3)
  have b1 : ¬ (ln : Int) < 0 := by omega
  have b2 : ¬ 63 < (ln : Int) := by omega
  have b3 : ¬ (nm : Int) < 0 := by omega
  have b4 : ¬ 7 < (nm : Int) := by omega
  cases hh : (rowsTo S 1 S.length).head? with
  | none =>
    rw [hh] at hT
    simp only [] at hT
    rw [hT]
    rw [rowV_no (Nat.le_refl 1) (rows_none (Nat.le_refl 1) hh)] at hRow
    replace hI := Lib.hid hI
    clear hT hh hS hl h1 h3
    go_enter Tryd.func48, Tryd.ntmps48
    go_wp2_with fail
    refine hRow.mono ?_
    rintro e w2 ⟨rfl, hb⟩
    clear hRow
    go_wp2_with fail
    refine bodyPost_ret (v := .tuple #[.int .i64 0, .int .i64 2]) ?_ rfl ⟨rfl, hI.out.keep hb, Chg.of_below _ hb⟩
    simp [results, Tryd.f48, go_sem]
  | some i =>
    rw [hh] at hT
    simp only [] at hT
    rw [hT]
    obtain ⟨r1, r2⟩ := rows_head (Nat.le_refl 1) hh
    rw [rowV_yes (Nat.le_refl 1) r1 r2] at hRow
    obtain ⟨nn, hnn⟩ : ∃ n, S.length = n := ⟨_, rfl⟩
    have hi : i < nn := by have := r1.1; omega
    obtain ⟨g, cap, rfl, _⟩ := hI.row.form (by omega)
    rw [hnn] at hI ⊢
    have t5 : decide ((i : Int) < 0) = false := decide_eq_false (by omega)
    have t6 : ¬ (i : Int) < 0 := by omega
    have t7 : (i : Int) < (nn : Int) := by omega
    generalize hX : 4 + 32 * ln + 2048 * nm = X at *
    replace hI := Lib.hid hI
    replace hnn := Lib.hid hnn
    clear hT hh hS hl h1 h3 r1 r2 hX
    go_enter Tryd.func48, Tryd.ntmps48
    go_wp2_with fail
    refine hRow.mono ?_
    rintro e w2 ⟨rfl, hb⟩
    have hY5 := hI.out.keep hb
    have xB := hY5.box.cell
    have hTh := Lib.hid (hY5.there hnn.out hi)
    obtain ⟨hP, hCP⟩ := YAt.put hY5 hnn.out hi (X, 0, 0)
    rw [hDS.out] at hP hCP
    have hCe := (Chg.of_below (fun k => k = g) hb).trans hCP (fun j q => .inl q)
    obtain ⟨W, hW⟩ : ∃ W, w2.setCells g (i * 14) [.int .i64 4, .int .i64 0, .int .i64 (ln : Nat), .int .i64 (nm : Nat), .int .u64 0, .int .i64 0, .int .i64 0, .int .i64 0, .int .i64 0, .int .i64 0, .int .i64 0, .int .i64 0, .int .i64 0, .bool false] = W := ⟨_, rfl⟩
    rw [hW] at hP hCe
    replace hW := Lib.hid hW
    replace hP := Lib.hid hP
    replace hCe := Lib.hid hCe
    clear hRow hY5 hCP hb
    go_wp2_with (refine wpList_store_mid rfl _ _ _ rfl g (i * 14) #[.int .i64 4, .int .i64 0, .int .i64 (ln : Nat), .int .i64 (nm : Nat), .int .u64 0, .int .i64 0, .int .i64 0, .int .i64 0, .int .i64 0, .int .i64 0, .int .i64 0, .int .i64 0, .int .i64 0, .bool false] rfl rfl hTh.out infoD14 (oneD _ _ _ _ _ _ _ _ _ _ _ _ _ _) ?_; rw [show (w2).setCells g (i * 14) (#[.int .i64 4, .int .i64 0, .int .i64 (ln : Nat), .int .i64 (nm : Nat), .int .u64 0, .int .i64 0, .int .i64 0, .int .i64 0, .int .i64 0, .int .i64 0, .int .i64 0, .int .i64 0, .int .i64 0, .bool false] : Array Value).toList = W from hW.out])
    refine bodyPost_ret (v := .tuple #[.int .i64 (i : Nat), .int .i64 0]) ?_ rfl ⟨rfl, hP.out, chgOwn hCe.out⟩
    simp [results, Tryd.f48, go_sem]
theorem dtakeLog_any {w : World} {base B : Nat} {v : Value} {S : List St} (hI : YAt w base B v S) (hS : SOk S) (hl : S.length ≤ 10000) (ln nm : Int) :
    Calls Tryd.prog 48 #[.pointer (some ⟨B, 0, none⟩), .int .i64 ln, .int .i64 nm] w fun e w' => e = .returned (.tuple #[.int .i64 (takeLogS S ln nm).1, .int .i64 (takeLogS S ln nm).2.1]) ∧ YAt w' base B v (takeLogS S ln nm).2.2 ∧ Chg (fun k => v.ownBlock = some k) w w' := by
  by_cases h : 0 ≤ ln ∧ ln < 64 ∧ 0 ≤ nm ∧ nm ≤ 7
  · obtain ⟨a, rfl⟩ : ∃ a : Nat, ln = (a : Int) := ⟨ln.toNat, by omega⟩
    obtain ⟨b, rfl⟩ : ∃ b : Nat, nm = (b : Int) := ⟨nm.toNat, by omega⟩
    exact dtakeLog_yes hI hS hl a b (by omega) (by omega)
  · have hT : takeLogS S ln nm = (0, 1, S) := by unfold takeLogS; rw [if_neg h]
    rw [hT]
    refine (dtakeLog_no B ln nm h).mono ?_
    rintro e w2 ⟨rfl, rfl⟩
    exact ⟨rfl, hI, Chg.refl _ _⟩
end Go.Proofs.YtnjifmecaeagaaaDoor
