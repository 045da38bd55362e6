/-
  Package index: TakeLog.
  Package index: TakeLog's answer as a function of what an index knows.
-/
import Derived.Test.YtnjifmecaeagaaaDoorQE
import Derived.Test.YtnjifmecaeagaaaDoorRegQ
section
set_option linter.unusedVariables false
set_option linter.unusedSimpArgs false
namespace Go.Proofs.YtnjifmecaeagaaaDoor
open Go.Lib Go.RowKit Go.ChangeShapes Go.WideShapes Go.Deep
set_option maxRecDepth 10000 in
set_option maxHeartbeats 1000000 in
theorem takeLog_no {w : World} (B : Nat) (ln nm : Int) (h : ¬ (0 ≤ ln ∧ ln < 64 ∧ 0 ≤ nm ∧ nm ≤ 7)) :
    Calls Tryd.prog 47 #[.pointer (some ⟨B, 0, none⟩), .int .i64 ln, .int .i64 nm] w fun e w' => e = .returned (.tuple #[.int .i64 0, .int .i64 1]) ∧ Below w.heap.size w w' := by
  have hr : rightB 4 0 ln nm 0 = false := right_no (by unfold RightP; omega)
  have hR := Lib.hid (fun w1 => right_4 4 0 ln nm 0 w1 rfl)
  rw [hr] at hR
  have hA := (Below.refl w.heap.size w).alloc (Nat.le_refl _) (.cells #[.int .i64 4, .int .i64 0, .int .i64 ln, .int .i64 nm, .int .u64 0] 29)
  clear hr h
  go_enter Tryd.func47, Tryd.ntmps47
  go_wp2_with fail
  refine (hR.out _).mono ?_
  rintro e2 w2 ⟨rfl, hb⟩
  have hB2 := hA.trans (hb.mono hA.size)
  clear hR hA
  go_wp2_with fail
  refine bodyPost_ret (v := .tuple #[.int .i64 0, .int .i64 1]) ?_ rfl ⟨rfl, hB2⟩
  simp [results, Tryd.f47, go_sem]
set_option maxRecDepth 10000 in
set_option maxHeartbeats 1000000 in
theorem takeLog_full {w : World} {base B : Nat} {v : Value} {S : List St} (hI : IxAt w base B v S) (hS : SOk S) (hl : S.length ≤ 10000) (ln nm : Nat) (h1 : ln < 64) (h3 : nm ≤ 7) (h2 : (rowsTo S 1 S.length).head? = none) :
    Calls Tryd.prog 47 #[.pointer (some ⟨B, 0, none⟩), .int .i64 (ln : Nat), .int .i64 (nm : Nat)] w fun e w' => e = .returned (.tuple #[.int .i64 0, .int .i64 2]) ∧ Below w.heap.size w w' := by
  have hr : rightB 4 0 (ln : Nat) (nm : Nat) 0 = true := right_yes (by unfold RightP; omega)
  have hR := Lib.hid (fun w1 => right_4 4 0 (ln : Nat) (nm : Nat) 0 w1 rfl)
  rw [hr] at hR
  have hA := (Below.refl w.heap.size w).alloc (Nat.le_refl _) (.cells #[.int .i64 4, .int .i64 0, .int .i64 (ln : Nat), .int .i64 (nm : Nat), .int .u64 0] 29)
  have hFj := Lib.hid (fun w1 Bx Bm (hI2 : IxAt w1 base B v S) => firstRows_any (Bx := Bx) (Bm := Bm) hI2 hS hl (Nat.le_refl 1) (by omega))
  have hJ : headI (rowsTo S 1 S.length) = -1 := by
    cases hr : rowsTo S 1 S.length with
    | nil => rfl
    | cons b t => rw [hr] at h2; simp at h2
  rw [hJ] at hFj
  clear hr h1 h3 h2 hJ hS hl
  go_enter Tryd.func47, Tryd.ntmps47
  go_wp2_with fail
  refine (hR.out _).mono ?_
  rintro e2 w2 ⟨rfl, hb⟩
  have hB2 := hA.trans (hb.mono hA.size)
  clear hR hA hb
  have hRo2 := rowsF_any B 1 w2
  rw [show (((1 : Nat) : Int)) = 1 from rfl] at hRo2
  go_wp2_with fail
  refine hRo2.mono ?_
  rintro e4 w4 ⟨⟨Bx, Bm, rfl, hx, hb⟩, hb4⟩
  have hB4 := hB2.trans (hb4.mono hB2.size)
  clear hRo2
  go_wp2_with fail
  refine (hFj.out w4 Bx Bm (hI.keep hB4) hx hb).mono ?_
  rintro e5 w5 ⟨rfl, hb5⟩
  have hB5 := hB4.trans (hb5.mono hB4.size)
  clear hI hFj hx hb hb5 hb4 hB2 hB4
  go_wp2_with fail
  refine bodyPost_ret (v := .tuple #[.int .i64 0, .int .i64 2]) ?_ rfl ⟨rfl, hB5⟩
  simp [results, Tryd.f47, go_sem]
theorem eS_log {ln nm : Nat} (h1 : ln < 64) (h2 : nm ≤ 7) : eS (4 + 32 * ln + 2048 * nm, 0, 0) = [.int .i64 4, .int .i64 0, .int .i64 (ln : Nat), .int .i64 (nm : Nat), .int .u64 0, .int .u64 0, .int .u64 0] := by
  have e0 : kN (4 + 32 * ln + 2048 * nm) = 4 := by unfold kN; omega
  have e1 : cN (4 + 32 * ln + 2048 * nm) = 0 := by unfold cN; omega
  have e2 : lnN (4 + 32 * ln + 2048 * nm) = ln := by unfold lnN; omega
  have e3 : mN (4 + 32 * ln + 2048 * nm) = nm := by unfold mN; omega
  have e4 : bN (4 + 32 * ln + 2048 * nm) = 0 := by unfold bN; omega
  unfold eS
  rw [e0, e1, e2, e3, e4]; rfl
set_option maxRecDepth 10000 in
set_option maxHeartbeats 1000000 in
theorem takeLog_yes {w : World} {base B : Nat} {v : Value} {S : List St} (hI : IxAt w base B v S) (hS : SOk S) (hl : S.length ≤ 10000) (ln nm : Nat) (h1 : ln < 64) (h3 : nm ≤ 7) {i : Nat} (h2 : (rowsTo S 1 S.length).head? = some i) :
    Calls Tryd.prog 47 #[.pointer (some ⟨B, 0, none⟩), .int .i64 (ln : Nat), .int .i64 (nm : Nat)] w fun e w' => e = .returned (.tuple #[.int .i64 (i : Nat), .int .i64 0]) ∧ IxAt w' base B v (S.set i (4 + 32 * ln + 2048 * nm, 0, 0)) ∧ Chg (fun k => v.ownBlock = some k) w w' := by
  have hr : rightB 4 0 (ln : Nat) (nm : Nat) 0 = true := right_yes (by unfold RightP; omega)
  have hR := Lib.hid (fun w1 => right_4 4 0 (ln : Nat) (nm : Nat) 0 w1 rfl)
  rw [hr] at hR
  have hA := (Below.refl w.heap.size w).alloc (Nat.le_refl _) (.cells #[.int .i64 4, .int .i64 0, .int .i64 (ln : Nat), .int .i64 (nm : Nat), .int .u64 0] 29)
  obtain ⟨C, hC⟩ : ∃ C, w.heap.size = C := ⟨_, rfl⟩
  obtain ⟨p0, p1, p2, p3, p4⟩ : (w.alloc (.cells #[.int .i64 4, .int .i64 0, .int .i64 (ln : Nat), .int .i64 (nm : Nat), .int .u64 0] 29)).cell? ⟨C, 0, none⟩ = some (.int .i64 4) ∧ (w.alloc (.cells #[.int .i64 4, .int .i64 0, .int .i64 (ln : Nat), .int .i64 (nm : Nat), .int .u64 0] 29)).cell? ⟨C, 1, none⟩ = some (.int .i64 0) ∧ (w.alloc (.cells #[.int .i64 4, .int .i64 0, .int .i64 (ln : Nat), .int .i64 (nm : Nat), .int .u64 0] 29)).cell? ⟨C, 2, none⟩ = some (.int .i64 (ln : Nat)) ∧ (w.alloc (.cells #[.int .i64 4, .int .i64 0, .int .i64 (ln : Nat), .int .i64 (nm : Nat), .int .u64 0] 29)).cell? ⟨C, 3, none⟩ = some (.int .i64 (nm : Nat)) ∧ (w.alloc (.cells #[.int .i64 4, .int .i64 0, .int .i64 (ln : Nat), .int .i64 (nm : Nat), .int .u64 0] 29)).cell? ⟨C, 4, none⟩ = some (.int .u64 0) := by
    rw [← hC]; refine ⟨?_, ?_, ?_, ?_, ?_⟩ <;> simp [go_sem]
  have hFj := Lib.hid (fun w1 Bx Bm (hI2 : IxAt w1 base B v S) => firstRows_any (Bx := Bx) (Bm := Bm) hI2 hS hl (Nat.le_refl 1) (by omega))
  have hJ : headI (rowsTo S 1 S.length) = (i : Nat) := by
    cases hr : rowsTo S 1 S.length with
    | nil => rw [hr] at h2; simp at h2
    | cons b t => rw [hr] at h2; simp at h2; rw [h2]; rfl
  rw [hJ] at hFj
  have hi := (rows_head (Nat.le_refl 1) h2).1.1
  obtain ⟨nn, hnn⟩ : ∃ n, S.length = n := ⟨_, rfl⟩
  obtain ⟨g, cap, rfl, hbg, hgl, hcap⟩ := hI.row.form (by omega)
  rw [hnn] at hi hl hcap hI hFj ⊢
  replace hi : i < nn := by omega
  have t9 : (i : Int) < (nn : Int) := by omega
  have t0 : decide ((i : Int) < 0) = false := decide_eq_false (by omega)
  have hE := Lib.hid (eS_log h1 h3)
  generalize 4 + 32 * ln + 2048 * nm = X at *
  replace hnn := Lib.hid hnn
  clear hr h1 h3 h2 hJ hS hbg hgl
  go_enter Tryd.func47, Tryd.ntmps47
  go_wp2_with fail
  refine (hR.out _).mono ?_
  rintro e2 w2 ⟨rfl, hb⟩
  have hB2 := hA.trans (hb.mono hA.size)
  replace p0 := cellK5 p0 hb
  replace p1 := cellK5 p1 hb
  replace p2 := cellK5 p2 hb
  replace p3 := cellK5 p3 hb
  replace p4 := cellK5 p4 hb
  clear hR hA hb
  have hRo2 := rowsF_any B 1 w2
  rw [show (((1 : Nat) : Int)) = 1 from rfl] at hRo2
  go_wp2_with fail
  refine hRo2.mono ?_
  rintro e4 w4 ⟨⟨Bx, Bm, rfl, hx, hb⟩, hb4⟩
  have hB4 := hB2.trans (hb4.mono hB2.size)
  replace p0 := cellK5 p0 hb4
  replace p1 := cellK5 p1 hb4
  replace p2 := cellK5 p2 hb4
  replace p3 := cellK5 p3 hb4
  replace p4 := cellK5 p4 hb4
  clear hRo2 hb4 hB2
  go_wp2_with fail
  refine (hFj.out w4 Bx Bm (hI.keep hB4) hx hb).mono ?_
  rintro e5 w5 ⟨rfl, hb5⟩
  have hB5 := hB4.trans (hb5.mono hB4.size)
  replace p0 := cellK5 p0 hb5
  replace p1 := cellK5 p1 hb5
  replace p2 := cellK5 p2 hb5
  replace p3 := cellK5 p3 hb5
  replace p4 := cellK5 p4 hb5
  have hI5 := hI.keep hB5
  have xB := hI5.box.cell
  clear hI hFj hx hb hb5 hB4
  have hI6 := hI5.keep ((Below.refl _ _).drew)
  have hTh := hI6.there hnn.out hi
  obtain ⟨hP, hCP⟩ := IxAt.put hI6 hnn.out hi (X, 0, 0)
  rw [hE.out] at hP hCP
  have hCe := (Chg.of_below (fun k => k = g) hB5.drew).trans hCP (fun j q => .inl q)
  obtain ⟨W, hW⟩ : ∃ W, w5.drew.setCells g (i * 7) [.int .i64 4, .int .i64 0, .int .i64 (ln : Nat), .int .i64 (nm : Nat), .int .u64 0, .int .u64 0, .int .u64 0] = W := ⟨_, rfl⟩
  rw [hW] at hP hCe
  replace hW := Lib.hid hW
  replace hP := Lib.hid hP
  replace hCe := Lib.hid hCe
  clear hCP hI5 hI6 hB5
  go_wp2_with fail
  refine wp_region_tail (S := (fun w' => w' = w5.drew)) (n := 8) (by kernel_rfl) ?_ (fun hHeld hInv => ?_) (by decide)
  · (try dsimp only)
    all_goals rfl
  refine takeUS 0 hInv ?_; clear hInv; intro hInv
  refine takeUS 1 hInv ?_; clear hInv; intro hInv
  refine takeUS 2 hInv ?_; clear hInv; intro hInv
  refine takeUS 3 hInv ?_; clear hInv; intro hInv
  refine takeUS 4 hInv ?_; clear hInv; intro hInv
  refine takeUS 5 hInv ?_; clear hInv; intro hInv
  refine takeUS 6 hInv ?_; clear hInv; intro hInv
  refine takeUS 7 hInv ?_; clear hInv; intro hInv
  refine lastS 8 rfl (by decide) (by kernel_rfl) (fun K hK => ?_)
  rw [if_pos (by rfl)]
  refine wp_store_mid _ _ _ rfl g (i * 7) #[.int .i64 4, .int .i64 0, .int .i64 (ln : Nat), .int .i64 (nm : Nat), .int .u64 0, .int .u64 0, .int .u64 0] rfl rfl hTh infoS7 (one7 _ _ _ _ _ _ _) ?_
  rw [show (w5.drew).setCells g (i * 7) (#[.int .i64 4, .int .i64 0, .int .i64 (ln : Nat), .int .i64 (nm : Nat), .int .u64 0, .int .u64 0, .int .u64 0] : Array Value).toList = W from hW.out]
  refine hK.out _ _ ?_
  clear hK K
  try simp only [Act.put, List.setIfInBounds_toArray, List.set_cons_zero, List.set_cons_succ]
  refine wpAnyS_done (by kernel_rfl) ?_ _
  go_wp2_with fail
  refine bodyPost_ret (v := .tuple #[.int .i64 (i : Nat), .int .i64 0]) ?_ rfl ⟨rfl, hP.out, ⟨hCe.out.os, hCe.out.tape, hCe.out.output, hCe.out.size, fun k hk hn => hCe.out.block k hk (fun q => hn (by rw [q]; rfl))⟩⟩
  simp [results, Tryd.f47, go_sem]
end Go.Proofs.YtnjifmecaeagaaaDoor
end
section
set_option linter.unusedVariables false
set_option linter.unusedSimpArgs false
namespace Go.Proofs.YtnjifmecaeagaaaDoor
open Go.Lib Go.RowKit
def takeLogS (S : List St) (ln nm : Int) : Int × Int × List St :=
  if 0 ≤ ln ∧ ln < 64 ∧ 0 ≤ nm ∧ nm ≤ 7 then
    (match (rowsTo S 1 S.length).head? with
     | none => (0, 2, S)
     | some i => ((i : Nat), 0, S.set i (4 + 32 * ln.toNat + 2048 * nm.toNat, 0, 0)))
  else (0, 1, S)
theorem takeLog_any {w : World} {base B : Nat} {v : Value} {S : List St} (hI : IxAt w base B v S) (hS : SOk S) (hl : S.length ≤ 10000) (ln nm : Int) :
    Calls Tryd.prog 47 #[.pointer (some ⟨B, 0, none⟩), .int .i64 ln, .int .i64 nm] w fun e w' => e = .returned (.tuple #[.int .i64 (takeLogS S ln nm).1, .int .i64 (takeLogS S ln nm).2.1]) ∧ IxAt w' base B v (takeLogS S ln nm).2.2 ∧ Chg (fun k => v.ownBlock = some k) w w' := by
  unfold takeLogS
  by_cases h : 0 ≤ ln ∧ ln < 64 ∧ 0 ≤ nm ∧ nm ≤ 7
  · rw [if_pos h]
    obtain ⟨a, rfl⟩ : ∃ a : Nat, ln = (a : Int) := ⟨ln.toNat, by omega⟩
    obtain ⟨b, rfl⟩ : ∃ b : Nat, nm = (b : Int) := ⟨nm.toNat, by omega⟩
    cases hh : (rowsTo S 1 S.length).head? with
    | none =>
      refine (takeLog_full hI hS hl a b (by omega) (by omega) hh).mono ?_
      rintro e w2 ⟨rfl, hb⟩
      exact ⟨rfl, hI.keep hb, Chg.of_below _ hb⟩
    | some i => exact takeLog_yes hI hS hl a b (by omega) (by omega) hh
  · rw [if_neg h]
    refine (takeLog_no B ln nm h).mono ?_
    rintro e w2 ⟨rfl, hb⟩
    exact ⟨rfl, hI.keep hb, Chg.of_below _ hb⟩
theorem parts_log {a b : Nat} (h1 : a < 64) (h2 : b ≤ 7) : kN (4 + 32 * a + 2048 * b) = 4 ∧ okN (4 + 32 * a + 2048 * b) = true := by
  have e0 : kN (4 + 32 * a + 2048 * b) = 4 := by unfold kN; omega
  have e1 : cN (4 + 32 * a + 2048 * b) = 0 := by unfold cN; omega
  have e2 : lnN (4 + 32 * a + 2048 * b) = a := by unfold lnN; omega
  have e3 : mN (4 + 32 * a + 2048 * b) = b := by unfold mN; omega
  have e4 : bN (4 + 32 * a + 2048 * b) = 0 := by unfold bN; omega
  refine ⟨e0, decide_eq_true ?_⟩
  unfold RightN
  rw [e0, e1, e2, e3, e4]
  omega
/-- a plain chunk that is neither a huge one nor a tail is put in such a one's place -/
theorem set_plain {S : List St} (h : SOk S) {i : Nat} (hi : i < S.length) {s : St} (hs : StOk s) (h2 : ¬ kN (gS S i).1 = 2) (h3 : ¬ kN (gS S i).1 = 3) (g2 : ¬ kN s.1 = 2) (g3 : ¬ kN s.1 = 3) : SOk (S.set i s) := by
  refine ⟨fun j hj => ?_, ?_⟩
  · rw [List.length_set] at hj
    rw [gS_set S i s j hi]
    by_cases e : j = i
    · rw [if_pos e]; exact hs
    · rw [if_neg e]; exact h.each j hj
  · rw [List.length_set]
    refine tiled_set (i := i) h.tiled h2 h3 ?_ ?_ (fun j hj => ?_)
    · show ¬ kN (gS (S.set i s) i).1 = 2
      rw [gS_set S i s i hi, if_pos rfl]; exact g2
    · show ¬ kN (gS (S.set i s) i).1 = 3
      rw [gS_set S i s i hi, if_pos rfl]; exact g3
    · show (gS (S.set i s) j).1 = (gS S j).1
      rw [gS_set S i s j hi, if_neg hj]
theorem takeLog_ok {S : List St} (h : SOk S) (ln nm : Int) : SOk (takeLogS S ln nm).2.2 ∧ (takeLogS S ln nm).2.2.length = S.length := by
  unfold takeLogS
  by_cases hr : 0 ≤ ln ∧ ln < 64 ∧ 0 ≤ nm ∧ nm ≤ 7
  · rw [if_pos hr]
    cases hh : (rowsTo S 1 S.length).head? with
    | none => exact ⟨h, rfl⟩
    | some i =>
      obtain ⟨hi, hhad⟩ := (rows_head (Nat.le_refl 1) hh).1
      have hi : i < S.length := by omega
      have h0 := hhad 0 (by omega)
      rw [Nat.add_zero] at h0
      obtain ⟨q1, q2, _⟩ := had_t (h.each i hi) h0
      obtain ⟨e0, e1⟩ := parts_log (a := ln.toNat) (b := nm.toNat) (by omega) (by omega)
      refine ⟨set_plain h hi ⟨e1, fun q => ?_, fun q => ?_, fun _ _ => ⟨rfl, rfl⟩⟩ q1 q2 ?_ ?_, by simp⟩
      all_goals simp only [] at *
      all_goals omega
  · rw [if_neg hr]; exact ⟨h, rfl⟩
theorem dropLog_ok {S : List St} (h : SOk S) (i : Int) : SOk (dropLogS S i).2 ∧ (dropLogS S i).2.length = S.length := by
  unfold dropLogS
  by_cases hr : 0 ≤ i ∧ i < S.length ∧ kN (gS S i.toNat).1 = 4
  · rw [if_pos hr]
    have hi : i.toNat < S.length := by omega
    have z : kN 0 = 0 := rfl
    refine ⟨set_plain h hi ⟨by decide, fun q => ?_, fun q => ?_, fun _ _ => ⟨rfl, rfl⟩⟩ (by omega) (by omega) ?_ ?_, by simp⟩
    all_goals simp only [] at *
    all_goals omega
  · rw [if_neg hr]; exact ⟨h, rfl⟩
end Go.Proofs.YtnjifmecaeagaaaDoor
end
