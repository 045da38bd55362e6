/-
  The laws of package redo: the chapter's example; RedoEncodes.
-/
import Derived.Test.YtibhahbimoiaaaaRd10
set_option linter.unusedVariables false
set_option linter.unusedSimpArgs false
namespace Go.Proofs.Ytibhahbimoiaaaa
open Go.RowKit Go.ChangeShapes Go.WideShapes Go.Deep

theorem KL.nil (w : World) (A : Option Addr) (cap : Nat) : KL .u64 w (.slice A 0 cap) [] := ⟨A, cap, rfl, fun h => by simp at h⟩
theorem OPL.one (w : World) (o : Ox) : OPL (w.alloc (.cells #[.int .i64 o.1, .int .i64 o.2.1, .int .u64 (o.2.2 : Nat)] (38 : Nat))) (.slice (some ⟨w.heap.size, 0, none⟩) 1 1) [o] := (OwnE.lit 38 opE_len w [o] _ rfl (by simp)).el opE_len
theorem OwnE.opl {w : World} {base : Nat} {v : Value} {l : List Ox} (h : OwnE 38 3 opE w base v l) : OPL w v l := h.el opE_len
set_option maxRecDepth 100000 in
set_option maxHeartbeats 4000000 in
theorem awake12 (w : World) : Calls Try.prog 14 #[] w fun e w' => e = .returned (.bool true) ∧ Below w.heap.size w w' := by
  have hm := moreN_lt 0 [13, 4]
  have hE := Lib.hid (fun v w (hv : OPL w v [((1 : Int), (3 : Int), 4)]) => enc_ok v [(1, 3, 4)] w hv (by unfold OVs; decide) (by decide +kernel))
  rw [show encS [((1 : Int), (3 : Int), 4)] = [13, 4, moreN 0 [13, 4]] from rfl] at hE
  have hD := Lib.hid (fun v w (hv : KL .u64 w v [13, 4, moreN 0 [13, 4]]) => dec_t v [13, 4, moreN 0 [13, 4]] 1 w hv (by intro x hx; simp only [List.mem_cons, List.not_mem_nil, or_false] at hx; omega) (by decide) (by decide) (by decide) (by
    simp only [decB, Bool.and_eq_true, decide_eq_true_eq]
    exact ⟨rfl, by decide +kernel⟩))
  rw [show opsN [13, 4, moreN 0 [13, 4]] 1 = [((1 : Int), (3 : Int), 4)] from rfl] at hD
  generalize moreN 0 [13, 4] = m at *
  have hA := Lib.hid (fun v u w (hv : KL .u64 w v [0, 0, 0, 1]) (hu : OPL w u [((1 : Int), (3 : Int), 4)]) => apply_any v u [0, 0, 0, 1] [(1, 3, 4)] w (by unfold WL; decide) (by decide) (by unfold OVs; decide) (by decide) hv hu)
  rw [show applyL [0, 0, 0, 1] [((1 : Int), (3 : Int), 4)] = [0, 0, 0, 5] by decide +kernel] at hA
  have hS := Lib.hid (fun v u w (hv : OPL w v [((1 : Int), (3 : Int), 4)]) (hu : OPL w u [((1 : Int), (3 : Int), 4)]) => opsame_any v u [((1 : Int), (3 : Int), 4)] [((1 : Int), (3 : Int), 4)] w (by decide) hv hu)
  rw [show decide (([((1 : Int), (3 : Int), 4)] : List Ox) = [((1 : Int), (3 : Int), 4)]) = true by decide +kernel] at hS
  have hP := Lib.hid (fun w => OPL.one w (1, 3, 4))
  have hK := Lib.hid (fun (w : World) => KL.lit w [0, 0, 0, 1] (by decide))
  simp only [List.map_cons, List.map_nil] at hP hK
  have hB0 : Below w.heap.size w (w.alloc (.cells #[.int .i64 1, .int .i64 3, .int .u64 4] (38 : Nat))) := (Below.refl _ _).alloc (Nat.le_refl _) _
  have po := hP.out w
  go_enter Try.func14, Try.ntmps14
  go_wp2_with fail
  refine (hE.out _ _ po).mono ?_
  rintro e w1 ⟨v2, rfl, hs2, hb1⟩
  have hB1 := hB0.trans (hb1.mono hB0.size)
  replace po := po.keep hb1
  have k2 := hs2.kl
  clear hb1 hB0
  clear hs2
  obtain ⟨A2, c2, rfl, _⟩ := k2.form (n := 3) rfl
  go_wp2_with fail
  refine (hD.out _ _ k2).mono ?_
  rintro e w2 ⟨v4, rfl, ho4, hb2⟩
  have hB2 := hB1.trans (hb2.mono hB1.size)
  replace po := po.keep hb2
  replace k2 := k2.keep hb2
  have p4 := ho4.opl
  clear hb2 hB1
  clear ho4
  have hbK : Below w2.heap.size w2 (w2.alloc (.cells #[.int .u64 0, .int .u64 0, .int .u64 0, .int .u64 1] (33 : Nat))) := (Below.refl _ _).alloc (Nat.le_refl _) _
  have kk := hK.out w2
  try simp only [List.map_cons, List.map_nil] at kk
  replace po := po.keep hbK
  replace k2 := k2.keep hbK
  replace p4 := p4.keep hbK
  have hBk := hB2.trans (hbK.mono hB2.size)
  clear hbK hB2
  go_wp2_with fail
  refine (hA.out _ _ _ kk po).mono ?_
  rintro e w3 ⟨v6, rfl, ho6, hb3⟩
  have hB3 := hBk.trans (hb3.mono hBk.size)
  replace po := po.keep hb3
  replace k2 := k2.keep hb3
  replace p4 := p4.keep hb3
  have k6 := ho6.kl
  clear hb3 hBk
  clear ho6 kk
  obtain ⟨A6, c6, rfl, _⟩ := k6.form (n := 4) rfl
  obtain ⟨_, _, he, hC2⟩ := k2.form (n := 3) rfl
  cases he
  obtain ⟨g2, o2, rfl, _, _, d2⟩ := hC2 w3 0 (Below.refl _ _) (by decide)
  obtain ⟨_, _, he, hC6⟩ := k6.form (n := 4) rfl
  cases he
  obtain ⟨g6, o6, rfl, _, _, d6⟩ := hC6 w3 3 (Below.refl _ _) (by decide)
  have d6' : ∀ w1, Below w3.heap.size w3 w1 → w1.cell? ⟨g6, o6 + 3, none⟩ = some (.int .u64 5) := fun w1 hb => cellK d6 hb
  replace d6' := Lib.hid d6'
  have e2 : w3.cell? ⟨g2, o2, none⟩ = some (.int .u64 13) := d2
  clear hC2 hC6 d2 d6
  go_wp2_with fail
  refine (hS.out _ _ _ p4 po).mono ?_
  rintro e w4 ⟨rfl, hb4⟩
  have hB4 := hB3.trans (hb4.mono hB3.size)
  have d6 := d6'.out _ hb4
  clear hb4 hB3
  go_wp2_with fail
  go_ret
  exact ⟨rfl, hB4⟩

set_option maxHeartbeats 1000000 in
theorem redoEncodes_n1 (v : Value) (l : List Ox) (w : World) (hv : OPL w v l) (ho : OVs l) (h : 30 < l.length) :
    Calls Try.prog 3 #[v] w fun e w' => e = .returned (.bool true) ∧ Below w.heap.size w w' := by
  obtain ⟨A, cap, rfl, _⟩ := hv.form rfl
  have h' : (30 : Int) < (l.length : Int) := by omega
  clear hv
  go_enter Try.func3, Try.ntmps3
  go_wp2_with fail
  refine (awake12 _).mono ?_
  rintro e w1 ⟨rfl, hb1⟩
  go_wp2_with fail
  go_ret
  exact ⟨rfl, hb1⟩

set_option maxHeartbeats 1000000 in
theorem redoEncodes_n2 (v : Value) (l : List Ox) (w : World) (hv : OPL w v l) (ho : OVs l) (h : l.length ≤ 30) (h2 : 19 < l.length) :
    Calls Try.prog 3 #[v] w fun e w' => e = .returned (.bool true) ∧ Below w.heap.size w w' := by
  have hE := Lib.hid (fun w1 (hb : Below w.heap.size w w1) => enc_full v l w1 (hv.keep hb) h2)
  have hF := Lib.hid (fun w1 (hb : Below w.heap.size w w1) => refEnc_full v l w1 (hv.keep hb) h2)
  have hR := fun w1 (hb : Below w.heap.size w w1) => right_any v l w1 (by omega) (hv.keep hb)
  rw [show rightB l = false from by unfold rightB; rw [decide_eq_false (by omega)]; rfl] at hR
  replace hR := Lib.hid hR
  have hW := Lib.hid (fun w => words_any (.slice none 0 0) (.slice none 0 0) [] [] w (by decide) (KL.nil _ _ _) (KL.nil _ _ _))
  rw [show decide (([] : List Nat) = []) = true by decide] at hW
  obtain ⟨A, cap, rfl, _⟩ := hv.form rfl
  have h' : (l.length : Int) ≤ 30 := by omega
  have hB0 := Below.refl w.heap.size w
  clear hv
  go_enter Try.func3, Try.ntmps3
  go_wp2_with fail
  refine (awake12 _).mono ?_
  rintro e w1 ⟨rfl, hb1⟩
  have hB1 := hB0.trans (hb1.mono hB0.size)
  clear hb1 hB0
  go_wp2_with fail
  refine (hE.out _ hB1).mono ?_
  rintro e w2 ⟨rfl, hb2⟩
  have hB2 := hB1.trans (hb2.mono hB1.size)
  clear hb2 hB1
  go_wp2_with fail
  refine (hF.out _ hB2).mono ?_
  rintro e w3 ⟨rfl, hb3⟩
  have hB3 := hB2.trans (hb3.mono hB2.size)
  clear hb3 hB2
  go_wp2_with fail
  refine (hW.out _).mono ?_
  rintro e w4 ⟨rfl, hb4⟩
  have hB4 := hB3.trans (hb4.mono hB3.size)
  clear hb4 hB3
  go_wp2_with fail
  refine (hR.out _ hB4).mono ?_
  rintro e w5 ⟨rfl, hb5⟩
  have hB5 := hB4.trans (hb5.mono hB4.size)
  clear hb5 hB4
  go_wp2_with fail
  go_ret
  exact ⟨rfl, hB5⟩

set_option maxHeartbeats 1000000 in
theorem redoEncodes_n3 (v : Value) (l : List Ox) (w : World) (hv : OPL w v l) (ho : OVs l) (h2 : l.length ≤ 19) (hr : rightB l = false) :
    Calls Try.prog 3 #[v] w fun e w' => e = .returned (.bool true) ∧ Below w.heap.size w w' := by
  have hE := Lib.hid (fun w1 (hb : Below w.heap.size w w1) => enc_arg v l w1 (hv.keep hb) h2 hr)
  have hF := Lib.hid (fun w1 (hb : Below w.heap.size w w1) => refEnc_arg v l w1 (hv.keep hb) ho h2 hr)
  have hR := fun w1 (hb : Below w.heap.size w w1) => right_any v l w1 (by omega) (hv.keep hb)
  rw [show rightB l = false from hr] at hR
  replace hR := Lib.hid hR
  have hW := Lib.hid (fun w => words_any (.slice none 0 0) (.slice none 0 0) [] [] w (by decide) (KL.nil _ _ _) (KL.nil _ _ _))
  rw [show decide (([] : List Nat) = []) = true by decide] at hW
  obtain ⟨A, cap, rfl, _⟩ := hv.form rfl
  have h' : (l.length : Int) ≤ 30 := by omega
  have hB0 := Below.refl w.heap.size w
  clear hv
  go_enter Try.func3, Try.ntmps3
  go_wp2_with fail
  refine (awake12 _).mono ?_
  rintro e w1 ⟨rfl, hb1⟩
  have hB1 := hB0.trans (hb1.mono hB0.size)
  clear hb1 hB0
  go_wp2_with fail
  refine (hE.out _ hB1).mono ?_
  rintro e w2 ⟨rfl, hb2⟩
  have hB2 := hB1.trans (hb2.mono hB1.size)
  clear hb2 hB1
  go_wp2_with fail
  refine (hF.out _ hB2).mono ?_
  rintro e w3 ⟨rfl, hb3⟩
  have hB3 := hB2.trans (hb3.mono hB2.size)
  clear hb3 hB2
  go_wp2_with fail
  refine (hW.out _).mono ?_
  rintro e w4 ⟨rfl, hb4⟩
  have hB4 := hB3.trans (hb4.mono hB3.size)
  clear hb4 hB3
  go_wp2_with fail
  refine (hR.out _ hB4).mono ?_
  rintro e w5 ⟨rfl, hb5⟩
  have hB5 := hB4.trans (hb5.mono hB4.size)
  clear hb5 hB4
  go_wp2_with fail
  go_ret
  exact ⟨rfl, hB5⟩

set_option maxHeartbeats 1000000 in
theorem redoEncodes_yes (v : Value) (l : List Ox) (w : World) (hv : OPL w v l) (ho : OVs l) (hr : rightB l = true) :
    Calls Try.prog 3 #[v] w fun e w' => e = .returned (.bool true) ∧ Below w.heap.size w w' := by
  have h19 := (rightB_t hr).1
  have hE := Lib.hid (fun w1 (hb : Below w.heap.size w w1) => enc_ok v l w1 (hv.keep hb) ho hr)
  have hF := Lib.hid (fun w1 (hb : Below w.heap.size w w1) => refEnc_ok v l w1 (hv.keep hb) ho hr)
  have hR := fun w1 (hb : Below w.heap.size w w1) => right_any v l w1 (by omega) (hv.keep hb)
  rw [hr] at hR
  replace hR := Lib.hid hR
  have hel : (encS l).length ≤ 100 := by unfold encS; rw [List.length_append, encW_len]; simp; omega
  generalize encS l = E at *
  have hW := fun v u w hv hu => words_any v u E E w (by omega) hv hu
  rw [show decide (E = E) = true by simp] at hW
  replace hW := Lib.hid hW
  obtain ⟨A, cap, rfl, _⟩ := hv.form rfl
  have h' : (l.length : Int) ≤ 30 := by omega
  have hB0 := Below.refl w.heap.size w
  clear hv hr
  go_enter Try.func3, Try.ntmps3
  go_wp2_with fail
  refine (awake12 _).mono ?_
  rintro e w1 ⟨rfl, hb1⟩
  have hB1 := hB0.trans (hb1.mono hB0.size)
  clear hb1 hB0
  go_wp2_with fail
  refine (hE.out _ hB1).mono ?_
  rintro e w2 ⟨va, rfl, hsa, hb2⟩
  have hB2 := hB1.trans (hb2.mono hB1.size)
  have ka := hsa.kl
  clear hb2 hB1
  clear hsa
  go_wp2_with fail
  refine (hF.out _ hB2).mono ?_
  rintro e w3 ⟨vb, rfl, hsb, hb3⟩
  have hB3 := hB2.trans (hb3.mono hB2.size)
  replace ka := ka.keep hb3
  have kb := hsb.kl
  clear hb3 hB2
  clear hsb
  go_wp2_with fail
  refine (hW.out _ _ _ ka kb).mono ?_
  rintro e w4 ⟨rfl, hb4⟩
  have hB4 := hB3.trans (hb4.mono hB3.size)
  replace ka := ka.keep hb4
  replace kb := kb.keep hb4
  clear hb4 hB3
  go_wp2_with fail
  refine (hR.out _ hB4).mono ?_
  rintro e w5 ⟨rfl, hb5⟩
  have hB5 := hB4.trans (hb5.mono hB4.size)
  replace ka := ka.keep hb5
  replace kb := kb.keep hb5
  clear hb5 hB4
  go_wp2_with fail
  go_ret
  exact ⟨rfl, hB5⟩
theorem redoEncodes (v : Value) (l : List Ox) (w : World) (hv : OPL w v l) (ho : OVs l) :
    Calls Try.prog 3 #[v] w fun e w' => e = .returned (.bool true) ∧ Below w.heap.size w w' := by
  by_cases h : 30 < l.length
  · exact redoEncodes_n1 v l w hv ho h
  by_cases h2 : 19 < l.length
  · exact redoEncodes_n2 v l w hv ho (by omega) h2
  cases hr : rightB l
  · exact redoEncodes_n3 v l w hv ho (by omega) hr
  · exact redoEncodes_yes v l w hv ho hr
end Go.Proofs.Ytibhahbimoiaaaa
