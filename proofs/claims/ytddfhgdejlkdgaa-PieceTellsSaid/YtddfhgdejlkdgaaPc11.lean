/-
  The laws of package piece: PieceParts.
-/
import Derived.Test.YtddfhgdejlkdgaaPc10
import Derived.OwnWalk
set_option linter.unusedVariables false
namespace Go.Proofs.Ytddfhgdejlkdgaa
open Go.RowKit

set_option maxHeartbeats 1000000 in
theorem pieceParts_n1 (v0 v1 v2 : Value) (I : List Nat) (l m : List Sp) (i : Nat) (w : World) (h0 : KL .u64 w v0 I) (hl : PI l) (h1 : PL w v1 l) (hm : PI m) (h2 : PL w v2 m) (hf : fewL l = false) :
    Calls Try.prog 7 #[v0, v1, v2, .int .u16 (i : Nat)] w fun e w' => e = .returned (.bool true) ∧ Below w.heap.size w w' := by
  obtain ⟨A, cap, rfl, _⟩ := h0.form rfl
  have hF := Lib.hid (fun w1 (hb : Below w.heap.size w w1) => few_any v1 l w1 (h1.keep hb) hl.1)
  have hF2 := Lib.hid (fun w1 (hb : Below w.heap.size w w1) => few_any v2 m w1 (h2.keep hb) hm.1)
  rw [hf] at hF
  generalize fewL m = bb at *
  cases bb
  all_goals
    clear h0 h1 h2 hl hm
    go_enter Try.func7, Try.ntmps7
    go_wp2_with fail
    refine (awake14 _).mono ?_
    rintro e w1 ⟨rfl, hb1⟩
    go_wp2_with fail
    refine (hF.out _ hb1).mono ?_
    rintro e w2 ⟨rfl, hb2⟩
    have hB2 := hb1.trans (hb2.mono hb1.size)
    go_wp2_with fail
    refine (hF2.out _ hB2).mono ?_
    rintro e w3 ⟨rfl, hb3⟩
    have hB3 := hB2.trans (hb3.mono hB2.size)
    go_wp2_with fail
    go_ret
    exact ⟨rfl, hB3⟩
set_option maxHeartbeats 1000000 in
theorem pieceParts_n2 (v0 v1 v2 : Value) (I : List Nat) (l m : List Sp) (i : Nat) (w : World) (h0 : KL .u64 w v0 I) (hl : PI l) (h1 : PL w v1 l) (hm : PI m) (h2 : PL w v2 m) (hf : fewL l = true) (hg : fewL m = false) :
    Calls Try.prog 7 #[v0, v1, v2, .int .u16 (i : Nat)] w fun e w' => e = .returned (.bool true) ∧ Below w.heap.size w w' := by
  obtain ⟨A, cap, rfl, _⟩ := h0.form rfl
  have hF := Lib.hid (fun w1 (hb : Below w.heap.size w w1) => few_any v1 l w1 (h1.keep hb) hl.1)
  have hF2 := Lib.hid (fun w1 (hb : Below w.heap.size w w1) => few_any v2 m w1 (h2.keep hb) hm.1)
  rw [hf] at hF
  rw [hg] at hF2
  skip
  clear h0 h1 h2 hl hm
  go_enter Try.func7, Try.ntmps7
  go_wp2_with fail
  refine (awake14 _).mono ?_
  rintro e w1 ⟨rfl, hb1⟩
  go_wp2_with fail
  refine (hF.out _ hb1).mono ?_
  rintro e w2 ⟨rfl, hb2⟩
  have hB2 := hb1.trans (hb2.mono hb1.size)
  go_wp2_with fail
  refine (hF2.out _ hB2).mono ?_
  rintro e w3 ⟨rfl, hb3⟩
  have hB3 := hB2.trans (hb3.mono hB2.size)
  go_wp2_with fail
  go_ret
  exact ⟨rfl, hB3⟩
set_option maxHeartbeats 1000000 in
theorem pieceParts_n3 (v0 v1 v2 : Value) (I : List Nat) (l m : List Sp) (i : Nat) (w : World) (h0 : KL .u64 w v0 I) (hl : PI l) (h1 : PL w v1 l) (hm : PI m) (h2 : PL w v2 m) (hf : fewL l = true) (hg : fewL m = true) (hbig : 60 < I.length) :
    Calls Try.prog 7 #[v0, v1, v2, .int .u16 (i : Nat)] w fun e w' => e = .returned (.bool true) ∧ Below w.heap.size w w' := by
  obtain ⟨A, cap, rfl, _⟩ := h0.form rfl
  have hF := Lib.hid (fun w1 (hb : Below w.heap.size w w1) => few_any v1 l w1 (h1.keep hb) hl.1)
  have hF2 := Lib.hid (fun w1 (hb : Below w.heap.size w w1) => few_any v2 m w1 (h2.keep hb) hm.1)
  rw [hf] at hF
  rw [hg] at hF2
  have hbb : (60 : Int) < (I.length : Int) := by omega
  clear h0 h1 h2 hl hm
  go_enter Try.func7, Try.ntmps7
  go_wp2_with fail
  refine (awake14 _).mono ?_
  rintro e w1 ⟨rfl, hb1⟩
  go_wp2_with fail
  refine (hF.out _ hb1).mono ?_
  rintro e w2 ⟨rfl, hb2⟩
  have hB2 := hb1.trans (hb2.mono hb1.size)
  go_wp2_with fail
  refine (hF2.out _ hB2).mono ?_
  rintro e w3 ⟨rfl, hb3⟩
  have hB3 := hB2.trans (hb3.mono hB2.size)
  go_wp2_with fail
  go_ret
  exact ⟨rfl, hB3⟩
theorem wpList_append_runG {P : Program} {w w' : World} {ops : Array Oper} {rest : List Oper} {o : Oper} {a : Act} {Q : Exit → Act → World → Prop} (hw : Region.wanted o (yielded ops a.tmps) = true) (s x : Operand) (t : TypeId)
    (hop : o.op = Op.call { callee := Callee.builtin Builtin.append, args := #[s, x], argTypes := #[t, t] }) (vs vx v : Value) (hs : a.eval s = vs) (hx : a.eval x = vx)
    (hrun : (Builtin.append_ #[t, t] o.type #[vs, vx]).run P w = .ok v w') (h : wpList P ops Q rest (a.put o.dst v) w') : wpList P ops Q (o :: rest) a w := by
  unfold wpList
  rw [if_pos hw]
  refine Or.inl ?_
  unfold Oper.wp
  simp [execOp, hop, resolve, invoke, builtin, hs, hx, hrun, Result.andThen]
  exact h
set_option maxRecDepth 10000 in
set_option maxHeartbeats 4000000 in
theorem pieceParts_yes (v0 v1 v2 : Value) (I : List Nat) (l m : List Sp) (i : Nat) (w : World) (h0 : KL .u64 w v0 I) (hl : PI l) (h1 : PL w v1 l) (hm : PI m) (h2 : PL w v2 m) (hi : i < 65536) (hf : fewL l = true) (hg : fewL m = true) (hI : I.length ≤ 60) :
    Calls Try.prog 7 #[v0, v1, v2, .int .u16 (i : Nat)] w fun e w' => e = .returned (.bool true) ∧ Below w.heap.size w w' := by
  obtain ⟨f1, f2, f3⟩ := few_of hf
  obtain ⟨g1, g2, g3⟩ := few_of hg
  have hF := Lib.hid (fun w1 (hb : Below w.heap.size w w1) => few_any v1 l w1 (h1.keep hb) hl.1)
  have hF2 := Lib.hid (fun w1 (hb : Below w.heap.size w w1) => few_any v2 m w1 (h2.keep hb) hm.1)
  rw [hf] at hF
  rw [hg] at hF2
  have hJ := Lib.hid (fun w1 (hb : Below w.heap.size w w1) => joinP (h1.keep hb) (h2.keep hb) (by omega) (by omega))
  have hG1 := Lib.hid (fun w1 (hb : Below w.heap.size w w1) => gather_any v0 v1 I l w1 f1 (by omega) (h0.keep hb) (h1.keep hb))
  have hG2 := Lib.hid (fun w1 (hb : Below w.heap.size w w1) => gather_any v0 v2 I m w1 g1 (by omega) (h0.keep hb) (h2.keep hb))
  have hT1 := Lib.hid (fun w1 (hb : Below w.heap.size w w1) => total_any v1 l w1 f2 (by omega) (h1.keep hb))
  have hT2 := Lib.hid (fun w1 (hb : Below w.heap.size w w1) => total_any v2 m w1 g2 (by omega) (h2.keep hb))
  have n1 := totS_le l f1
  have n2 := totS_le m g1
  have n3 := (placesL_len l f1).2
  have n4 := (placesL_len m g1).2
  have n1' : totS l ≤ 9000 := by omega
  have n2' : totS m ≤ 9000 := by omega
  have pb : PBs (l ++ m) := fun x hx => by
    rcases List.mem_append.1 hx with hx | hx
    · exact f1 x hx
    · exact g1 x hx
  have pl : (l ++ m).length ≤ 1000 := by simp; omega
  obtain ⟨k, hk⟩ : ∃ k : Int, k = (i : Int) % 800 := ⟨_, rfl⟩
  have hk0 : 0 ≤ k := by omega
  have hk1 : k < 800 := by omega
  have hA1 := Lib.hid (fun w1 (hb : Below w.heap.size w w1) => at_any v1 l k w1 f1 (by omega) (by omega) (by omega) (h1.keep hb))
  have hA2 := Lib.hid (fun w1 (hb : Below w.heap.size w w1) => at_any v2 m (k - totS l) w1 g1 (by omega) (by omega) (by omega) (h2.keep hb))
  have hTa := fun v w hv => total_any v (l ++ m) w pb.sb pl hv
  rw [totS_app] at hTa
  replace hTa := Lib.hid hTa
  have hAa := fun v w hv => at_any v (l ++ m) k w pb pl (by omega) (by omega) hv
  rw [atL_app f1 g1 k hk0] at hAa
  have hGa := fun v w1 (hb : Below w.heap.size w w1) hv => gather_any v0 v I (l ++ m) w1 pb pl (h0.keep hb) hv
  rw [gathL_app] at hGa
  replace hGa := Lib.hid hGa
  have hgl : (gathL I l).length ≤ 9000 := by unfold gathL; rw [List.length_map, (placesL_len l f1).1]; omega
  have hgm : (gathL I m).length ≤ 9000 := by unfold gathL; rw [List.length_map, (placesL_len m g1).1]; omega
  generalize gathL I l = GL at *
  generalize gathL I m = GM at *
  have hWo := fun v u w hv hu => words_any v u (GL ++ GM) (GL ++ GM) w (by rw [List.length_append]; omega) hv hu
  rw [show decide (GL ++ GM = GL ++ GM) = true from by simp] at hWo
  replace hWo := Lib.hid hWo
  generalize atL l k = X1 at *
  generalize atL m (k - totS l) = X2 at *
  generalize totS l = T1 at *
  generalize totS m = T2 at *
  obtain ⟨A, cap, rfl, _⟩ := h0.form rfl
  have hb60 : (I.length : Int) ≤ 60 := by omega
  replace hk := Lib.hid hk
  clear h0 h1 h2 hl hm f1 f2 f3 g1 g2 g3 pb pl n1 n2 hf hg
  go_enter Try.func7, Try.ntmps7
  go_wp2_with fail
  refine (awake14 _).mono ?_
  rintro e w1 ⟨rfl, hB1⟩
  go_wp2_with fail
  refine (hF.out _ hB1).mono ?_
  rintro e w2 ⟨rfl, hb2⟩
  have hB2 := hB1.trans (hb2.mono hB1.size)
  clear hb2 hB1
  go_wp2_with fail
  refine (hF2.out _ hB2).mono ?_
  rintro e w3 ⟨rfl, hb3⟩
  have hB3 := hB2.trans (hb3.mono hB2.size)
  clear hb3 hB2
  obtain ⟨c1, x1, c2, x2, hr1, hr2, hpa, hbx⟩ := hJ.out _ hB3
  have hB4 := hB3.trans (hbx.mono hB3.size)
  clear hbx hB3
  go_wp2_with (at_builtin; first | (refine wpList_append_run rfl _ _ 22 rfl _ _ _ rfl rfl hr1 ?_) | (refine wpList_append_run rfl _ _ 22 rfl _ _ _ rfl rfl hr2 ?_))
  clear hr1 hr2
  refine (hG1.out _ hB4).mono ?_
  rintro e w5 ⟨va, rfl, ho5, hb5⟩
  have hB5 := hB4.trans (hb5.mono hB4.size)
  replace hpa := hpa.keep hb5
  have ka := ho5.kl
  clear ho5
  clear hb5 hB4
  go_wp2_with fail
  refine (hG2.out _ hB5).mono ?_
  rintro e w6 ⟨vb, rfl, ho6, hb6⟩
  have hB6 := hB5.trans (hb6.mono hB5.size)
  replace hpa := hpa.keep hb6
  replace ka := ka.keep hb6
  have kb := ho6.kl
  clear ho6
  clear hb6 hB5
  go_wp2_with fail
  refine (hT1.out _ hB6).mono ?_
  rintro e w7 ⟨rfl, hb7⟩
  have hB7 := hB6.trans (hb7.mono hB6.size)
  replace hpa := hpa.keep hb7
  replace ka := ka.keep hb7
  replace kb := kb.keep hb7
  clear hb7 hB6
  have ek : (i : Int) % 800 = k := hk.out.symm
  go_wp2_with fail
  try simp only [ek]
  clear ek
  refine (hA1.out _ hB7).mono ?_
  rintro e w8 ⟨rfl, hb8⟩
  have hB8 := hB7.trans (hb8.mono hB7.size)
  replace hpa := hpa.keep hb8
  replace ka := ka.keep hb8
  replace kb := kb.keep hb8
  clear hb8 hB7
  by_cases hlt : k < T1
  · rw [if_pos hlt] at hAa
    replace hAa := Lib.hid hAa
    go_wp2_with fail
    refine (hTa.out _ _ hpa).mono ?_
    rintro e w9 ⟨rfl, hb9⟩
    have hB9 := hB8.trans (hb9.mono hB8.size)
    replace hpa := hpa.keep hb9
    replace ka := ka.keep hb9
    replace kb := kb.keep hb9
    clear hb9 hB8
    go_wp2_with fail
    refine (hT2.out _ hB9).mono ?_
    rintro e w10 ⟨rfl, hb10⟩
    have hB10 := hB9.trans (hb10.mono hB9.size)
    replace hpa := hpa.keep hb10
    replace ka := ka.keep hb10
    replace kb := kb.keep hb10
    clear hb10 hB9
    go_wp2_with fail
    refine (hAa.out _ _ hpa).mono ?_
    rintro e w11 ⟨rfl, hb11⟩
    have hB11 := hB10.trans (hb11.mono hB10.size)
    replace hpa := hpa.keep hb11
    replace ka := ka.keep hb11
    replace kb := kb.keep hb11
    clear hb11 hB10
    go_wp2_with fail
    refine (hGa.out _ _ hB11 hpa).mono ?_
    rintro e w12 ⟨va, rfl, ho12, hb12⟩
    have hB12 := hB11.trans (hb12.mono hB11.size)
    replace ka := ka.keep hb12
    replace kb := kb.keep hb12
    have kg := ho12.kl
    clear ho12
    clear hb12 hB11
    obtain ⟨u1, y1, u2, y2, hq1, hq2, kj, hby⟩ := joinW ka kb (by omega) (by omega)
    have hBy := hB12.trans (hby.mono hB12.size)
    replace kg := kg.keep hby
    clear hby ka kb hpa hB12
    go_wp2_with (at_builtin; first | (refine wpList_append_runG (by rfl) _ _ 34 rfl _ _ _ rfl rfl hq1 ?_) | (refine wpList_append_runG (by rfl) _ _ 34 rfl _ _ _ rfl rfl hq2 ?_))
    refine (hWo.out _ _ _ kg kj).mono ?_
    rintro e w14 ⟨rfl, hb14⟩
    have hB14 := hBy.trans (hb14.mono hBy.size)
    go_wp2_with fail
    go_ret
    exact ⟨rfl, hB14⟩
  · rw [if_neg hlt] at hAa
    replace hAa := Lib.hid hAa
    have hge : T1 ≤ k := by omega
    clear hlt
    go_wp2_with fail
    refine (hA2.out _ hB8).mono ?_
    rintro e w88 ⟨rfl, hb88⟩
    replace hB8 := hB8.trans (hb88.mono hB8.size)
    replace hpa := hpa.keep hb88
    replace ka := ka.keep hb88
    replace kb := kb.keep hb88
    clear hb88
    go_wp2_with fail
    refine (hTa.out _ _ hpa).mono ?_
    rintro e w9 ⟨rfl, hb9⟩
    have hB9 := hB8.trans (hb9.mono hB8.size)
    replace hpa := hpa.keep hb9
    replace ka := ka.keep hb9
    replace kb := kb.keep hb9
    clear hb9 hB8
    go_wp2_with fail
    refine (hT2.out _ hB9).mono ?_
    rintro e w10 ⟨rfl, hb10⟩
    have hB10 := hB9.trans (hb10.mono hB9.size)
    replace hpa := hpa.keep hb10
    replace ka := ka.keep hb10
    replace kb := kb.keep hb10
    clear hb10 hB9
    go_wp2_with fail
    refine (hAa.out _ _ hpa).mono ?_
    rintro e w11 ⟨rfl, hb11⟩
    have hB11 := hB10.trans (hb11.mono hB10.size)
    replace hpa := hpa.keep hb11
    replace ka := ka.keep hb11
    replace kb := kb.keep hb11
    clear hb11 hB10
    go_wp2_with fail
    refine (hGa.out _ _ hB11 hpa).mono ?_
    rintro e w12 ⟨va, rfl, ho12, hb12⟩
    have hB12 := hB11.trans (hb12.mono hB11.size)
    replace ka := ka.keep hb12
    replace kb := kb.keep hb12
    have kg := ho12.kl
    clear ho12
    clear hb12 hB11
    obtain ⟨u1, y1, u2, y2, hq1, hq2, kj, hby⟩ := joinW ka kb (by omega) (by omega)
    have hBy := hB12.trans (hby.mono hB12.size)
    replace kg := kg.keep hby
    clear hby ka kb hpa hB12
    go_wp2_with (at_builtin; first | (refine wpList_append_runG (by rfl) _ _ 34 rfl _ _ _ rfl rfl hq1 ?_) | (refine wpList_append_runG (by rfl) _ _ 34 rfl _ _ _ rfl rfl hq2 ?_))
    refine (hWo.out _ _ _ kg kj).mono ?_
    rintro e w14 ⟨rfl, hb14⟩
    have hB14 := hBy.trans (hb14.mono hBy.size)
    go_wp2_with fail
    go_ret
    exact ⟨rfl, hB14⟩

theorem pieceParts (v0 v1 v2 : Value) (I : List Nat) (l m : List Sp) (i : Nat) (w : World) (h0 : KL .u64 w v0 I) (hl : PI l) (h1 : PL w v1 l) (hm : PI m) (h2 : PL w v2 m) (hi : i < 65536) :
    Calls Try.prog 7 #[v0, v1, v2, .int .u16 (i : Nat)] w fun e w' => e = .returned (.bool true) ∧ Below w.heap.size w w' := by
  cases hf : fewL l
  · exact pieceParts_n1 v0 v1 v2 I l m i w h0 hl h1 hm h2 hf
  cases hg : fewL m
  · exact pieceParts_n2 v0 v1 v2 I l m i w h0 hl h1 hm h2 hf hg
  by_cases hI : 60 < I.length
  · exact pieceParts_n3 v0 v1 v2 I l m i w h0 hl h1 hm h2 hf hg hI
  · exact pieceParts_yes v0 v1 v2 I l m i w h0 hl h1 hm h2 hi hf hg (by omega)
end Go.Proofs.Ytddfhgdejlkdgaa
