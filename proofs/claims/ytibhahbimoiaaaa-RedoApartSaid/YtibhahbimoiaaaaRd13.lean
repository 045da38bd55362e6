/-
  The laws of package redo: RedoBack.
-/
import Derived.Test.YtibhahbimoiaaaaRd11
set_option linter.unusedVariables false
set_option linter.unusedSimpArgs false
namespace Go.Proofs.Ytibhahbimoiaaaa
open Go.RowKit Go.ChangeShapes Go.WideShapes Go.Deep

theorem encW_at : ∀ (l : List Ox) (i : Nat), i < l.length → (encW l).getD (2 * i) 0 = wN (l.getD i default) ∧ (encW l).getD (2 * i + 1) 0 = (l.getD i default).2.2
  | [], i, h => by simp at h
  | o :: l, 0, _ => ⟨rfl, rfl⟩
  | o :: l, i + 1, h => by
    obtain ⟨h1, h2⟩ := encW_at l i (by simpa using h)
    have e : encW (o :: l) = wN o :: o.2.2 :: encW l := rfl
    rw [e, show 2 * (i + 1) = 2 * i + 1 + 1 by omega]
    exact ⟨h1, h2⟩
theorem encS_more (l : List Ox) (more : List Nat) (j : Nat) (hj : j < 2 * l.length) : (encS l ++ more).getD j 0 = (encW l).getD j 0 := by
  have := encW_len l
  unfold encS
  rw [List.append_assoc, List.getD_eq_getElem?_getD, List.getD_eq_getElem?_getD, List.getElem?_append_left (by omega)]
theorem encS_sum (l : List Ox) (more : List Nat) : (encS l ++ more).getD (2 * l.length) 0 = moreN 0 (encW l) ∧ (encS l ++ more).take (2 * l.length) = encW l := by
  have := encW_len l
  unfold encS
  constructor
  · rw [List.append_assoc, List.getD_eq_getElem?_getD, List.getElem?_append_right (by omega), this, Nat.sub_self]; rfl
  · rw [List.append_assoc, ← this, List.take_left']; rfl
theorem opAt_enc {l : List Ox} (more : List Nat) {i : Nat} (hi : i < l.length) (h : wrongB (l.getD i default) = false) : opAt (encS l ++ more) i = l.getD i default ∧ (encS l ++ more).getD (2 * i) 0 = wN (l.getD i default) := by
  obtain ⟨h1, h2⟩ := encW_at l i hi
  have e1 := encS_more l more (2 * i) (by omega)
  have e2 := encS_more l more (2 * i + 1) (by omega)
  refine ⟨?_, by rw [e1, h1]⟩
  unfold opAt
  rw [e1, e2, h1, h2]
  have hw := wrongB_f h
  have hn : ((wN (l.getD i default) : Nat) : Int) = 4 * (l.getD i default).2.1 + (l.getD i default).1 := (wN_eq h).symm
  generalize l.getD i default = o at *
  obtain ⟨k, a, v⟩ := o
  simp only [] at *
  generalize wN (k, a, v) = W at *
  refine Prod.ext ?_ (Prod.ext ?_ rfl)
  · simp only []; omega
  · simp only []; omega
theorem getD_mem {l : List Ox} {i : Nat} (h : i < l.length) : l.getD i default ∈ l := by
  rw [List.getD_eq_getElem?_getD, List.getElem?_eq_getElem h]
  exact List.getElem_mem _
theorem decB_enc {l : List Ox} (more : List Nat) (h : ∀ o ∈ l, wrongB o = false) : decB (encS l ++ more) l.length = true := by
  obtain ⟨s1, s2⟩ := encS_sum l more
  refine decB_of (by rw [s1, s2]) (fun i hi => ?_)
  have hw := h _ (getD_mem hi)
  obtain ⟨e1, e2⟩ := opAt_enc more hi hw
  unfold fineB
  rw [e1, e2, hw]
  have := wN_lt hw
  simp only [Bool.not_false, Bool.true_and, decide_eq_true_eq]
  omega
theorem opsN_enc {l : List Ox} (more : List Nat) (h : ∀ o ∈ l, wrongB o = false) : opsN (encS l ++ more) l.length = l := by
  apply List.ext_getElem (opsN_len _ _)
  intro i h1 h2
  have := (opAt_enc more h2 (h _ (getD_mem h2))).1
  have e1 : (opsN (encS l ++ more) l.length)[i]'h1 = opAt (encS l ++ more) i := by simp only [opsN, List.getElem_map, List.getElem_range]
  rw [e1, this, List.getD_eq_getElem?_getD, List.getElem?_eq_getElem h2]
  rfl
theorem encS_WL {l : List Ox} (h : ∀ o ∈ l, wrongB o = false) (hv : OVs l) : WL (encS l) := by
  intro x hx
  unfold encS at hx
  rcases List.mem_append.1 hx with hx | hx
  · exact encW_WL h hv x hx
  · have := moreN_lt 0 (encW l)
    simp only [List.mem_cons, List.not_mem_nil, or_false] at hx
    omega

set_option maxHeartbeats 1000000 in
theorem redoBack_n1 (v u : Value) (l : List Ox) (mo : List Nat) (w : World) (hv : OPL w v l) (ho : OVs l) (hM : WL mo) (hu : KL .u64 w u mo) (h : 30 < l.length) :
    Calls Try.prog 6 #[v, u] w fun e w' => e = .returned (.bool true) ∧ Below w.heap.size w w' := by
  obtain ⟨A, cap, rfl, _⟩ := hv.form rfl
  obtain ⟨A2, cap2, rfl, _⟩ := hu.form rfl
  have h1 : (30 : Int) < (l.length : Int) := by omega
  clear hv hu
  go_enter Try.func6, Try.ntmps6
  go_wp2_with fail
  refine (awake12 _).mono ?_
  rintro e w1 ⟨rfl, hb1⟩
  go_wp2_with fail
  go_ret
  exact ⟨rfl, hb1⟩

set_option maxHeartbeats 1000000 in
theorem redoBack_n2 (v u : Value) (l : List Ox) (mo : List Nat) (w : World) (hv : OPL w v l) (ho : OVs l) (hM : WL mo) (hu : KL .u64 w u mo) (h : l.length ≤ 30) (h2 : 10 < mo.length) :
    Calls Try.prog 6 #[v, u] w fun e w' => e = .returned (.bool true) ∧ Below w.heap.size w w' := by
  obtain ⟨A, cap, rfl, _⟩ := hv.form rfl
  obtain ⟨A2, cap2, rfl, _⟩ := hu.form rfl
  have h1 : (l.length : Int) ≤ 30 := by omega
  have h3 : (10 : Int) < (mo.length : Int) := by omega
  clear hv hu
  go_enter Try.func6, Try.ntmps6
  go_wp2_with fail
  refine (awake12 _).mono ?_
  rintro e w1 ⟨rfl, hb1⟩
  go_wp2_with fail
  go_ret
  exact ⟨rfl, hb1⟩

set_option maxHeartbeats 1000000 in
theorem redoBack_n3 (v u : Value) (l : List Ox) (mo : List Nat) (w : World) (hv : OPL w v l) (ho : OVs l) (hM : WL mo) (hu : KL .u64 w u mo) (h : l.length ≤ 30) (h2 : mo.length ≤ 10) (hf : 19 < l.length) :
    Calls Try.prog 6 #[v, u] w fun e w' => e = .returned (.bool true) ∧ Below w.heap.size w w' := by
  have hE := Lib.hid (fun w1 (hb : Below w.heap.size w w1) => enc_full v l w1 (hv.keep hb) hf)
  obtain ⟨A, cap, rfl, _⟩ := hv.form rfl
  obtain ⟨A2, cap2, rfl, _⟩ := hu.form rfl
  have h1 : (l.length : Int) ≤ 30 := by omega
  have h3 : (mo.length : Int) ≤ 10 := by omega
  have hB0 := Below.refl w.heap.size w
  clear hv hu
  go_enter Try.func6, Try.ntmps6
  go_wp2_with fail
  refine (awake12 _).mono ?_
  rintro e w1 ⟨rfl, hb1⟩
  have hB1 := hB0.trans (hb1.mono hB0.size)
  clear hb1 hB0
  go_wp2_with fail
  refine (hE.out _ hB1).mono ?_
  rintro e w2 ⟨rfl, hb2⟩
  have hB2 := hB1.trans (hb2.mono hB1.size)
  clear hb2 hB1
  go_wp2_with fail
  go_ret
  exact ⟨rfl, hB2⟩

set_option maxHeartbeats 1000000 in
theorem redoBack_n4 (v u : Value) (l : List Ox) (mo : List Nat) (w : World) (hv : OPL w v l) (ho : OVs l) (hM : WL mo) (hu : KL .u64 w u mo) (h2 : mo.length ≤ 10) (hf : l.length ≤ 19) (hr : rightB l = false) :
    Calls Try.prog 6 #[v, u] w fun e w' => e = .returned (.bool true) ∧ Below w.heap.size w w' := by
  have hE := Lib.hid (fun w1 (hb : Below w.heap.size w w1) => enc_arg v l w1 (hv.keep hb) hf hr)
  obtain ⟨A, cap, rfl, _⟩ := hv.form rfl
  obtain ⟨A2, cap2, rfl, _⟩ := hu.form rfl
  have h1 : (l.length : Int) ≤ 30 := by omega
  have h3 : (mo.length : Int) ≤ 10 := by omega
  have hB0 := Below.refl w.heap.size w
  clear hv hu
  go_enter Try.func6, Try.ntmps6
  go_wp2_with fail
  refine (awake12 _).mono ?_
  rintro e w1 ⟨rfl, hb1⟩
  have hB1 := hB0.trans (hb1.mono hB0.size)
  clear hb1 hB0
  go_wp2_with fail
  refine (hE.out _ hB1).mono ?_
  rintro e w2 ⟨rfl, hb2⟩
  have hB2 := hB1.trans (hb2.mono hB1.size)
  clear hb2 hB1
  go_wp2_with fail
  go_ret
  exact ⟨rfl, hB2⟩

set_option maxRecDepth 10000 in
set_option maxHeartbeats 4000000 in
theorem redoBack_yes (v u : Value) (l : List Ox) (mo : List Nat) (w : World) (hv : OPL w v l) (ho : OVs l) (hM : WL mo) (hu : KL .u64 w u mo) (h2 : mo.length ≤ 10) (hr : rightB l = true) :
    Calls Try.prog 6 #[v, u] w fun e w' => e = .returned (.bool true) ∧ Below w.heap.size w w' := by
  obtain ⟨h19, hall⟩ := rightB_t hr
  have hE := Lib.hid (fun v w1 (hv : OPL w1 v l) => enc_ok v l w1 hv ho hr)
  have hel : (encS l).length = 2 * l.length + 1 := by unfold encS; rw [List.length_append, encW_len]; rfl
  have hD := fun v w1 (hv : KL .u64 w1 v (encS l ++ mo)) => dec_t v (encS l ++ mo) l.length w1 hv (fun x hx => by
    rcases List.mem_append.1 hx with hx | hx
    · exact encS_WL hall ho x hx
    · exact hM x hx) (by rw [List.length_append, hel]; omega) h19 (by rw [List.length_append, hel]; omega) (decB_enc mo hall)
  rw [opsN_enc mo hall] at hD
  have hS := fun v u w (hv : OPL w v l) (hu : OPL w u l) => opsame_any v u l l w (by omega) hv hu
  rw [show decide (l = l) = true by simp] at hS
  generalize encS l = E at *
  have hW := fun v u w hv hu => words_any v u E E w (by omega) hv hu
  rw [show decide (E = E) = true by simp] at hW
  obtain ⟨n, hn⟩ : ∃ n, l.length = n := ⟨_, rfl⟩
  rw [hn] at hD hel h19
  have po := hv
  have km := hu
  obtain ⟨A, cap, rfl, _⟩ := hv.form hn
  obtain ⟨A2, cap2, rfl, _⟩ := hu.form rfl
  have h1 : (n : Int) ≤ 30 := by omega
  have h3 : (mo.length : Int) ≤ 10 := by omega
  obtain ⟨NE, hNE⟩ : ∃ n, E.length = n := ⟨_, rfl⟩
  have hf : (NE : Int) = 2 * (n : Int) + 1 := by omega
  have f9 : ((NE : Int) == 2 * (n : Int) + 1) = true := by rw [beq_iff_eq]; exact hf
  have hB0 := Below.refl w.heap.size w
  replace hD := Lib.hid hD
  replace hS := Lib.hid hS
  replace hW := Lib.hid hW
  replace hn := Lib.hid hn
  replace hel := Lib.hid hel
  replace hf := Lib.hid hf
  clear hv hu hr hall ho hM
  go_enter Try.func6, Try.ntmps6
  go_wp2_with fail
  refine (awake12 _).mono ?_
  rintro e w1 ⟨rfl, hb1⟩
  have hB1 := hB0.trans (hb1.mono hB0.size)
  replace po := po.keep hb1
  replace km := km.keep hb1
  clear hb1 hB0
  go_wp2_with fail
  refine (hE.out _ _ po).mono ?_
  rintro e w2 ⟨vw, rfl, hsw, hb2⟩
  have hB2 := hB1.trans (hb2.mono hB1.size)
  replace po := po.keep hb2
  replace km := km.keep hb2
  have kw := hsw.kl
  clear hb2 hB1
  clear hsw
  obtain ⟨Aw, cw, rfl, _⟩ := kw.form hNE
  obtain ⟨u1, y1, u2, y2, hq1, hq2, kj, hby⟩ := joinW kw km (by have := hel.out; have := h19; omega) (by omega)
  have hBy := hB2.trans (hby.mono hB2.size)
  replace po := po.keep hby
  replace kw := kw.keep hby
  clear hby hB2 km
  go_wp2_with (at_builtin; first | (refine wpList_append_run rfl _ _ 24 rfl _ _ _ rfl rfl hq1 ?_) | (refine wpList_append_run rfl _ _ 24 rfl _ _ _ rfl rfl hq2 ?_))
  clear hq1 hq2
  refine (hD.out _ _ kj).mono ?_
  rintro e w3 ⟨vd, rfl, hod, hb3⟩
  have hB3 := hBy.trans (hb3.mono hBy.size)
  replace po := po.keep hb3
  replace kw := kw.keep hb3
  have pd := hod.opl
  clear hb3 hBy
  clear hod kj
  go_wp2_with fail
  refine (hE.out _ _ pd).mono ?_
  rintro e w4 ⟨ve, rfl, hse, hb4⟩
  have hB4 := hB3.trans (hb4.mono hB3.size)
  replace po := po.keep hb4
  replace kw := kw.keep hb4
  replace pd := pd.keep hb4
  have ke := hse.kl
  clear hb4 hB3
  clear hse
  go_wp2_with fail
  refine (hS.out _ _ _ pd po).mono ?_
  rintro e w5 ⟨rfl, hb5⟩
  have hB5 := hB4.trans (hb5.mono hB4.size)
  replace po := po.keep hb5
  replace kw := kw.keep hb5
  replace pd := pd.keep hb5
  replace ke := ke.keep hb5
  clear hb5 hB4
  go_wp2_with fail
  refine (hW.out _ _ _ ke kw).mono ?_
  rintro e w6 ⟨rfl, hb6⟩
  have hB6 := hB5.trans (hb6.mono hB5.size)
  replace po := po.keep hb6
  replace kw := kw.keep hb6
  replace pd := pd.keep hb6
  replace ke := ke.keep hb6
  clear hb6 hB5
  go_wp2_with fail
  go_ret
  exact ⟨rfl, hB6⟩
theorem redoBack (v u : Value) (l : List Ox) (mo : List Nat) (w : World) (hv : OPL w v l) (ho : OVs l) (hM : WL mo) (hu : KL .u64 w u mo) :
    Calls Try.prog 6 #[v, u] w fun e w' => e = .returned (.bool true) ∧ Below w.heap.size w w' := by
  by_cases h : 30 < l.length
  · exact redoBack_n1 v u l mo w hv ho hM hu h
  by_cases h2 : 10 < mo.length
  · exact redoBack_n2 v u l mo w hv ho hM hu (by omega) h2
  by_cases h3 : 19 < l.length
  · exact redoBack_n3 v u l mo w hv ho hM hu (by omega) (by omega) h3
  cases hr : rightB l
  · exact redoBack_n4 v u l mo w hv ho hM hu (by omega) (by omega) hr
  · exact redoBack_yes v u l mo w hv ho hM hu (by omega) hr
end Go.Proofs.Ytibhahbimoiaaaa
