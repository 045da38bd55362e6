/-
  Part of the proof of SoundTells,SoundGiven.
-/
import Derived.Test.YtdmmbnnejbmdpaaGreatDoorVu912
import Derived.Test.YtdmmbnnejbmdpaaGreatDoorVu928
import Derived.Test.YtdmmbnnejbmdpaaGreatDoorVu939
import Derived.Test.YtdmmbnnejbmdpaaGreatDoorVu940
import Derived.Test.YtdmmbnnejbmdpaaGreatDoorVu941
import Derived.Test.YtdmmbnnejbmdpaaGreatDoorVu943
import Derived.Test.YtdmmbnnejbmdpaaGreatDoorVu947
import Derived.Test.YtdmmbnnejbmdpaaGreatDoorVu98
import Derived.Test.YtdmmbnnejbmdpaaGreatDoorVu90
set_option maxRecDepth 10000
set_option maxHeartbeats 8000000
set_option linter.unusedVariables false
set_option linter.unusedSimpArgs false
section
namespace Go.Proofs.YtdmmbnnejbmdpaaGreatDoor
open Go.Lib Go.RowKit Go.ChangeShapes Go.WideShapes Go.Deep Go.Shelf
def noLogs (t : List Nat) (k : Nat) : Bool := (List.range k).all fun ln => decide (logsT t (ln : Nat) = [])
theorem noLogs_succ (t : List Nat) (k : Nat) : noLogs t (k + 1) = (noLogs t k && decide (logsT t (k : Nat) = [])) := by
 unfold noLogs; rw [List.range_succ, List.all_append]; simp
theorem noLogs_false {t : List Nat} {k n : Nat} (h : noLogs t k = false) (hk : k ≤ n) : noLogs t n = false := by
 induction n with
 | zero => obtain rfl : k = 0 := by omega
           exact h
 | succ n ih =>
   by_cases e : k = n + 1
   ·subst e; exact h
   ·rw [noLogs_succ, ih (by omega), Bool.false_and]
theorem logs_none {t : List Nat} (ho : t.all okN = true) (hc : calmT t = true) (ln : Int) : logsT t ln = [] := by
 unfold logsT
 rw [if_pos ho]
 unfold logsR
 refine List.flatMap_eq_nil_iff.2 (fun n hn => ?_)
 unfold logsN
 refine List.filter_eq_nil_iff.2 (fun i hi => ?_)
 intro h
 unfold isLog at h
 simp only [Bool.and_eq_true, decide_eq_true_eq] at h
 have hi2 := List.mem_range.1 hi
 have hx := List.all_eq_true.1 hc (t.getD i 0) (by rw [List.getD_eq_getElem?_getD, List.getElem?_eq_getElem hi2]; exact List.getElem_mem _)
 simp at hx
 simp at h
 omega
theorem logs_some {t : List Nat} (ho : t.all okN = true) (hc : calmT t = false) : ∃ ln, ln < 64 ∧ logsT t (ln : Nat) ≠ [] := by
 obtain ⟨x, hx, hk⟩ := List.all_eq_false.1 hc
 obtain ⟨i, hi, rfl⟩ := List.getElem_of_mem hx
 have hok := okN_t (List.all_eq_true.1 ho _ hx)
 have hk4 : kN t[i] = 4 := by simpa using hk
 unfold RightN at hok
 refine ⟨lnN t[i], by omega, fun h => ?_⟩
 unfold logsT at h
 rw [if_pos ho] at h
 unfold logsR at h
 have h1 := List.flatMap_eq_nil_iff.1 h (mN t[i]) (List.mem_range.2 (by omega))
 unfold logsN at h1
 have h2 := List.filter_eq_nil_iff.1 h1 i (List.mem_range.2 hi)
 refine h2 ?_
 unfold isLog
 simp only [List.getD_eq_getElem?_getD, List.getElem?_eq_getElem hi, Option.getD_some]
 simp [hk4]
theorem noLogs_calm {t : List Nat} (ho : t.all okN = true) : noLogs t 64 = calmT t := by
 cases hc : calmT t with
 | true =>
   refine List.all_eq_true.2 (fun ln _ => ?_)
   rw [logs_none ho hc]
   rfl
 | false =>
   obtain ⟨ln, hl, hn⟩ := logs_some ho hc
   exact List.all_eq_false.2 ⟨ln, List.mem_range.2 hl, by rw [decide_eq_false hn]; decide⟩
def refB (I : List Nat) (L : Nat) (R : List Bl) (k : Nat) : Bool := (List.range k).all fun i => (objH I L (R.getD i default)).isSome && (decide ((objE I L (R.getD i default)).2.2.2 / 4294967296 ≤ I.getD 9 0) && (List.range i).all fun j => !decide ((objE I L (R.getD j default)).2.2.2 = (objE I L (R.getD i default)).2.2.2))
theorem refB_succ (I : List Nat) (L : Nat) (R : List Bl) (k : Nat) : refB I L R (k + 1) = (refB I L R k && ((objH I L (R.getD k default)).isSome && (decide ((objE I L (R.getD k default)).2.2.2 / 4294967296 ≤ I.getD 9 0) && (List.range k).all fun j => !decide ((objE I L (R.getD j default)).2.2.2 = (objE I L (R.getD k default)).2.2.2)))) := by
 unfold refB; rw [List.range_succ, List.all_append]; simp
theorem refB_false {I : List Nat} {L : Nat} {R : List Bl} {k n : Nat} (h : refB I L R k = false) (hk : k ≤ n) : refB I L R n = false := by
 induction n with
 | zero => obtain rfl : k = 0 := by omega
           exact h
 | succ n ih =>
   by_cases e : k = n + 1
   ·subst e; exact h
   ·rw [refB_succ, ih (by omega), Bool.false_and]
def refS (I : List Nat) : Bool := sOk I && (restN I (I.getD 3 0) && (rightT (tabW I (I.getD 3 0)) && (decide (I.getD 9 0 ≤ 4294967295) && (noLogs (tabW I (I.getD 3 0)) 64 && (refB I (I.getD 3 0) (blI I (I.getD 3 0)) (blI I (I.getD 3 0)).length && (decide (I.getD 8 0 = 0) || (blI I (I.getD 3 0)).any fun b => decide (I.getD 8 0 = plc I.length (I.getD 3 0) b)))))))
end Go.Proofs.YtdmmbnnejbmdpaaGreatDoor
end
section
namespace Go.Proofs.YtdmmbnnejbmdpaaGreatDoor
open Go.Lib Go.RowKit Go.ChangeShapes Go.WideShapes Go.Deep Go.Shelf
theorem objE_plc {I : List Nat} {L : Nat} {b : Bl} (h : (objH I L b).isSome = true) : (objE I L b).1 = plc I.length L b := by
 unfold objE
 unfold objH at h ⊢
 cases hd : hdAt I (plc I.length L b) with
 | none => rw [hd] at h; simp at h
 | some p =>
   obtain ⟨t, s, n⟩ := p
   rw [hd] at h
   simp only at h ⊢
   split
   ·rfl
   ·rename_i h2; rw [if_neg h2] at h; simp at h
theorem refB_iff {I : List Nat} {L : Nat} {R : List Bl} : refB I L R R.length = true ↔ (allO I L R = true ∧ ((R.map (objE I L)).all fun o => decide (o.2.2.2 / 4294967296 ≤ I.getD 9 0)) = true ∧ distR (serO (R.map (objE I L))) (R.map (objE I L)).length = true) := by
 have hg : ∀ i, i < R.length → (serO (R.map (objE I L))).getD i 0 = (objE I L (R.getD i default)).2.2.2 := by
  intro i hi
  simp only [serO, List.getD_eq_getElem?_getD, List.getElem?_map, List.getElem?_eq_getElem hi, Option.map_some, Option.getD_some]
 have hb : ∀ b, b ∈ R ↔ ∃ i, i < R.length ∧ R.getD i default = b := by
  intro b
  constructor
  ·intro h
   obtain ⟨i, hi, rfl⟩ := List.getElem_of_mem h
   exact ⟨i, hi, by rw [List.getD_eq_getElem?_getD, List.getElem?_eq_getElem hi]; rfl⟩
  ·rintro ⟨i, hi, rfl⟩
   rw [List.getD_eq_getElem?_getD, List.getElem?_eq_getElem hi]
   exact List.getElem_mem hi
 constructor
 ·intro h
  have h1 : ∀ i, i < R.length → _ := fun i hi => List.all_eq_true.1 h i (List.mem_range.2 hi)
  simp only [Bool.and_eq_true, decide_eq_true_eq] at h1
  refine ⟨?_, ?_, ?_⟩
  ·refine List.all_eq_true.2 (fun b hb1 => ?_)
   obtain ⟨i, hi, rfl⟩ := (hb b).1 hb1
   exact (h1 i hi).1
  ·refine List.all_eq_true.2 (fun o ho => ?_)
   obtain ⟨b, hb1, rfl⟩ := List.mem_map.1 ho
   obtain ⟨i, hi, rfl⟩ := (hb b).1 hb1
   exact decide_eq_true (h1 i hi).2.1
  ·refine List.all_eq_true.2 (fun i hi => ?_)
   rw [List.length_map] at hi
   have hi := List.mem_range.1 hi
   refine List.all_eq_true.2 (fun j hj => ?_)
   have hj1 := List.mem_range.1 hj
   rw [hg i hi, hg j (by omega)]
   exact List.all_eq_true.1 (h1 i hi).2.2 j hj
 ·rintro ⟨h1, h2, h3⟩
  refine List.all_eq_true.2 (fun i hi => ?_)
  have hi := List.mem_range.1 hi
  have hm : R.getD i default ∈ R := (hb _).2 ⟨i, hi, rfl⟩
  rw [List.all_eq_true.1 h1 _ hm, List.all_eq_true.1 h2 _ (List.mem_map.2 ⟨_, hm, rfl⟩)]
  rw [Bool.true_and, Bool.true_and]
  have h4 := List.all_eq_true.1 h3 i (List.mem_range.2 (by rw [List.length_map]; exact hi))
  refine List.all_eq_true.2 (fun j hj => ?_)
  have hj1 := List.mem_range.1 hj
  have h5 := List.all_eq_true.1 h4 j hj
  rw [hg i hi, hg j (by omega)] at h5
  exact h5
theorem rootB_any {I : List Nat} {L : Nat} {R : List Bl} (h : allO I L R = true) : (R.any fun b => decide (I.getD 8 0 = plc I.length L b)) = ((R.map (objE I L)).any fun o => decide (o.1 = I.getD 8 0)) := by
 rw [List.any_map, Bool.eq_iff_iff, List.any_eq_true, List.any_eq_true]
 constructor
 ·rintro ⟨b, hb, h2⟩
  refine ⟨b, hb, ?_⟩
  show decide ((objE I L b).1 = I.getD 8 0) = true
  rw [objE_plc (List.all_eq_true.1 h b hb)]
  exact decide_eq_true (of_decide_eq_true h2).symm
 ·rintro ⟨b, hb, h2⟩
  refine ⟨b, hb, ?_⟩
  replace h2 : decide ((objE I L b).1 = I.getD 8 0) = true := h2
  rw [objE_plc (List.all_eq_true.1 h b hb)] at h2
  exact decide_eq_true (of_decide_eq_true h2).symm
theorem refS_sound (I : List Nat) : refS I = soundB I := by
 unfold refS soundB
 generalize hL : I.getD 3 0 = L
 cases h1 : sOk I with
 | false => rfl
 | true =>
 cases h2 : restN I L with
 | false => rfl
 | true =>
 cases h3 : rightT (tabW I L) with
 | false => rfl
 | true =>
 rw [noLogs_calm (rightT_t h3).1]
 cases h4 : calmT (tabW I L) with
 | false => simp only [Bool.true_and, Bool.and_true, Bool.false_and, Bool.and_false]
 | true =>
 simp only [Bool.true_and]
 cases h5 : allO I L (blI I L) with
 | false =>
   have h6 : refB I L (blI I L) (blI I L).length = false := by
    cases h7 : refB I L (blI I L) (blI I L).length with
    | false => rfl
    | true => have := (refB_iff.1 h7).1; rw [h5] at this; cases this
   rw [h6]
   simp only [Bool.true_and, Bool.and_true, Bool.false_and, Bool.and_false]
 | true =>
   have ho : objsP I L = (blI I L).map (objE I L) := by unfold objsP; rw [if_pos h5]
   rw [ho, rootB_any h5]
   unfold epoB rootB
   simp only [Bool.true_and]
   cases h6 : refB I L (blI I L) (blI I L).length with
   | true =>
     obtain ⟨-, a, b⟩ := refB_iff.1 h6
     rw [a, b]
     simp only [Bool.true_and, Bool.and_true]
   | false =>
     by_cases a : ((blI I L).map (objE I L)).all (fun o => decide (o.2.2.2 / 4294967296 ≤ I.getD 9 0)) = true
     ·by_cases b : distR (serO ((blI I L).map (objE I L))) ((blI I L).map (objE I L)).length = true
      ·rw [refB_iff.2 ⟨h5, a, b⟩] at h6; cases h6
      ·rw [Bool.not_eq_true] at b
       rw [b]
       simp only [Bool.true_and, Bool.and_true, Bool.false_and, Bool.and_false]
     ·rw [Bool.not_eq_true] at a
      rw [a]
      simp only [Bool.true_and, Bool.and_true, Bool.false_and, Bool.and_false]
end Go.Proofs.YtdmmbnnejbmdpaaGreatDoor
end
section
namespace Go.Proofs.YtdmmbnnejbmdpaaGreatDoor
open Go.Lib Go.RowKit Go.ChangeShapes Go.WideShapes Go.Deep Go.Shelf
theorem rmkdec16 (x : Nat) (w : World) (hx : x < 18446744073709551616) :
 Calls Tryz.prog 40 #[.int .u64 (x : Nat)] w fun e w' => e = .returned (.tuple #[.agg #[.int .i64 (if mkOk x = true then (mkS x : Int) else 0), .int .i64 (if mkOk x = true then (mkC x : Int) else 0), .int .u64 (if mkOk x = true then (mkG x : Int) else 0)], .bool (mkOk x)]) ∧ Below w.heap.size w w' := by
 have e : mkOk x = okB ((x : Int) % 4) ((x : Int) / 4 % 16384) ((x : Int) / 65536) := by
  unfold mkOk mkS mkC mkG
  rfl
 cases h : mkOk x with
 | true =>
   refine (refDecode_t (x : Nat) w (by omega) (by omega) (by rw [← e, h])).mono ?_
   rintro e1 w' ⟨rfl, hb⟩
   refine ⟨?_, hb⟩
   rw [if_pos rfl, if_pos rfl, if_pos rfl, show ((mkS x : Nat) : Int) = (x : Int) % 4 from by unfold mkS; omega, show ((mkC x : Nat) : Int) = (x : Int) / 4 % 16384 from by unfold mkC; omega, show ((mkG x : Nat) : Int) = (x : Int) / 65536 from by unfold mkG; omega]
 | false =>
   refine (refDecode_f (x : Nat) w (by omega) (by omega) (by rw [← e, h])).mono ?_
   rintro e1 w' ⟨rfl, hb⟩
   exact ⟨rfl, hb⟩
theorem refS_1 {I : List Nat} (h : restN I (I.getD 3 0) = false) : refS I = false := by unfold refS; rw [h]; simp
theorem refS_2 {I : List Nat} (h : rightT (tabW I (I.getD 3 0)) = false) : refS I = false := by unfold refS; rw [h]; simp
theorem refS_3 {I : List Nat} (h : ¬ I.getD 9 0 ≤ 4294967295) : refS I = false := by unfold refS; rw [decide_eq_false h]; simp
theorem refS_4 {I : List Nat} (h : noLogs (tabW I (I.getD 3 0)) 64 = false) : refS I = false := by unfold refS; rw [h]; simp
theorem refS_5 {I : List Nat} (h : refB I (I.getD 3 0) (blI I (I.getD 3 0)) (blI I (I.getD 3 0)).length = false) : refS I = false := by unfold refS; rw [h]; simp
theorem refS_6 {I : List Nat} (h : (decide (I.getD 8 0 = 0) || (blI I (I.getD 3 0)).any fun b => decide (I.getD 8 0 = plc I.length (I.getD 3 0) b)) = false) : refS I = false := by unfold refS; rw [h]; simp
theorem refS_yes {I : List Nat} (h0 : sOk I = true) (h1 : restN I (I.getD 3 0) = true) (h2 : rightT (tabW I (I.getD 3 0)) = true) (h3 : I.getD 9 0 ≤ 4294967295) (h4 : noLogs (tabW I (I.getD 3 0)) 64 = true) (h5 : refB I (I.getD 3 0) (blI I (I.getD 3 0)) (blI I (I.getD 3 0)).length = true) (h6 : (decide (I.getD 8 0 = 0) || (blI I (I.getD 3 0)).any fun b => decide (I.getD 8 0 = plc I.length (I.getD 3 0) b)) = true) : refS I = true := by
 unfold refS; rw [h0, h1, h2, decide_eq_true h3, h4, h5, h6]; rfl
def rooB (x8 N L : Nat) (R : List Bl) (k : Nat) : Bool := decide (x8 = 0) || (R.take k).any fun b => decide (x8 = plc N L b)
theorem rooB_succ {x8 N L : Nat} {R : List Bl} {k : Nat} (h : k < R.length) : rooB x8 N L R (k + 1) = (rooB x8 N L R k || decide (x8 = plc N L (R.getD k default))) := by
 unfold rooB
 rw [List.take_succ_eq_append_getElem h, List.any_append, List.getD_eq_getElem?_getD, List.getElem?_eq_getElem h]
 simp [Bool.or_assoc]
theorem decH_n {l : List Nat} {t s n : Nat} (h : decH l = some (t, s, n)) : n = l.getD 1 0 := by
 unfold decH at h
 split at h
 ·cases h
 ·split at h
  ·cases h; rfl
  ·cases h
theorem hdr_any {g off cap N L : Nat} {I : List Nat} (b : Bl) (w : World) (h : PoolM w g off cap N L I) (hb : b ∈ blI I L) : ∃ t s n : Nat, Hid (∀ w1, Below w.heap.size w w1 → Calls Tryz.prog 43 #[.slice (some ⟨g, off, none⟩) N cap, .agg #[.int .i64 (N : Nat), .int .i64 (L : Nat)], .agg #[.int .i64 (b.1 : Nat), .int .i64 (b.2.1 : Nat), .int .i64 (b.2.2 : Nat)]] w1 fun e w' => e = .returned (.tuple #[.agg #[.int .i64 (t : Nat), .int .i64 (s : Nat), .int .u64 (n : Nat)], .bool (objH I L b).isSome]) ∧ Below w1.heap.size w1 w') ∧ ((objH I L b).isSome = true → (objE I L b).2.2.2 = n) ∧ n < 18446744073709551616 := by
 obtain ⟨bc, bj, bm⟩ := b
 have hH := fun w1 (q : Below w.heap.size w w1) => Header_any g off cap N L I bc bj bm w1 (h.keep q) hb
 have hN := h.hN
 unfold objE objH at *
 rw [hN]
 obtain ⟨p, hp⟩ : ∃ p, plc N L (bc, bj, bm) = p := ⟨_, rfl⟩
 rw [hp]
 rw [hN, hp] at hH
 rcases hd : hdAt I p with _ | ⟨t, s, n⟩
 ·rw [hd] at hH
  exact ⟨0, 0, 0, lh hH, (fun q => by simp at q), by omega⟩
 ·rw [hd] at hH
  refine ⟨t, s, n, lh hH, fun q => ?_, ?_⟩
  ·simp only at q ⊢
   split
   ·rfl
   ·rename_i q2; rw [if_neg q2] at q; simp at q
  ·rw [decH_n hd]
   have hW2 : WL ((I.drop p).take 2) := fun x hx => h.hW x (List.mem_of_mem_drop (List.mem_of_mem_take hx))
   exact hW2.getN 1
theorem plc_any {g off cap N L : Nat} {I : List Nat} (b : Bl) (w : World) (h : PoolM w g off cap N L I) (hb : b ∈ blI I L) : plc N L b ≤ 800 ∧ ∀ w1, Calls Tryz.prog 27 #[.agg #[.int .i64 (N : Nat), .int .i64 (L : Nat)], .agg #[.int .i64 (b.1 : Nat), .int .i64 (b.2.1 : Nat), .int .i64 (b.2.2 : Nat)]] w1 fun e w' => e = .returned (.int .i64 (plc N L b : Nat)) ∧ Below w1.heap.size w1 w' := by
 obtain ⟨bc, bj, bm⟩ := b
 have hgI : gOk (I.length : Nat) (L : Nat) = true := by rw [h.hN]; exact h.hs
 obtain ⟨u1, u2, u3, u4, u5, u6, u7⟩ := plc_bd hgI hb
 have hN := h.hN
 have hN8 := h.hN8
 rw [hN] at u1 u6 u7
 simp only [] at u2 u3 u4 u5
 exact ⟨by omega, fun w1 => refPlace_any N L bc bj bm w1 h.hs u1 (by omega) (by omega) (by omega)⟩
theorem refB_some {I : List Nat} {L : Nat} {R : List Bl} {k l : Nat} (h : refB I L R k = true) (hl : l < k) : (objH I L (R.getD l default)).isSome = true := by
 have q := List.all_eq_true.1 h l (List.mem_range.2 hl)
 simp only [Bool.and_eq_true] at q
 exact q.1
theorem refSound_f (v : Value) (I : List Nat) (w : World) (hv : KL .u64 w v I) (hN8 : I.length ≤ 800) (hs : sOk I = false) :
 Calls Tryz.prog 14 #[v] w fun e w' => e = .returned (.int .i64 7) ∧ Below w.heap.size w w' := by
 have hD := rdec_any v I I.length w rfl (by omega) (KL.sl hv)
 rw [hs] at hD
 replace hD : Calls Tryz.prog 39 #[v] w (fun e w' => e = .returned (.tuple #[.agg #[.int .i64 0, .int .i64 0], .int .i64 7]) ∧ Below w.heap.size w w') := hD
 obtain ⟨A, c, hve, -⟩ := hv.form rfl
 generalize I.length = N at hve
 subst hve
 clear hs hv hN8
 go_enter Tryz.func14, Tryz.ntmps14
 go_wp2_with fail
 refine hD.mono ?_
 rintro e w1 ⟨rfl, hb1⟩
 have eA := bZ w1 (.cells #[.int .i64 0, .int .i64 0] 51)
 have gG := HB.new w1 #[.int .i64 0, .int .i64 0] 51
 have hB2 := hb1.trans (eA.mono hb1.size)
 obtain ⟨w2, hw2⟩ : ∃ x, w1.alloc (.cells #[.int .i64 0, .int .i64 0] 51) = x := ⟨_, rfl⟩
 rw [hw2] at gG hB2
 clear eA
 subst hw2
 clear hD
 go_wp2_with fail
 go_ret
 exact ⟨rfl, hB2⟩
theorem refSound_t (g off cap N L : Nat) (I : List Nat) (w : World) (h : PoolM w g off cap N L I) (hs : sOk I = true) :
 Calls Tryz.prog 14 #[.slice (some ⟨g, off, none⟩) N cap] w fun e w' => e = .returned (.int .i64 (if refS I = true then 0 else 7)) ∧ Below w.heap.size w w' := by
 obtain ⟨s1, s2, s3, s4, s5, s6, s7, s8⟩ := pool_size h.hs
 have hN8 := h.hN8
 have hN := h.hN
 have hD := rdec_any (.slice (some ⟨g, off, none⟩) N cap) I N w hN (by omega) (KL.sl h.hv)
 rw [hs, h.hL] at hD
 replace hD : Calls Tryz.prog 39 #[.slice (some ⟨g, off, none⟩) N cap] w (fun e w' => e = .returned (.tuple #[.agg #[.int .i64 (N : Nat), .int .i64 (L : Nat)], .int .i64 0]) ∧ Below w.heap.size w w') := hD
 have hcl := lh (fun w1 i (hb : Below w.heap.size w w1) (hi : i < N) => (h.keep hb).cell i hi)
 have hx64 := lh (fun i => h.hW.getN i)
 have hst := lh (fun k => restN_succ I k)
 have hnf := lh (fun k (hk : k ≤ L) (hf : restN I k = false) => refS_1 (I := I) (by rw [h.hL]; exact restN_false hf hk))
 obtain ⟨er, her⟩ : ∃ r : Int, (if refS I = true then 0 else 7) = r := ⟨_, rfl⟩
 rw [her]
 replace her := lh her
 have hLN : 10 + L ≤ N := by omega
 have hcap : N ≤ cap := h.cap.1
 obtain ⟨F, hF⟩ : ∃ F, 10 + 73 * L = F := ⟨_, rfl⟩
 obtain ⟨G, hG⟩ : ∃ G, gNat N L = G := ⟨_, rfl⟩
 have hTb := lh (fun w1 => show Calls Tryz.prog 25 #[.agg #[.int .i64 (N : Nat), .int .i64 (L : Nat)]] w1 (fun e w' => e = .returned (.agg #[.int .i64 (F : Nat), .int .i64 (G : Nat)]) ∧ Below w1.heap.size w1 w') from by
  have h9 := refTable_t (N : Nat) (L : Nat) w1 h.hs
  rw [show (10 + 73 * (L : Int)) = ((F : Nat) : Int) from by omega, s5, hG] at h9
  exact h9)
 rw [hG] at s6 s7 s8
 have hFG : F + G ≤ N := by omega
 have hG2 : G ≤ 100 := by omega
 have hG1 : 1 ≤ G := by omega
 obtain ⟨T, hT⟩ : ∃ T, tabW I L = T := ⟨_, rfl⟩
 have hTT : (I.drop F).take G = T := by rw [← hT]; unfold tabW; rw [hN, hG, hF]
 have hTW : WL T := by rw [← hTT]; exact fun x hx => h.hW x (List.mem_of_mem_drop (List.mem_of_mem_take hx))
 have hTl : T.length = G := by rw [← hTT, List.length_take, List.length_drop, hN]; omega
 have hkT := lh (fun w1 (hb : Below w.heap.size w w1) => show KL .u64 w1 (.slice (some ⟨g, off + F, none⟩) G (cap - F)) T from by rw [← hTT]; exact KL.partC (h.hv.keep hb) hN F G (cap - F) (by omega) (by omega))
 have hlw := lh (fun w1 (hb : Below w.heap.size w w1) => h.hw.keep hb)
 have hn2 := lh (fun (q : rightT T = false) => refS_2 (I := I) (by rw [h.hL, hT]; exact q))
 have hn3 := lh (fun (q : ¬ I.getD 9 0 ≤ 4294967295) => refS_3 (I := I) q)
 have hn4 := lh (fun k (hk : k ≤ 64) (q : noLogs T k = false) => refS_4 (I := I) (by rw [h.hL, hT]; exact noLogs_false q hk))
 obtain ⟨R, hR⟩ : ∃ R, blI I L = R := ⟨_, rfl⟩
 obtain ⟨n, hn⟩ : ∃ n, R.length = n := ⟨_, rfl⟩
 have hRT : blksT T = R := by rw [← hR, ← hT]; rfl
 have hn5 := lh (fun k (hk : k ≤ n) (q : refB I L R k = false) => refS_5 (I := I) (by rw [h.hL, hR, hn]; exact refB_false q hk))
 obtain ⟨x8, hx8⟩ : ∃ x, I.getD 8 0 = x := ⟨_, rfl⟩
 obtain ⟨x9, hx9⟩ : ∃ x, I.getD 9 0 = x := ⟨_, rfl⟩
 have hroo : ((decide (I.getD 8 0 = 0) || (blI I L).any fun b => decide (I.getD 8 0 = plc I.length L b))) = rooB x8 N L R n := by
  unfold rooB; rw [hR, hx8, hN, ← hn, List.take_length]
 have hn6 := lh (fun (q : rooB x8 N L R n = false) => refS_6 (I := I) (by rw [h.hL, hroo]; exact q))
 have hyes := lh (fun (q1 : restN I L = true) (q2 : rightT T = true) (q3 : I.getD 9 0 ≤ 4294967295) (q4 : noLogs T 64 = true) (q5 : refB I L R n = true) (q6 : rooB x8 N L R n = true) => refS_yes (I := I) hs (by rw [h.hL]; exact q1) (by rw [h.hL, hT]; exact q2) q3 (by rw [h.hL, hT]; exact q4) (by rw [h.hL, hR, hn]; exact q5) (by rw [h.hL, hroo]; exact q6))
 have hn9 : n ≤ 800 := by
  have q := bl_len (I := I) (L := L) (by rw [hN]; exact h.hs)
  rw [hR, hn, hN, hG] at q
  omega
 have hHd := lh (fun b (q : b ∈ R) => hdr_any b w h (by rw [hR]; exact q))
 have hPl := lh (fun b (q : b ∈ R) => plc_any b w h (by rw [hR]; exact q))
 have h9N : (9 : Int) < (N : Int) := by omega
 have h8N : (8 : Int) < (N : Int) := by omega
 have h9n : 9 < N := by omega
 have h8n : 8 < N := by omega
 have hrs5 := lh (fun k => refB_succ I L R k)
 clear hTT hF hG hroo s5
 replace hT := lh hT
 replace hR := lh hR
 replace hRT := lh hRT
 replace hTW := lh hTW
 replace hTl := lh hTl
 replace hn := lh hn
 clear s1 s2 s3 s4 s6 s7 s8
 replace h := lh h
 replace hs := lh hs
 replace hN := lh hN
 go_enter Tryz.func14, Tryz.ntmps14
 go_wp2_with fail
 refine hD.mono ?_
 rintro e w1 ⟨rfl, hb1⟩
 have eA := bZ w1 (.cells #[.int .i64 (N : Nat), .int .i64 (L : Nat)] 51)
 have gG3 := HB.new w1 #[.int .i64 (N : Nat), .int .i64 (L : Nat)] 51
 have hB3 := hb1.trans (eA.mono hb1.size)
 obtain ⟨w2, hw2⟩ : ∃ x, w1.alloc (.cells #[.int .i64 (N : Nat), .int .i64 (L : Nat)] 51) = x := ⟨_, rfl⟩
 rw [hw2] at gG3 hB3
 clear eA
 obtain ⟨Gb, hGb⟩ : ∃ K, w1.heap.size = K := ⟨_, rfl⟩
 rw [hGb] at gG3
 clear hD hb1
 subst hw2
 go_wp2_with fail
 obtain ⟨w3, hw3⟩ : ∃ x, w1.alloc (.cells #[.int .i64 (N : Nat), .int .i64 (L : Nat)] 51) = x := ⟨_, rfl⟩
 rw [hw3] at gG3 hB3
 go_loopw [5] (fun i wr => ∃ (j : Nat), j ≤ L ∧ i = .int .i64 (j : Nat) ∧ Hid (restN I j = true) ∧ Below w3.heap.size w3 wr) (fun i _ => L + 1 - (intOf i).toNat)
 case atStart => exact ⟨0, Nat.zero_le _, rfl, lh rfl, by first | exact Below.refl _ _ | (rw [← hw3]; exact Below.refl _ _)⟩
 case round =>
  obtain ⟨j, hj, rfl, hrs, hBr⟩ := hrel
  have gGr := gG3.keep hBr
  obtain ⟨k0, k1⟩ := gGr.c2
  by_cases hlt : j < L
  ·have hlt' : (j : Int) < (L : Int) := by omega
   obtain ⟨M, hM⟩ : ∃ M, 10 + j = M := ⟨_, rfl⟩
   have hM1 : (10 : Int) + (j : Int) = (M : Int) := by omega
   have hM2 : IntKind.i64.wrap (M : Int) = (M : Int) := wrapQ _ (by omega) (by omega)
   have hMN : M < N := by omega
   have hMN' : (M : Int) < (N : Int) := by omega
   obtain ⟨x, hx⟩ : ∃ x, I.getD M 0 = x := ⟨_, rfl⟩
   have hxb := hx64.out M
   rw [hx] at hxb
   have hst1 : restN I (j + 1) = (mkOk x && decide (mkS x = 0)) := by rw [hst.out, hrs.out, hM, hx, Bool.true_and]
   have hBwr := hB3.trans (hBr.mono hB3.size)
   have hcx := hcl.out wr M hBwr hMN
   rw [hx] at hcx
   have hDx := rmkdec16 x wr hxb
   cases hok : mkOk x with
   | false =>
     have hno := lh (show refS I = false from hnf.out (j + 1) (by omega) (by rw [hst1, hok]; rfl))
     simp only [hok, Bool.false_eq_true, if_false] at hDx
     clear hst1 hok hrs gG3 hM hx
     go_wp2_with fail
     refine hDx.mono ?_
     rintro e w5 ⟨rfl, hb5⟩
     have hBr5 := hBwr.trans (hb5.mono hBwr.size)
     have eA := bZ w5 (.cells #[.int .i64 0, .int .i64 0, .int .u64 0] 82)
     have gM := HB.new w5 #[.int .i64 0, .int .i64 0, .int .u64 0] 82
     have hB6 := hBr5.trans (eA.mono hBr5.size)
     obtain ⟨w6, hw6⟩ : ∃ x, w5.alloc (.cells #[.int .i64 0, .int .i64 0, .int .u64 0] 82) = x := ⟨_, rfl⟩
     rw [hw6] at gM hB6
     clear eA
     have m0 := (row_cell gM 0).1
     subst hw6
     clear hDx
     go_wp2_with fail
     go_ret
     exact ⟨by rw [← her.out, hno.out]; rfl, hB6⟩
   | true =>
     simp only [hok, if_true] at hDx
     by_cases hms : mkS x = 0
     ·have hrs2 := lh (show restN I (j + 1) = true from by rw [hst1, hok, hms]; rfl)
      have hms' : ((mkS x : Nat) : Int) = 0 := by omega
      rw [hms'] at hDx
      generalize mkC x = xc at hDx
      generalize mkG x = xg at hDx
      clear hst1 hok hrs gG3 hM hx hms hms'
      go_wp2_with fail
      refine hDx.mono ?_
      rintro e w5 ⟨rfl, hb5⟩
      have hBr5 := hBr.trans (hb5.mono hBr.size)
      have eA := bZ w5 (.cells #[.int .i64 0, .int .i64 (xc : Int), .int .u64 (xg : Int)] 82)
      have gM := HB.new w5 #[.int .i64 0, .int .i64 (xc : Int), .int .u64 (xg : Int)] 82
      have hB6 := hBr5.trans (eA.mono hBr5.size)
      obtain ⟨w6, hw6⟩ : ∃ x, w5.alloc (.cells #[.int .i64 0, .int .i64 (xc : Int), .int .u64 (xg : Int)] 82) = x := ⟨_, rfl⟩
      rw [hw6] at gM hB6
      clear eA
      have m0 := (row_cell gM 0).1
      subst hw6
      clear hDx
      go_wp2_with fail
      go_roundw
      case rel => exact ⟨j + 1, by omega, by go_num, hrs2, hB6⟩
      case measure => first | (simp [intOf]; done) | (simp [intOf]; omega)
     ·have hno := lh (show refS I = false from hnf.out (j + 1) (by omega) (by rw [hst1, hok, decide_eq_false hms]; rfl))
      have hms' : ¬ ((mkS x : Nat) : Int) = 0 := by omega
      generalize mkS x = xs at hDx hms'
      generalize mkC x = xc at hDx
      generalize mkG x = xg at hDx
      clear hst1 hok hrs gG3 hM hx hms
      go_wp2_with fail
      refine hDx.mono ?_
      rintro e w5 ⟨rfl, hb5⟩
      have hBr5 := hBwr.trans (hb5.mono hBwr.size)
      have eA := bZ w5 (.cells #[.int .i64 (xs : Int), .int .i64 (xc : Int), .int .u64 (xg : Int)] 82)
      have gM := HB.new w5 #[.int .i64 (xs : Int), .int .i64 (xc : Int), .int .u64 (xg : Int)] 82
      have hB6 := hBr5.trans (eA.mono hBr5.size)
      obtain ⟨w6, hw6⟩ : ∃ x, w5.alloc (.cells #[.int .i64 (xs : Int), .int .i64 (xc : Int), .int .u64 (xg : Int)] 82) = x := ⟨_, rfl⟩
      rw [hw6] at gM hB6
      clear eA
      have m0 := (row_cell gM 0).1
      subst hw6
      clear hDx
      go_wp2_with fail
      go_ret
      exact ⟨by rw [← her.out, hno.out]; rfl, hB6⟩
  ·obtain rfl : L = j := by omega
   have hBwr := hB3.trans (hBr.mono hB3.size)
   replace hrs := lh hrs.out
   clear hlt hj hB3 gG3 hnf hst hx64
   go_wp2_with fail
   refine (hTb.out _).mono ?_
   rintro e w4 ⟨rfl, hb4⟩
   have hB4 := hBwr.trans (hb4.mono hBwr.size)
   have gG4 := gGr.keep hb4
   have hPart := part15_any g off N cap F G w4 (by omega) hcap (by omega) (by omega)
   clear k0 k1 hb4 hBwr gGr hBr hw3 hTb
   go_wp2_with fail
   refine hPart.mono ?_
   rintro e w5 ⟨rfl, hb5⟩
   have hB5 := hB4.trans (hb5.mono hB4.size)
   have gG5 := gG4.keep hb5
   have hRi := refRight_any2 _ T w5 (hlw.out _ hB5) (hkT.out _ hB5) hTW.out (by rw [hTl.out]; omega)
   obtain ⟨er1, her1⟩ : ∃ b, rightT T = b := ⟨_, rfl⟩
   rw [her1] at hRi
   clear hPart hb5 hB4 gG4
   go_wp2_with fail
   refine hRi.mono ?_
   rintro e w6 ⟨rfl, hb6⟩
   have hB6 := hB5.trans (hb6.mono hB5.size)
   have gG6 := gG5.keep hb6
   have hc9 := hcl.out w6 9 hB6 h9n
   rw [hx9] at hc9
   clear hRi hb6 hB5 gG5
   cases er1 with
   | false =>
     have hno := lh (hn2.out her1)
     go_wp2_with fail
     go_ret
     exact ⟨by rw [← her.out, hno.out]; rfl, hB6⟩
   | true =>
   by_cases h9 : x9 ≤ 4294967295
   case neg =>
    have hno := lh (hn3.out (by rw [hx9]; exact h9))
    have h9' : (4294967295 : Int) < (x9 : Int) := by omega
    clear h9
    go_wp2_with fail
    go_ret
    exact ⟨by rw [← her.out, hno.out]; rfl, hB6⟩
   have h9' : ¬ (4294967295 : Int) < (x9 : Int) := by omega
   replace hyes := lh (fun q4 q5 q6 => hyes.out hrs.out her1 (by rw [hx9]; exact h9) q4 q5 q6)
   replace hx9 := lh hx9
   clear her1 hrs hn2 hn3
   go_wp2_with fail
   clear hc9
   go_loopw [10] (fun i wr => ∃ (j : Nat), j ≤ 64 ∧ i = .int .i64 (j : Nat) ∧ Hid (noLogs T j = true) ∧ Below w6.heap.size w6 wr) (fun i _ => 65 - (intOf i).toNat)
   case atStart => exact ⟨0, by omega, rfl, lh rfl, Below.refl _ _⟩
   case round =>
   obtain ⟨j, hj, rfl, hnl, hBr⟩ := hrel
   have gGr := gG6.keep hBr
   have hBwr := hB6.trans (hBr.mono hB6.size)
   by_cases hlt : j < 64
   case pos =>
    have hlt' : (j : Int) < 64 := by omega
    have hLg := refLogs_any _ T (j : Nat) wr (hlw.out _ hBwr) (hkT.out _ hBwr) hTW.out (by rw [hTl.out]; omega)
    have hst2 : noLogs T (j + 1) = decide (logsT T (j : Nat) = []) := by rw [noLogs_succ, hnl.out, Bool.true_and]
    obtain ⟨Q, hQ⟩ : ∃ R, logsT T (j : Nat) = R := ⟨_, rfl⟩
    rw [hQ] at hLg hst2
    replace hst2 := lh hst2
    clear gG6 gGr hQ
    go_wp2_with fail
    refine hLg.mono ?_
    rintro e w7 ⟨v7, rfl, hO7, hb7⟩
    obtain ⟨m, hm⟩ : ∃ m, Q.length = m := ⟨_, rfl⟩
    obtain ⟨A7, c7, rfl⟩ := intForm hO7 hm
    have hBr7 := hBr.trans (hb7.mono hBr.size)
    have hB7 := hBwr.trans (hb7.mono hBwr.size)
    replace hm := lh hm
    clear hLg hO7 hb7
    by_cases hm0 : m = 0
    ·have hnl2 := lh (show noLogs T (j + 1) = true from by rw [hst2.out, decide_eq_true (List.eq_nil_of_length_eq_zero (by rw [hm.out]; exact hm0))])
     subst hm0
     go_wp2_with fail
     go_roundw
     case rel => exact ⟨j + 1, by omega, by go_num, hnl2, hBr7⟩
     case measure => first | (simp [intOf]; done) | (simp [intOf]; omega)
    ·have hno := lh (hn4.out (j + 1) (by omega) (by rw [hst2.out]; exact decide_eq_false (fun q => hm0 (by rw [← hm.out, q]; rfl))))
     have hm0' : (0 : Int) < (m : Int) := by omega
     go_wp2_with fail
     go_ret
     exact ⟨by rw [← her.out, hno.out]; rfl, hB7⟩
   obtain rfl : j = 64 := by omega
   have hBk := refBlocks_any _ T wr (hlw.out _ hBwr) (hkT.out _ hBwr) hTW.out (by rw [hTl.out]; omega)
   rw [hRT.out] at hBk
   replace hyes := lh (fun q5 q6 => hyes.out hnl.out q5 q6)
   clear hlt hj gG6 hB6 hnl hn4
   go_wp2_with fail
   refine hBk.mono ?_
   rintro e w8 ⟨v8, rfl, hO8, hb8⟩
   obtain ⟨A8, c8, rfl, -⟩ := BKO.formB hO8 hn.out
   have hB8 := hBwr.trans (hb8.mono hBwr.size)
   have gG8 := gGr.keep hb8
   have hc8 := hcl.out w8 8 hB8 h8n
   rw [hx8] at hc8
   replace hx8 := lh hx8
   clear hBk hb8 hBwr hBr gGr
   go_wp2_with fail
   clear hc8
   go_loopw [12, 13] (fun r i wr => ∃ (j : Nat), j ≤ n ∧ i = .int .i64 (j : Nat) ∧ r = .bool (rooB x8 N L R j) ∧ Hid (refB I L R j = true) ∧ Below w8.heap.size w8 wr) (fun _ i _ => n + 1 - (intOf i).toNat)
   case atStart => exact ⟨0, Nat.zero_le _, rfl, by (simp [rooB]; rw [Bool.eq_iff_iff, beq_iff_eq, decide_eq_true_iff]; omega), lh rfl, Below.refl _ _⟩
   case round =>
   obtain ⟨j, hj, rfl, rfl, hrb, hBr⟩ := hrel
   have gGr := gG8.keep hBr
   have hBwr := hB8.trans (hBr.mono hB8.size)
   by_cases hlt : j < n
   case pos =>
    have hlt' : (j : Int) < (n : Int) := by omega
    have hm : R.getD j default ∈ R := by rw [List.getD_eq_getElem?_getD, List.getElem?_eq_getElem (by rw [hn.out]; omega)]; exact List.getElem_mem _
    have hst5 := hrs5.out j
    rw [hrb.out, Bool.true_and] at hst5
    have hro := rooB_succ (x8 := x8) (N := N) (L := L) (R := R) (k := j) (by rw [hn.out]; exact hlt)
    generalize hrb2 : rooB x8 N L R j = rb at *
    obtain ⟨A9, c9, hv9, hF9⟩ := BKO.formB (hO8.keep hBr) hn.out
    cases hv9
    obtain ⟨g5, o5, rfl, hc5, hg5, hg8, k0, k1, k2⟩ := hF9 wr j (Below.refl _ _) hlt
    obtain ⟨t, s, sn, hHb, hHs, hsn⟩ := hHd.out _ hm
    obtain ⟨hp8, hPb⟩ := hPl.out _ hm
    obtain ⟨b, hb⟩ : ∃ b, R.getD j default = b := ⟨_, rfl⟩
    rw [hb] at k0 k1 k2 hHb hHs hPb hp8 hst5 hro
    have hbb := lh hb
    obtain ⟨okb, hok⟩ : ∃ a, (objH I L b).isSome = a := ⟨_, rfl⟩
    rw [hok] at hHb hHs hst5
    obtain ⟨p, hp⟩ : ∃ p, plc N L b = p := ⟨_, rfl⟩
    rw [hp] at hPb hp8 hro
    obtain ⟨bc, bj, bm⟩ := b
    simp only [] at k0 k1 k2 hHb hPb
    replace hst5 := lh hst5
    replace hro := lh hro
    replace hHs := lh hHs
    replace hPb := lh hPb
    replace hF9 := lh hF9
    clear hb hok hp hm hrb2
    have hCF := lh (fun w' (hb : Below wr.heap.size wr w') => show w'.cell? ⟨Gb, 0, none⟩ = some (.int .i64 (N : Nat)) ∧ w'.cell? ⟨Gb, 1, none⟩ = some (.int .i64 (L : Nat)) ∧ w'.cell? ⟨g5, o5 + j * 3, none⟩ = some (.int .i64 (bc : Nat)) ∧ w'.cell? ⟨g5, o5 + j * 3 + 1, none⟩ = some (.int .i64 (bj : Nat)) ∧ w'.cell? ⟨g5, o5 + j * 3 + 2, none⟩ = some (.int .i64 (bm : Nat)) from
     ⟨(gGr.keep hb).c2.1, (gGr.keep hb).c2.2, by rw [(bcell hb).1 _ _ hg5]; exact k0, by rw [(bcell hb).1 _ _ hg5]; exact k1, by rw [(bcell hb).1 _ _ hg5]; exact k2⟩)
    clear k0 k1 k2
    go_wp2_with fail
    refine wp_region_held_drew (S := (fun w' => Below wr.heap.size wr w')) (by kernel_rfl) (Below.refl _ _).drew (fun hHeld => ?_)
    refine takeH 0 ?_
    refine takeH 1 ?_
    refine takeH 2 ?_
    refine takeH 3 ?_
    refine takeH 4 ?_
    refine takeH 5 ?_
    refine twoL 6 10 rfl rfl (by kernel_rfl) (fun K hK => ?_) (fun K hK => ?_)
    ·go_simp
     refine (hHb.out _ (hBwr.trans (hHeld.mono hBwr.size))).mono ?_; rintro e w6 ⟨rfl, hb⟩
     refine hK.out _ _ (hHeld.trans (hb.mono hHeld.size)) (fun hHeld2 => ?_)
     clear hK K hHeld
     have hHeld := hHeld2
     clear hHeld2
     try simp only [Act.put,sA,sB,sC]
     refine takeH 7 ?_
     refine takeH 8 ?_
     refine takeH 9 ?_
     refine oneL 10 rfl (by kernel_rfl) (fun K hK => ?_)
     have hb := bZ w6 (.cells #[.int .i64 0, .int .i64 0, .int .u64 0] 71)
     have gA := HB.new w6 #[.int .i64 0, .int .i64 0, .int .u64 0] 71
     obtain ⟨bz, hbz⟩ : ∃ b, w6.heap.size = b := ⟨_, rfl⟩
     have hbl : wr.heap.size ≤ bz := by rw [← hbz]; exact hHeld.size
     obtain ⟨wA, hwA⟩ : ∃ x, w6.alloc (.cells #[.int .i64 0, .int .i64 0, .int .u64 0] 71) = x := ⟨_, rfl⟩
     rw [hwA] at hb gA
     rw [hbz] at gA
     go_simp
     refine hK.out _ _ (hHeld.trans (hb.mono hHeld.size)) (fun hHeld2 => ?_)
     clear hwA hbz
     clear hK K hHeld
     have hHeld := hHeld2
     clear hHeld2
     try simp only [Act.put,sA,sB,sC]
     obtain ⟨s0, t0⟩ := row_cell gA 0
     obtain ⟨s1, t1⟩ := row_cell gA 1
     obtain ⟨s2, t2⟩ := row_cell gA 2
     refine oneL 11 rfl (by kernel_rfl) (fun K hK => ?_)
     go_simp
     refine hK.out _ _ (((hHeld.setCell (p := ⟨bz, 0, none⟩) hbl _).setCell (p := ⟨bz, 1, none⟩) hbl _).setCell (p := ⟨bz, 2, none⟩) hbl _) (fun hHeld2 => ?_)
     have gZ : HB (((wA.setCell ⟨bz, 0, none⟩ (.int .i64 (t : Nat))).setCell ⟨bz, 1, none⟩ (.int .i64 (s : Nat))).setCell ⟨bz, 2, none⟩ (.int .u64 (sn : Nat))) bz #[.int .i64 (t : Nat), .int .i64 (s : Nat), .int .u64 (sn : Nat)] 71 := (((gA.setC 0 (.int .i64 (t : Nat))).setC 1 (.int .i64 (s : Nat))).setC 2 (.int .u64 (sn : Nat)))
     generalize (((wA.setCell ⟨bz, 0, none⟩ (.int .i64 (t : Nat))).setCell ⟨bz, 1, none⟩ (.int .i64 (s : Nat))).setCell ⟨bz, 2, none⟩ (.int .u64 (sn : Nat))) = wz at *
     clear s0 t0 s1 t1 s2 t2
     clear hK K hHeld
     have hHeld := hHeld2
     clear hHeld2
     try simp only [Act.put,sA,sB,sC]
     refine takeH 12 ?_
     refine wpAnyH_done (by kernel_rfl) ?_ _
     have hHw := hHeld
     have hBz := hBr.trans (hHeld.mono hBr.size)
     have hBwz := hBwr.trans (hHeld.mono hBwr.size)
     have gGz := gGr.keep hHeld
     clear hCF hHeld gGr
     have hCF := lh (fun w' (hb : Below wz.heap.size wz w') => show w'.cell? ⟨bz, 2, none⟩ = some (.int .u64 (sn : Nat)) ∧ w'.cell? ⟨g, off + 9, none⟩ = some (.int .u64 (x9 : Nat)) from ⟨(row_cell (gZ.keep hb) 2).1, by have q := hcl.out w' 9 (hBwz.trans (hb.mono hBwz.size)) h9n; rw [hx9.out] at q; exact q⟩)
     cases okb with
     | false =>
       have hno := lh (hn5.out (j + 1) (by omega) (by rw [hst5.out]; rfl))
       clear hHs hst5
       go_wp2_with fail
       refine wp_region_held_drew (S := (fun w' => Below wz.heap.size wz w')) (by kernel_rfl) (Below.refl _ _).drew (fun hHeld => ?_)
       refine takeH 0 ?_
       refine takeH 1 ?_
       refine takeH 2 ?_
       refine idleQ 3 ?_
       refine idleQ 4 ?_
       refine idleQ 5 ?_
       refine idleQ 6 ?_
       refine idleQ 7 ?_
       refine idleQ 8 ?_
       refine idleQ 9 ?_
       refine takeH 10 ?_
       refine wpAnyH_done (by kernel_rfl) ?_ _
       have hBe := hBwz.trans (hHeld.mono hBwz.size)
       clear hCF hHeld
       go_wp2_with fail
       go_ret
       exact ⟨by rw [← her.out, hno.out]; rfl, hBe⟩
     | true =>
     have hse := lh (hHs.out rfl)
     clear hHs
     obtain ⟨q, hq⟩ : ∃ q, sn / 4294967296 = q := ⟨_, rfl⟩
     have y1 : (sn : Int) / 4294967296 = (q : Int) := by omega
     have y2 : IntKind.u64.wrap (q : Int) = (q : Int) := by rw [IntKind.wrap_u64]; omega
     replace hq := lh hq
     by_cases hqx : q ≤ x9
     case neg =>
      have hno := lh (hn5.out (j + 1) (by omega) (by rw [hst5.out, hse.out, hq.out, hx9.out, decide_eq_false hqx]; rfl))
      have hqx' : (x9 : Int) < (q : Int) := by omega
      clear hst5
      go_wp2_with fail
      refine wp_region_held_drew (S := (fun w' => Below wz.heap.size wz w')) (by kernel_rfl) (Below.refl _ _).drew (fun hHeld => ?_)
      refine takeH 0 ?_
      refine takeH 1 ?_
      refine takeH 2 ?_
      refine takeH 3 ?_
      refine takeH 4 ?_
      refine takeH 5 ?_
      refine takeH 6 ?_
      refine takeH 7 ?_
      refine takeH 8 ?_
      refine takeH 9 ?_
      refine takeH 10 ?_
      refine wpAnyH_done (by kernel_rfl) ?_ _
      have hBe := hBwz.trans (hHeld.mono hBwz.size)
      clear hCF hHeld
      go_wp2_with fail
      go_ret
      exact ⟨by rw [← her.out, hno.out]; rfl, hBe⟩
     have hqx' : ¬ (x9 : Int) < (q : Int) := by omega
     have hqx2 : decide (x9 < q) = false := decide_eq_false (by omega)
     have hst6 := lh (show refB I L R (j + 1) = (List.range j).all fun l => !decide ((objE I L (R.getD l default)).2.2.2 = sn) from by rw [hst5.out, hse.out, hq.out, hx9.out, decide_eq_true hqx]; rfl)
     clear hst5 hse
     go_wp2_with fail
     refine wp_region_held_drew (S := (fun w' => Below wz.heap.size wz w')) (by kernel_rfl) (Below.refl _ _).drew (fun hHeld => ?_)
     refine takeH 0 ?_
     refine takeH 1 ?_
     refine takeH 2 ?_
     refine takeH 3 ?_
     refine takeH 4 ?_
     refine takeH 5 ?_
     refine takeH 6 ?_
     refine takeH 7 ?_
     refine takeH 8 ?_
     refine takeH 9 ?_
     refine takeH 10 ?_
     refine wpAnyH_done (by kernel_rfl) ?_ _
     have hBrd := hHw.trans (hHeld.mono hHw.size)
     have hBd := hBz.trans (hHeld.mono hBz.size)
     have hBwd := hBwz.trans (hHeld.mono hBwz.size)
     have gGd := gGz.keep hHeld
     have gZd := gZ.keep hHeld
     clear hCF hHeld hBz hBwz gGz gZ hHw
     try generalize wz.drew = wd at *
     go_wp2_with fail
     go_loopw [16] (fun i wr => ∃ (k : Nat), k ≤ j ∧ i = .int .i64 (k : Nat) ∧ Hid (∀ l, l < k → ¬ (objE I L (R.getD l default)).2.2.2 = sn) ∧ Below wd.heap.size wd wr) (fun i _ => j + 1 - (intOf i).toNat)
     case atStart => exact ⟨0, Nat.zero_le _, rfl, lh (fun l h => absurd h (Nat.not_lt_zero _)), Below.refl _ _⟩
     case round =>
     obtain ⟨k, hk, rfl, hne, hBq⟩ := hrel
     have gGq := gGd.keep hBq
     have gZq := gZd.keep hBq
     have hBwq := hBwd.trans (hBq.mono hBwd.size)
     have hBrq := hBrd.trans (hBq.mono hBrd.size)
     clear gGd gZd hBwd hBrd
     by_cases hkt : k < j
     case pos =>
      have hkt' : (k : Int) < (j : Int) := by omega
      have hkn : (k : Int) < (n : Int) := by omega
      have hm : R.getD k default ∈ R := by rw [List.getD_eq_getElem?_getD, List.getElem?_eq_getElem (by rw [hn.out]; omega)]; exact List.getElem_mem _
      obtain ⟨g6, o6, he6, -, hg6, hg7, k0, k1, k2⟩ := hF9.out wr k hBrq (by omega)
      simp only [Option.some.injEq, Addr.mk.injEq] at he6
      obtain ⟨rfl, rfl, -⟩ := he6
      have hsm := refB_some hrb.out hkt
      obtain ⟨tq, sq, m2, hHb2, hHs2, -⟩ := hHd.out _ hm
      rw [hsm] at hHb2 hHs2
      replace hHs2 := lh (hHs2 rfl)
      obtain ⟨b2, hb2⟩ : ∃ b, R.getD k default = b := ⟨_, rfl⟩
      rw [hb2] at k0 k1 k2 hHb2
      obtain ⟨xc, xj, xm⟩ := b2
      simp only [] at k0 k1 k2 hHb2
      replace hb2 := lh hb2
      clear hm hsm
      have hCF := lh (fun w' (hb : Below wr.heap.size wr w') => show w'.cell? ⟨Gb, 0, none⟩ = some (.int .i64 (N : Nat)) ∧ w'.cell? ⟨Gb, 1, none⟩ = some (.int .i64 (L : Nat)) ∧ w'.cell? ⟨g5, o5 + k * 3, none⟩ = some (.int .i64 (xc : Nat)) ∧ w'.cell? ⟨g5, o5 + k * 3 + 1, none⟩ = some (.int .i64 (xj : Nat)) ∧ w'.cell? ⟨g5, o5 + k * 3 + 2, none⟩ = some (.int .i64 (xm : Nat)) from
       ⟨(gGq.keep hb).c2.1, (gGq.keep hb).c2.2, by rw [(bcell hb).1 _ _ hg7]; exact k0, by rw [(bcell hb).1 _ _ hg7]; exact k1, by rw [(bcell hb).1 _ _ hg7]; exact k2⟩)
      clear k0 k1 k2
      go_wp2_with fail
      refine wp_region_held_drew (S := (fun w' => Below wr.heap.size wr w')) (by kernel_rfl) (Below.refl _ _).drew (fun hHeld => ?_)
      refine takeH 0 ?_
      refine takeH 1 ?_
      refine takeH 2 ?_
      refine takeH 3 ?_
      refine takeH 4 ?_
      refine takeH 5 ?_
      refine twoL 6 10 rfl rfl (by kernel_rfl) (fun K hK => ?_) (fun K hK => ?_)
      ·go_simp
       refine (hHb2.out _ (hBwq.trans (hHeld.mono hBwq.size))).mono ?_; rintro e w6 ⟨rfl, hb⟩
       refine hK.out _ _ (hHeld.trans (hb.mono hHeld.size)) (fun hHeld2 => ?_)
       clear hK K hHeld
       have hHeld := hHeld2
       clear hHeld2
       try simp only [Act.put,sA,sB,sC]
       refine takeH 7 ?_
       refine takeH 8 ?_
       refine takeH 9 ?_
       refine oneL 10 rfl (by kernel_rfl) (fun K hK => ?_)
       have hb := bZ w6 (.cells #[.int .i64 0, .int .i64 0, .int .u64 0] 71)
       have gB := HB.new w6 #[.int .i64 0, .int .i64 0, .int .u64 0] 71
       obtain ⟨by_, hby_⟩ : ∃ b, w6.heap.size = b := ⟨_, rfl⟩
       have hbl2 : wr.heap.size ≤ by_ := by rw [← hby_]; exact hHeld.size
       obtain ⟨wB, hwB⟩ : ∃ x, w6.alloc (.cells #[.int .i64 0, .int .i64 0, .int .u64 0] 71) = x := ⟨_, rfl⟩
       rw [hwB] at hb gB
       rw [hby_] at gB
       go_simp
       refine hK.out _ _ (hHeld.trans (hb.mono hHeld.size)) (fun hHeld2 => ?_)
       clear hwB hby_
       clear hK K hHeld
       have hHeld := hHeld2
       clear hHeld2
       try simp only [Act.put,sA,sB,sC]
       obtain ⟨s0, t0⟩ := row_cell gB 0
       obtain ⟨s1, t1⟩ := row_cell gB 1
       obtain ⟨s2, t2⟩ := row_cell gB 2
       refine oneL 11 rfl (by kernel_rfl) (fun K hK => ?_)
       go_simp
       refine hK.out _ _ (((hHeld.setCell (p := ⟨by_, 0, none⟩) hbl2 _).setCell (p := ⟨by_, 1, none⟩) hbl2 _).setCell (p := ⟨by_, 2, none⟩) hbl2 _) (fun hHeld2 => ?_)
       have gY : HB (((wB.setCell ⟨by_, 0, none⟩ (.int .i64 (tq : Nat))).setCell ⟨by_, 1, none⟩ (.int .i64 (sq : Nat))).setCell ⟨by_, 2, none⟩ (.int .u64 (m2 : Nat))) by_ #[.int .i64 (tq : Nat), .int .i64 (sq : Nat), .int .u64 (m2 : Nat)] 71 := (((gB.setC 0 (.int .i64 (tq : Nat))).setC 1 (.int .i64 (sq : Nat))).setC 2 (.int .u64 (m2 : Nat)))
       generalize (((wB.setCell ⟨by_, 0, none⟩ (.int .i64 (tq : Nat))).setCell ⟨by_, 1, none⟩ (.int .i64 (sq : Nat))).setCell ⟨by_, 2, none⟩ (.int .u64 (m2 : Nat))) = wy at *
       clear s0 t0 s1 t1 s2 t2
       clear hK K hHeld
       have hHeld := hHeld2
       clear hHeld2
       try simp only [Act.put,sA,sB,sC]
       refine takeH 12 ?_
       refine wpAnyH_done (by kernel_rfl) ?_ _
       have hBqz := hBq.trans (hHeld.mono hBq.size)
       have hBwy := hBwq.trans (hHeld.mono hBwq.size)
       have gZy := gZq.keep hHeld
       have z2 := (row_cell gZy 2).1
       have v2 := (row_cell gY 2).1
       clear hCF hHeld hHb2
       by_cases hE : m2 = sn
       ·have hno := lh (hn5.out (j + 1) (by omega) (by rw [hst6.out]; exact List.all_eq_false.2 ⟨k, List.mem_range.2 hkt, by rw [hHs2.out, hE]; simp⟩))
        subst hE
        go_wp2_with fail
        go_ret
        exact ⟨by rw [← her.out, hno.out]; rfl, hBwy⟩
       ·have hE1 : ¬ (m2 : Int) = (sn : Int) := by omega
        have hE2 : ((m2 : Int) == (sn : Int)) = false := beq_eq_false_iff_ne.2 hE1
        have hne2 := lh (show ∀ l, l < k + 1 → ¬ (objE I L (R.getD l default)).2.2.2 = sn from fun l hl => by
         by_cases e : l = k
         ·subst e; rw [hHs2.out]; exact hE
         ·exact hne.out l (by omega))
        go_wp2_with fail
        go_roundw
        case rel => exact ⟨k + 1, by omega, by go_num, hne2, hBqz⟩
        case measure => first | (simp [intOf]; done) | (simp [intOf]; omega)
      ·have hb := bZ wr.drew (.cells #[.int .i64 0, .int .i64 0, .int .u64 0] 71)
       have gB := HB.new wr.drew #[.int .i64 0, .int .i64 0, .int .u64 0] 71
       obtain ⟨by_, hby_⟩ : ∃ b, wr.drew.heap.size = b := ⟨_, rfl⟩
       have hbl2 : wr.heap.size ≤ by_ := by rw [← hby_]; exact hHeld.size
       obtain ⟨wB, hwB⟩ : ∃ x, wr.drew.alloc (.cells #[.int .i64 0, .int .i64 0, .int .u64 0] 71) = x := ⟨_, rfl⟩
       rw [hwB] at hb gB
       rw [hby_] at gB
       go_simp
       refine hK.out _ _ (hHeld.trans (hb.mono hHeld.size)) (fun hHeld2 => ?_)
       clear hwB hby_
       clear hK K hHeld
       have hHeld := hHeld2
       clear hHeld2
       try simp only [Act.put,sA,sB,sC]
       refine oneL 6 rfl (by kernel_rfl) (fun K hK => ?_)
       go_simp
       refine (hHb2.out _ (hBwq.trans (hHeld.mono hBwq.size))).mono ?_; rintro e w6 ⟨rfl, hb⟩
       refine hK.out _ _ (hHeld.trans (hb.mono hHeld.size)) (fun hHeld2 => ?_)
       clear hK K hHeld
       have hHeld := hHeld2
       clear hHeld2
       try simp only [Act.put,sA,sB,sC]
       replace gB := gB.keep hb
       refine takeH 7 ?_
       refine takeH 8 ?_
       refine takeH 9 ?_
       obtain ⟨s0, t0⟩ := row_cell gB 0
       obtain ⟨s1, t1⟩ := row_cell gB 1
       obtain ⟨s2, t2⟩ := row_cell gB 2
       refine oneL 11 rfl (by kernel_rfl) (fun K hK => ?_)
       go_simp
       refine hK.out _ _ (((hHeld.setCell (p := ⟨by_, 0, none⟩) hbl2 _).setCell (p := ⟨by_, 1, none⟩) hbl2 _).setCell (p := ⟨by_, 2, none⟩) hbl2 _) (fun hHeld2 => ?_)
       have gY : HB (((w6.setCell ⟨by_, 0, none⟩ (.int .i64 (tq : Nat))).setCell ⟨by_, 1, none⟩ (.int .i64 (sq : Nat))).setCell ⟨by_, 2, none⟩ (.int .u64 (m2 : Nat))) by_ #[.int .i64 (tq : Nat), .int .i64 (sq : Nat), .int .u64 (m2 : Nat)] 71 := (((gB.setC 0 (.int .i64 (tq : Nat))).setC 1 (.int .i64 (sq : Nat))).setC 2 (.int .u64 (m2 : Nat)))
       generalize (((w6.setCell ⟨by_, 0, none⟩ (.int .i64 (tq : Nat))).setCell ⟨by_, 1, none⟩ (.int .i64 (sq : Nat))).setCell ⟨by_, 2, none⟩ (.int .u64 (m2 : Nat))) = wy at *
       clear s0 t0 s1 t1 s2 t2
       clear hK K hHeld
       have hHeld := hHeld2
       clear hHeld2
       try simp only [Act.put,sA,sB,sC]
       refine takeH 12 ?_
       refine wpAnyH_done (by kernel_rfl) ?_ _
       have hBqz := hBq.trans (hHeld.mono hBq.size)
       have hBwy := hBwq.trans (hHeld.mono hBwq.size)
       have gZy := gZq.keep hHeld
       have z2 := (row_cell gZy 2).1
       have v2 := (row_cell gY 2).1
       clear hCF hHeld hHb2
       by_cases hE : m2 = sn
       ·have hno := lh (hn5.out (j + 1) (by omega) (by rw [hst6.out]; exact List.all_eq_false.2 ⟨k, List.mem_range.2 hkt, by rw [hHs2.out, hE]; simp⟩))
        subst hE
        go_wp2_with fail
        go_ret
        exact ⟨by rw [← her.out, hno.out]; rfl, hBwy⟩
       ·have hE1 : ¬ (m2 : Int) = (sn : Int) := by omega
        have hE2 : ((m2 : Int) == (sn : Int)) = false := beq_eq_false_iff_ne.2 hE1
        have hne2 := lh (show ∀ l, l < k + 1 → ¬ (objE I L (R.getD l default)).2.2.2 = sn from fun l hl => by
         by_cases e : l = k
         ·subst e; rw [hHs2.out]; exact hE
         ·exact hne.out l (by omega))
        go_wp2_with fail
        go_roundw
        case rel => exact ⟨k + 1, by omega, by go_num, hne2, hBqz⟩
        case measure => first | (simp [intOf]; done) | (simp [intOf]; omega)
     obtain rfl : j = k := by omega
     have hkt' : ¬ (j : Int) < (j : Int) := by omega
     have hrb2 := lh (show refB I L R (j + 1) = true from by rw [hst6.out]; exact List.all_eq_true.2 (fun l hl => by rw [decide_eq_false (hne.out l (List.mem_range.1 hl))]; rfl))
     obtain ⟨g6, o6, he6, -, hg6, hg7, k0, k1, k2⟩ := hF9.out wr j hBrq (by omega)
     simp only [Option.some.injEq, Addr.mk.injEq] at he6
     obtain ⟨rfl, rfl, -⟩ := he6
     rw [hbb.out] at k0 k1 k2
     simp only [] at k0 k1 k2
     have hCF := lh (fun w' (hb : Below wr.heap.size wr w') => show w'.cell? ⟨Gb, 0, none⟩ = some (.int .i64 (N : Nat)) ∧ w'.cell? ⟨Gb, 1, none⟩ = some (.int .i64 (L : Nat)) ∧ w'.cell? ⟨g5, o5 + j * 3, none⟩ = some (.int .i64 (bc : Nat)) ∧ w'.cell? ⟨g5, o5 + j * 3 + 1, none⟩ = some (.int .i64 (bj : Nat)) ∧ w'.cell? ⟨g5, o5 + j * 3 + 2, none⟩ = some (.int .i64 (bm : Nat)) ∧ w'.cell? ⟨g, off + 8, none⟩ = some (.int .u64 (x8 : Nat)) from
      ⟨(gGq.keep hb).c2.1, (gGq.keep hb).c2.2, by rw [(bcell hb).1 _ _ hg7]; exact k0, by rw [(bcell hb).1 _ _ hg7]; exact k1, by rw [(bcell hb).1 _ _ hg7]; exact k2, by have q := hcl.out w' 8 (hBwq.trans (hb.mono hBwq.size)) h8n; rw [hx8.out] at q; exact q⟩)
     clear k0 k1 k2 hst6 hne gGq gZq
     cases rb with
     | true =>
       go_wp2_with fail
       refine wp_region_held_drew (S := (fun w' => Below wr.heap.size wr w')) (by kernel_rfl) (Below.refl _ _).drew (fun hHeld => ?_)
       refine takeH 0 ?_
       refine takeH 1 ?_
       refine idleQ 2 ?_
       refine idleQ 3 ?_
       refine idleQ 4 ?_
       refine idleQ 5 ?_
       refine idleQ 6 ?_
       refine idleQ 7 ?_
       refine idleQ 8 ?_
       refine idleQ 9 ?_
       refine idleQ 10 ?_
       refine idleQ 11 ?_
       refine idleQ 12 ?_
       refine takeH 13 ?_
       refine takeH 14 ?_
       refine wpAnyH_done (by kernel_rfl) ?_ _
       have hBe := hBd.trans ((hBq.trans (hHeld.mono hBq.size)).mono hBd.size)
       clear hCF hHeld
       go_wp2_with fail
       go_roundw
       case rel => exact ⟨j + 1, by omega, by go_num, by rw [hro.out]; rfl, hrb2, hBe⟩
       case measure => first | (simp [intOf]; done) | (simp [intOf]; omega)
     | false =>
     have hpw : IntKind.u64.wrap (p : Int) = (p : Int) := by rw [IntKind.wrap_u64]; omega
     by_cases h8p : x8 = p
     case pos =>
      subst h8p
      go_wp2_with fail
      refine wp_region_held_drew (S := (fun w' => Below wr.heap.size wr w')) (by kernel_rfl) (Below.refl _ _).drew (fun hHeld => ?_)
      refine takeH 0 ?_
      refine takeH 1 ?_
      refine takeH 2 ?_
      refine takeH 3 ?_
      refine takeH 4 ?_
      refine takeH 5 ?_
      refine takeH 6 ?_
      refine takeH 7 ?_
      refine takeH 8 ?_
      refine takeH 9 ?_
      refine oneL 10 rfl (by kernel_rfl) (fun K hK => ?_)
      go_simp
      refine (hPb.out _).mono ?_; rintro e w6 ⟨rfl, hb⟩
      refine hK.out _ _ (hHeld.trans (hb.mono hHeld.size)) (fun hHeld2 => ?_)
      clear hK K hHeld
      have hHeld := hHeld2
      clear hHeld2
      try simp only [Act.put,sA,sB,sC]
      refine takeH 11 ?_
      refine takeH 12 ?_
      refine takeH 13 ?_
      refine takeH 14 ?_
      refine wpAnyH_done (by kernel_rfl) ?_ _
      have hBe := hBd.trans ((hBq.trans (hHeld.mono hBq.size)).mono hBd.size)
      clear hCF hHeld
      go_wp2_with fail
      go_roundw
      case rel => exact ⟨j + 1, by omega, by go_num, by rw [hro.out]; simp, hrb2, hBe⟩
      case measure => first | (simp [intOf]; done) | (simp [intOf]; omega)
     have h8q : ¬ (x8 : Int) = (p : Int) := by omega
     have h8r : ((x8 : Int) == (p : Int)) = false := beq_eq_false_iff_ne.2 h8q
     go_wp2_with fail
     refine wp_region_held_drew (S := (fun w' => Below wr.heap.size wr w')) (by kernel_rfl) (Below.refl _ _).drew (fun hHeld => ?_)
     refine takeH 0 ?_
     refine takeH 1 ?_
     refine takeH 2 ?_
     refine takeH 3 ?_
     refine takeH 4 ?_
     refine takeH 5 ?_
     refine takeH 6 ?_
     refine takeH 7 ?_
     refine takeH 8 ?_
     refine takeH 9 ?_
     refine oneL 10 rfl (by kernel_rfl) (fun K hK => ?_)
     go_simp
     refine (hPb.out _).mono ?_; rintro e w6 ⟨rfl, hb⟩
     refine hK.out _ _ (hHeld.trans (hb.mono hHeld.size)) (fun hHeld2 => ?_)
     clear hK K hHeld
     have hHeld := hHeld2
     clear hHeld2
     try simp only [Act.put,sA,sB,sC]
     refine takeH 11 ?_
     refine takeH 12 ?_
     refine takeH 13 ?_
     refine takeH 14 ?_
     refine wpAnyH_done (by kernel_rfl) ?_ _
     have hBe := hBd.trans ((hBq.trans (hHeld.mono hBq.size)).mono hBd.size)
     clear hCF hHeld
     go_wp2_with fail
     go_roundw
     case rel => exact ⟨j + 1, by omega, by go_num, by rw [hro.out]; rw [decide_eq_false h8p]; rfl, hrb2, hBe⟩
     case measure => first | (simp [intOf]; done) | (simp [intOf]; omega)
    ·have hb := bZ wr.drew (.cells #[.int .i64 0, .int .i64 0, .int .u64 0] 71)
     have gA := HB.new wr.drew #[.int .i64 0, .int .i64 0, .int .u64 0] 71
     obtain ⟨bz, hbz⟩ : ∃ b, wr.drew.heap.size = b := ⟨_, rfl⟩
     have hbl : wr.heap.size ≤ bz := by rw [← hbz]; exact hHeld.size
     obtain ⟨wA, hwA⟩ : ∃ x, wr.drew.alloc (.cells #[.int .i64 0, .int .i64 0, .int .u64 0] 71) = x := ⟨_, rfl⟩
     rw [hwA] at hb gA
     rw [hbz] at gA
     go_simp
     refine hK.out _ _ (hHeld.trans (hb.mono hHeld.size)) (fun hHeld2 => ?_)
     clear hwA hbz
     clear hK K hHeld
     have hHeld := hHeld2
     clear hHeld2
     try simp only [Act.put,sA,sB,sC]
     refine oneL 6 rfl (by kernel_rfl) (fun K hK => ?_)
     go_simp
     refine (hHb.out _ (hBwr.trans (hHeld.mono hBwr.size))).mono ?_; rintro e w6 ⟨rfl, hb⟩
     refine hK.out _ _ (hHeld.trans (hb.mono hHeld.size)) (fun hHeld2 => ?_)
     clear hK K hHeld
     have hHeld := hHeld2
     clear hHeld2
     try simp only [Act.put,sA,sB,sC]
     replace gA := gA.keep hb
     refine takeH 7 ?_
     refine takeH 8 ?_
     refine takeH 9 ?_
     obtain ⟨s0, t0⟩ := row_cell gA 0
     obtain ⟨s1, t1⟩ := row_cell gA 1
     obtain ⟨s2, t2⟩ := row_cell gA 2
     refine oneL 11 rfl (by kernel_rfl) (fun K hK => ?_)
     go_simp
     refine hK.out _ _ (((hHeld.setCell (p := ⟨bz, 0, none⟩) hbl _).setCell (p := ⟨bz, 1, none⟩) hbl _).setCell (p := ⟨bz, 2, none⟩) hbl _) (fun hHeld2 => ?_)
     have gZ : HB (((w6.setCell ⟨bz, 0, none⟩ (.int .i64 (t : Nat))).setCell ⟨bz, 1, none⟩ (.int .i64 (s : Nat))).setCell ⟨bz, 2, none⟩ (.int .u64 (sn : Nat))) bz #[.int .i64 (t : Nat), .int .i64 (s : Nat), .int .u64 (sn : Nat)] 71 := (((gA.setC 0 (.int .i64 (t : Nat))).setC 1 (.int .i64 (s : Nat))).setC 2 (.int .u64 (sn : Nat)))
     generalize (((w6.setCell ⟨bz, 0, none⟩ (.int .i64 (t : Nat))).setCell ⟨bz, 1, none⟩ (.int .i64 (s : Nat))).setCell ⟨bz, 2, none⟩ (.int .u64 (sn : Nat))) = wz at *
     clear s0 t0 s1 t1 s2 t2
     clear hK K hHeld
     have hHeld := hHeld2
     clear hHeld2
     try simp only [Act.put,sA,sB,sC]
     refine takeH 12 ?_
     refine wpAnyH_done (by kernel_rfl) ?_ _
     have hHw := hHeld
     have hBz := hBr.trans (hHeld.mono hBr.size)
     have hBwz := hBwr.trans (hHeld.mono hBwr.size)
     have gGz := gGr.keep hHeld
     clear hCF hHeld gGr
     have hCF := lh (fun w' (hb : Below wz.heap.size wz w') => show w'.cell? ⟨bz, 2, none⟩ = some (.int .u64 (sn : Nat)) ∧ w'.cell? ⟨g, off + 9, none⟩ = some (.int .u64 (x9 : Nat)) from ⟨(row_cell (gZ.keep hb) 2).1, by have q := hcl.out w' 9 (hBwz.trans (hb.mono hBwz.size)) h9n; rw [hx9.out] at q; exact q⟩)
     cases okb with
     | false =>
       have hno := lh (hn5.out (j + 1) (by omega) (by rw [hst5.out]; rfl))
       clear hHs hst5
       go_wp2_with fail
       refine wp_region_held_drew (S := (fun w' => Below wz.heap.size wz w')) (by kernel_rfl) (Below.refl _ _).drew (fun hHeld => ?_)
       refine takeH 0 ?_
       refine takeH 1 ?_
       refine takeH 2 ?_
       refine idleQ 3 ?_
       refine idleQ 4 ?_
       refine idleQ 5 ?_
       refine idleQ 6 ?_
       refine idleQ 7 ?_
       refine idleQ 8 ?_
       refine idleQ 9 ?_
       refine takeH 10 ?_
       refine wpAnyH_done (by kernel_rfl) ?_ _
       have hBe := hBwz.trans (hHeld.mono hBwz.size)
       clear hCF hHeld
       go_wp2_with fail
       go_ret
       exact ⟨by rw [← her.out, hno.out]; rfl, hBe⟩
     | true =>
     have hse := lh (hHs.out rfl)
     clear hHs
     obtain ⟨q, hq⟩ : ∃ q, sn / 4294967296 = q := ⟨_, rfl⟩
     have y1 : (sn : Int) / 4294967296 = (q : Int) := by omega
     have y2 : IntKind.u64.wrap (q : Int) = (q : Int) := by rw [IntKind.wrap_u64]; omega
     replace hq := lh hq
     by_cases hqx : q ≤ x9
     case neg =>
      have hno := lh (hn5.out (j + 1) (by omega) (by rw [hst5.out, hse.out, hq.out, hx9.out, decide_eq_false hqx]; rfl))
      have hqx' : (x9 : Int) < (q : Int) := by omega
      clear hst5
      go_wp2_with fail
      refine wp_region_held_drew (S := (fun w' => Below wz.heap.size wz w')) (by kernel_rfl) (Below.refl _ _).drew (fun hHeld => ?_)
      refine takeH 0 ?_
      refine takeH 1 ?_
      refine takeH 2 ?_
      refine takeH 3 ?_
      refine takeH 4 ?_
      refine takeH 5 ?_
      refine takeH 6 ?_
      refine takeH 7 ?_
      refine takeH 8 ?_
      refine takeH 9 ?_
      refine takeH 10 ?_
      refine wpAnyH_done (by kernel_rfl) ?_ _
      have hBe := hBwz.trans (hHeld.mono hBwz.size)
      clear hCF hHeld
      go_wp2_with fail
      go_ret
      exact ⟨by rw [← her.out, hno.out]; rfl, hBe⟩
     have hqx' : ¬ (x9 : Int) < (q : Int) := by omega
     have hqx2 : decide (x9 < q) = false := decide_eq_false (by omega)
     have hst6 := lh (show refB I L R (j + 1) = (List.range j).all fun l => !decide ((objE I L (R.getD l default)).2.2.2 = sn) from by rw [hst5.out, hse.out, hq.out, hx9.out, decide_eq_true hqx]; rfl)
     clear hst5 hse
     go_wp2_with fail
     refine wp_region_held_drew (S := (fun w' => Below wz.heap.size wz w')) (by kernel_rfl) (Below.refl _ _).drew (fun hHeld => ?_)
     refine takeH 0 ?_
     refine takeH 1 ?_
     refine takeH 2 ?_
     refine takeH 3 ?_
     refine takeH 4 ?_
     refine takeH 5 ?_
     refine takeH 6 ?_
     refine takeH 7 ?_
     refine takeH 8 ?_
     refine takeH 9 ?_
     refine takeH 10 ?_
     refine wpAnyH_done (by kernel_rfl) ?_ _
     have hBrd := hHw.trans (hHeld.mono hHw.size)
     have hBd := hBz.trans (hHeld.mono hBz.size)
     have hBwd := hBwz.trans (hHeld.mono hBwz.size)
     have gGd := gGz.keep hHeld
     have gZd := gZ.keep hHeld
     clear hCF hHeld hBz hBwz gGz gZ hHw
     try generalize wz.drew = wd at *
     go_wp2_with fail
     go_loopw [16] (fun i wr => ∃ (k : Nat), k ≤ j ∧ i = .int .i64 (k : Nat) ∧ Hid (∀ l, l < k → ¬ (objE I L (R.getD l default)).2.2.2 = sn) ∧ Below wd.heap.size wd wr) (fun i _ => j + 1 - (intOf i).toNat)
     case atStart => exact ⟨0, Nat.zero_le _, rfl, lh (fun l h => absurd h (Nat.not_lt_zero _)), Below.refl _ _⟩
     case round =>
     obtain ⟨k, hk, rfl, hne, hBq⟩ := hrel
     have gGq := gGd.keep hBq
     have gZq := gZd.keep hBq
     have hBwq := hBwd.trans (hBq.mono hBwd.size)
     have hBrq := hBrd.trans (hBq.mono hBrd.size)
     clear gGd gZd hBwd hBrd
     by_cases hkt : k < j
     case pos =>
      have hkt' : (k : Int) < (j : Int) := by omega
      have hkn : (k : Int) < (n : Int) := by omega
      have hm : R.getD k default ∈ R := by rw [List.getD_eq_getElem?_getD, List.getElem?_eq_getElem (by rw [hn.out]; omega)]; exact List.getElem_mem _
      obtain ⟨g6, o6, he6, -, hg6, hg7, k0, k1, k2⟩ := hF9.out wr k hBrq (by omega)
      simp only [Option.some.injEq, Addr.mk.injEq] at he6
      obtain ⟨rfl, rfl, -⟩ := he6
      have hsm := refB_some hrb.out hkt
      obtain ⟨tq, sq, m2, hHb2, hHs2, -⟩ := hHd.out _ hm
      rw [hsm] at hHb2 hHs2
      replace hHs2 := lh (hHs2 rfl)
      obtain ⟨b2, hb2⟩ : ∃ b, R.getD k default = b := ⟨_, rfl⟩
      rw [hb2] at k0 k1 k2 hHb2
      obtain ⟨xc, xj, xm⟩ := b2
      simp only [] at k0 k1 k2 hHb2
      replace hb2 := lh hb2
      clear hm hsm
      have hCF := lh (fun w' (hb : Below wr.heap.size wr w') => show w'.cell? ⟨Gb, 0, none⟩ = some (.int .i64 (N : Nat)) ∧ w'.cell? ⟨Gb, 1, none⟩ = some (.int .i64 (L : Nat)) ∧ w'.cell? ⟨g5, o5 + k * 3, none⟩ = some (.int .i64 (xc : Nat)) ∧ w'.cell? ⟨g5, o5 + k * 3 + 1, none⟩ = some (.int .i64 (xj : Nat)) ∧ w'.cell? ⟨g5, o5 + k * 3 + 2, none⟩ = some (.int .i64 (xm : Nat)) from
       ⟨(gGq.keep hb).c2.1, (gGq.keep hb).c2.2, by rw [(bcell hb).1 _ _ hg7]; exact k0, by rw [(bcell hb).1 _ _ hg7]; exact k1, by rw [(bcell hb).1 _ _ hg7]; exact k2⟩)
      clear k0 k1 k2
      go_wp2_with fail
      refine wp_region_held_drew (S := (fun w' => Below wr.heap.size wr w')) (by kernel_rfl) (Below.refl _ _).drew (fun hHeld => ?_)
      refine takeH 0 ?_
      refine takeH 1 ?_
      refine takeH 2 ?_
      refine takeH 3 ?_
      refine takeH 4 ?_
      refine takeH 5 ?_
      refine twoL 6 10 rfl rfl (by kernel_rfl) (fun K hK => ?_) (fun K hK => ?_)
      ·go_simp
       refine (hHb2.out _ (hBwq.trans (hHeld.mono hBwq.size))).mono ?_; rintro e w6 ⟨rfl, hb⟩
       refine hK.out _ _ (hHeld.trans (hb.mono hHeld.size)) (fun hHeld2 => ?_)
       clear hK K hHeld
       have hHeld := hHeld2
       clear hHeld2
       try simp only [Act.put,sA,sB,sC]
       refine takeH 7 ?_
       refine takeH 8 ?_
       refine takeH 9 ?_
       refine oneL 10 rfl (by kernel_rfl) (fun K hK => ?_)
       have hb := bZ w6 (.cells #[.int .i64 0, .int .i64 0, .int .u64 0] 71)
       have gB := HB.new w6 #[.int .i64 0, .int .i64 0, .int .u64 0] 71
       obtain ⟨by_, hby_⟩ : ∃ b, w6.heap.size = b := ⟨_, rfl⟩
       have hbl2 : wr.heap.size ≤ by_ := by rw [← hby_]; exact hHeld.size
       obtain ⟨wB, hwB⟩ : ∃ x, w6.alloc (.cells #[.int .i64 0, .int .i64 0, .int .u64 0] 71) = x := ⟨_, rfl⟩
       rw [hwB] at hb gB
       rw [hby_] at gB
       go_simp
       refine hK.out _ _ (hHeld.trans (hb.mono hHeld.size)) (fun hHeld2 => ?_)
       clear hwB hby_
       clear hK K hHeld
       have hHeld := hHeld2
       clear hHeld2
       try simp only [Act.put,sA,sB,sC]
       obtain ⟨s0, t0⟩ := row_cell gB 0
       obtain ⟨s1, t1⟩ := row_cell gB 1
       obtain ⟨s2, t2⟩ := row_cell gB 2
       refine oneL 11 rfl (by kernel_rfl) (fun K hK => ?_)
       go_simp
       refine hK.out _ _ (((hHeld.setCell (p := ⟨by_, 0, none⟩) hbl2 _).setCell (p := ⟨by_, 1, none⟩) hbl2 _).setCell (p := ⟨by_, 2, none⟩) hbl2 _) (fun hHeld2 => ?_)
       have gY : HB (((wB.setCell ⟨by_, 0, none⟩ (.int .i64 (tq : Nat))).setCell ⟨by_, 1, none⟩ (.int .i64 (sq : Nat))).setCell ⟨by_, 2, none⟩ (.int .u64 (m2 : Nat))) by_ #[.int .i64 (tq : Nat), .int .i64 (sq : Nat), .int .u64 (m2 : Nat)] 71 := (((gB.setC 0 (.int .i64 (tq : Nat))).setC 1 (.int .i64 (sq : Nat))).setC 2 (.int .u64 (m2 : Nat)))
       generalize (((wB.setCell ⟨by_, 0, none⟩ (.int .i64 (tq : Nat))).setCell ⟨by_, 1, none⟩ (.int .i64 (sq : Nat))).setCell ⟨by_, 2, none⟩ (.int .u64 (m2 : Nat))) = wy at *
       clear s0 t0 s1 t1 s2 t2
       clear hK K hHeld
       have hHeld := hHeld2
       clear hHeld2
       try simp only [Act.put,sA,sB,sC]
       refine takeH 12 ?_
       refine wpAnyH_done (by kernel_rfl) ?_ _
       have hBqz := hBq.trans (hHeld.mono hBq.size)
       have hBwy := hBwq.trans (hHeld.mono hBwq.size)
       have gZy := gZq.keep hHeld
       have z2 := (row_cell gZy 2).1
       have v2 := (row_cell gY 2).1
       clear hCF hHeld hHb2
       by_cases hE : m2 = sn
       ·have hno := lh (hn5.out (j + 1) (by omega) (by rw [hst6.out]; exact List.all_eq_false.2 ⟨k, List.mem_range.2 hkt, by rw [hHs2.out, hE]; simp⟩))
        subst hE
        go_wp2_with fail
        go_ret
        exact ⟨by rw [← her.out, hno.out]; rfl, hBwy⟩
       ·have hE1 : ¬ (m2 : Int) = (sn : Int) := by omega
        have hE2 : ((m2 : Int) == (sn : Int)) = false := beq_eq_false_iff_ne.2 hE1
        have hne2 := lh (show ∀ l, l < k + 1 → ¬ (objE I L (R.getD l default)).2.2.2 = sn from fun l hl => by
         by_cases e : l = k
         ·subst e; rw [hHs2.out]; exact hE
         ·exact hne.out l (by omega))
        go_wp2_with fail
        go_roundw
        case rel => exact ⟨k + 1, by omega, by go_num, hne2, hBqz⟩
        case measure => first | (simp [intOf]; done) | (simp [intOf]; omega)
      ·have hb := bZ wr.drew (.cells #[.int .i64 0, .int .i64 0, .int .u64 0] 71)
       have gB := HB.new wr.drew #[.int .i64 0, .int .i64 0, .int .u64 0] 71
       obtain ⟨by_, hby_⟩ : ∃ b, wr.drew.heap.size = b := ⟨_, rfl⟩
       have hbl2 : wr.heap.size ≤ by_ := by rw [← hby_]; exact hHeld.size
       obtain ⟨wB, hwB⟩ : ∃ x, wr.drew.alloc (.cells #[.int .i64 0, .int .i64 0, .int .u64 0] 71) = x := ⟨_, rfl⟩
       rw [hwB] at hb gB
       rw [hby_] at gB
       go_simp
       refine hK.out _ _ (hHeld.trans (hb.mono hHeld.size)) (fun hHeld2 => ?_)
       clear hwB hby_
       clear hK K hHeld
       have hHeld := hHeld2
       clear hHeld2
       try simp only [Act.put,sA,sB,sC]
       refine oneL 6 rfl (by kernel_rfl) (fun K hK => ?_)
       go_simp
       refine (hHb2.out _ (hBwq.trans (hHeld.mono hBwq.size))).mono ?_; rintro e w6 ⟨rfl, hb⟩
       refine hK.out _ _ (hHeld.trans (hb.mono hHeld.size)) (fun hHeld2 => ?_)
       clear hK K hHeld
       have hHeld := hHeld2
       clear hHeld2
       try simp only [Act.put,sA,sB,sC]
       replace gB := gB.keep hb
       refine takeH 7 ?_
       refine takeH 8 ?_
       refine takeH 9 ?_
       obtain ⟨s0, t0⟩ := row_cell gB 0
       obtain ⟨s1, t1⟩ := row_cell gB 1
       obtain ⟨s2, t2⟩ := row_cell gB 2
       refine oneL 11 rfl (by kernel_rfl) (fun K hK => ?_)
       go_simp
       refine hK.out _ _ (((hHeld.setCell (p := ⟨by_, 0, none⟩) hbl2 _).setCell (p := ⟨by_, 1, none⟩) hbl2 _).setCell (p := ⟨by_, 2, none⟩) hbl2 _) (fun hHeld2 => ?_)
       have gY : HB (((w6.setCell ⟨by_, 0, none⟩ (.int .i64 (tq : Nat))).setCell ⟨by_, 1, none⟩ (.int .i64 (sq : Nat))).setCell ⟨by_, 2, none⟩ (.int .u64 (m2 : Nat))) by_ #[.int .i64 (tq : Nat), .int .i64 (sq : Nat), .int .u64 (m2 : Nat)] 71 := (((gB.setC 0 (.int .i64 (tq : Nat))).setC 1 (.int .i64 (sq : Nat))).setC 2 (.int .u64 (m2 : Nat)))
       generalize (((w6.setCell ⟨by_, 0, none⟩ (.int .i64 (tq : Nat))).setCell ⟨by_, 1, none⟩ (.int .i64 (sq : Nat))).setCell ⟨by_, 2, none⟩ (.int .u64 (m2 : Nat))) = wy at *
       clear s0 t0 s1 t1 s2 t2
       clear hK K hHeld
       have hHeld := hHeld2
       clear hHeld2
       try simp only [Act.put,sA,sB,sC]
       refine takeH 12 ?_
       refine wpAnyH_done (by kernel_rfl) ?_ _
       have hBqz := hBq.trans (hHeld.mono hBq.size)
       have hBwy := hBwq.trans (hHeld.mono hBwq.size)
       have gZy := gZq.keep hHeld
       have z2 := (row_cell gZy 2).1
       have v2 := (row_cell gY 2).1
       clear hCF hHeld hHb2
       by_cases hE : m2 = sn
       ·have hno := lh (hn5.out (j + 1) (by omega) (by rw [hst6.out]; exact List.all_eq_false.2 ⟨k, List.mem_range.2 hkt, by rw [hHs2.out, hE]; simp⟩))
        subst hE
        go_wp2_with fail
        go_ret
        exact ⟨by rw [← her.out, hno.out]; rfl, hBwy⟩
       ·have hE1 : ¬ (m2 : Int) = (sn : Int) := by omega
        have hE2 : ((m2 : Int) == (sn : Int)) = false := beq_eq_false_iff_ne.2 hE1
        have hne2 := lh (show ∀ l, l < k + 1 → ¬ (objE I L (R.getD l default)).2.2.2 = sn from fun l hl => by
         by_cases e : l = k
         ·subst e; rw [hHs2.out]; exact hE
         ·exact hne.out l (by omega))
        go_wp2_with fail
        go_roundw
        case rel => exact ⟨k + 1, by omega, by go_num, hne2, hBqz⟩
        case measure => first | (simp [intOf]; done) | (simp [intOf]; omega)
     obtain rfl : j = k := by omega
     have hkt' : ¬ (j : Int) < (j : Int) := by omega
     have hrb2 := lh (show refB I L R (j + 1) = true from by rw [hst6.out]; exact List.all_eq_true.2 (fun l hl => by rw [decide_eq_false (hne.out l (List.mem_range.1 hl))]; rfl))
     obtain ⟨g6, o6, he6, -, hg6, hg7, k0, k1, k2⟩ := hF9.out wr j hBrq (by omega)
     simp only [Option.some.injEq, Addr.mk.injEq] at he6
     obtain ⟨rfl, rfl, -⟩ := he6
     rw [hbb.out] at k0 k1 k2
     simp only [] at k0 k1 k2
     have hCF := lh (fun w' (hb : Below wr.heap.size wr w') => show w'.cell? ⟨Gb, 0, none⟩ = some (.int .i64 (N : Nat)) ∧ w'.cell? ⟨Gb, 1, none⟩ = some (.int .i64 (L : Nat)) ∧ w'.cell? ⟨g5, o5 + j * 3, none⟩ = some (.int .i64 (bc : Nat)) ∧ w'.cell? ⟨g5, o5 + j * 3 + 1, none⟩ = some (.int .i64 (bj : Nat)) ∧ w'.cell? ⟨g5, o5 + j * 3 + 2, none⟩ = some (.int .i64 (bm : Nat)) ∧ w'.cell? ⟨g, off + 8, none⟩ = some (.int .u64 (x8 : Nat)) from
      ⟨(gGq.keep hb).c2.1, (gGq.keep hb).c2.2, by rw [(bcell hb).1 _ _ hg7]; exact k0, by rw [(bcell hb).1 _ _ hg7]; exact k1, by rw [(bcell hb).1 _ _ hg7]; exact k2, by have q := hcl.out w' 8 (hBwq.trans (hb.mono hBwq.size)) h8n; rw [hx8.out] at q; exact q⟩)
     clear k0 k1 k2 hst6 hne gGq gZq
     cases rb with
     | true =>
       go_wp2_with fail
       refine wp_region_held_drew (S := (fun w' => Below wr.heap.size wr w')) (by kernel_rfl) (Below.refl _ _).drew (fun hHeld => ?_)
       refine takeH 0 ?_
       refine takeH 1 ?_
       refine idleQ 2 ?_
       refine idleQ 3 ?_
       refine idleQ 4 ?_
       refine idleQ 5 ?_
       refine idleQ 6 ?_
       refine idleQ 7 ?_
       refine idleQ 8 ?_
       refine idleQ 9 ?_
       refine idleQ 10 ?_
       refine idleQ 11 ?_
       refine idleQ 12 ?_
       refine takeH 13 ?_
       refine takeH 14 ?_
       refine wpAnyH_done (by kernel_rfl) ?_ _
       have hBe := hBd.trans ((hBq.trans (hHeld.mono hBq.size)).mono hBd.size)
       clear hCF hHeld
       go_wp2_with fail
       go_roundw
       case rel => exact ⟨j + 1, by omega, by go_num, by rw [hro.out]; rfl, hrb2, hBe⟩
       case measure => first | (simp [intOf]; done) | (simp [intOf]; omega)
     | false =>
     have hpw : IntKind.u64.wrap (p : Int) = (p : Int) := by rw [IntKind.wrap_u64]; omega
     by_cases h8p : x8 = p
     case pos =>
      subst h8p
      go_wp2_with fail
      refine wp_region_held_drew (S := (fun w' => Below wr.heap.size wr w')) (by kernel_rfl) (Below.refl _ _).drew (fun hHeld => ?_)
      refine takeH 0 ?_
      refine takeH 1 ?_
      refine takeH 2 ?_
      refine takeH 3 ?_
      refine takeH 4 ?_
      refine takeH 5 ?_
      refine takeH 6 ?_
      refine takeH 7 ?_
      refine takeH 8 ?_
      refine takeH 9 ?_
      refine oneL 10 rfl (by kernel_rfl) (fun K hK => ?_)
      go_simp
      refine (hPb.out _).mono ?_; rintro e w6 ⟨rfl, hb⟩
      refine hK.out _ _ (hHeld.trans (hb.mono hHeld.size)) (fun hHeld2 => ?_)
      clear hK K hHeld
      have hHeld := hHeld2
      clear hHeld2
      try simp only [Act.put,sA,sB,sC]
      refine takeH 11 ?_
      refine takeH 12 ?_
      refine takeH 13 ?_
      refine takeH 14 ?_
      refine wpAnyH_done (by kernel_rfl) ?_ _
      have hBe := hBd.trans ((hBq.trans (hHeld.mono hBq.size)).mono hBd.size)
      clear hCF hHeld
      go_wp2_with fail
      go_roundw
      case rel => exact ⟨j + 1, by omega, by go_num, by rw [hro.out]; simp, hrb2, hBe⟩
      case measure => first | (simp [intOf]; done) | (simp [intOf]; omega)
     have h8q : ¬ (x8 : Int) = (p : Int) := by omega
     have h8r : ((x8 : Int) == (p : Int)) = false := beq_eq_false_iff_ne.2 h8q
     go_wp2_with fail
     refine wp_region_held_drew (S := (fun w' => Below wr.heap.size wr w')) (by kernel_rfl) (Below.refl _ _).drew (fun hHeld => ?_)
     refine takeH 0 ?_
     refine takeH 1 ?_
     refine takeH 2 ?_
     refine takeH 3 ?_
     refine takeH 4 ?_
     refine takeH 5 ?_
     refine takeH 6 ?_
     refine takeH 7 ?_
     refine takeH 8 ?_
     refine takeH 9 ?_
     refine oneL 10 rfl (by kernel_rfl) (fun K hK => ?_)
     go_simp
     refine (hPb.out _).mono ?_; rintro e w6 ⟨rfl, hb⟩
     refine hK.out _ _ (hHeld.trans (hb.mono hHeld.size)) (fun hHeld2 => ?_)
     clear hK K hHeld
     have hHeld := hHeld2
     clear hHeld2
     try simp only [Act.put,sA,sB,sC]
     refine takeH 11 ?_
     refine takeH 12 ?_
     refine takeH 13 ?_
     refine takeH 14 ?_
     refine wpAnyH_done (by kernel_rfl) ?_ _
     have hBe := hBd.trans ((hBq.trans (hHeld.mono hBq.size)).mono hBd.size)
     clear hCF hHeld
     go_wp2_with fail
     go_roundw
     case rel => exact ⟨j + 1, by omega, by go_num, by rw [hro.out]; rw [decide_eq_false h8p]; rfl, hrb2, hBe⟩
     case measure => first | (simp [intOf]; done) | (simp [intOf]; omega)
   obtain rfl : n = j := by omega
   have hlt' : ¬ (n : Int) < (n : Int) := by omega
   generalize hrb2 : rooB x8 N L R n = rb at *
   cases rb with
   | true =>
     have hy := lh (hyes.out hrb.out rfl)
     go_wp2_with fail
     go_ret
     exact ⟨by rw [← her.out, hy.out]; rfl, hBwr⟩
   | false =>
     have hno := lh (hn6.out rfl)
     go_wp2_with fail
     go_ret
     exact ⟨by rw [← her.out, hno.out]; rfl, hBwr⟩
end Go.Proofs.YtdmmbnnejbmdpaaGreatDoor
end
section
namespace Go.Proofs.YtdmmbnnejbmdpaaGreatDoor
open Go.Lib Go.RowKit Go.ChangeShapes Go.WideShapes Go.Deep Go.Shelf
theorem hw3 (W L G : Nat) : (headW W L G).getD 3 0 = L := rfl
theorem hw4 (W L G : Nat) : (headW W L G).getD 4 0 = G := rfl
theorem hw7 (W L G : Nat) : (headW W L G).getD 7 0 = moreN 0 (headL W L G) := rfl
end Go.Proofs.YtdmmbnnejbmdpaaGreatDoor
end
section
namespace Go.Proofs.YtdmmbnnejbmdpaaGreatDoor
open Go.Lib Go.RowKit Go.ChangeShapes Go.WideShapes Go.Deep Go.Shelf
theorem hdr_ok {g off cap N L : Nat} {I : List Nat} (b : Bl) (w : World) (h : PoolM w g off cap N L I) (hb : b ∈ blI I L) (ho : (objH I L b).isSome = true) : ∃ t s n : Nat, objE I L b = (plc N L b, t, s, n) ∧ Hid (∀ w1, Below w.heap.size w w1 → Calls Tryz.prog 43 #[.slice (some ⟨g, off, none⟩) N cap, .agg #[.int .i64 (N : Nat), .int .i64 (L : Nat)], .agg #[.int .i64 (b.1 : Nat), .int .i64 (b.2.1 : Nat), .int .i64 (b.2.2 : Nat)]] w1 fun e w' => e = .returned (.tuple #[.agg #[.int .i64 (t : Nat), .int .i64 (s : Nat), .int .u64 (n : Nat)], .bool true]) ∧ Below w1.heap.size w1 w') := by
 obtain ⟨bc, bj, bm⟩ := b
 have hH := fun w1 (q : Below w.heap.size w w1) => Header_any g off cap N L I bc bj bm w1 (h.keep q) hb
 rw [ho] at hH
 have hN := h.hN
 unfold objE
 unfold objH at ho ⊢
 rw [hN] at ho ⊢
 obtain ⟨p, hp⟩ : ∃ p, plc N L (bc, bj, bm) = p := ⟨_, rfl⟩
 rw [hp] at ho hH ⊢
 rcases hd : hdAt I p with _ | ⟨t, s, n⟩
 ·rw [hd] at ho; cases ho
 ·rw [hd] at hH ho
  simp only at ho
  split at ho
  ·rename_i q
   refine ⟨t, s, n, ?_, lh hH⟩
   simp only
   rw [if_pos q]
   rfl
  ·cases ho
theorem plc_ok {g off cap N L : Nat} {I : List Nat} (b : Bl) (w : World) (h : PoolM w g off cap N L I) (hb : b ∈ blI I L) : plc N L b ≤ 800 ∧ ∀ w1, Calls Tryz.prog 27 #[.agg #[.int .i64 (N : Nat), .int .i64 (L : Nat)], .agg #[.int .i64 (b.1 : Nat), .int .i64 (b.2.1 : Nat), .int .i64 (b.2.2 : Nat)]] w1 fun e w' => e = .returned (.int .i64 (plc N L b : Nat)) ∧ Below w1.heap.size w1 w' := by
 obtain ⟨bc, bj, bm⟩ := b
 have hgI : gOk (I.length : Nat) (L : Nat) = true := by rw [h.hN]; exact h.hs
 obtain ⟨u1, u2, u3, u4, u5, u6, u7⟩ := plc_bd hgI hb
 have hN := h.hN
 have hN8 := h.hN8
 rw [hN] at u1 u6 u7
 simp only [] at u2 u3 u4 u5
 exact ⟨by omega, fun w1 => refPlace_any N L bc bj bm w1 h.hs u1 (by omega) (by omega) (by omega)⟩
theorem refObjects_t (g off cap N L : Nat) (I : List Nat) (w : World) (h : PoolM w g off cap N L I) (hsd : soundB I = true)
 (hSo : ∀ w1, Below w.heap.size w w1 → Calls Tryz.prog 14 #[.slice (some ⟨g, off, none⟩) N cap] w1 fun e w' => e = .returned (.int .i64 0) ∧ Below w1.heap.size w1 w') :
 Calls Tryz.prog 17 #[.slice (some ⟨g, off, none⟩) N cap] w fun e w' => ∃ v', e = .returned v' ∧ OJO w' w.heap.size v' ((objsP I L).map (ojOf I)) ∧ Below w.heap.size w w' := by
 obtain ⟨hs, hri, hal⟩ := sound_parts hsd
 rw [h.hL] at hri hal
 obtain ⟨s1, s2, s3, s4, s5, s6, s7, s8⟩ := pool_size h.hs
 have hN8 := h.hN8
 have hN := h.hN
 have hcap : N ≤ cap := h.cap.1
 have hSo0 := hSo w (Below.refl _ _)
 have hD := lh (fun w1 (hb : Below w.heap.size w w1) => show Calls Tryz.prog 39 #[.slice (some ⟨g, off, none⟩) N cap] w1 (fun e w' => e = .returned (.tuple #[.agg #[.int .i64 (N : Nat), .int .i64 (L : Nat)], .int .i64 0]) ∧ Below w1.heap.size w1 w') from by
  have q := rdec_any (.slice (some ⟨g, off, none⟩) N cap) I N w1 hN (by omega) (KL.sl (h.hv.keep hb))
  rw [hs, h.hL] at q
  exact q)
 obtain ⟨F, hF⟩ : ∃ F, 10 + 73 * L = F := ⟨_, rfl⟩
 obtain ⟨G, hG⟩ : ∃ G, gNat N L = G := ⟨_, rfl⟩
 have hTb := lh (fun w1 => show Calls Tryz.prog 25 #[.agg #[.int .i64 (N : Nat), .int .i64 (L : Nat)]] w1 (fun e w' => e = .returned (.agg #[.int .i64 (F : Nat), .int .i64 (G : Nat)]) ∧ Below w1.heap.size w1 w') from by
  have h9 := refTable_t (N : Nat) (L : Nat) w1 h.hs
  rw [show (10 + 73 * (L : Int)) = ((F : Nat) : Int) from by omega, s5, hG] at h9
  exact h9)
 rw [hG] at s6 s7 s8
 have hFG : F + G ≤ N := by omega
 have hG2 : G ≤ 100 := by omega
 have hG1 : 1 ≤ G := by omega
 obtain ⟨T, hT⟩ : ∃ T, tabW I L = T := ⟨_, rfl⟩
 have hTT : (I.drop F).take G = T := by rw [← hT]; unfold tabW; rw [hN, hG, hF]
 have hTW : WL T := by rw [← hTT]; exact fun x hx => h.hW x (List.mem_of_mem_drop (List.mem_of_mem_take hx))
 have hTl : T.length = G := by rw [← hTT, List.length_take, List.length_drop, hN]; omega
 have hkT := lh (fun w1 (hb : Below w.heap.size w w1) => show KL .u64 w1 (.slice (some ⟨g, off + F, none⟩) G (cap - F)) T from by rw [← hTT]; exact KL.partC (h.hv.keep hb) hN F G (cap - F) (by omega) (by omega))
 have hlw := lh (fun w1 (hb : Below w.heap.size w w1) => h.hw.keep hb)
 obtain ⟨R, hR⟩ : ∃ R, blI I L = R := ⟨_, rfl⟩
 obtain ⟨n, hn⟩ : ∃ n, R.length = n := ⟨_, rfl⟩
 have hRT : blksT T = R := by rw [← hR, ← hT]; rfl
 have hn9 : n ≤ 800 := by
  have q := bl_len (I := I) (L := L) (by rw [hN]; exact h.hs)
  rw [hR, hn, hN, hG] at q
  omega
 have hgI : gOk (I.length : Nat) (L : Nat) = true := by rw [hN]; exact h.hs
 have hin := fun x (hx : x ∈ objsP I L) => obj_in h.hW hgI (by omega) (by rw [hT] at hri; rw [hT]; exact hri) hx
 have hoP : objsP I L = R.map (objE I L) := by unfold objsP; rw [if_pos hal, hR]
 rw [hoP] at hin ⊢
 rw [hN] at hin
 have hHd := lh (fun b (q : b ∈ R) => hdr_ok b w h (by rw [hR]; exact q) (by rw [hR] at hal; exact List.all_eq_true.1 hal b q))
 have hPl := lh (fun b (q : b ∈ R) => plc_ok b w h (by rw [hR]; exact q))
 have hbd := lh (fun b (q : b ∈ R) => hin (objE I L b) (List.mem_map.2 ⟨b, q, rfl⟩))
 obtain ⟨l, hl⟩ : ∃ l, R.map (objE I L) = l := ⟨_, rfl⟩
 have hln : l.length = n := by rw [← hl, List.length_map, hn]
 have hlg := lh (fun k (hk : k < n) => show l.getD k default = objE I L (R.getD k default) from by
  rw [← hl, List.getD_eq_getElem?_getD, List.getD_eq_getElem?_getD, List.getElem?_map, List.getElem?_eq_getElem (by omega)]; rfl)
 rw [hl]
 have hmt := lh (fun k (hk : k < n) => show (l.take (k + 1)).map (ojOf I) = (l.take k).map (ojOf I) ++ [ojOf I (l.getD k default)] from by
  rw [List.take_succ_eq_append_getElem (by omega), List.map_append, List.getD_eq_getElem?_getD, List.getElem?_eq_getElem (by omega)]; rfl)
 have hta := lh (show l.take n = l from List.take_of_length_le (by omega))
 obtain ⟨i0, hi0, hz0, hz1, hz2⟩ := info_parts infoU64
 have hSl := lh (fun p s (hp : p + 2 + s ≤ N) (hp4 : p + 4 ≤ N) w1 => run_slice3 (P := Tryz.prog) Tryz.underlying25 hi0 hz1 g off N cap (p + 2) (p + 2 + s) s (by omega) (by omega) (by omega) (by omega) w1)
 have hp4 := lh (fun b (q : b ∈ R) => (plc_bd hgI (by rw [hR]; exact q)).2.2.2.2.2.1)
 rw [hN] at hp4
 have hkp0 := lh (fun p s (hp : p + 2 + s ≤ N) w1 (hb : Below w.heap.size w w1) => KL.partC (h.hv.keep hb) hN (p + 2) s (cap - (p + 2)) hp (by omega))
 have hdl0 := lh (fun p s (hp : p + 2 + s ≤ N) => show ((I.drop (p + 2)).take s).length = s from by rw [List.length_take, List.length_drop, hN]; omega)
 have hN800 : N ≤ 800 := by omega
 clear hTT hF hG s5 s1 s2 s3 s4 s6 s7 s8 hin hoP hgI hSo hal hri hl
 replace h := lh h
 replace hs := lh hs
 replace hN := lh hN
 replace hT := lh hT
 replace hR := lh hR
 replace hRT := lh hRT
 replace hTW := lh hTW
 replace hTl := lh hTl
 replace hn := lh hn
 replace hln := lh hln
 replace hsd := lh hsd
 go_enter Tryz.func17, Tryz.ntmps17
 go_wp2_with fail
 refine hSo0.mono ?_
 rintro e w0 ⟨rfl, hb0⟩
 have hD0 := hD.out _ hb0
 clear hSo0 hD
 go_wp2_with fail
 refine hD0.mono ?_
 rintro e w1 ⟨rfl, hb1⟩
 have hB1 := hb0.trans (hb1.mono hb0.size)
 have eA := bZ w1 (.cells #[.int .i64 (N : Nat), .int .i64 (L : Nat)] 51)
 have gG := HB.new w1 #[.int .i64 (N : Nat), .int .i64 (L : Nat)] 51
 obtain ⟨w2, hw2⟩ : ∃ x, w1.alloc (.cells #[.int .i64 (N : Nat), .int .i64 (L : Nat)] 51) = x := ⟨_, rfl⟩
 rw [hw2] at eA gG
 have hB2 := hB1.trans (eA.mono hB1.size)
 obtain ⟨Gb, hGb⟩ : ∃ K, w1.heap.size = K := ⟨_, rfl⟩
 rw [hGb] at gG
 obtain ⟨q0, q1⟩ := gG.c2
 have hTb2 := hTb.out w2
 clear hD0 hb0 hb1 hB1 eA hTb
 subst hw2
 go_wp2_with fail
 refine hTb2.mono ?_
 rintro e w4 ⟨rfl, hb4⟩
 have hB4 := hB2.trans (hb4.mono hB2.size)
 have gG4 := gG.keep hb4
 have hPart := part15_any g off N cap F G w4 (by omega) hcap (by omega) (by omega)
 clear q0 q1 hb4 hB2 gG hTb2
 go_wp2_with fail
 refine hPart.mono ?_
 rintro e w5 ⟨rfl, hb5⟩
 have hB5 := hB4.trans (hb5.mono hB4.size)
 have gG5 := gG4.keep hb5
 have hBk := refBlocks_any _ T w5 (hlw.out _ hB5) (hkT.out _ hB5) hTW.out (by rw [hTl.out]; omega)
 rw [hRT.out] at hBk
 clear hPart hb5 hB4 gG4
 go_wp2_with fail
 refine hBk.mono ?_
 rintro e w8 ⟨v8, rfl, hO8, hb8⟩
 obtain ⟨A8, c8, rfl, -⟩ := BKO.formB hO8 hn.out
 have hB8 := hB5.trans (hb8.mono hB5.size)
 have gG8 := gG5.keep hb8
 clear hBk hb8 hB5 gG5
 go_wp2_with fail
 go_loopw [8, 7] (fun i u wr => ∃ (j : Nat), j ≤ n ∧ i = .int .i64 (j : Nat) ∧ OJO wr w8.heap.size u ((l.take j).map (ojOf I)) ∧ Below w8.heap.size w8 wr) (fun i _ _ => n + 1 - (intOf i).toNat)
 case atStart => exact ⟨0, Nat.zero_le _, rfl, OJO.nil _ _, Below.refl _ _⟩
 case round =>
  obtain ⟨j, hj, rfl, hJr, hBr⟩ := hrel
  have gGr := gG8.keep hBr
  have hBwr := hB8.trans (hBr.mono hB8.size)
  by_cases hlt : j < n
  case pos =>
   have hlt' : (j : Int) < (n : Int) := by omega
   have hm : R.getD j default ∈ R := by rw [List.getD_eq_getElem?_getD, List.getElem?_eq_getElem (by rw [hn.out]; omega)]; exact List.getElem_mem _
   obtain ⟨A9, c9, hv9, hF9⟩ := BKO.formB (hO8.keep hBr) hn.out
   cases hv9
   obtain ⟨g5, o5, rfl, hc5, hg5, hg8, k0, k1, k2⟩ := hF9 wr j (Below.refl _ _) hlt
   obtain ⟨t, s, sn, hoe, hHb⟩ := hHd.out _ hm
   obtain ⟨hp8, hPb⟩ := hPl.out _ hm
   have hbd1 := hbd.out _ hm
   have hp41 := hp4.out _ hm
   have hmt1 := hmt.out j hlt
   rw [hlg.out j hlt, hoe] at hmt1
   rw [hoe] at hbd1
   obtain ⟨b, hb⟩ : ∃ b, R.getD j default = b := ⟨_, rfl⟩
   rw [hb] at k0 k1 k2 hHb hPb hp8 hbd1 hp41 hmt1
   obtain ⟨p, hp⟩ : ∃ p, plc N L b = p := ⟨_, rfl⟩
   rw [hp] at hPb hp8 hbd1 hp41 hmt1
   obtain ⟨hbd2, hs4⟩ := hbd1
   simp only [] at hbd2 hs4
   obtain ⟨bc, bj, bm⟩ := b
   simp only [] at k0 k1 k2 hHb hPb
   have hSl1 := hSl.out p s hbd2 hp41
   have hkp := lh (fun w1 hb => hkp0.out p s hbd2 w1 hb)
   have hdl := hdl0.out p s hbd2
   have hoj : ojOf I (p, t, s, sn) = ((p, t, sn), (I.drop (p + 2)).take s) := rfl
   rw [hoj] at hmt1
   obtain ⟨f, hf⟩ : ∃ f, p + 2 = f := ⟨_, rfl⟩
   rw [hf] at hSl1 hkp hdl hmt1 hbd2
   obtain ⟨e2, he2⟩ : ∃ e, f + s = e := ⟨_, rfl⟩
   rw [he2] at hSl1 hbd2
   have z1 : (p : Int) + 2 = (f : Int) := by omega
   have z2 : IntKind.i64.wrap (f : Int) = (f : Int) := wrapQ _ (by omega) (by omega)
   have z3 : (f : Int) + (s : Int) = (e2 : Int) := by omega
   have z4 : IntKind.i64.wrap (e2 : Int) = (e2 : Int) := wrapQ _ (by omega) (by omega)
   generalize (I.drop f).take s = dd at *
   replace hmt1 := lh hmt1
   replace hPb := lh hPb
   replace hoe := lh hoe
   replace hf := lh hf
   replace he2 := lh he2
   clear hF9 hb hp hm hoj hHd hPl hbd hp4 hmt hlg hSl hkp0 hdl0 hta
   have hCF := lh (fun w' (hb : Below wr.heap.size wr w') => show w'.cell? ⟨Gb, 0, none⟩ = some (.int .i64 (N : Nat)) ∧ w'.cell? ⟨Gb, 1, none⟩ = some (.int .i64 (L : Nat)) ∧ w'.cell? ⟨g5, o5 + j * 3, none⟩ = some (.int .i64 (bc : Nat)) ∧ w'.cell? ⟨g5, o5 + j * 3 + 1, none⟩ = some (.int .i64 (bj : Nat)) ∧ w'.cell? ⟨g5, o5 + j * 3 + 2, none⟩ = some (.int .i64 (bm : Nat)) from
    ⟨(gGr.keep hb).c2.1, (gGr.keep hb).c2.2, by rw [(bcell hb).1 _ _ hg5]; exact k0, by rw [(bcell hb).1 _ _ hg5]; exact k1, by rw [(bcell hb).1 _ _ hg5]; exact k2⟩)
   go_wp2_with fail
   refine wp_region_held_drew (S := (fun w' => Below wr.heap.size wr w')) (by kernel_rfl) (Below.refl _ _).drew (fun hHeld => ?_)
   refine takeH 0 ?_
   refine takeH 1 ?_
   refine takeH 2 ?_
   refine takeH 3 ?_
   refine takeH 4 ?_
   refine takeH 5 ?_
   refine twoL 6 10 rfl rfl (by kernel_rfl) (fun K hK => ?_) (fun K hK => ?_)
   ·go_simp
    refine (hHb.out _ (hBwr.trans (hHeld.mono hBwr.size))).mono ?_; rintro e w6 ⟨rfl, hb⟩
    refine hK.out _ _ (hHeld.trans (hb.mono hHeld.size)) (fun hHeld2 => ?_)
    clear hK K hHeld
    have hHeld := hHeld2
    clear hHeld2
    try simp only [Act.put,sA,sB,sC]
    refine takeH 7 ?_
    refine takeH 8 ?_
    refine takeH 9 ?_
    refine oneL 10 rfl (by kernel_rfl) (fun K hK => ?_)
    have hb := bZ w6 (.cells #[.int .i64 0, .int .i64 0, .int .u64 0] 71)
    have gA := HB.new w6 #[.int .i64 0, .int .i64 0, .int .u64 0] 71
    obtain ⟨bz, hbz⟩ : ∃ b, w6.heap.size = b := ⟨_, rfl⟩
    have hbl : wr.heap.size ≤ bz := by rw [← hbz]; exact hHeld.size
    obtain ⟨wA, hwA⟩ : ∃ x, w6.alloc (.cells #[.int .i64 0, .int .i64 0, .int .u64 0] 71) = x := ⟨_, rfl⟩
    rw [hwA] at hb gA
    rw [hbz] at gA
    go_simp
    refine hK.out _ _ (hHeld.trans (hb.mono hHeld.size)) (fun hHeld2 => ?_)
    clear hwA hbz
    clear hK K hHeld
    have hHeld := hHeld2
    clear hHeld2
    try simp only [Act.put,sA,sB,sC]
    obtain ⟨s0, t0⟩ := row_cell gA 0
    obtain ⟨s1, t1⟩ := row_cell gA 1
    obtain ⟨s2, t2⟩ := row_cell gA 2
    refine oneL 11 rfl (by kernel_rfl) (fun K hK => ?_)
    go_simp
    refine hK.out _ _ (((hHeld.setCell (p := ⟨bz, 0, none⟩) hbl _).setCell (p := ⟨bz, 1, none⟩) hbl _).setCell (p := ⟨bz, 2, none⟩) hbl _) (fun hHeld2 => ?_)
    have gZ : HB (((wA.setCell ⟨bz, 0, none⟩ (.int .i64 (t : Nat))).setCell ⟨bz, 1, none⟩ (.int .i64 (s : Nat))).setCell ⟨bz, 2, none⟩ (.int .u64 (sn : Nat))) bz #[.int .i64 (t : Nat), .int .i64 (s : Nat), .int .u64 (sn : Nat)] 71 := (((gA.setC 0 (.int .i64 (t : Nat))).setC 1 (.int .i64 (s : Nat))).setC 2 (.int .u64 (sn : Nat)))
    generalize (((wA.setCell ⟨bz, 0, none⟩ (.int .i64 (t : Nat))).setCell ⟨bz, 1, none⟩ (.int .i64 (s : Nat))).setCell ⟨bz, 2, none⟩ (.int .u64 (sn : Nat))) = wz at *
    clear s0 t0 s1 t1 s2 t2
    clear hK K hHeld
    have hHeld := hHeld2
    clear hHeld2
    try simp only [Act.put,sA,sB,sC]
    refine takeH 12 ?_
    refine wpAnyH_done (by kernel_rfl) ?_ _
    have hBz := hBr.trans (hHeld.mono hBr.size)
    have hBwz := hBwr.trans (hHeld.mono hBwr.size)
    have hJz := hJr.keep hHeld
    have gGz := gGr.keep hHeld
    have hgz : g5 < wz.heap.size := Nat.lt_of_lt_of_le hg5 hHeld.size
    have k0z := ((bcell hHeld).1 _ _ hg5).trans k0
    have k1z := ((bcell hHeld).1 _ _ hg5).trans k1
    have k2z := ((bcell hHeld).1 _ _ hg5).trans k2
    clear hCF hHeld gGr hJr k0 k1 k2
    have k0 := k0z
    have k1 := k1z
    have k2 := k2z
    clear k0z k1z k2z
    have hCF := lh (fun w' (hb : Below wz.heap.size wz w') => show w'.cell? ⟨Gb, 0, none⟩ = some (.int .i64 (N : Nat)) ∧ w'.cell? ⟨Gb, 1, none⟩ = some (.int .i64 (L : Nat)) ∧ w'.cell? ⟨g5, o5 + j * 3, none⟩ = some (.int .i64 (bc : Nat)) ∧ w'.cell? ⟨g5, o5 + j * 3 + 1, none⟩ = some (.int .i64 (bj : Nat)) ∧ w'.cell? ⟨g5, o5 + j * 3 + 2, none⟩ = some (.int .i64 (bm : Nat)) from
     ⟨(gGz.keep hb).c2.1, (gGz.keep hb).c2.2, by rw [(bcell hb).1 _ _ hgz]; exact k0, by rw [(bcell hb).1 _ _ hgz]; exact k1, by rw [(bcell hb).1 _ _ hgz]; exact k2⟩)
    clear k0 k1 k2
    go_wp2_with fail
    refine wp_region_held_drew (S := (fun w' => Below wz.heap.size wz w')) (by kernel_rfl) (Below.refl _ _).drew (fun hHeld => ?_)
    refine takeH 0 ?_
    refine takeH 1 ?_
    refine takeH 2 ?_
    refine takeH 3 ?_
    refine takeH 4 ?_
    refine oneL 5 rfl (by kernel_rfl) (fun K hK => ?_)
    go_simp
    refine (hPb.out _).mono ?_; rintro e w6 ⟨rfl, hb⟩
    refine hK.out _ _ (hHeld.trans (hb.mono hHeld.size)) (fun hHeld2 => ?_)
    clear hK K hHeld
    have hHeld := hHeld2
    clear hHeld2
    try simp only [Act.put,sA,sB,sC]
    refine takeH 6 ?_
    refine wpAnyH_done (by kernel_rfl) ?_ _
    have hBq := hBz.trans (hHeld.mono hBz.size)
    have hBwq := hBwz.trans (hHeld.mono hBwz.size)
    have hJq := hJz.keep hHeld
    have gZq := gZ.keep hHeld
    clear hCF hHeld hJz gZ gGz hBz hBwz
    obtain ⟨wq, hwq⟩ : ∃ x, w6 = x := ⟨_, rfl⟩
    rw [hwq] at hBq hBwq hJq gZq
    have hCF := lh (fun w' (hb : Below wq.heap.size wq w') => show w'.cell? ⟨bz, 0, none⟩ = some (.int .i64 (t : Nat)) ∧ w'.cell? ⟨bz, 1, none⟩ = some (.int .i64 (s : Nat)) ∧ w'.cell? ⟨bz, 2, none⟩ = some (.int .u64 (sn : Nat)) from ⟨(row_cell (gZq.keep hb) 0).1, (row_cell (gZq.keep hb) 1).1, (row_cell (gZq.keep hb) 2).1⟩)
    have hkq := hkp.out wq hBwq
    clear gZq hkp
    subst hwq
    go_wp2_with fail
    refine wp_region_tail (S := (fun w' => Below w6.heap.size w6 w')) (n := 20) (by kernel_rfl) (Below.refl _ _).drew (fun hHeld hInv => ?_) (by decide)
    refine takeHS 0 hInv ?_; clear hInv; intro hInv
    refine takeHS 1 hInv ?_; clear hInv; intro hInv
    refine takeHS 2 hInv ?_; clear hInv; intro hInv
    refine takeHS 3 hInv ?_; clear hInv; intro hInv
    refine takeHS 4 hInv ?_; clear hInv; intro hInv
    refine takeHS 5 hInv ?_; clear hInv; intro hInv
    refine takeHS 6 hInv ?_; clear hInv; intro hInv
    refine takeHS 8 hInv ?_; clear hInv; intro hInv
    refine takeHS 9 hInv ?_; clear hInv; intro hInv
    refine takeHS 10 hInv ?_; clear hInv; intro hInv
    refine takeHS 11 hInv ?_; clear hInv; intro hInv
    refine takeHS 12 hInv ?_; clear hInv; intro hInv
    refine takeHS 13 hInv ?_; clear hInv; intro hInv
    refine takeHS 14 hInv ?_; clear hInv; intro hInv
    refine takeHS 15 hInv ?_; clear hInv; intro hInv
    refine takeHS 16 hInv ?_; clear hInv; intro hInv
    refine oneS 7 hInv (by decide) rfl (by kernel_rfl) (fun K hK => ?_)
    go_simp
    have hb := bZ w6.drew (.cells #[] (33 : Nat))
    refine hK.out _ _ (hHeld.trans (hb.mono hHeld.size)) (fun hHeld2 hInv2 => ?_)
    clear hK K hHeld hInv
    have hHeld := hHeld2
    have hInv := hInv2
    clear hHeld2 hInv2
    try simp only [Act.put,sA,sB,sC] at hInv ⊢
    refine oneS 17 hInv (by decide) rfl (by kernel_rfl) (fun K hK => ?_)
    obtain ⟨v5, w5, hrun, ho5, hb5⟩ := newW (w := w6.drew) (hkq.keep (Below.refl _ _).drew) (by rw [hdl]; omega)
    obtain ⟨A5, c5, rfl, -⟩ := (OwnU.kl ho5).form hdl
    rw [if_pos (by rfl)]
    refine wp_append_run _ _ _ _ rfl _ _ _ rfl rfl hrun ?_
    refine hK.out _ _ ((Below.refl _ _).drew.trans hb5) (fun hHeld2 hInv2 => ?_)
    clear hK K hHeld hInv
    have hHeld := hHeld2
    have hInv := hInv2
    clear hHeld2 hInv2
    try simp only [Act.put,sA,sB,sC] at hInv ⊢
    refine takeHS 18 hInv ?_; clear hInv; intro hInv
    refine oneS 19 hInv (by decide) rfl (by kernel_rfl) (fun K hK => ?_)
    go_simp
    have hb := bZ w5 (.cells #[.int .i64 (p : Nat), .int .i64 (t : Nat), .int .u64 (sn : Nat), .slice A5 s c5] (64 : Nat))
    refine hK.out _ _ (hHeld.trans (hb.mono hHeld.size)) (fun hHeld2 hInv2 => ?_)
    clear hK K hHeld hInv
    have hHeld := hHeld2
    have hInv := hInv2
    clear hHeld2 hInv2
    try simp only [Act.put,sA,sB,sC] at hInv ⊢
    refine lastS 20 rfl (by decide) (by kernel_rfl) (fun K hK => ?_)
    have hb56 := (Below.refl w6.heap.size w6).drew.trans hb5
    have hJ5 := hJq.keep hb56
    have ho5b : OwnU w5 w8.heap.size _ dd := ho5.mono hBq.size
    have hB5 := hBq.trans (hb56.mono hBq.size)
    obtain ⟨v8, w9, hrun2, hJ8, hb8⟩ := jRun hJ5 hB5.size (by rw [List.length_map, List.length_take]; omega) p t sn _ dd ho5b
    have hB8 := hB5.trans hb8
    rw [← hmt1.out] at hJ8
    rw [if_pos (by rfl)]
    refine wp_append_run _ _ _ _ rfl _ _ _ rfl rfl hrun2 ?_
    refine hK.out _ _ ?_
    clear hK K
    try simp only [Act.put,sA,sB,sC]
    refine lastS 21 rfl (by decide) (by kernel_rfl) (fun K hK => ?_)
    go_simp
    refine hK.out _ _ ?_
    clear hK K
    try simp only [Act.put,sA,sB,sC]
    refine wpAnyS_done (by kernel_rfl) ?_ _
    clear hCF hInv hHeld
    go_wp2_with fail
    go_roundw
    case rel => exact ⟨j + 1, by omega, by go_num, hJ8, hB8⟩
    case measure => first | (simp [intOf]; done) | (simp [intOf]; omega)
   ·have hb := bZ wr.drew (.cells #[.int .i64 0, .int .i64 0, .int .u64 0] 71)
    have gA := HB.new wr.drew #[.int .i64 0, .int .i64 0, .int .u64 0] 71
    obtain ⟨bz, hbz⟩ : ∃ b, wr.drew.heap.size = b := ⟨_, rfl⟩
    have hbl : wr.heap.size ≤ bz := by rw [← hbz]; exact hHeld.size
    obtain ⟨wA, hwA⟩ : ∃ x, wr.drew.alloc (.cells #[.int .i64 0, .int .i64 0, .int .u64 0] 71) = x := ⟨_, rfl⟩
    rw [hwA] at hb gA
    rw [hbz] at gA
    go_simp
    refine hK.out _ _ (hHeld.trans (hb.mono hHeld.size)) (fun hHeld2 => ?_)
    clear hwA hbz
    clear hK K hHeld
    have hHeld := hHeld2
    clear hHeld2
    try simp only [Act.put,sA,sB,sC]
    refine oneL 6 rfl (by kernel_rfl) (fun K hK => ?_)
    go_simp
    refine (hHb.out _ (hBwr.trans (hHeld.mono hBwr.size))).mono ?_; rintro e w6 ⟨rfl, hb⟩
    refine hK.out _ _ (hHeld.trans (hb.mono hHeld.size)) (fun hHeld2 => ?_)
    clear hK K hHeld
    have hHeld := hHeld2
    clear hHeld2
    try simp only [Act.put,sA,sB,sC]
    replace gA := gA.keep hb
    refine takeH 7 ?_
    refine takeH 8 ?_
    refine takeH 9 ?_
    obtain ⟨s0, t0⟩ := row_cell gA 0
    obtain ⟨s1, t1⟩ := row_cell gA 1
    obtain ⟨s2, t2⟩ := row_cell gA 2
    refine oneL 11 rfl (by kernel_rfl) (fun K hK => ?_)
    go_simp
    refine hK.out _ _ (((hHeld.setCell (p := ⟨bz, 0, none⟩) hbl _).setCell (p := ⟨bz, 1, none⟩) hbl _).setCell (p := ⟨bz, 2, none⟩) hbl _) (fun hHeld2 => ?_)
    have gZ : HB (((w6.setCell ⟨bz, 0, none⟩ (.int .i64 (t : Nat))).setCell ⟨bz, 1, none⟩ (.int .i64 (s : Nat))).setCell ⟨bz, 2, none⟩ (.int .u64 (sn : Nat))) bz #[.int .i64 (t : Nat), .int .i64 (s : Nat), .int .u64 (sn : Nat)] 71 := (((gA.setC 0 (.int .i64 (t : Nat))).setC 1 (.int .i64 (s : Nat))).setC 2 (.int .u64 (sn : Nat)))
    generalize (((w6.setCell ⟨bz, 0, none⟩ (.int .i64 (t : Nat))).setCell ⟨bz, 1, none⟩ (.int .i64 (s : Nat))).setCell ⟨bz, 2, none⟩ (.int .u64 (sn : Nat))) = wz at *
    clear s0 t0 s1 t1 s2 t2
    clear hK K hHeld
    have hHeld := hHeld2
    clear hHeld2
    try simp only [Act.put,sA,sB,sC]
    refine takeH 12 ?_
    refine wpAnyH_done (by kernel_rfl) ?_ _
    have hBz := hBr.trans (hHeld.mono hBr.size)
    have hBwz := hBwr.trans (hHeld.mono hBwr.size)
    have hJz := hJr.keep hHeld
    have gGz := gGr.keep hHeld
    have hgz : g5 < wz.heap.size := Nat.lt_of_lt_of_le hg5 hHeld.size
    have k0z := ((bcell hHeld).1 _ _ hg5).trans k0
    have k1z := ((bcell hHeld).1 _ _ hg5).trans k1
    have k2z := ((bcell hHeld).1 _ _ hg5).trans k2
    clear hCF hHeld gGr hJr k0 k1 k2
    have k0 := k0z
    have k1 := k1z
    have k2 := k2z
    clear k0z k1z k2z
    have hCF := lh (fun w' (hb : Below wz.heap.size wz w') => show w'.cell? ⟨Gb, 0, none⟩ = some (.int .i64 (N : Nat)) ∧ w'.cell? ⟨Gb, 1, none⟩ = some (.int .i64 (L : Nat)) ∧ w'.cell? ⟨g5, o5 + j * 3, none⟩ = some (.int .i64 (bc : Nat)) ∧ w'.cell? ⟨g5, o5 + j * 3 + 1, none⟩ = some (.int .i64 (bj : Nat)) ∧ w'.cell? ⟨g5, o5 + j * 3 + 2, none⟩ = some (.int .i64 (bm : Nat)) from
     ⟨(gGz.keep hb).c2.1, (gGz.keep hb).c2.2, by rw [(bcell hb).1 _ _ hgz]; exact k0, by rw [(bcell hb).1 _ _ hgz]; exact k1, by rw [(bcell hb).1 _ _ hgz]; exact k2⟩)
    clear k0 k1 k2
    go_wp2_with fail
    refine wp_region_held_drew (S := (fun w' => Below wz.heap.size wz w')) (by kernel_rfl) (Below.refl _ _).drew (fun hHeld => ?_)
    refine takeH 0 ?_
    refine takeH 1 ?_
    refine takeH 2 ?_
    refine takeH 3 ?_
    refine takeH 4 ?_
    refine oneL 5 rfl (by kernel_rfl) (fun K hK => ?_)
    go_simp
    refine (hPb.out _).mono ?_; rintro e w6 ⟨rfl, hb⟩
    refine hK.out _ _ (hHeld.trans (hb.mono hHeld.size)) (fun hHeld2 => ?_)
    clear hK K hHeld
    have hHeld := hHeld2
    clear hHeld2
    try simp only [Act.put,sA,sB,sC]
    refine takeH 6 ?_
    refine wpAnyH_done (by kernel_rfl) ?_ _
    have hBq := hBz.trans (hHeld.mono hBz.size)
    have hBwq := hBwz.trans (hHeld.mono hBwz.size)
    have hJq := hJz.keep hHeld
    have gZq := gZ.keep hHeld
    clear hCF hHeld hJz gZ gGz hBz hBwz
    obtain ⟨wq, hwq⟩ : ∃ x, w6 = x := ⟨_, rfl⟩
    rw [hwq] at hBq hBwq hJq gZq
    have hCF := lh (fun w' (hb : Below wq.heap.size wq w') => show w'.cell? ⟨bz, 0, none⟩ = some (.int .i64 (t : Nat)) ∧ w'.cell? ⟨bz, 1, none⟩ = some (.int .i64 (s : Nat)) ∧ w'.cell? ⟨bz, 2, none⟩ = some (.int .u64 (sn : Nat)) from ⟨(row_cell (gZq.keep hb) 0).1, (row_cell (gZq.keep hb) 1).1, (row_cell (gZq.keep hb) 2).1⟩)
    have hkq := hkp.out wq hBwq
    clear gZq hkp
    subst hwq
    go_wp2_with fail
    refine wp_region_tail (S := (fun w' => Below w6.heap.size w6 w')) (n := 20) (by kernel_rfl) (Below.refl _ _).drew (fun hHeld hInv => ?_) (by decide)
    refine takeHS 0 hInv ?_; clear hInv; intro hInv
    refine takeHS 1 hInv ?_; clear hInv; intro hInv
    refine takeHS 2 hInv ?_; clear hInv; intro hInv
    refine takeHS 3 hInv ?_; clear hInv; intro hInv
    refine takeHS 4 hInv ?_; clear hInv; intro hInv
    refine takeHS 5 hInv ?_; clear hInv; intro hInv
    refine takeHS 6 hInv ?_; clear hInv; intro hInv
    refine takeHS 8 hInv ?_; clear hInv; intro hInv
    refine takeHS 9 hInv ?_; clear hInv; intro hInv
    refine takeHS 10 hInv ?_; clear hInv; intro hInv
    refine takeHS 11 hInv ?_; clear hInv; intro hInv
    refine takeHS 12 hInv ?_; clear hInv; intro hInv
    refine takeHS 13 hInv ?_; clear hInv; intro hInv
    refine takeHS 14 hInv ?_; clear hInv; intro hInv
    refine takeHS 15 hInv ?_; clear hInv; intro hInv
    refine takeHS 16 hInv ?_; clear hInv; intro hInv
    refine oneS 7 hInv (by decide) rfl (by kernel_rfl) (fun K hK => ?_)
    go_simp
    have hb := bZ w6.drew (.cells #[] (33 : Nat))
    refine hK.out _ _ (hHeld.trans (hb.mono hHeld.size)) (fun hHeld2 hInv2 => ?_)
    clear hK K hHeld hInv
    have hHeld := hHeld2
    have hInv := hInv2
    clear hHeld2 hInv2
    try simp only [Act.put,sA,sB,sC] at hInv ⊢
    refine oneS 17 hInv (by decide) rfl (by kernel_rfl) (fun K hK => ?_)
    obtain ⟨v5, w5, hrun, ho5, hb5⟩ := newW (w := w6.drew) (hkq.keep (Below.refl _ _).drew) (by rw [hdl]; omega)
    obtain ⟨A5, c5, rfl, -⟩ := (OwnU.kl ho5).form hdl
    rw [if_pos (by rfl)]
    refine wp_append_run _ _ _ _ rfl _ _ _ rfl rfl hrun ?_
    refine hK.out _ _ ((Below.refl _ _).drew.trans hb5) (fun hHeld2 hInv2 => ?_)
    clear hK K hHeld hInv
    have hHeld := hHeld2
    have hInv := hInv2
    clear hHeld2 hInv2
    try simp only [Act.put,sA,sB,sC] at hInv ⊢
    refine takeHS 18 hInv ?_; clear hInv; intro hInv
    refine oneS 19 hInv (by decide) rfl (by kernel_rfl) (fun K hK => ?_)
    go_simp
    have hb := bZ w5 (.cells #[.int .i64 (p : Nat), .int .i64 (t : Nat), .int .u64 (sn : Nat), .slice A5 s c5] (64 : Nat))
    refine hK.out _ _ (hHeld.trans (hb.mono hHeld.size)) (fun hHeld2 hInv2 => ?_)
    clear hK K hHeld hInv
    have hHeld := hHeld2
    have hInv := hInv2
    clear hHeld2 hInv2
    try simp only [Act.put,sA,sB,sC] at hInv ⊢
    refine lastS 20 rfl (by decide) (by kernel_rfl) (fun K hK => ?_)
    have hb56 := (Below.refl w6.heap.size w6).drew.trans hb5
    have hJ5 := hJq.keep hb56
    have ho5b : OwnU w5 w8.heap.size _ dd := ho5.mono hBq.size
    have hB5 := hBq.trans (hb56.mono hBq.size)
    obtain ⟨v8, w9, hrun2, hJ8, hb8⟩ := jRun hJ5 hB5.size (by rw [List.length_map, List.length_take]; omega) p t sn _ dd ho5b
    have hB8 := hB5.trans hb8
    rw [← hmt1.out] at hJ8
    rw [if_pos (by rfl)]
    refine wp_append_run _ _ _ _ rfl _ _ _ rfl rfl hrun2 ?_
    refine hK.out _ _ ?_
    clear hK K
    try simp only [Act.put,sA,sB,sC]
    refine lastS 21 rfl (by decide) (by kernel_rfl) (fun K hK => ?_)
    go_simp
    refine hK.out _ _ ?_
    clear hK K
    try simp only [Act.put,sA,sB,sC]
    refine wpAnyS_done (by kernel_rfl) ?_ _
    clear hCF hInv hHeld
    go_wp2_with fail
    go_roundw
    case rel => exact ⟨j + 1, by omega, by go_num, hJ8, hB8⟩
    case measure => first | (simp [intOf]; done) | (simp [intOf]; omega)
  obtain rfl : n = j := by omega
  have hlt' : ¬ (n : Int) < (n : Int) := by omega
  rw [hta.out] at hJr
  go_wp2_with fail
  go_ret
  exact ⟨_, rfl, hJr.mono hB8.size, hBwr⟩
theorem refObjects_of (v : Value) (I : List Nat) (w : World) (hw : Lw w) (hW : WL I) (hv : KL .u64 w v I) (hN8 : I.length ≤ 800)
 (hSo : ∀ w1, Below w.heap.size w w1 → Calls Tryz.prog 14 #[v] w1 fun e w' => e = .returned (.int .i64 (if soundB I = true then 0 else 7)) ∧ Below w1.heap.size w1 w') :
 Calls Tryz.prog 17 #[v] w fun e w' => ∃ v', e = .returned v' ∧ OJO w' w.heap.size v' (objL I) ∧ Below w.heap.size w w' := by
 cases hsd : soundB I with
 | true =>
   rw [hsd] at hSo
   obtain ⟨hs, -, -⟩ := sound_parts hsd
   obtain ⟨g, off, cap, rfl, hp⟩ := pool_of hw hW hv hN8 hs
   unfold objL
   rw [if_pos hsd]
   exact refObjects_t g off cap I.length (I.getD 3 0) I w hp hsd hSo
 | false =>
   have hSo0 := hSo w (Below.refl _ _)
   have hob : objL I = [] := by unfold objL; rw [hsd]; rfl
   rw [hsd] at hSo0
   simp only [Bool.false_eq_true, if_false] at hSo0
   rw [hob]
   obtain ⟨A, c, hve, -⟩ := hv.form rfl
   generalize I.length = N at hve
   subst hve
   clear hv hW hw hN8 hsd hSo
   go_enter Tryz.func17, Tryz.ntmps17
   go_wp2_with fail
   refine hSo0.mono ?_
   rintro e w1 ⟨rfl, hb1⟩
   go_wp2_with fail
   go_ret
   exact ⟨_, rfl, OJO.nil _ _, hb1⟩
end Go.Proofs.YtdmmbnnejbmdpaaGreatDoor
end
section
namespace Go.Proofs.YtdmmbnnejbmdpaaGreatDoor
open Go.RowKit Go.ChangeShapes Go.WideShapes Go.Deep
def BL9 (l : List Nat) : Prop := ∀ x ∈ l, x < 256
theorem bytes_open9 {H : Type} {enc : TypeId × Value → H} {P : Program} {W : World} {t e : TypeId} (ht : P.underlying t = some (.slice e)) (he : P.underlying e = some (.int .u8)) (hc : P.cellsOf e = 1) {ad : Option Addr} {len cap : Nat} {d : DataW H} {p : List MemPlace}
 (h : DataW.Trod enc P W 0 (fun _ => true) true t (.slice ad len cap) d p) : ∃ l : List Nat, BL9 l ∧ KL .u8 W (.slice ad len cap) l := by
 obtain ⟨fuel, hf⟩ := h
 rcases open_ints ht he hc hf with ⟨hcs, _⟩ | ⟨a, len', cap', zs, hcs, _, hl, hm, hz, _, hcell, hwz⟩
 ·simp [Value.cells] at hcs
  obtain ⟨rfl, rfl, rfl⟩ := hcs
  exact ⟨[], fun x hx => by simp at hx, none, 0, rfl, fun h => by simp at h⟩
 ·simp [Value.cells] at hcs
  obtain ⟨rfl, rfl, rfl⟩ := hcs
  simp only [if_true] at hz
  have hb : ∀ z ∈ zs, 0 ≤ z ∧ z ≤ 255 := fun z hz => bounds_u8 (hwz z hz)
  have hlen : ((zs.take len).map Int.toNat).length = len := by simp; omega
  refine ⟨(zs.take len).map Int.toNat, fun x hx => ?_, some a, cap, by rw [hlen], fun h0 => ?_⟩
  ·obtain ⟨z, hz1, rfl⟩ := List.mem_map.1 hx
   have := hb z (List.mem_of_mem_take hz1)
   omega
  ·rw [hlen] at h0 ⊢
   have hc0 := hcell 0 (by omega)
   have hsp : a.spot = none := by
    have := spot_none hc0
    unfold Addr.add at this
    simpa using this
   obtain ⟨g, off, sp⟩ := a
   simp only at hsp
   subst hsp
   refine ⟨g, off, rfl, ?_, by omega, fun i hil => ?_⟩
   ·have := World.block_lt_of_cell? _ _ hc0
    simpa [add_plain] using this
   ·have := hcell i (by omega)
    rw [add_plain] at this
    rw [this]
    have hzi : i < zs.length := by omega
    have e1 : ((zs.take len).map Int.toNat).getD i 0 = (zs[i]).toNat := by
     rw [List.getD_eq_getElem?_getD, List.getElem?_map, List.getElem?_take, if_pos hil, List.getElem?_eq_getElem hzi]
     rfl
    have e2 : zs.getD i 0 = zs[i] := by rw [List.getD_eq_getElem?_getD, List.getElem?_eq_getElem hzi]; rfl
    rw [e1, e2, Int.toNat_of_nonneg (hb _ (List.getElem_mem hzi)).1]
abbrev Sx := (Value × Value × Value × Value) × Sk
def SOk (W : World) (g : Sx) : Prop := SkM W g.1.1 g.1.2.1 g.1.2.2.1 g.1.2.2.2 g.2 ∧ SkB g.2
def sxV (g : Sx) : Value := skV g.2 g.1.1 g.1.2.1 g.1.2.2.1 g.1.2.2.2
theorem stock_open {H : Type} {enc : TypeId × Value → H} {W : World} {r : Reach} {b1 : Nat} {v : Value} {d : DataW H} {p : List MemPlace} (hv : Value.okWide Tryz.prog W r b1 27 v) (h : DataW.Trod enc Tryz.prog W 0 (fun _ => true) true 27 v d p) :
 ∃ g : Sx, SOk W g ∧ v = sxV g := by
 obtain ⟨cs, rfl, hsz⟩ := okWide_struct Tryz.underlying27 hv
 obtain ⟨fuel, h⟩ := h
 rw [show Tryz.prog.cellsOf 27 = 8 by kernel_rfl] at hsz
 obtain ⟨xs, n, _, _, _, hxl, hf⟩ := DataW.trod_struct Tryz.underlying27 h
 have hl : (Value.agg cs).cells.toList.length = 8 := by simpa [Value.cells] using hsz
 have hcs : (Value.agg cs).cells.toList = cs.toList := rfl
 rw [hcs] at hf hl
 obtain ⟨ls, hls⟩ : ∃ ls, cs.toList = ls := ⟨_, rfl⟩
 rw [hls] at hf hl
 match xs, hxl, ls, hl, hls with
 | [y0, y1, y2, y3, y4, y5, y6, y7], _, [u0, u1, u2, u3, u4, u5, u6, u7], _, hls =>
   have g0 : DataW.trod enc Tryz.prog W 0 (fun _ => true) true n 5 ((([u0, u1, u2, u3, u4, u5, u6, u7] : List Value).drop 0).take (Tryz.prog.cellsOf 5)) = some y0 := hf 0 _ rfl
   rw [show Tryz.prog.cellsOf 5 = 1 by kernel_rfl] at g0
   have g1 : DataW.trod enc Tryz.prog W 0 (fun _ => true) true n 5 ((([u0, u1, u2, u3, u4, u5, u6, u7] : List Value).drop 1).take (Tryz.prog.cellsOf 5)) = some y1 := hf 1 _ rfl
   rw [show Tryz.prog.cellsOf 5 = 1 by kernel_rfl] at g1
   have g2 : DataW.trod enc Tryz.prog W 0 (fun _ => true) true n 22 ((([u0, u1, u2, u3, u4, u5, u6, u7] : List Value).drop 2).take (Tryz.prog.cellsOf 22)) = some y2 := hf 2 _ rfl
   rw [show Tryz.prog.cellsOf 22 = 1 by kernel_rfl] at g2
   have g3 : DataW.trod enc Tryz.prog W 0 (fun _ => true) true n 23 ((([u0, u1, u2, u3, u4, u5, u6, u7] : List Value).drop 3).take (Tryz.prog.cellsOf 23)) = some y3 := hf 3 _ rfl
   rw [show Tryz.prog.cellsOf 23 = 1 by kernel_rfl] at g3
   have g4 : DataW.trod enc Tryz.prog W 0 (fun _ => true) true n 23 ((([u0, u1, u2, u3, u4, u5, u6, u7] : List Value).drop 4).take (Tryz.prog.cellsOf 23)) = some y4 := hf 4 _ rfl
   rw [show Tryz.prog.cellsOf 23 = 1 by kernel_rfl] at g4
   have g5 : DataW.trod enc Tryz.prog W 0 (fun _ => true) true n 24 ((([u0, u1, u2, u3, u4, u5, u6, u7] : List Value).drop 5).take (Tryz.prog.cellsOf 24)) = some y5 := hf 5 _ rfl
   rw [show Tryz.prog.cellsOf 24 = 1 by kernel_rfl] at g5
   have g6 : DataW.trod enc Tryz.prog W 0 (fun _ => true) true n 5 ((([u0, u1, u2, u3, u4, u5, u6, u7] : List Value).drop 6).take (Tryz.prog.cellsOf 5)) = some y6 := hf 6 _ rfl
   rw [show Tryz.prog.cellsOf 5 = 1 by kernel_rfl] at g6
   have g7 : DataW.trod enc Tryz.prog W 0 (fun _ => true) true n 25 ((([u0, u1, u2, u3, u4, u5, u6, u7] : List Value).drop 7).take (Tryz.prog.cellsOf 25)) = some y7 := hf 7 _ rfl
   rw [show Tryz.prog.cellsOf 25 = 1 by kernel_rfl] at g7
   obtain ⟨a0, e0, _, w0⟩ := DataW.trod_int Tryz.underlying5 g0
   simp at e0
   subst e0
   have b0 := bounds_u8 w0
   obtain ⟨n0, rfl⟩ := Int.eq_ofNat_of_zero_le (show 0 ≤ a0 by omega)
   obtain ⟨a1, e1, _, w1⟩ := DataW.trod_int Tryz.underlying5 g1
   simp at e1
   subst e1
   have b1 := bounds_u8 w1
   obtain ⟨n1, rfl⟩ := Int.eq_ofNat_of_zero_le (show 0 ≤ a1 by omega)
   obtain ⟨A2, l2, c2, rfl, T2⟩ := sl_cell Tryz.underlying22 g2
   obtain ⟨A3, l3, c3, rfl, T3⟩ := sl_cell Tryz.underlying23 g3
   obtain ⟨A4, l4, c4, rfl, T4⟩ := sl_cell Tryz.underlying23 g4
   obtain ⟨a5, e5, _, w5⟩ := DataW.trod_int Tryz.underlying24 g5
   simp at e5
   subst e5
   have b5 := bounds_u32 w5
   obtain ⟨n5, rfl⟩ := Int.eq_ofNat_of_zero_le (show 0 ≤ a5 by omega)
   obtain ⟨a6, e6, _, w6⟩ := DataW.trod_int Tryz.underlying5 g6
   simp at e6
   subst e6
   have b6 := bounds_u8 w6
   obtain ⟨n6, rfl⟩ := Int.eq_ofNat_of_zero_le (show 0 ≤ a6 by omega)
   obtain ⟨A7, l7, c7, rfl, T7⟩ := sl_cell Tryz.underlying25 g7
   obtain ⟨lt, ht, kt⟩ := halves_open Tryz.underlying22 Tryz.underlying32 (by kernel_rfl) T2
   obtain ⟨ly, hy, ky⟩ := bytes_open9 Tryz.underlying23 Tryz.underlying5 (by kernel_rfl) T3
   obtain ⟨le, he, ke⟩ := bytes_open9 Tryz.underlying23 Tryz.underlying5 (by kernel_rfl) T4
   obtain ⟨lf, hf2, kf⟩ := wordsK_open Tryz.underlying25 Tryz.underlying33 (by kernel_rfl) T7
   refine ⟨((.slice A2 l2 c2, .slice A3 l3 c3, .slice A4 l4 c4, .slice A7 l7 c7), ⟨n0, n1, lt, ly, le, n5, n6, lf⟩), ⟨⟨kt, ky, ke, kf⟩, ⟨by simp only []; omega, by simp only []; omega, ht, fun x hx => hy x hx, fun x hx => he x hx, by simp only []; omega, by simp only []; omega, hf2⟩⟩, ?_⟩
   show Value.agg cs = Value.agg _
   congr 1
   rw [← Array.toList_inj, hls]
end Go.Proofs.YtdmmbnnejbmdpaaGreatDoor
end
