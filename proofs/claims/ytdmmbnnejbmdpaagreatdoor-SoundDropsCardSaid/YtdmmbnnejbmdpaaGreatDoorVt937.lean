/-
  Part of the proof of SoundApart,SoundTwins,SoundWords.
-/
import Derived.Test.YtdmmbnnejbmdpaaGreatDoorVt936
import Derived.Test.YtdmmbnnejbmdpaaGreatDoorVt90
set_option maxRecDepth 10000
set_option maxHeartbeats 8000000
set_option linter.unusedVariables false
set_option linter.unusedSimpArgs false
namespace Go.Proofs.YtdmmbnnejbmdpaaGreatDoor
open Go.Lib Go.RowKit Go.ChangeShapes Go.WideShapes Go.Deep Go.Shelf
def rulesB (I : List Nat) : List Bool := [true, restN I (I.getD 3 0), rightT (tabW I (I.getD 3 0)) && calmT (tabW I (I.getD 3 0)), allO I (I.getD 3 0) (blI I (I.getD 3 0)), distR (serO (objsP I (I.getD 3 0))) (objsP I (I.getD 3 0)).length, epoB I (objsP I (I.getD 3 0)), rootB I (objsP I (I.getD 3 0))]
theorem soundB_rules {I : List Nat} (h : sOk I = true) : soundB I = (rulesB I).all id := by
 unfold soundB rulesB
 rw [h]
 simp only [List.all_cons, List.all_nil, id_eq, Bool.and_true, Bool.true_and]
theorem soundB_no {I : List Nat} (h : sOk I = false) : soundB I = false := by unfold soundB; rw [h]; rfl
theorem pool_of {w : World} {v : Value} {I : List Nat} (hw : Lw w) (hW : WL I) (hv : KL .u64 w v I) (hN8 : I.length ≤ 800) (hs : sOk I = true) : ∃ g off cap, v = .slice (some ⟨g, off, none⟩) I.length cap ∧ PoolM w g off cap I.length (I.getD 3 0) I := by
 have hg := (gOk_pool hs).2
 obtain ⟨s1, s2, s3, s4, s5, s6, s7, s8⟩ := pool_size hg
 obtain ⟨g, off, cap, rfl, h1, h2⟩ := hv.addr rfl (by omega)
 exact ⟨g, off, cap, rfl, ⟨hw, hW, hv, rfl, hN8, rfl, hg⟩⟩
theorem rules_take {l : List Bool} {k : Nat} (h : k < l.length) : (l.take (k + 1)).all id = ((l.take k).all id && l.getD k false) := by
 rw [List.take_succ_eq_append_getElem h, List.all_append, List.getD_eq_getElem?_getD, List.getElem?_eq_getElem h]
 simp
theorem rules_no {l : List Bool} {k : Nat} (h : k < l.length) (hf : l.getD k false = false) : l.all id = false := by
 refine List.all_eq_false.2 ⟨l[k], List.getElem_mem h, ?_⟩
 rw [List.getD_eq_getElem?_getD, List.getElem?_eq_getElem h] at hf
 simpa using hf
theorem sound_f (v : Value) (I : List Nat) (w : World) (hW : WL I) (hv : KL .u64 w v I) (hs : sOk I = false) :
 Calls Tryz.prog 13 #[v] w fun e w' => e = .returned (.int .i64 7) ∧ Below w.heap.size w w' := by
 have hR := read_f v I w hW hv hs
 obtain ⟨A, c, hve, -⟩ := hv.form rfl
 generalize I.length = N at hve
 subst hve
 clear hs hW hv
 go_enter Tryz.func13, Tryz.ntmps13
 go_wp2_with fail
 refine hR.mono ?_
 rintro e w1 ⟨rfl, hb1⟩
 have e2 := bZ w1 (.cells #[.slice A N c, .int .i64 0, .int .i64 0] 73)
 have gP := HB.new w1 #[.slice A N c, .int .i64 0, .int .i64 0] 73
 obtain ⟨w2, hw2⟩ : ∃ x, w1.alloc (.cells #[.slice A N c, .int .i64 0, .int .i64 0] 73) = x := ⟨_, rfl⟩
 rw [hw2] at e2 gP
 have hs2 : w2.heap.size = w1.heap.size + 1 := by rw [← hw2]; simp
 have e3 := bZ w2 (.cells #[.func (.func 32) #[] #[], .func (.func 33) #[] #[], .func (.func 34) #[] #[], .func (.func 35) #[] #[], .func (.func 36) #[] #[], .func (.func 37) #[] #[], .func (.func 38) #[] #[]] 77)
 have gR := HB.new w2 #[.func (.func 32) #[] #[], .func (.func 33) #[] #[], .func (.func 34) #[] #[], .func (.func 35) #[] #[], .func (.func 36) #[] #[], .func (.func 37) #[] #[], .func (.func 38) #[] #[]] 77
 obtain ⟨w3, hw3⟩ : ∃ x, w2.alloc (.cells #[.func (.func 32) #[] #[], .func (.func 33) #[] #[], .func (.func 34) #[] #[], .func (.func 35) #[] #[], .func (.func 36) #[] #[], .func (.func 37) #[] #[], .func (.func 38) #[] #[]] 77) = x := ⟨_, rfl⟩
 rw [hw3] at e3 gR
 rw [hs2] at gR
 obtain ⟨K, hK⟩ : ∃ K, w1.heap.size = K := ⟨_, rfl⟩
 rw [hK] at gP gR hs2
 have hB3 := (hb1.trans (e2.mono hb1.size)).trans (e3.mono (hb1.trans (e2.mono hb1.size)).size)
 have gP3 := gP.keep e3
 clear gP e2 e3 hR
 subst hw3 hw2
 go_wp2_with fail
 have hH0 := lh (fun w1 (hb : Below w.heap.size w w1) => hasHead_f (.slice A N c) w1 rfl)
 go_loopw [19] (fun i wr => i = .int .i64 0 ∧ HB wr K #[.slice A N c, .int .i64 0, .int .i64 0] 73 ∧ HB wr (K + 1) #[.func (.func 32) #[] #[], .func (.func 33) #[] #[], .func (.func 34) #[] #[], .func (.func 35) #[] #[], .func (.func 36) #[] #[], .func (.func 37) #[] #[], .func (.func 38) #[] #[]] 77 ∧ Below w.heap.size w wr) (fun _ _ => 0)
 case atStart => exact ⟨rfl, gP3, gR, hB3⟩
 case round =>
  clear gP3 gR hB3
  obtain ⟨rfl, gP, gR, hBr⟩ := hrel
  have r0 := (row_cell gR 0).1
  have e4 := bZ wr (.cells #[.func (.func 32) #[] #[]] 77)
  have gT := HB.new wr #[.func (.func 32) #[] #[]] 77
  have gP4 := gP.keep e4
  have gR4 := gR.keep e4
  have hB4 := hBr.trans (e4.mono hBr.size)
  obtain ⟨w4, hw4⟩ : ∃ x, wr.alloc (.cells #[.func (.func 32) #[] #[]] 77) = x := ⟨_, rfl⟩
  rw [hw4] at gT gP4 gR4 hB4
  obtain ⟨K4, hK4⟩ : ∃ K, wr.heap.size = K := ⟨_, rfl⟩
  rw [hK4] at gT
  have q0 := (row_cell gT 0).1
  have p0 := (row_cell gP4 0).1
  have p1 := (row_cell gP4 1).1
  have p2 := (row_cell gP4 2).1
  have hH1 := hH0.out w4 hB4
  clear gP gR hBr e4 gT
  go_wp2_with (go_at_call 32; (with_reducible refine hH1.mono ?_); rintro e w5 ⟨rfl, hb5⟩)
  have hB5 := hB4.trans (hb5.mono hB4.size)
  have gP5 := gP4.keep hb5
  have gR5 := gR4.keep hb5
  go_ret
  exact ⟨rfl, hB5⟩
theorem sound_t (v : Value) (I : List Nat) (w : World) (hw : Lw w) (hW : WL I) (hv : KL .u64 w v I) (hN8 : I.length ≤ 800) (hs : sOk I = true) :
 Calls Tryz.prog 13 #[v] w fun e w' => e = .returned (.int .i64 (if (rulesB I).all id = true then 0 else 7)) ∧ Below w.heap.size w w' := by
 have hR := read_t v I w hW hv hs
 obtain ⟨g, off, cap, rfl, hp⟩ := pool_of hw hW hv hN8 hs
 obtain ⟨N, hN⟩ : ∃ N, I.length = N := ⟨_, rfl⟩
 obtain ⟨L, hL⟩ : ∃ L, I.getD 3 0 = L := ⟨_, rfl⟩
 rw [hN, hL] at hR hp
 rw [hN]
 have hru : rulesB I = [true, restN I L, rightT (tabW I L) && calmT (tabW I L), allO I L (blI I L), distR (serO (objsP I L)) (objsP I L).length, epoB I (objsP I L), rootB I (objsP I L)] := by unfold rulesB; rw [hL]
 have hH0 := lh (fun w1 (hb : Below w.heap.size w w1) => show Calls Tryz.prog 32 #[.agg #[.slice (some ⟨g, off, none⟩) N cap, .int .i64 (N : Nat), .int .i64 (L : Nat)]] w1 (fun e w' => e = .returned (.bool ((rulesB I).getD 0 false)) ∧ Below w1.heap.size w1 w') from by rw [hru]; exact hasHead_t _ N L w1 rfl hp.hs)
 have hH1 := lh (fun w1 (hb : Below w.heap.size w w1) => show Calls Tryz.prog 33 #[.agg #[.slice (some ⟨g, off, none⟩) N cap, .int .i64 (N : Nat), .int .i64 (L : Nat)]] w1 (fun e w' => e = .returned (.bool ((rulesB I).getD 1 false)) ∧ Below w1.heap.size w1 w') from by rw [hru]; exact rests_any (hp.keep hb))
 have hH2 := lh (fun w1 (hb : Below w.heap.size w w1) => show Calls Tryz.prog 34 #[.agg #[.slice (some ⟨g, off, none⟩) N cap, .int .i64 (N : Nat), .int .i64 (L : Nat)]] w1 (fun e w' => e = .returned (.bool ((rulesB I).getD 2 false)) ∧ Below w1.heap.size w1 w') from by rw [hru]; exact isTiled_any (hp.keep hb))
 have hH3 := lh (fun w1 (hb : Below w.heap.size w w1) => show Calls Tryz.prog 35 #[.agg #[.slice (some ⟨g, off, none⟩) N cap, .int .i64 (N : Nat), .int .i64 (L : Nat)]] w1 (fun e w' => e = .returned (.bool ((rulesB I).getD 3 false)) ∧ Below w1.heap.size w1 w') from by rw [hru]; exact hasObjects_any (hp.keep hb))
 have hH4 := lh (fun w1 (hb : Below w.heap.size w w1) => show Calls Tryz.prog 36 #[.agg #[.slice (some ⟨g, off, none⟩) N cap, .int .i64 (N : Nat), .int .i64 (L : Nat)]] w1 (fun e w' => e = .returned (.bool ((rulesB I).getD 4 false)) ∧ Below w1.heap.size w1 w') from by rw [hru]; exact serials_any (hp.keep hb))
 have hH5 := lh (fun w1 (hb : Below w.heap.size w w1) => show Calls Tryz.prog 37 #[.agg #[.slice (some ⟨g, off, none⟩) N cap, .int .i64 (N : Nat), .int .i64 (L : Nat)]] w1 (fun e w' => e = .returned (.bool ((rulesB I).getD 5 false)) ∧ Below w1.heap.size w1 w') from by rw [hru]; exact epochHolds_any (hp.keep hb))
 have hH6 := lh (fun w1 (hb : Below w.heap.size w w1) => show Calls Tryz.prog 38 #[.agg #[.slice (some ⟨g, off, none⟩) N cap, .int .i64 (N : Nat), .int .i64 (L : Nat)]] w1 (fun e w' => e = .returned (.bool ((rulesB I).getD 6 false)) ∧ Below w1.heap.size w1 w') from by rw [hru]; exact rootHolds_any (hp.keep hb))
 obtain ⟨er, her⟩ : ∃ r : Int, (if (rulesB I).all id = true then 0 else 7) = r := ⟨_, rfl⟩
 rw [her]
 replace her := lh her
 clear hru hp hs hv hW hN8
 replace hN := lh hN
 replace hL := lh hL
 go_enter Tryz.func13, Tryz.ntmps13
 go_wp2_with fail
 refine hR.mono ?_
 rintro e w1 ⟨rfl, hb1⟩
 have e2 := bZ w1 (.cells #[.slice (some ⟨g, off, none⟩) N cap, .int .i64 (N : Nat), .int .i64 (L : Nat)] 73)
 have gP := HB.new w1 #[.slice (some ⟨g, off, none⟩) N cap, .int .i64 (N : Nat), .int .i64 (L : Nat)] 73
 obtain ⟨w2, hw2⟩ : ∃ x, w1.alloc (.cells #[.slice (some ⟨g, off, none⟩) N cap, .int .i64 (N : Nat), .int .i64 (L : Nat)] 73) = x := ⟨_, rfl⟩
 rw [hw2] at e2 gP
 have hs2 : w2.heap.size = w1.heap.size + 1 := by rw [← hw2]; simp
 have e3 := bZ w2 (.cells #[.func (.func 32) #[] #[], .func (.func 33) #[] #[], .func (.func 34) #[] #[], .func (.func 35) #[] #[], .func (.func 36) #[] #[], .func (.func 37) #[] #[], .func (.func 38) #[] #[]] 77)
 have gR := HB.new w2 #[.func (.func 32) #[] #[], .func (.func 33) #[] #[], .func (.func 34) #[] #[], .func (.func 35) #[] #[], .func (.func 36) #[] #[], .func (.func 37) #[] #[], .func (.func 38) #[] #[]] 77
 obtain ⟨w3, hw3⟩ : ∃ x, w2.alloc (.cells #[.func (.func 32) #[] #[], .func (.func 33) #[] #[], .func (.func 34) #[] #[], .func (.func 35) #[] #[], .func (.func 36) #[] #[], .func (.func 37) #[] #[], .func (.func 38) #[] #[]] 77) = x := ⟨_, rfl⟩
 rw [hw3] at e3 gR
 rw [hs2] at gR
 obtain ⟨K, hK⟩ : ∃ K, w1.heap.size = K := ⟨_, rfl⟩
 rw [hK] at gP gR hs2
 have hB3 := (hb1.trans (e2.mono hb1.size)).trans (e3.mono (hb1.trans (e2.mono hb1.size)).size)
 have gP3 := gP.keep e3
 clear gP e2 e3 hR
 subst hw3 hw2
 go_wp2_with fail
 go_loopw [19] (fun i wr => ∃ (j : Nat), j ≤ 7 ∧ i = .int .i64 (j : Nat) ∧ Hid (((rulesB I).take j).all id = true) ∧ HB wr K #[.slice (some ⟨g, off, none⟩) N cap, .int .i64 (N : Nat), .int .i64 (L : Nat)] 73 ∧ HB wr (K + 1) #[.func (.func 32) #[] #[], .func (.func 33) #[] #[], .func (.func 34) #[] #[], .func (.func 35) #[] #[], .func (.func 36) #[] #[], .func (.func 37) #[] #[], .func (.func 38) #[] #[]] 77 ∧ Below w.heap.size w wr) (fun i _ => 8 - (intOf i).toNat)
 case atStart => exact ⟨0, by omega, rfl, lh rfl, gP3, gR, hB3⟩
 case round =>
  clear gP3 gR hB3
  obtain ⟨j, hj, rfl, hst, gP, gR, hBr⟩ := hrel
  have hj8 : j = 0 ∨ j = 1 ∨ j = 2 ∨ j = 3 ∨ j = 4 ∨ j = 5 ∨ j = 6 ∨ j = 7 := by omega
  rcases hj8 with rfl | rfl | rfl | rfl | rfl | rfl | rfl | rfl
  ·have r0 := (row_cell gR 0).1
   have e4 := bZ wr (.cells #[.func (.func 32) #[] #[]] 77)
   have gT := HB.new wr #[.func (.func 32) #[] #[]] 77
   have gP4 := gP.keep e4
   have gR4 := gR.keep e4
   have hB4 := hBr.trans (e4.mono hBr.size)
   obtain ⟨w4, hw4⟩ : ∃ x, wr.alloc (.cells #[.func (.func 32) #[] #[]] 77) = x := ⟨_, rfl⟩
   rw [hw4] at gT gP4 gR4 hB4
   obtain ⟨K4, hK4⟩ : ∃ K, wr.heap.size = K := ⟨_, rfl⟩
   rw [hK4] at gT
   have q0 := (row_cell gT 0).1
   have p0 := (row_cell gP4 0).1
   have p1 := (row_cell gP4 1).1
   have p2 := (row_cell gP4 2).1
   have hH1 := hH0.out w4 hB4
   clear gP gR hBr e4 gT
   cases hr : (rulesB I).getD 0 false with
   | true =>
     have hs2 := lh (show ((rulesB I).take 1).all id = true from by rw [rules_take (by show 0 < 7; decide), hst.out, hr]; rfl)
     change (rulesB I).getD 0 false = true at hr
     rw [hr] at hH1
     clear hst hr
     go_wp2_with (go_at_call 32; (with_reducible refine hH1.mono ?_); rintro e w5 ⟨rfl, hb5⟩)
     have hB5 := hB4.trans (hb5.mono hB4.size)
     have gP5 := gP4.keep hb5
     have gR5 := gR4.keep hb5
     go_roundw
     case rel => exact ⟨1, by omega, by go_num, hs2, gP5, gR5, hB5⟩
     case measure => first | (simp [intOf]; done) | (simp [intOf]; omega) | decide
   | false =>
     have hno := lh (show (rulesB I).all id = false from rules_no (k := 0) (by show 0 < 7; decide) hr)
     rw [hr] at hH1
     clear hst hr
     go_wp2_with (go_at_call 32; (with_reducible refine hH1.mono ?_); rintro e w5 ⟨rfl, hb5⟩)
     have hB5 := hB4.trans (hb5.mono hB4.size)
     have gP5 := gP4.keep hb5
     have gR5 := gR4.keep hb5
     go_ret
     exact ⟨by rw [← her.out, hno.out]; rfl, hB5⟩
  ·have r0 := (row_cell gR 1).1
   have e4 := bZ wr (.cells #[.func (.func 33) #[] #[]] 77)
   have gT := HB.new wr #[.func (.func 33) #[] #[]] 77
   have gP4 := gP.keep e4
   have gR4 := gR.keep e4
   have hB4 := hBr.trans (e4.mono hBr.size)
   obtain ⟨w4, hw4⟩ : ∃ x, wr.alloc (.cells #[.func (.func 33) #[] #[]] 77) = x := ⟨_, rfl⟩
   rw [hw4] at gT gP4 gR4 hB4
   obtain ⟨K4, hK4⟩ : ∃ K, wr.heap.size = K := ⟨_, rfl⟩
   rw [hK4] at gT
   have q0 := (row_cell gT 0).1
   have p0 := (row_cell gP4 0).1
   have p1 := (row_cell gP4 1).1
   have p2 := (row_cell gP4 2).1
   have hH1 := hH1.out w4 hB4
   clear gP gR hBr e4 gT
   cases hr : (rulesB I).getD 1 false with
   | true =>
     have hs2 := lh (show ((rulesB I).take 2).all id = true from by rw [rules_take (by show 1 < 7; decide), hst.out, hr]; rfl)
     change (rulesB I).getD 1 false = true at hr
     rw [hr] at hH1
     clear hst hr
     go_wp2_with (go_at_call 33; (with_reducible refine hH1.mono ?_); rintro e w5 ⟨rfl, hb5⟩)
     have hB5 := hB4.trans (hb5.mono hB4.size)
     have gP5 := gP4.keep hb5
     have gR5 := gR4.keep hb5
     go_roundw
     case rel => exact ⟨2, by omega, by go_num, hs2, gP5, gR5, hB5⟩
     case measure => first | (simp [intOf]; done) | (simp [intOf]; omega) | decide
   | false =>
     have hno := lh (show (rulesB I).all id = false from rules_no (k := 1) (by show 1 < 7; decide) hr)
     rw [hr] at hH1
     clear hst hr
     go_wp2_with (go_at_call 33; (with_reducible refine hH1.mono ?_); rintro e w5 ⟨rfl, hb5⟩)
     have hB5 := hB4.trans (hb5.mono hB4.size)
     have gP5 := gP4.keep hb5
     have gR5 := gR4.keep hb5
     go_ret
     exact ⟨by rw [← her.out, hno.out]; rfl, hB5⟩
  ·have r0 := (row_cell gR 2).1
   have e4 := bZ wr (.cells #[.func (.func 34) #[] #[]] 77)
   have gT := HB.new wr #[.func (.func 34) #[] #[]] 77
   have gP4 := gP.keep e4
   have gR4 := gR.keep e4
   have hB4 := hBr.trans (e4.mono hBr.size)
   obtain ⟨w4, hw4⟩ : ∃ x, wr.alloc (.cells #[.func (.func 34) #[] #[]] 77) = x := ⟨_, rfl⟩
   rw [hw4] at gT gP4 gR4 hB4
   obtain ⟨K4, hK4⟩ : ∃ K, wr.heap.size = K := ⟨_, rfl⟩
   rw [hK4] at gT
   have q0 := (row_cell gT 0).1
   have p0 := (row_cell gP4 0).1
   have p1 := (row_cell gP4 1).1
   have p2 := (row_cell gP4 2).1
   have hH1 := hH2.out w4 hB4
   clear gP gR hBr e4 gT
   cases hr : (rulesB I).getD 2 false with
   | true =>
     have hs2 := lh (show ((rulesB I).take 3).all id = true from by rw [rules_take (by show 2 < 7; decide), hst.out, hr]; rfl)
     change (rulesB I).getD 2 false = true at hr
     rw [hr] at hH1
     clear hst hr
     go_wp2_with (go_at_call 34; (with_reducible refine hH1.mono ?_); rintro e w5 ⟨rfl, hb5⟩)
     have hB5 := hB4.trans (hb5.mono hB4.size)
     have gP5 := gP4.keep hb5
     have gR5 := gR4.keep hb5
     go_roundw
     case rel => exact ⟨3, by omega, by go_num, hs2, gP5, gR5, hB5⟩
     case measure => first | (simp [intOf]; done) | (simp [intOf]; omega) | decide
   | false =>
     have hno := lh (show (rulesB I).all id = false from rules_no (k := 2) (by show 2 < 7; decide) hr)
     rw [hr] at hH1
     clear hst hr
     go_wp2_with (go_at_call 34; (with_reducible refine hH1.mono ?_); rintro e w5 ⟨rfl, hb5⟩)
     have hB5 := hB4.trans (hb5.mono hB4.size)
     have gP5 := gP4.keep hb5
     have gR5 := gR4.keep hb5
     go_ret
     exact ⟨by rw [← her.out, hno.out]; rfl, hB5⟩
  ·have r0 := (row_cell gR 3).1
   have e4 := bZ wr (.cells #[.func (.func 35) #[] #[]] 77)
   have gT := HB.new wr #[.func (.func 35) #[] #[]] 77
   have gP4 := gP.keep e4
   have gR4 := gR.keep e4
   have hB4 := hBr.trans (e4.mono hBr.size)
   obtain ⟨w4, hw4⟩ : ∃ x, wr.alloc (.cells #[.func (.func 35) #[] #[]] 77) = x := ⟨_, rfl⟩
   rw [hw4] at gT gP4 gR4 hB4
   obtain ⟨K4, hK4⟩ : ∃ K, wr.heap.size = K := ⟨_, rfl⟩
   rw [hK4] at gT
   have q0 := (row_cell gT 0).1
   have p0 := (row_cell gP4 0).1
   have p1 := (row_cell gP4 1).1
   have p2 := (row_cell gP4 2).1
   have hH1 := hH3.out w4 hB4
   clear gP gR hBr e4 gT
   cases hr : (rulesB I).getD 3 false with
   | true =>
     have hs2 := lh (show ((rulesB I).take 4).all id = true from by rw [rules_take (by show 3 < 7; decide), hst.out, hr]; rfl)
     change (rulesB I).getD 3 false = true at hr
     rw [hr] at hH1
     clear hst hr
     go_wp2_with (go_at_call 35; (with_reducible refine hH1.mono ?_); rintro e w5 ⟨rfl, hb5⟩)
     have hB5 := hB4.trans (hb5.mono hB4.size)
     have gP5 := gP4.keep hb5
     have gR5 := gR4.keep hb5
     go_roundw
     case rel => exact ⟨4, by omega, by go_num, hs2, gP5, gR5, hB5⟩
     case measure => first | (simp [intOf]; done) | (simp [intOf]; omega) | decide
   | false =>
     have hno := lh (show (rulesB I).all id = false from rules_no (k := 3) (by show 3 < 7; decide) hr)
     rw [hr] at hH1
     clear hst hr
     go_wp2_with (go_at_call 35; (with_reducible refine hH1.mono ?_); rintro e w5 ⟨rfl, hb5⟩)
     have hB5 := hB4.trans (hb5.mono hB4.size)
     have gP5 := gP4.keep hb5
     have gR5 := gR4.keep hb5
     go_ret
     exact ⟨by rw [← her.out, hno.out]; rfl, hB5⟩
  ·have r0 := (row_cell gR 4).1
   have e4 := bZ wr (.cells #[.func (.func 36) #[] #[]] 77)
   have gT := HB.new wr #[.func (.func 36) #[] #[]] 77
   have gP4 := gP.keep e4
   have gR4 := gR.keep e4
   have hB4 := hBr.trans (e4.mono hBr.size)
   obtain ⟨w4, hw4⟩ : ∃ x, wr.alloc (.cells #[.func (.func 36) #[] #[]] 77) = x := ⟨_, rfl⟩
   rw [hw4] at gT gP4 gR4 hB4
   obtain ⟨K4, hK4⟩ : ∃ K, wr.heap.size = K := ⟨_, rfl⟩
   rw [hK4] at gT
   have q0 := (row_cell gT 0).1
   have p0 := (row_cell gP4 0).1
   have p1 := (row_cell gP4 1).1
   have p2 := (row_cell gP4 2).1
   have hH1 := hH4.out w4 hB4
   clear gP gR hBr e4 gT
   cases hr : (rulesB I).getD 4 false with
   | true =>
     have hs2 := lh (show ((rulesB I).take 5).all id = true from by rw [rules_take (by show 4 < 7; decide), hst.out, hr]; rfl)
     change (rulesB I).getD 4 false = true at hr
     rw [hr] at hH1
     clear hst hr
     go_wp2_with (go_at_call 36; (with_reducible refine hH1.mono ?_); rintro e w5 ⟨rfl, hb5⟩)
     have hB5 := hB4.trans (hb5.mono hB4.size)
     have gP5 := gP4.keep hb5
     have gR5 := gR4.keep hb5
     go_roundw
     case rel => exact ⟨5, by omega, by go_num, hs2, gP5, gR5, hB5⟩
     case measure => first | (simp [intOf]; done) | (simp [intOf]; omega) | decide
   | false =>
     have hno := lh (show (rulesB I).all id = false from rules_no (k := 4) (by show 4 < 7; decide) hr)
     rw [hr] at hH1
     clear hst hr
     go_wp2_with (go_at_call 36; (with_reducible refine hH1.mono ?_); rintro e w5 ⟨rfl, hb5⟩)
     have hB5 := hB4.trans (hb5.mono hB4.size)
     have gP5 := gP4.keep hb5
     have gR5 := gR4.keep hb5
     go_ret
     exact ⟨by rw [← her.out, hno.out]; rfl, hB5⟩
  ·have r0 := (row_cell gR 5).1
   have e4 := bZ wr (.cells #[.func (.func 37) #[] #[]] 77)
   have gT := HB.new wr #[.func (.func 37) #[] #[]] 77
   have gP4 := gP.keep e4
   have gR4 := gR.keep e4
   have hB4 := hBr.trans (e4.mono hBr.size)
   obtain ⟨w4, hw4⟩ : ∃ x, wr.alloc (.cells #[.func (.func 37) #[] #[]] 77) = x := ⟨_, rfl⟩
   rw [hw4] at gT gP4 gR4 hB4
   obtain ⟨K4, hK4⟩ : ∃ K, wr.heap.size = K := ⟨_, rfl⟩
   rw [hK4] at gT
   have q0 := (row_cell gT 0).1
   have p0 := (row_cell gP4 0).1
   have p1 := (row_cell gP4 1).1
   have p2 := (row_cell gP4 2).1
   have hH1 := hH5.out w4 hB4
   clear gP gR hBr e4 gT
   cases hr : (rulesB I).getD 5 false with
   | true =>
     have hs2 := lh (show ((rulesB I).take 6).all id = true from by rw [rules_take (by show 5 < 7; decide), hst.out, hr]; rfl)
     change (rulesB I).getD 5 false = true at hr
     rw [hr] at hH1
     clear hst hr
     go_wp2_with (go_at_call 37; (with_reducible refine hH1.mono ?_); rintro e w5 ⟨rfl, hb5⟩)
     have hB5 := hB4.trans (hb5.mono hB4.size)
     have gP5 := gP4.keep hb5
     have gR5 := gR4.keep hb5
     go_roundw
     case rel => exact ⟨6, by omega, by go_num, hs2, gP5, gR5, hB5⟩
     case measure => first | (simp [intOf]; done) | (simp [intOf]; omega) | decide
   | false =>
     have hno := lh (show (rulesB I).all id = false from rules_no (k := 5) (by show 5 < 7; decide) hr)
     rw [hr] at hH1
     clear hst hr
     go_wp2_with (go_at_call 37; (with_reducible refine hH1.mono ?_); rintro e w5 ⟨rfl, hb5⟩)
     have hB5 := hB4.trans (hb5.mono hB4.size)
     have gP5 := gP4.keep hb5
     have gR5 := gR4.keep hb5
     go_ret
     exact ⟨by rw [← her.out, hno.out]; rfl, hB5⟩
  ·have r0 := (row_cell gR 6).1
   have e4 := bZ wr (.cells #[.func (.func 38) #[] #[]] 77)
   have gT := HB.new wr #[.func (.func 38) #[] #[]] 77
   have gP4 := gP.keep e4
   have gR4 := gR.keep e4
   have hB4 := hBr.trans (e4.mono hBr.size)
   obtain ⟨w4, hw4⟩ : ∃ x, wr.alloc (.cells #[.func (.func 38) #[] #[]] 77) = x := ⟨_, rfl⟩
   rw [hw4] at gT gP4 gR4 hB4
   obtain ⟨K4, hK4⟩ : ∃ K, wr.heap.size = K := ⟨_, rfl⟩
   rw [hK4] at gT
   have q0 := (row_cell gT 0).1
   have p0 := (row_cell gP4 0).1
   have p1 := (row_cell gP4 1).1
   have p2 := (row_cell gP4 2).1
   have hH1 := hH6.out w4 hB4
   clear gP gR hBr e4 gT
   cases hr : (rulesB I).getD 6 false with
   | true =>
     have hs2 := lh (show ((rulesB I).take 7).all id = true from by rw [rules_take (by show 6 < 7; decide), hst.out, hr]; rfl)
     change (rulesB I).getD 6 false = true at hr
     rw [hr] at hH1
     clear hst hr
     go_wp2_with (go_at_call 38; (with_reducible refine hH1.mono ?_); rintro e w5 ⟨rfl, hb5⟩)
     have hB5 := hB4.trans (hb5.mono hB4.size)
     have gP5 := gP4.keep hb5
     have gR5 := gR4.keep hb5
     go_roundw
     case rel => exact ⟨7, by omega, by go_num, hs2, gP5, gR5, hB5⟩
     case measure => first | (simp [intOf]; done) | (simp [intOf]; omega) | decide
   | false =>
     have hno := lh (show (rulesB I).all id = false from rules_no (k := 6) (by show 6 < 7; decide) hr)
     rw [hr] at hH1
     clear hst hr
     go_wp2_with (go_at_call 38; (with_reducible refine hH1.mono ?_); rintro e w5 ⟨rfl, hb5⟩)
     have hB5 := hB4.trans (hb5.mono hB4.size)
     have gP5 := gP4.keep hb5
     have gR5 := gR4.keep hb5
     go_ret
     exact ⟨by rw [← her.out, hno.out]; rfl, hB5⟩
  ·have hyes := lh (show (rulesB I).all id = true from hst.out)
   go_wp2_with fail
   go_ret
   exact ⟨by rw [← her.out, hyes.out]; rfl, hBr⟩
theorem sound_any (v : Value) (I : List Nat) (w : World) (hw : Lw w) (hW : WL I) (hv : KL .u64 w v I) (hN8 : I.length ≤ 800) :
 Calls Tryz.prog 13 #[v] w fun e w' => e = .returned (.int .i64 (if soundB I = true then 0 else 7)) ∧ Below w.heap.size w w' := by
 cases hs : sOk I with
 | true => rw [soundB_rules hs]; exact sound_t v I w hw hW hv hN8 hs
 | false => rw [soundB_no hs]; exact sound_f v I w hW hv hs
end Go.Proofs.YtdmmbnnejbmdpaaGreatDoor
