/-
  Part of the proof of MendWhole.
-/
import Derived.Test.YtkdhdibjbabgfaaGreatDoorVw15
import Derived.Test.YtkdhdibjbabgfaaGreatDoorVw25
import Derived.Test.YtkdhdibjbabgfaaGreatDoorVw31
import Derived.Test.YtkdhdibjbabgfaaGreatDoorVw33
import Derived.Test.YtkdhdibjbabgfaaGreatDoorVw35
import Derived.Test.YtkdhdibjbabgfaaGreatDoorVw38
import Derived.Test.YtkdhdibjbabgfaaGreatDoorVw9
import Derived.Test.YtkdhdibjbabgfaaGreatDoorVw0
set_option maxRecDepth 10000
set_option maxHeartbeats 1000000
set_option linter.unusedVariables false
set_option linter.unusedSimpArgs false
section
namespace Go.Proofs.YtkdhdibjbabgfaaGreatDoor
open Go.Lib Go.RowKit Go.ChangeShapes Go.WideShapes Go.Deep
theorem run_slice2 {P : Program} {ty el : TypeId} {i0 : TypeInfo} (hu : P.underlying ty = some (.slice el)) (hi : P.info? el = some i0) (h1 : i0.size = 1) (g off n cap f e m : Nat) (h : f ≤ e) (h2 : e ≤ cap) (hm : m = e - f) (hm0 : 0 < m) (w : World) :
 (Instr.slice ty (.slice (some ⟨g, off, none⟩) n cap) (some (.int .i64 (f : Int))) (some (.int .i64 (e : Int))) none).run P w = .ok (.slice (some ⟨g, off + f, none⟩) m (cap - f)) w := by
 have h3 : (e : Int) ≤ (cap : Int) := by omega
 have h4 : (0 : Int) ≤ (e : Int) := by omega
 have h5 : (f : Int) ≤ (e : Int) := by omega
 have h6 : (0 : Int) ≤ (f : Int) := by omega
 subst hm
 simp [Instr.slice, run_underlying hu, Instr.sliceBounds, Instr.sliceBound, asIntOf, sizeOf, typeInfo, hi, h1, h3, h4, h5, h6, go_sem]
 rw [if_pos h2, if_pos h, if_neg (by omega)]
theorem KL.partC {K : IntKind} {w : World} {g off n cap : Nat} {l : List Nat} (h : KL K w (.slice (some ⟨g, off, none⟩) n cap) l) (hn : l.length = n) (f m c : Nat) (hf : f + m ≤ n) (hc : m ≤ c) : KL K w (.slice (some ⟨g, off + f, none⟩) m c) ((l.drop f).take m) := by
 have h1 := h.part hn f m hf
 have hlen : ((l.drop f).take m).length = m := by rw [List.length_take, List.length_drop]; omega
 obtain ⟨A, c2, hv, h2⟩ := h1
 simp only [Value.slice.injEq] at hv
 obtain ⟨rfl, -, rfl⟩ := hv
 refine ⟨_, c, by rw [hlen], fun hp => ?_⟩
 obtain ⟨g2, o2, hA, hg, _, hi⟩ := h2 hp
 exact ⟨g2, o2, hA, hg, by rw [hlen]; exact hc, hi⟩
theorem part15_any (g off n cap f m : Nat) (w : World) (h1 : f + m ≤ n) (h2 : n ≤ cap) (h3 : 1 ≤ m) (hn : n ≤ 100000) :
 Calls Tryz.prog 47 #[.slice (some ⟨g, off, none⟩) n cap, .agg #[.int .i64 (f : Nat), .int .i64 (m : Nat)]] w fun e w' => e = .returned (.slice (some ⟨g, off + f, none⟩) m (cap - f)) ∧ Below w.heap.size w w' := by
 have hA := bZ w (.cells #[.int .i64 (f : Nat), .int .i64 (m : Nat)] 51)
 obtain ⟨e, he⟩ : ∃ e, f + m = e := ⟨_, rfl⟩
 have w1 : IntKind.i64.wrap ((f : Int) + (m : Int)) = (e : Int) := by rw [IntKind.wrap_i64]; omega
 have w2 : (f : Int) + (m : Int) = (e : Int) := by omega
 obtain ⟨i0, hi, hz0, hz1, hz2⟩ := info_parts infoU64
 have hS := fun w => run_slice2 (P := Tryz.prog) Tryz.underlying23 hi hz1 g off n cap f e m (by omega) (by omega) (by omega) (by omega) w
 replace he := lh he
 go_enter Tryz.func47, Tryz.ntmps47
 go_wp2_with fail
 go_ret
 exact ⟨rfl, hA⟩
end Go.Proofs.YtkdhdibjbabgfaaGreatDoor
end
section
namespace Go.Proofs.YtkdhdibjbabgfaaGreatDoor
open Go.Lib Go.RowKit Go.ChangeShapes Go.WideShapes Go.Deep
theorem pool_any (v : Value) (I : List Nat) (W L ln : Int) (w : World) (hw : Lw w) (hW : WL I) (hv : KL .u64 w v I) (hlen : I.length ≤ 100000) :
 Calls Tryz.prog 40 #[v, .agg #[.int .i64 W, .int .i64 L], .int .i64 ln] w fun e w' => e = .returned (.bool (laneB I W L ln)) ∧ Below w.heap.size w w' := by
 have hA := bZ w (.cells #[.int .i64 W, .int .i64 L] 33)
 obtain ⟨nn, hnn⟩ : ∃ n, I.length = n := ⟨_, rfl⟩
 have hD := fun w1 (hb : Below w.heap.size w w1) => rdec_any v I nn w1 hnn (by omega) (KL.sl (hv.keep hb))
 have gB := C2.new w (.int .i64 W) (.int .i64 L) 33
 obtain ⟨C, hC⟩ : ∃ C, w.heap.size = C := ⟨_, rfl⟩
 cases hs : sOk I with
 | false =>
   have hno := lh (show laneB I W L ln = false from by unfold laneB readB poolB; rw [hs]; rfl)
   obtain ⟨A, cap, rfl, _⟩ := hv.form hnn
   rw [hs] at hD
   replace hD := lh (fun w1 hb => show Calls Tryz.prog 24 #[.slice A nn cap] w1 (fun e w' => e = .returned (.tuple #[.agg #[.int .i64 0, .int .i64 0], .int .i64 7]) ∧ Below w1.heap.size w1 w') from hD w1 hb)
   rw [hC] at gB
   clear hs hv hW hw
   replace hnn := lh hnn
   go_enter Tryz.func40, Tryz.ntmps40
   go_wp2_with fail
   refine (hD.out _ hA).mono ?_
   rintro e w1 ⟨rfl, hb⟩
   have gB1 := (gB.keep hb).alloc (.cells #[.int .i64 0, .int .i64 0] 33)
   obtain ⟨q0, q1⟩ := gB.keep hb
   have hcl := (gB.keep hb).lt
   have hne : ¬ C = w1.heap.size := Nat.ne_of_lt hcl
   have hB1 := (hA.trans (hb.mono hA.size)).alloc (hA.trans (hb.mono hA.size)).size (.cells #[.int .i64 0, .int .i64 0] 33)
   clear hD
   go_wp2_with fail
   go_ret
   exact ⟨by rw [hno.out]; rfl, hB1⟩
 | true =>
   obtain ⟨g8, hgk⟩ := gOk_pool hs
   obtain ⟨s1, s2, s3, s4, s5, s6, s7, s8⟩ := pool_size hgk
   obtain ⟨G, hG⟩ : ∃ G, gNat I.length (I.getD 3 0) = G := ⟨_, rfl⟩
   obtain ⟨L3, hL3⟩ : ∃ L3, I.getD 3 0 = L3 := ⟨_, rfl⟩
   rw [hG] at s5 s6 s7 s8
   rw [hL3] at s1 s2 s4 s5 s8 hgk
   have hTl := tabW_len hgk
   have hTl2 : (tabW I L3).length = G := by rw [hTl, ← hL3]; exact hG
   have hTw := hW.part (10 + 73 * L3) G
   have hTk : tabW I L3 = (I.drop (10 + 73 * L3)).take G := by unfold tabW; rw [← hL3, hG]
   rw [← hTk] at hTw
   have hTb := refTable_t (I.length : Nat) (L3 : Nat)
   rw [hnn] at s3 s4 s5 s8 hgk hTb
   replace hTb := lh (fun w1 => hTb w1 hgk)
   rw [s5] at hTb
   obtain ⟨g, off, cap, rfl, hcap, hgs⟩ := hv.addr hnn (by omega)
   obtain ⟨F, hF⟩ : ∃ F, 10 + 73 * L3 = F := ⟨_, rfl⟩
   have hF' : (10 + 73 * (L3 : Int)) = (F : Int) := by omega
   rw [hF'] at hTb
   have hWd := lh (fun w1 => part15_any g off nn cap F G w1 (by omega) hcap (by omega) (by omega))
   have hCh := lh (fun w1 (hb : Below w.heap.size w w1) => refChunks_any (.slice (some ⟨g, off + F, none⟩) G (cap - F)) (tabW I L3) w1 (hw.keep hb) (by rw [hTk, hF]; exact (hv.keep hb).partC hnn F G _ (by omega) (by omega)) hTw (by rw [hTl2]; omega))
   rw [hs, hL3] at hD
   replace hD := lh (fun w1 hb => show Calls Tryz.prog 24 #[.slice (some ⟨g, off, none⟩) nn cap] w1 (fun e w' => e = .returned (.tuple #[.agg #[.int .i64 (nn : Nat), .int .i64 (L3 : Nat)], .int .i64 0]) ∧ Below w1.heap.size w1 w') from hD w1 hb)
   have hr : laneB I W L ln = ((tabW I L3).all okN && decide (W = (nn : Nat) ∧ L = (L3 : Nat)) && decide (0 ≤ ln ∧ ln < L)) := by unfold laneB readB poolB; rw [hs, hL3, hnn, Bool.true_and]
   replace hL3 := lh hL3
   replace hnn := lh hnn
   replace hG := lh hG
   replace hF := lh hF
   rw [hC] at gB
   clear hv hW hw hs hTl hTw hTk g8 hTl2
   by_cases hW2 : W = (nn : Nat)
   ·subst hW2
    by_cases hL2 : L = (L3 : Nat)
    ·subst hL2
     by_cases h0 : ln < 0
     ·have hno := lh (show laneB I (nn : Nat) (L3 : Nat) ln = false from by rw [hr, decide_eq_false (p := 0 ≤ ln ∧ ln < (L3 : Nat)) (by omega), Bool.and_false])
      clear hr
      go_enter Tryz.func40, Tryz.ntmps40
      go_wp2_with fail
      refine (hD.out _ hA).mono ?_
      rintro e w1 ⟨rfl, hb⟩
      have gB1 := (gB.keep hb).alloc (.cells #[.int .i64 (nn : Nat), .int .i64 (L3 : Nat)] 33)
      obtain ⟨q0, q1⟩ := gB.keep hb
      have hcl := (gB.keep hb).lt
      have hne : ¬ C = w1.heap.size := Nat.ne_of_lt hcl
      have hB1 := (hA.trans (hb.mono hA.size)).alloc (hA.trans (hb.mono hA.size)).size (.cells #[.int .i64 (nn : Nat), .int .i64 (L3 : Nat)] 33)
      clear hD
      go_wp2_with fail
      go_ret
      exact ⟨by rw [hno.out]; rfl, hB1⟩
     by_cases h1 : (L3 : Int) ≤ ln
     ·have hno := lh (show laneB I (nn : Nat) (L3 : Nat) ln = false from by rw [hr, decide_eq_false (p := 0 ≤ ln ∧ ln < (L3 : Nat)) (by omega), Bool.and_false])
      clear hr
      go_enter Tryz.func40, Tryz.ntmps40
      go_wp2_with fail
      refine (hD.out _ hA).mono ?_
      rintro e w1 ⟨rfl, hb⟩
      have gB1 := (gB.keep hb).alloc (.cells #[.int .i64 (nn : Nat), .int .i64 (L3 : Nat)] 33)
      obtain ⟨q0, q1⟩ := gB.keep hb
      have hcl := (gB.keep hb).lt
      have hne : ¬ C = w1.heap.size := Nat.ne_of_lt hcl
      have hB1 := (hA.trans (hb.mono hA.size)).alloc (hA.trans (hb.mono hA.size)).size (.cells #[.int .i64 (nn : Nat), .int .i64 (L3 : Nat)] 33)
      clear hD
      go_wp2_with fail
      go_ret
      exact ⟨by rw [hno.out]; rfl, hB1⟩
     ·have hyes := lh (show laneB I (nn : Nat) (L3 : Nat) ln = (tabW I L3).all okN from by rw [hr, decide_eq_true (p := 0 ≤ ln ∧ ln < (L3 : Nat)) (by omega), decide_eq_true (p := ((nn : Nat) : Int) = (nn : Nat) ∧ ((L3 : Nat) : Int) = (L3 : Nat)) ⟨rfl, rfl⟩, Bool.and_true, Bool.and_true])
      clear hr
      go_enter Tryz.func40, Tryz.ntmps40
      go_wp2_with fail
      refine (hD.out _ hA).mono ?_
      rintro e w1 ⟨rfl, hb⟩
      have gB1 := (gB.keep hb).alloc (.cells #[.int .i64 (nn : Nat), .int .i64 (L3 : Nat)] 33)
      obtain ⟨q0, q1⟩ := gB.keep hb
      have hcl := (gB.keep hb).lt
      have hne : ¬ C = w1.heap.size := Nat.ne_of_lt hcl
      have hB1 := (hA.trans (hb.mono hA.size)).alloc (hA.trans (hb.mono hA.size)).size (.cells #[.int .i64 (nn : Nat), .int .i64 (L3 : Nat)] 33)
      clear hD
      go_wp2_with fail
      refine (hTb.out _).mono ?_
      rintro e w2 ⟨rfl, hb2⟩
      have hB2 := hB1.trans (hb2.mono hB1.size)
      go_wp2_with fail
      refine (hWd.out _).mono ?_
      rintro e w3 ⟨rfl, hb3⟩
      have hB3 := hB2.trans (hb3.mono hB2.size)
      go_wp2_with fail
      refine (hCh.out _ hB3).mono ?_
      rintro e w4 ⟨hP, hb4⟩
      have hB4 := hB3.trans (hb4.mono hB3.size)
      rcases hP with ⟨hall, v', rfl, -⟩ | ⟨hall, rfl⟩
      ·go_wp2_with fail
       go_ret
       exact ⟨by rw [hyes.out, hall]; rfl, hB4⟩
      ·go_wp2_with fail
       go_ret
       exact ⟨by rw [hyes.out, hall]; rfl, hB4⟩
    ·have hL4 : ¬ (L3 : Int) = L := fun h => hL2 h.symm
     have hno := lh (show laneB I (nn : Nat) L ln = false from by rw [hr, decide_eq_false (p := ((nn : Nat) : Int) = (nn : Nat) ∧ L = (L3 : Nat)) (fun h => hL2 h.2), Bool.and_false, Bool.false_and])
     clear hr
     go_enter Tryz.func40, Tryz.ntmps40
     go_wp2_with fail
     refine (hD.out _ hA).mono ?_
     rintro e w1 ⟨rfl, hb⟩
     have gB1 := (gB.keep hb).alloc (.cells #[.int .i64 (nn : Nat), .int .i64 (L3 : Nat)] 33)
     obtain ⟨q0, q1⟩ := gB.keep hb
     have hcl := (gB.keep hb).lt
     have hne : ¬ C = w1.heap.size := Nat.ne_of_lt hcl
     have hB1 := (hA.trans (hb.mono hA.size)).alloc (hA.trans (hb.mono hA.size)).size (.cells #[.int .i64 (nn : Nat), .int .i64 (L3 : Nat)] 33)
     clear hD
     go_wp2_with fail
     go_ret
     exact ⟨by rw [hno.out]; rfl, hB1⟩
   ·have hW4 : ¬ (nn : Int) = W := fun h => hW2 h.symm
    have hno := lh (show laneB I W L ln = false from by rw [hr, decide_eq_false (p := W = (nn : Nat) ∧ L = (L3 : Nat)) (fun h => hW2 h.1), Bool.and_false, Bool.false_and])
    clear hr
    go_enter Tryz.func40, Tryz.ntmps40
    go_wp2_with fail
    refine (hD.out _ hA).mono ?_
    rintro e w1 ⟨rfl, hb⟩
    have gB1 := (gB.keep hb).alloc (.cells #[.int .i64 (nn : Nat), .int .i64 (L3 : Nat)] 33)
    obtain ⟨q0, q1⟩ := gB.keep hb
    have hcl := (gB.keep hb).lt
    have hne : ¬ C = w1.heap.size := Nat.ne_of_lt hcl
    have hB1 := (hA.trans (hb.mono hA.size)).alloc (hA.trans (hb.mono hA.size)).size (.cells #[.int .i64 (nn : Nat), .int .i64 (L3 : Nat)] 33)
    clear hD
    go_wp2_with fail
    go_ret
    exact ⟨by rw [hno.out]; rfl, hB1⟩
end Go.Proofs.YtkdhdibjbabgfaaGreatDoor
end
section
namespace Go.Proofs.YtkdhdibjbabgfaaGreatDoor
open Go.Lib Go.RowKit Go.ChangeShapes Go.WideShapes Go.Deep
theorem refRd_any (v : Value) (ws : List Nat) (c : Nat) (w : World) (hv : KL .u64 w v ws) (hW : WL ws) (hlen : ws.length = 40) (hc : c < 16384) :
 Calls Tryz.prog 75 #[v, .int .i64 (c : Nat)] w fun e w' => ∃ v', e = .returned (.tuple #[v', .bool (rdO ws c).isSome]) ∧ OPL w' v' ((rdO ws c).getD []) ∧ Below w.heap.size w w' := by
 by_cases h : c ≤ 19
 ·refine (refDec_n v ws c w hv hW (by omega) h (by omega)).mono ?_
  rintro e w' ⟨v', rfl, ho, hb⟩
  unfold decD at ho
  unfold rdO
  cases hd : decB ws c with
  | true => rw [if_pos ⟨h, rfl⟩]; rw [if_pos hd] at ho; exact ⟨v', rfl, ho, hb⟩
  | false => rw [if_neg (fun q => by cases q.2)]; rw [if_neg (by rw [hd]; decide)] at ho; exact ⟨v', rfl, ho, hb⟩
 ·refine (refDec_bad v ws (c : Nat) w hv (by omega) (by omega) (by omega) (.inr (.inl ⟨by omega, by omega⟩))).mono ?_
  rintro e w' ⟨rfl, hb⟩
  unfold rdO
  rw [if_neg (fun q => h q.1)]
  exact ⟨_, rfl, OPL.nil w', hb⟩
theorem redoing_any (v : Value) (I : List Nat) (L ln s c gn : Nat) (w : World) (hW : WL I) (hv : KL .u64 w v I) (hg : gOk (I.length : Nat) (L : Nat) = true) (hln : ln < L) (hc : c < 16384) :
 Calls Tryz.prog 43 #[v, .agg #[.int .i64 (I.length : Nat), .int .i64 (L : Nat)], .int .i64 (ln : Nat), .agg #[.int .i64 (s : Nat), .int .i64 (c : Nat), .int .u64 (gn : Nat)]] w fun e w' => ∃ v', e = .returned (.tuple #[v', .bool (decidedD I L ln c).isSome]) ∧ OPL w' v' ((decidedD I L ln c).getD []) ∧ Below w.heap.size w w' := by
 obtain ⟨nn, hnn⟩ : ∃ n, I.length = n := ⟨_, rfl⟩
 obtain ⟨s1, s2, s3, s4, s5, s6, s7, s8⟩ := pool_size hg
 have hrl := redoW_len hg hln
 obtain ⟨G, hG⟩ : ∃ G, gNat I.length L = G := ⟨_, rfl⟩
 obtain ⟨F, hF⟩ : ∃ F, 10 + 73 * L = F := ⟨_, rfl⟩
 have hF' : (10 + 73 * (L : Int)) = (F : Int) := by omega
 obtain ⟨J, hJ⟩ : ∃ J, 10 + L + ln * 72 + 32 = J := ⟨_, rfl⟩
 have hJ' : (10 + (L : Int) + (ln : Int) * 72 + 32) = (J : Int) := by omega
 have hWr : WL (redoW I L ln) := hW.part _ _
 rw [hG] at s5 s6 s7 s8
 rw [decided_rd]
 have hin : ∀ o : Ox, opIn I.length L o = decide (o.2.1 = 8 ∨ ((F : Int) ≤ o.2.1 ∧ o.2.1 < (F : Int) + (G : Int))) := fun o => by
  unfold opIn; rw [hG, hF, show (((F + G : Nat)) : Int) = (F : Int) + (G : Int) from by push_cast; rfl]
 rw [hnn] at hg s3 s4 s5 s8 hin
 rw [hnn]
 have hlk : lOk (nn : Nat) (L : Nat) (ln : Nat) = true := by unfold lOk; rw [hg, Bool.true_and]; exact decide_eq_true (by omega)
 have hRd := lh (fun w1 => refRedo_t (nn : Nat) (L : Nat) (ln : Nat) w1 hlk)
 have hTb := lh (fun w1 => refTable_t (nn : Nat) (L : Nat) w1 hg)
 rw [hF', s5] at hTb
 rw [hJ'] at hRd
 obtain ⟨g, off, cap, rfl, hcap, hgs⟩ := hv.addr hnn (by omega)
 have hWd := lh (fun w1 => show Calls Tryz.prog 47 #[.slice (some ⟨g, off, none⟩) nn cap, .agg #[.int .i64 (J : Nat), .int .i64 40]] w1 (fun e w' => e = .returned (.slice (some ⟨g, off + J, none⟩) 40 (cap - J)) ∧ Below w1.heap.size w1 w') from part15_any g off nn cap J 40 w1 (by omega) hcap (by omega) (by omega))
 have hDc := lh (fun w1 (hb : Below w.heap.size w w1) => refRd_any (.slice (some ⟨g, off + J, none⟩) 40 (cap - J)) (redoW I L ln) c w1 (by unfold redoW; rw [hJ]; exact (hv.keep hb).partC hnn J 40 _ (by omega) (by omega)) hWr hrl hc)
 have hol : ((rdO (redoW I L ln) c).getD []).length ≤ 19 := by
  unfold rdO
  split
  ·rename_i q; simp only [Option.getD_some, opsN_len]; exact q.1
  ·simp
 generalize rdO (redoW I L ln) c = rd at *
 have hA1 := bZ w (.cells #[.int .i64 (nn : Nat), .int .i64 (L : Nat)] 33)
 have gC := (C2.new w (.int .i64 (nn : Nat)) (.int .i64 (L : Nat)) 33).alloc (.cells #[.int .i64 (s : Nat), .int .i64 (c : Nat), .int .u64 (gn : Nat)] 70)
 have gD := C3.new (w.alloc (.cells #[.int .i64 (nn : Nat), .int .i64 (L : Nat)] 33)) (.int .i64 (s : Nat)) (.int .i64 (c : Nat)) (.int .u64 (gn : Nat)) 70
 have hA := hA1.alloc hA1.size (.cells #[.int .i64 (s : Nat), .int .i64 (c : Nat), .int .u64 (gn : Nat)] 70)
 have hD0 : (w.alloc (.cells #[.int .i64 (nn : Nat), .int .i64 (L : Nat)] 33)).heap.size = w.heap.size + 1 := by simp
 rw [hD0] at gD
 obtain ⟨C, hC⟩ : ∃ C, w.heap.size = C := ⟨_, rfl⟩
 rw [hC] at gC gD
 have hFb : F ≤ 5000 := by omega
 replace hnn := lh hnn
 replace hG := lh hG
 clear hv hW hF hF' hJ hJ' hWr hrl hg hlk hA1
 have hSt : C2 ((w.alloc (.cells #[.int .i64 (nn : Nat), .int .i64 (L : Nat)] 33)).alloc (.cells #[.int .i64 (s : Nat), .int .i64 (c : Nat), .int .u64 (gn : Nat)] 70)).drew C (.int .i64 (nn : Nat)) (.int .i64 (L : Nat)) ∧ C3 ((w.alloc (.cells #[.int .i64 (nn : Nat), .int .i64 (L : Nat)] 33)).alloc (.cells #[.int .i64 (s : Nat), .int .i64 (c : Nat), .int .u64 (gn : Nat)] 70)).drew (C + 1) (.int .i64 (s : Nat)) (.int .i64 (c : Nat)) (.int .u64 (gn : Nat)) ∧ Below w.heap.size w ((w.alloc (.cells #[.int .i64 (nn : Nat), .int .i64 (L : Nat)] 33)).alloc (.cells #[.int .i64 (s : Nat), .int .i64 (c : Nat), .int .u64 (gn : Nat)] 70)).drew := ⟨gC, gD, hA.drew⟩
 clear gC gD hA
 replace hSt := lh hSt
 cases rd with
 | none =>
   have hon : (([] : List Ox)).length = 0 := rfl
   simp only [Option.isSome_none, Option.getD_none, Option.bind_none] at hDc ⊢
   go_enter Tryz.func43, Tryz.ntmps43
   go_wp2_with fail
   replace hSt := hSt.out
   refine wp_region_held_drew (S := (fun w' => C2 w' C (.int .i64 (nn : Nat)) (.int .i64 (L : Nat)) ∧ C3 w' (C + 1) (.int .i64 (s : Nat)) (.int .i64 (c : Nat)) (.int .u64 (gn : Nat)) ∧ Below w.heap.size w w')) (by kernel_rfl) ?_ (fun hHeld => ?_)
   ·(try dsimp only)
    (first | assumption | (exact ⟨hHeld.1.keep hb, hHeld.2.1.keep hb, hHeld.2.2.trans (hb.mono hHeld.2.2.size)⟩))
   refine takeL 0 (v := ?_) rfl (by kernel_rfl) (by kernel_rfl) (by kernel_rfl) (fun _ _ _ h => h) (by rfl) (by assumption) ?_ ?_
   rotate_left
   ·(intro w hSw; (try dsimp only at hSw); obtain ⟨⟨z0, z1⟩, ⟨z2, z3, z4⟩, zB⟩ := hSw; go_simp <;> with_reducible rfl)
   try simp only [Act.put,sA,sB,sC]
   refine takeL 1 (v := ?_) rfl (by kernel_rfl) (by kernel_rfl) (by kernel_rfl) (fun _ _ _ h => h) (by rfl) (by assumption) ?_ ?_
   rotate_left
   ·(intro w hSw; (try dsimp only at hSw); obtain ⟨⟨z0, z1⟩, ⟨z2, z3, z4⟩, zB⟩ := hSw; go_simp <;> with_reducible rfl)
   try simp only [Act.put,sA,sB,sC]
   refine takeL 2 (v := ?_) rfl (by kernel_rfl) (by kernel_rfl) (by kernel_rfl) (fun _ _ _ h => h) (by rfl) (by assumption) ?_ ?_
   rotate_left
   ·(intro w hSw; (try dsimp only at hSw); obtain ⟨⟨z0, z1⟩, ⟨z2, z3, z4⟩, zB⟩ := hSw; go_simp <;> with_reducible rfl)
   try simp only [Act.put,sA,sB,sC]
   refine takeL 5 (v := ?_) rfl (by kernel_rfl) (by kernel_rfl) (by kernel_rfl) (fun _ _ _ h => h) (by rfl) (by assumption) ?_ ?_
   rotate_left
   ·(intro w hSw; (try dsimp only at hSw); obtain ⟨⟨z0, z1⟩, ⟨z2, z3, z4⟩, zB⟩ := hSw; go_simp <;> with_reducible rfl)
   try simp only [Act.put,sA,sB,sC]
   refine takeL 6 (v := ?_) rfl (by kernel_rfl) (by kernel_rfl) (by kernel_rfl) (fun _ _ _ h => h) (by rfl) (by assumption) ?_ ?_
   rotate_left
   ·(intro w hSw; (try dsimp only at hSw); obtain ⟨⟨z0, z1⟩, ⟨z2, z3, z4⟩, zB⟩ := hSw; go_simp <;> with_reducible rfl)
   try simp only [Act.put,sA,sB,sC]
   refine oneL 3 rfl (by kernel_rfl) (fun K hK => ?_)
   go_simp
   (refine (hRd.out _).mono ?_; rintro e w8 ⟨rfl, hb⟩)
   refine hK.out _ _ ?_ (fun hHeld2 => ?_)
   ·(try dsimp only)
    (first | assumption | (exact ⟨hHeld.1.keep hb, hHeld.2.1.keep hb, hHeld.2.2.trans (hb.mono hHeld.2.2.size)⟩))
   clear hK K hHeld
   have hHeld := hHeld2
   clear hHeld2
   try simp only [Act.put,sA,sB,sC]
   refine oneL 4 rfl (by kernel_rfl) (fun K hK => ?_)
   go_simp
   (refine (hWd.out _).mono ?_; rintro e w8 ⟨rfl, hb⟩)
   refine hK.out _ _ ?_ (fun hHeld2 => ?_)
   ·(try dsimp only)
    (first | assumption | (exact ⟨hHeld.1.keep hb, hHeld.2.1.keep hb, hHeld.2.2.trans (hb.mono hHeld.2.2.size)⟩))
   clear hK K hHeld
   have hHeld := hHeld2
   clear hHeld2
   try simp only [Act.put,sA,sB,sC]
   refine oneL 7 rfl (by kernel_rfl) (fun K hK => ?_)
   go_simp
   (obtain ⟨_, _, hq⟩ := id hHeld; refine (hDc.out _ hq).mono ?_; rintro e w8 ⟨v8, rfl, hO8, hb⟩; obtain ⟨A8, c8, rfl, hF8⟩ := hO8.form hon)
   refine hK.out _ _ ?_ (fun hHeld2 => ?_)
   ·(try dsimp only)
    (first | assumption | (exact ⟨hHeld.1.keep hb, hHeld.2.1.keep hb, hHeld.2.2.trans (hb.mono hHeld.2.2.size)⟩))
   clear hK K hHeld
   have hHeld := hHeld2
   clear hHeld2
   try simp only [Act.put,sA,sB,sC]
   refine takeL 8 (v := ?_) rfl (by kernel_rfl) (by kernel_rfl) (by kernel_rfl) (fun _ _ _ h => h) (by rfl) (by assumption) ?_ ?_
   rotate_left
   ·(intro w hSw; (try dsimp only at hSw); obtain ⟨⟨z0, z1⟩, ⟨z2, z3, z4⟩, zB⟩ := hSw; go_simp <;> with_reducible rfl)
   try simp only [Act.put,sA,sB,sC]
   refine takeL 9 (v := ?_) rfl (by kernel_rfl) (by kernel_rfl) (by kernel_rfl) (fun _ _ _ h => h) (by rfl) (by assumption) ?_ ?_
   rotate_left
   ·(intro w hSw; (try dsimp only at hSw); obtain ⟨⟨z0, z1⟩, ⟨z2, z3, z4⟩, zB⟩ := hSw; go_simp <;> with_reducible rfl)
   try simp only [Act.put,sA,sB,sC]
   refine takeL 10 (v := ?_) rfl (by kernel_rfl) (by kernel_rfl) (by kernel_rfl) (fun _ _ _ h => h) (by rfl) (by assumption) ?_ ?_
   rotate_left
   ·(intro w hSw; (try dsimp only at hSw); obtain ⟨⟨z0, z1⟩, ⟨z2, z3, z4⟩, zB⟩ := hSw; go_simp <;> with_reducible rfl)
   try simp only [Act.put,sA,sB,sC]
   refine takeL 11 (v := ?_) rfl (by kernel_rfl) (by kernel_rfl) (by kernel_rfl) (fun _ _ _ h => h) (by rfl) (by assumption) ?_ ?_
   rotate_left
   ·(intro w hSw; (try dsimp only at hSw); obtain ⟨⟨z0, z1⟩, ⟨z2, z3, z4⟩, zB⟩ := hSw; go_simp <;> with_reducible rfl)
   try simp only [Act.put,sA,sB,sC]
   refine takeL 12 (v := ?_) rfl (by kernel_rfl) (by kernel_rfl) (by kernel_rfl) (fun _ _ _ h => h) (by rfl) (by assumption) ?_ ?_
   rotate_left
   ·(intro w hSw; (try dsimp only at hSw); obtain ⟨⟨z0, z1⟩, ⟨z2, z3, z4⟩, zB⟩ := hSw; go_simp <;> with_reducible rfl)
   try simp only [Act.put,sA,sB,sC]
   refine wpAnyH_done (by kernel_rfl) ?_ _
   have hB9 := hHeld.2.2
   go_wp2_with fail
   go_ret2
   exact ⟨_, rfl, OPL.nil _, hB9⟩
 | some O =>
   obtain ⟨n, hon⟩ : ∃ n, O.length = n := ⟨_, rfl⟩
   simp only [Option.isSome_some, Option.getD_some, Option.bind_some] at hDc hol ⊢
   have hn9 : n ≤ 19 := by omega
   have hgt := fun j (hj : j < n) => show O.getD j default = O[j]'(by omega) from by rw [List.getD_eq_getElem?_getD, List.getElem?_eq_getElem (by omega)]; rfl
   have hOk := lh (fun j (hj : j < n) (h1 : (O.take j).all (opIn nn L) = true) (h2 : opIn nn L (O.getD j default) = true) => show Hid ((O.take (j + 1)).all (opIn nn L) = true) from lh (by
    rw [List.take_succ_eq_append_getElem (by omega), List.all_append, h1, Bool.true_and]
    rw [hgt j hj] at h2
    simp [h2]))
   have hBad := lh (fun j (hj : j < n) (h2 : opIn nn L (O.getD j default) = false) => show (if O.all (opIn nn L) = true then some O else none) = none from if_neg (fun q => by
    have := List.all_eq_true.1 q _ (List.getElem_mem (show j < O.length by omega))
    rw [← hgt j hj, h2] at this
    cases this))
   have hAll := lh (fun (h : (O.take n).all (opIn nn L) = true) => show (if O.all (opIn nn L) = true then some O else none) = some O from if_pos (by rw [← h, List.take_of_length_le (by omega)]))
   have hin2 := lh hin
   clear hin hgt
   generalize hX : (if O.all (opIn nn L) = true then some O else none) = X at *
   replace hX := lh hX
   go_enter Tryz.func43, Tryz.ntmps43
   go_wp2_with fail
   replace hSt := hSt.out
   refine wp_region_held_drew (S := (fun w' => C2 w' C (.int .i64 (nn : Nat)) (.int .i64 (L : Nat)) ∧ C3 w' (C + 1) (.int .i64 (s : Nat)) (.int .i64 (c : Nat)) (.int .u64 (gn : Nat)) ∧ Below w.heap.size w w')) (by kernel_rfl) ?_ (fun hHeld => ?_)
   ·(try dsimp only)
    (first | assumption | (exact ⟨hHeld.1.keep hb, hHeld.2.1.keep hb, hHeld.2.2.trans (hb.mono hHeld.2.2.size)⟩))
   refine takeL 0 (v := ?_) rfl (by kernel_rfl) (by kernel_rfl) (by kernel_rfl) (fun _ _ _ h => h) (by rfl) (by assumption) ?_ ?_
   rotate_left
   ·(intro w hSw; (try dsimp only at hSw); obtain ⟨⟨z0, z1⟩, ⟨z2, z3, z4⟩, zB⟩ := hSw; go_simp <;> with_reducible rfl)
   try simp only [Act.put,sA,sB,sC]
   refine takeL 1 (v := ?_) rfl (by kernel_rfl) (by kernel_rfl) (by kernel_rfl) (fun _ _ _ h => h) (by rfl) (by assumption) ?_ ?_
   rotate_left
   ·(intro w hSw; (try dsimp only at hSw); obtain ⟨⟨z0, z1⟩, ⟨z2, z3, z4⟩, zB⟩ := hSw; go_simp <;> with_reducible rfl)
   try simp only [Act.put,sA,sB,sC]
   refine takeL 2 (v := ?_) rfl (by kernel_rfl) (by kernel_rfl) (by kernel_rfl) (fun _ _ _ h => h) (by rfl) (by assumption) ?_ ?_
   rotate_left
   ·(intro w hSw; (try dsimp only at hSw); obtain ⟨⟨z0, z1⟩, ⟨z2, z3, z4⟩, zB⟩ := hSw; go_simp <;> with_reducible rfl)
   try simp only [Act.put,sA,sB,sC]
   refine takeL 5 (v := ?_) rfl (by kernel_rfl) (by kernel_rfl) (by kernel_rfl) (fun _ _ _ h => h) (by rfl) (by assumption) ?_ ?_
   rotate_left
   ·(intro w hSw; (try dsimp only at hSw); obtain ⟨⟨z0, z1⟩, ⟨z2, z3, z4⟩, zB⟩ := hSw; go_simp <;> with_reducible rfl)
   try simp only [Act.put,sA,sB,sC]
   refine takeL 6 (v := ?_) rfl (by kernel_rfl) (by kernel_rfl) (by kernel_rfl) (fun _ _ _ h => h) (by rfl) (by assumption) ?_ ?_
   rotate_left
   ·(intro w hSw; (try dsimp only at hSw); obtain ⟨⟨z0, z1⟩, ⟨z2, z3, z4⟩, zB⟩ := hSw; go_simp <;> with_reducible rfl)
   try simp only [Act.put,sA,sB,sC]
   refine oneL 3 rfl (by kernel_rfl) (fun K hK => ?_)
   go_simp
   (refine (hRd.out _).mono ?_; rintro e w8 ⟨rfl, hb⟩)
   refine hK.out _ _ ?_ (fun hHeld2 => ?_)
   ·(try dsimp only)
    (first | assumption | (exact ⟨hHeld.1.keep hb, hHeld.2.1.keep hb, hHeld.2.2.trans (hb.mono hHeld.2.2.size)⟩))
   clear hK K hHeld
   have hHeld := hHeld2
   clear hHeld2
   try simp only [Act.put,sA,sB,sC]
   refine oneL 4 rfl (by kernel_rfl) (fun K hK => ?_)
   go_simp
   (refine (hWd.out _).mono ?_; rintro e w8 ⟨rfl, hb⟩)
   refine hK.out _ _ ?_ (fun hHeld2 => ?_)
   ·(try dsimp only)
    (first | assumption | (exact ⟨hHeld.1.keep hb, hHeld.2.1.keep hb, hHeld.2.2.trans (hb.mono hHeld.2.2.size)⟩))
   clear hK K hHeld
   have hHeld := hHeld2
   clear hHeld2
   try simp only [Act.put,sA,sB,sC]
   refine oneL 7 rfl (by kernel_rfl) (fun K hK => ?_)
   go_simp
   (obtain ⟨_, _, hq⟩ := id hHeld; refine (hDc.out _ hq).mono ?_; rintro e w8 ⟨v8, rfl, hO8, hb⟩; obtain ⟨A8, c8, rfl, hF8⟩ := hO8.form hon)
   refine hK.out _ _ ?_ (fun hHeld2 => ?_)
   ·(try dsimp only)
    (first | assumption | (exact ⟨hHeld.1.keep hb, hHeld.2.1.keep hb, hHeld.2.2.trans (hb.mono hHeld.2.2.size)⟩))
   clear hK K hHeld
   have hHeld := hHeld2
   clear hHeld2
   try simp only [Act.put,sA,sB,sC]
   refine takeL 8 (v := ?_) rfl (by kernel_rfl) (by kernel_rfl) (by kernel_rfl) (fun _ _ _ h => h) (by rfl) (by assumption) ?_ ?_
   rotate_left
   ·(intro w hSw; (try dsimp only at hSw); obtain ⟨⟨z0, z1⟩, ⟨z2, z3, z4⟩, zB⟩ := hSw; go_simp <;> with_reducible rfl)
   try simp only [Act.put,sA,sB,sC]
   refine takeL 9 (v := ?_) rfl (by kernel_rfl) (by kernel_rfl) (by kernel_rfl) (fun _ _ _ h => h) (by rfl) (by assumption) ?_ ?_
   rotate_left
   ·(intro w hSw; (try dsimp only at hSw); obtain ⟨⟨z0, z1⟩, ⟨z2, z3, z4⟩, zB⟩ := hSw; go_simp <;> with_reducible rfl)
   try simp only [Act.put,sA,sB,sC]
   refine takeL 10 (v := ?_) rfl (by kernel_rfl) (by kernel_rfl) (by kernel_rfl) (fun _ _ _ h => h) (by rfl) (by assumption) ?_ ?_
   rotate_left
   ·(intro w hSw; (try dsimp only at hSw); obtain ⟨⟨z0, z1⟩, ⟨z2, z3, z4⟩, zB⟩ := hSw; go_simp <;> with_reducible rfl)
   try simp only [Act.put,sA,sB,sC]
   refine takeL 11 (v := ?_) rfl (by kernel_rfl) (by kernel_rfl) (by kernel_rfl) (fun _ _ _ h => h) (by rfl) (by assumption) ?_ ?_
   rotate_left
   ·(intro w hSw; (try dsimp only at hSw); obtain ⟨⟨z0, z1⟩, ⟨z2, z3, z4⟩, zB⟩ := hSw; go_simp <;> with_reducible rfl)
   try simp only [Act.put,sA,sB,sC]
   refine takeL 12 (v := ?_) rfl (by kernel_rfl) (by kernel_rfl) (by kernel_rfl) (fun _ _ _ h => h) (by rfl) (by assumption) ?_ ?_
   rotate_left
   ·(intro w hSw; (try dsimp only at hSw); obtain ⟨⟨z0, z1⟩, ⟨z2, z3, z4⟩, zB⟩ := hSw; go_simp <;> with_reducible rfl)
   try simp only [Act.put,sA,sB,sC]
   refine wpAnyH_done (by kernel_rfl) ?_ _
   obtain ⟨⟨q0, q1⟩, _, hB9⟩ := hHeld
   clear hSt
   go_wp2_with fail
   refine (hTb.out _).mono ?_
   rintro e w10 ⟨rfl, hb10⟩
   have hO10 := hO8.keep hb10
   have hB10 := hB9.trans (hb10.mono hB9.size)
   clear hF8 hO8 hB9
   obtain ⟨A10, c10, hv10, hF10⟩ := hO10.form hon
   cases hv10
   have hF := lh hF10
   have hO := lh hO10
   have gT := C2.new w10 (.int .i64 (F : Nat)) (.int .i64 (G : Nat)) 51
   have hB9 := hB10
   obtain ⟨T, hT⟩ : ∃ T, w10.heap.size = T := ⟨_, rfl⟩
   have hb11 := bZ w10 (.cells #[.int .i64 (F : Nat), .int .i64 (G : Nat)] 51)
   rw [hT] at gT
   clear hF10 hO10 hB10 hb10 hb q0 q1 hWd hRd hDc hTb
   go_wp2_with fail
   go_loopw [13] (fun i wr => ∃ (j : Nat), j ≤ n ∧ i = .int .i64 j ∧ Hid ((O.take j).all (opIn nn L) = true) ∧ C2 wr T (.int .i64 (F : Nat)) (.int .i64 (G : Nat)) ∧ Below w10.heap.size w10 wr) (fun i _ => n + 1 - (intOf i).toNat)
   case atStart => exact ⟨0, Nat.zero_le _, rfl, lh (by simp), gT, hb11⟩
   case round =>
    obtain ⟨j, hj, rfl, hAl, gTr, hBr⟩ := hrel
    by_cases hlt : j < n
    ·obtain ⟨g2, o2, rfl, hcap2, hg2, hg3, c0, c1, c2⟩ := hF.out wr j hBr hlt
     have hlt' : (j : Int) < (n : Int) := by omega
     have hop := hin2.out (O.getD j default)
     have hOj := hOk.out j hlt
     have hBj := hBad.out j hlt
     generalize O.getD j default = o at *
     obtain ⟨k, a, x⟩ := o
     simp only [] at c0 c1 c2 hop
     obtain ⟨t0, t1⟩ := id gTr
     have hwr : IntKind.i64.wrap ((F : Int) + (G : Int)) = (F : Int) + (G : Int) := by rw [IntKind.wrap_i64]; omega
     by_cases h8 : a = 8
     ·subst h8
      have hyes := lh (hOj hAl.out (by rw [hop]; exact decide_eq_true (.inl rfl)))
      clear hop hOj hBj
      go_wp2_with fail
      refine wp_region_held_drew (S := (fun w' => w' = wr.drew)) (by kernel_rfl) ?_ (fun hHeld => ?_)
      ·(try dsimp only)
       (first | done | rfl)
      refine takeU 0 ?_
      refine takeU 1 ?_
      refine takeU 2 ?_
      refine takeU 3 ?_
      refine takeU 4 ?_
      refine takeU 5 ?_
      refine takeU 6 ?_
      refine idleQ 7 ?_
      refine idleQ 8 ?_
      refine idleQ 9 ?_
      refine idleQ 10 ?_
      refine idleQ 11 ?_
      refine idleQ 12 ?_
      refine idleQ 13 ?_
      refine idleQ 14 ?_
      refine idleQ 15 ?_
      refine idleQ 16 ?_
      refine idleQ 17 ?_
      refine idleQ 18 ?_
      refine idleQ 19 ?_
      refine idleQ 20 ?_
      refine idleQ 21 ?_
      refine idleQ 22 ?_
      refine idleQ 23 ?_
      refine idleQ 24 ?_
      refine idleQ 25 ?_
      refine idleQ 26 ?_
      refine idleQ 27 ?_
      refine takeU 28 ?_
      refine wpAnyH_done (by kernel_rfl) ?_ _
      clear hHeld
      go_wp2_with fail
      go_roundw
      case rel => exact ⟨j + 1, by omega, by go_num, hyes.out, gTr, hBr.drew⟩
      case measure => first | (simp [intOf]; done) | (simp [intOf]; omega)
     have h8b : (a != 8) = true := bne_iff_ne.2 h8
     by_cases h1 : a < (F : Int)
     ·clear hwr
      have hno := lh (hBj (by rw [hop]; exact decide_eq_false (by omega)))
      have hBe := hB9.trans (hBr.drew.mono hB9.size)
      clear hop hOj hBj
      go_wp2_with fail
      refine wp_region_held_drew (S := (fun w' => w' = wr.drew)) (by kernel_rfl) ?_ (fun hHeld => ?_)
      ·(try dsimp only)
       (first | done | rfl)
      refine takeU 0 ?_
      refine takeU 1 ?_
      refine takeU 2 ?_
      refine takeU 3 ?_
      refine takeU 4 ?_
      refine takeU 5 ?_
      refine takeU 6 ?_
      refine takeU 7 ?_
      refine takeU 8 ?_
      refine takeU 9 ?_
      refine takeU 10 ?_
      refine takeU 11 ?_
      refine takeU 12 ?_
      refine takeU 13 ?_
      refine takeU 14 ?_
      refine takeU 15 ?_
      refine idleQ 16 ?_
      refine idleQ 17 ?_
      refine idleQ 18 ?_
      refine idleQ 19 ?_
      refine idleQ 20 ?_
      refine idleQ 21 ?_
      refine idleQ 22 ?_
      refine idleQ 23 ?_
      refine idleQ 24 ?_
      refine idleQ 25 ?_
      refine idleQ 26 ?_
      refine takeU 27 ?_
      refine takeU 28 ?_
      refine wpAnyH_done (by kernel_rfl) ?_ _
      clear hHeld
      go_wp2_with fail
      go_ret2
      exact ⟨_, by rw [hno.out]; rfl, by rw [hno.out]; exact OPL.nil _, by first | exact hBe | (rw [hC] at hBe; exact hBe)⟩
     have h1b : decide (a < (F : Int)) = false := decide_eq_false h1
     by_cases h2 : (F : Int) + (G : Int) ≤ a
     ·have h2b : decide ((F : Int) + (G : Int) ≤ a) = true := decide_eq_true h2
      have hno := lh (hBj (by rw [hop]; exact decide_eq_false (by omega)))
      have hBe := hB9.trans (hBr.drew.mono hB9.size)
      clear hop hOj hBj
      go_wp2_with fail
      refine wp_region_held_drew (S := (fun w' => w' = wr.drew)) (by kernel_rfl) ?_ (fun hHeld => ?_)
      ·(try dsimp only)
       (first | done | rfl)
      refine takeU 0 ?_
      refine takeU 1 ?_
      refine takeU 2 ?_
      refine takeU 3 ?_
      refine takeU 4 ?_
      refine takeU 5 ?_
      refine takeU 6 ?_
      refine takeU 7 ?_
      refine takeU 8 ?_
      refine takeU 9 ?_
      refine takeU 10 ?_
      refine takeU 11 ?_
      refine takeU 12 ?_
      refine takeU 13 ?_
      refine takeU 14 ?_
      refine takeU 15 ?_
      refine takeU 16 ?_
      refine takeU 17 ?_
      refine takeU 18 ?_
      refine takeU 19 ?_
      refine takeU 20 ?_
      refine takeU 21 ?_
      refine takeU 22 ?_
      refine takeU 23 ?_
      refine takeU 24 ?_
      refine takeU 25 ?_
      refine takeU 26 ?_
      refine takeU 27 ?_
      refine takeU 28 ?_
      refine wpAnyH_done (by kernel_rfl) ?_ _
      clear hHeld
      go_wp2_with fail
      go_ret2
      exact ⟨_, by rw [hno.out]; rfl, by rw [hno.out]; exact OPL.nil _, by first | exact hBe | (rw [hC] at hBe; exact hBe)⟩
     have h2b : decide ((F : Int) + (G : Int) ≤ a) = false := decide_eq_false h2
     have hyes := lh (hOj hAl.out (by rw [hop]; exact decide_eq_true (by omega)))
     clear hop hOj hBj
     go_wp2_with fail
     refine wp_region_held_drew (S := (fun w' => w' = wr.drew)) (by kernel_rfl) ?_ (fun hHeld => ?_)
     ·(try dsimp only)
      (first | done | rfl)
     refine takeU 0 ?_
     refine takeU 1 ?_
     refine takeU 2 ?_
     refine takeU 3 ?_
     refine takeU 4 ?_
     refine takeU 5 ?_
     refine takeU 6 ?_
     refine takeU 7 ?_
     refine takeU 8 ?_
     refine takeU 9 ?_
     refine takeU 10 ?_
     refine takeU 11 ?_
     refine takeU 12 ?_
     refine takeU 13 ?_
     refine takeU 14 ?_
     refine takeU 15 ?_
     refine takeU 16 ?_
     refine takeU 17 ?_
     refine takeU 18 ?_
     refine takeU 19 ?_
     refine takeU 20 ?_
     refine takeU 21 ?_
     refine takeU 22 ?_
     refine takeU 23 ?_
     refine takeU 24 ?_
     refine takeU 25 ?_
     refine takeU 26 ?_
     refine takeU 27 ?_
     refine takeU 28 ?_
     refine wpAnyH_done (by kernel_rfl) ?_ _
     clear hHeld
     go_wp2_with fail
     go_roundw
     case rel => exact ⟨j + 1, by omega, by go_num, hyes.out, gTr, hBr.drew⟩
     case measure => first | (simp [intOf]; done) | (simp [intOf]; omega)
    ·obtain rfl : j = n := by omega
     have hx := lh (hAll.out hAl.out)
     have hO2 := lh (hO.out.keep hBr)
     have hBe := hB9.trans (hBr.mono hB9.size)
     clear hAl gTr hBr
     go_wp2_with fail
     go_ret2
     exact ⟨_, by rw [hx.out]; rfl, by rw [hx.out]; exact hO2.out, hBe⟩
end Go.Proofs.YtkdhdibjbabgfaaGreatDoor
end
