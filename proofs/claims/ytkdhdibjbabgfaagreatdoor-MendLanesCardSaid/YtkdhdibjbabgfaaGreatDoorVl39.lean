/-
  Part of the proof of MendLanes.
-/
import Derived.Test.YtkdhdibjbabgfaaGreatDoorVl22
import Derived.Test.YtkdhdibjbabgfaaGreatDoorVl29
import Derived.Test.YtkdhdibjbabgfaaGreatDoorVl32
import Derived.Test.YtkdhdibjbabgfaaGreatDoorVl38
import Derived.Test.YtkdhdibjbabgfaaGreatDoorVl0
set_option maxRecDepth 10000
set_option maxHeartbeats 1000000
set_option linter.unusedVariables false
set_option linter.unusedSimpArgs false
section
namespace Go.Proofs.YtkdhdibjbabgfaaGreatDoor
open Go.Lib Go.RowKit Go.ChangeShapes Go.WideShapes Go.Deep
theorem run_slice2 {P : Program} {ty el : TypeId} {i0 : TypeInfo} (hu : P.underlying ty = some (.slice el)) (hi : P.info? el = some i0) (h1 : i0.size = 1) (g off n cap f e m : Nat) (h : f ≤ e) (h2 : e ≤ cap) (hm : m = e - f) (hm0 : 0 < m) (w : World) :
 (Instr.slice ty (.slice (some ⟨g, off, none⟩) n cap) (some (.int .i64 (f : Int))) (some (.int .i64 (e : Int))) none).run P w = .ok (.slice (some ⟨g, off + f, none⟩) m (cap - f)) w := by
 have h3 : (e : Int) ≤ (cap : Int) := by omega
 have h4 : (0 : Int) ≤ (e : Int) := by omega
 have h5 : (f : Int) ≤ (e : Int) := by omega
 have h6 : (0 : Int) ≤ (f : Int) := by omega
 subst hm
 simp [Instr.slice, run_underlying hu, Instr.sliceBounds, Instr.sliceBound, asIntOf, sizeOf, typeInfo, hi, h1, h3, h4, h5, h6, go_sem]
 rw [if_pos h2, if_pos h, if_neg (by omega)]
theorem KL.partC {K : IntKind} {w : World} {g off n cap : Nat} {l : List Nat} (h : KL K w (.slice (some ⟨g, off, none⟩) n cap) l) (hn : l.length = n) (f m c : Nat) (hf : f + m ≤ n) (hc : m ≤ c) : KL K w (.slice (some ⟨g, off + f, none⟩) m c) ((l.drop f).take m) := by
 have h1 := h.part hn f m hf
 have hlen : ((l.drop f).take m).length = m := by rw [List.length_take, List.length_drop]; omega
 obtain ⟨A, c2, hv, h2⟩ := h1
 simp only [Value.slice.injEq] at hv
 obtain ⟨rfl, -, rfl⟩ := hv
 refine ⟨_, c, by rw [hlen], fun hp => ?_⟩
 obtain ⟨g2, o2, hA, hg, _, hi⟩ := h2 hp
 exact ⟨g2, o2, hA, hg, by rw [hlen]; exact hc, hi⟩
theorem part15_any (g off n cap f m : Nat) (w : World) (h1 : f + m ≤ n) (h2 : n ≤ cap) (h3 : 1 ≤ m) (hn : n ≤ 100000) :
 Calls Tryz.prog 47 #[.slice (some ⟨g, off, none⟩) n cap, .agg #[.int .i64 (f : Nat), .int .i64 (m : Nat)]] w fun e w' => e = .returned (.slice (some ⟨g, off + f, none⟩) m (cap - f)) ∧ Below w.heap.size w w' := by
 have hA := bZ w (.cells #[.int .i64 (f : Nat), .int .i64 (m : Nat)] 51)
 obtain ⟨e, he⟩ : ∃ e, f + m = e := ⟨_, rfl⟩
 have w1 : IntKind.i64.wrap ((f : Int) + (m : Int)) = (e : Int) := by rw [IntKind.wrap_i64]; omega
 have w2 : (f : Int) + (m : Int) = (e : Int) := by omega
 obtain ⟨i0, hi, hz0, hz1, hz2⟩ := info_parts infoU64
 have hS := fun w => run_slice2 (P := Tryz.prog) Tryz.underlying23 hi hz1 g off n cap f e m (by omega) (by omega) (by omega) (by omega) w
 replace he := lh he
 go_enter Tryz.func47, Tryz.ntmps47
 go_wp2_with fail
 go_ret
 exact ⟨rfl, hA⟩
end Go.Proofs.YtkdhdibjbabgfaaGreatDoor
end
section
namespace Go.Proofs.YtkdhdibjbabgfaaGreatDoor
open Go.Lib Go.RowKit Go.ChangeShapes Go.WideShapes Go.Deep
theorem pool_any (v : Value) (I : List Nat) (W L ln : Int) (w : World) (hw : Lw w) (hW : WL I) (hv : KL .u64 w v I) (hlen : I.length ≤ 100000) :
 Calls Tryz.prog 40 #[v, .agg #[.int .i64 W, .int .i64 L], .int .i64 ln] w fun e w' => e = .returned (.bool (laneB I W L ln)) ∧ Below w.heap.size w w' := by
 have hA := bZ w (.cells #[.int .i64 W, .int .i64 L] 33)
 obtain ⟨nn, hnn⟩ : ∃ n, I.length = n := ⟨_, rfl⟩
 have hD := fun w1 (hb : Below w.heap.size w w1) => rdec_any v I nn w1 hnn (by omega) (KL.sl (hv.keep hb))
 have gB := C2.new w (.int .i64 W) (.int .i64 L) 33
 obtain ⟨C, hC⟩ : ∃ C, w.heap.size = C := ⟨_, rfl⟩
 cases hs : sOk I with
 | false =>
   have hno := lh (show laneB I W L ln = false from by unfold laneB readB poolB; rw [hs]; rfl)
   obtain ⟨A, cap, rfl, _⟩ := hv.form hnn
   rw [hs] at hD
   replace hD := lh (fun w1 hb => show Calls Tryz.prog 24 #[.slice A nn cap] w1 (fun e w' => e = .returned (.tuple #[.agg #[.int .i64 0, .int .i64 0], .int .i64 7]) ∧ Below w1.heap.size w1 w') from hD w1 hb)
   rw [hC] at gB
   clear hs hv hW hw
   replace hnn := lh hnn
   go_enter Tryz.func40, Tryz.ntmps40
   go_wp2_with fail
   refine (hD.out _ hA).mono ?_
   rintro e w1 ⟨rfl, hb⟩
   have gB1 := (gB.keep hb).alloc (.cells #[.int .i64 0, .int .i64 0] 33)
   obtain ⟨q0, q1⟩ := gB.keep hb
   have hcl := (gB.keep hb).lt
   have hne : ¬ C = w1.heap.size := Nat.ne_of_lt hcl
   have hB1 := (hA.trans (hb.mono hA.size)).alloc (hA.trans (hb.mono hA.size)).size (.cells #[.int .i64 0, .int .i64 0] 33)
   clear hD
   go_wp2_with fail
   go_ret
   exact ⟨by rw [hno.out]; rfl, hB1⟩
 | true =>
   obtain ⟨g8, hgk⟩ := gOk_pool hs
   obtain ⟨s1, s2, s3, s4, s5, s6, s7, s8⟩ := pool_size hgk
   obtain ⟨G, hG⟩ : ∃ G, gNat I.length (I.getD 3 0) = G := ⟨_, rfl⟩
   obtain ⟨L3, hL3⟩ : ∃ L3, I.getD 3 0 = L3 := ⟨_, rfl⟩
   rw [hG] at s5 s6 s7 s8
   rw [hL3] at s1 s2 s4 s5 s8 hgk
   have hTl := tabW_len hgk
   have hTl2 : (tabW I L3).length = G := by rw [hTl, ← hL3]; exact hG
   have hTw := hW.part (10 + 73 * L3) G
   have hTk : tabW I L3 = (I.drop (10 + 73 * L3)).take G := by unfold tabW; rw [← hL3, hG]
   rw [← hTk] at hTw
   have hTb := refTable_t (I.length : Nat) (L3 : Nat)
   rw [hnn] at s3 s4 s5 s8 hgk hTb
   replace hTb := lh (fun w1 => hTb w1 hgk)
   rw [s5] at hTb
   obtain ⟨g, off, cap, rfl, hcap, hgs⟩ := hv.addr hnn (by omega)
   obtain ⟨F, hF⟩ : ∃ F, 10 + 73 * L3 = F := ⟨_, rfl⟩
   have hF' : (10 + 73 * (L3 : Int)) = (F : Int) := by omega
   rw [hF'] at hTb
   have hWd := lh (fun w1 => part15_any g off nn cap F G w1 (by omega) hcap (by omega) (by omega))
   have hCh := lh (fun w1 (hb : Below w.heap.size w w1) => refChunks_any (.slice (some ⟨g, off + F, none⟩) G (cap - F)) (tabW I L3) w1 (hw.keep hb) (by rw [hTk, hF]; exact (hv.keep hb).partC hnn F G _ (by omega) (by omega)) hTw (by rw [hTl2]; omega))
   rw [hs, hL3] at hD
   replace hD := lh (fun w1 hb => show Calls Tryz.prog 24 #[.slice (some ⟨g, off, none⟩) nn cap] w1 (fun e w' => e = .returned (.tuple #[.agg #[.int .i64 (nn : Nat), .int .i64 (L3 : Nat)], .int .i64 0]) ∧ Below w1.heap.size w1 w') from hD w1 hb)
   have hr : laneB I W L ln = ((tabW I L3).all okN && decide (W = (nn : Nat) ∧ L = (L3 : Nat)) && decide (0 ≤ ln ∧ ln < L)) := by unfold laneB readB poolB; rw [hs, hL3, hnn, Bool.true_and]
   replace hL3 := lh hL3
   replace hnn := lh hnn
   replace hG := lh hG
   replace hF := lh hF
   rw [hC] at gB
   clear hv hW hw hs hTl hTw hTk g8 hTl2
   by_cases hW2 : W = (nn : Nat)
   ·subst hW2
    by_cases hL2 : L = (L3 : Nat)
    ·subst hL2
     by_cases h0 : ln < 0
     ·have hno := lh (show laneB I (nn : Nat) (L3 : Nat) ln = false from by rw [hr, decide_eq_false (p := 0 ≤ ln ∧ ln < (L3 : Nat)) (by omega), Bool.and_false])
      clear hr
      go_enter Tryz.func40, Tryz.ntmps40
      go_wp2_with fail
      refine (hD.out _ hA).mono ?_
      rintro e w1 ⟨rfl, hb⟩
      have gB1 := (gB.keep hb).alloc (.cells #[.int .i64 (nn : Nat), .int .i64 (L3 : Nat)] 33)
      obtain ⟨q0, q1⟩ := gB.keep hb
      have hcl := (gB.keep hb).lt
      have hne : ¬ C = w1.heap.size := Nat.ne_of_lt hcl
      have hB1 := (hA.trans (hb.mono hA.size)).alloc (hA.trans (hb.mono hA.size)).size (.cells #[.int .i64 (nn : Nat), .int .i64 (L3 : Nat)] 33)
      clear hD
      go_wp2_with fail
      go_ret
      exact ⟨by rw [hno.out]; rfl, hB1⟩
     by_cases h1 : (L3 : Int) ≤ ln
     ·have hno := lh (show laneB I (nn : Nat) (L3 : Nat) ln = false from by rw [hr, decide_eq_false (p := 0 ≤ ln ∧ ln < (L3 : Nat)) (by omega), Bool.and_false])
      clear hr
      go_enter Tryz.func40, Tryz.ntmps40
      go_wp2_with fail
      refine (hD.out _ hA).mono ?_
      rintro e w1 ⟨rfl, hb⟩
      have gB1 := (gB.keep hb).alloc (.cells #[.int .i64 (nn : Nat), .int .i64 (L3 : Nat)] 33)
      obtain ⟨q0, q1⟩ := gB.keep hb
      have hcl := (gB.keep hb).lt
      have hne : ¬ C = w1.heap.size := Nat.ne_of_lt hcl
      have hB1 := (hA.trans (hb.mono hA.size)).alloc (hA.trans (hb.mono hA.size)).size (.cells #[.int .i64 (nn : Nat), .int .i64 (L3 : Nat)] 33)
      clear hD
      go_wp2_with fail
      go_ret
      exact ⟨by rw [hno.out]; rfl, hB1⟩
     ·have hyes := lh (show laneB I (nn : Nat) (L3 : Nat) ln = (tabW I L3).all okN from by rw [hr, decide_eq_true (p := 0 ≤ ln ∧ ln < (L3 : Nat)) (by omega), decide_eq_true (p := ((nn : Nat) : Int) = (nn : Nat) ∧ ((L3 : Nat) : Int) = (L3 : Nat)) ⟨rfl, rfl⟩, Bool.and_true, Bool.and_true])
      clear hr
      go_enter Tryz.func40, Tryz.ntmps40
      go_wp2_with fail
      refine (hD.out _ hA).mono ?_
      rintro e w1 ⟨rfl, hb⟩
      have gB1 := (gB.keep hb).alloc (.cells #[.int .i64 (nn : Nat), .int .i64 (L3 : Nat)] 33)
      obtain ⟨q0, q1⟩ := gB.keep hb
      have hcl := (gB.keep hb).lt
      have hne : ¬ C = w1.heap.size := Nat.ne_of_lt hcl
      have hB1 := (hA.trans (hb.mono hA.size)).alloc (hA.trans (hb.mono hA.size)).size (.cells #[.int .i64 (nn : Nat), .int .i64 (L3 : Nat)] 33)
      clear hD
      go_wp2_with fail
      refine (hTb.out _).mono ?_
      rintro e w2 ⟨rfl, hb2⟩
      have hB2 := hB1.trans (hb2.mono hB1.size)
      go_wp2_with fail
      refine (hWd.out _).mono ?_
      rintro e w3 ⟨rfl, hb3⟩
      have hB3 := hB2.trans (hb3.mono hB2.size)
      go_wp2_with fail
      refine (hCh.out _ hB3).mono ?_
      rintro e w4 ⟨hP, hb4⟩
      have hB4 := hB3.trans (hb4.mono hB3.size)
      rcases hP with ⟨hall, v', rfl, -⟩ | ⟨hall, rfl⟩
      ·go_wp2_with fail
       go_ret
       exact ⟨by rw [hyes.out, hall]; rfl, hB4⟩
      ·go_wp2_with fail
       go_ret
       exact ⟨by rw [hyes.out, hall]; rfl, hB4⟩
    ·have hL4 : ¬ (L3 : Int) = L := fun h => hL2 h.symm
     have hno := lh (show laneB I (nn : Nat) L ln = false from by rw [hr, decide_eq_false (p := ((nn : Nat) : Int) = (nn : Nat) ∧ L = (L3 : Nat)) (fun h => hL2 h.2), Bool.and_false, Bool.false_and])
     clear hr
     go_enter Tryz.func40, Tryz.ntmps40
     go_wp2_with fail
     refine (hD.out _ hA).mono ?_
     rintro e w1 ⟨rfl, hb⟩
     have gB1 := (gB.keep hb).alloc (.cells #[.int .i64 (nn : Nat), .int .i64 (L3 : Nat)] 33)
     obtain ⟨q0, q1⟩ := gB.keep hb
     have hcl := (gB.keep hb).lt
     have hne : ¬ C = w1.heap.size := Nat.ne_of_lt hcl
     have hB1 := (hA.trans (hb.mono hA.size)).alloc (hA.trans (hb.mono hA.size)).size (.cells #[.int .i64 (nn : Nat), .int .i64 (L3 : Nat)] 33)
     clear hD
     go_wp2_with fail
     go_ret
     exact ⟨by rw [hno.out]; rfl, hB1⟩
   ·have hW4 : ¬ (nn : Int) = W := fun h => hW2 h.symm
    have hno := lh (show laneB I W L ln = false from by rw [hr, decide_eq_false (p := W = (nn : Nat) ∧ L = (L3 : Nat)) (fun h => hW2 h.1), Bool.and_false, Bool.false_and])
    clear hr
    go_enter Tryz.func40, Tryz.ntmps40
    go_wp2_with fail
    refine (hD.out _ hA).mono ?_
    rintro e w1 ⟨rfl, hb⟩
    have gB1 := (gB.keep hb).alloc (.cells #[.int .i64 (nn : Nat), .int .i64 (L3 : Nat)] 33)
    obtain ⟨q0, q1⟩ := gB.keep hb
    have hcl := (gB.keep hb).lt
    have hne : ¬ C = w1.heap.size := Nat.ne_of_lt hcl
    have hB1 := (hA.trans (hb.mono hA.size)).alloc (hA.trans (hb.mono hA.size)).size (.cells #[.int .i64 (nn : Nat), .int .i64 (L3 : Nat)] 33)
    clear hD
    go_wp2_with fail
    go_ret
    exact ⟨by rw [hno.out]; rfl, hB1⟩
end Go.Proofs.YtkdhdibjbabgfaaGreatDoor
end
