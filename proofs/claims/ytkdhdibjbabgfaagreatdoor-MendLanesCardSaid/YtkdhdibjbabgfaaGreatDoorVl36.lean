/-
  Part of the proof of MendLanes.
-/
import Derived.Test.YtkdhdibjbabgfaaGreatDoorVl1
import Derived.Test.YtkdhdibjbabgfaaGreatDoorVl10
import Derived.Test.YtkdhdibjbabgfaaGreatDoorVl11
import Derived.Test.YtkdhdibjbabgfaaGreatDoorVl13
import Derived.Test.YtkdhdibjbabgfaaGreatDoorVl32
import Derived.Test.YtkdhdibjbabgfaaGreatDoorVl35
import Derived.Test.YtkdhdibjbabgfaaGreatDoorRows
import Derived.Deep.RegionHeld3
import Derived.WalkLawsBesides
import Derived.WalkSpells
import Derived.Test.YtkdhdibjbabgfaaGreatDoorVl0
set_option maxRecDepth 10000
set_option maxHeartbeats 1000000
set_option linter.unusedVariables false
set_option linter.unusedSimpArgs false
section
namespace Go.Proofs.YtkdhdibjbabgfaaGreatDoor
open Go.Lib Go.RowKit Go.ChangeShapes Go.WideShapes Go.Deep
theorem run_slice3 {P : Program} {ty el : TypeId} {i0 : TypeInfo} (hu : P.underlying ty = some (.slice el)) (hi : P.info? el = some i0) (h1 : i0.size = 1) (g off n cap f e m : Nat) (h : f ≤ e) (h2 : e ≤ cap) (hm : m = e - f) (hm0 : 0 < m) (w : World) :
 (Instr.slice ty (.slice (some ⟨g, off, none⟩) n cap) (some (.int .i64 (f : Int))) (some (.int .i64 (e : Int))) (some (.int .i64 (e : Int)))).run P w = .ok (.slice (some ⟨g, off + f, none⟩) m m) w := by
 have h3 : (e : Int) ≤ (cap : Int) := by omega
 have h4 : (0 : Int) ≤ (e : Int) := by omega
 have h5 : (f : Int) ≤ (e : Int) := by omega
 have h6 : (0 : Int) ≤ (f : Int) := by omega
 subst hm
 simp [Instr.slice, run_underlying hu, Instr.sliceBounds, Instr.sliceBound, asIntOf, sizeOf, typeInfo, hi, h1, h3, h4, h5, h6, go_sem]
 rw [if_pos h2, if_pos h, if_neg (by omega)]
theorem mwords_any (g off n cap f m : Nat) (w : World) (h1 : f + m ≤ n) (h2 : n ≤ cap) (h3 : 1 ≤ m) (hn : n ≤ 100000) :
 Calls Tryz.prog 66 #[.slice (some ⟨g, off, none⟩) n cap, .agg #[.int .i64 (f : Nat), .int .i64 (m : Nat)]] w fun e w' => e = .returned (.slice (some ⟨g, off + f, none⟩) m m) ∧ Below w.heap.size w w' := by
 have hA := bZ w (.cells #[.int .i64 (f : Nat), .int .i64 (m : Nat)] 51)
 obtain ⟨e, he⟩ : ∃ e, f + m = e := ⟨_, rfl⟩
 have w1 : IntKind.i64.wrap ((f : Int) + (m : Int)) = (e : Int) := by rw [IntKind.wrap_i64]; omega
 have w2 : (f : Int) + (m : Int) = (e : Int) := by omega
 obtain ⟨i0, hi, hz0, hz1, hz2⟩ := info_parts infoU64
 have hS := fun w => run_slice3 (P := Tryz.prog) Tryz.underlying23 hi hz1 g off n cap f e m (by omega) (by omega) (by omega) (by omega) w
 replace he := lh he
 go_enter Tryz.func66, Tryz.ntmps66
 go_wp2_with fail
 go_ret
 exact ⟨rfl, hA⟩
theorem inCh_eq {N L : Nat} (h : gOk (N : Nat) (L : Nat) = true) (a : Int) : inCh N L a = decide (cFrom (N : Nat) (L : Nat) 0 ≤ a ∧ a < cFrom (N : Nat) (L : Nat) (gN (N : Nat) (L : Nat))) := by
 obtain ⟨s1, s2, s3, s4, s5, s6, s7, s8⟩ := pool_size h
 unfold inCh cFrom
 rw [s5]
 have e1 : (((10 + 73 * L + gNat N L : Nat)) : Int) = 10 + 73 * (L : Int) + (gNat N L : Nat) + 0 * 32 := by push_cast; omega
 have e2 : (((10 + 73 * L + gNat N L + gNat N L * 32 : Nat)) : Int) = 10 + 73 * (L : Int) + (gNat N L : Nat) + (gNat N L : Nat) * 32 := by push_cast; rfl
 rw [e1, e2]
theorem inCh_any (N L : Nat) (a : Int) (w : World) (h : gOk (N : Nat) (L : Nat) = true) :
 Calls Tryz.prog 102 #[.agg #[.int .i64 (N : Nat), .int .i64 (L : Nat)], .int .i64 a] w fun e w' => e = .returned (.bool (inCh N L a)) ∧ Below w.heap.size w w' := by
 have hA := bZ w (.cells #[.int .i64 (N : Nat), .int .i64 (L : Nat)] 33)
 have hO : ∀ w1, Calls Tryz.prog 126 #[.agg #[.int .i64 (N : Nat), .int .i64 (L : Nat)], .int .i64 a] w1 fun e w' => (∃ x y : Int, e = .returned (.tuple #[.int .i64 x, .int .i64 y]) ∧ decide (0 ≤ x) = inCh N L a) ∧ Below w1.heap.size w1 w' := fun w1 => by
  rw [inCh_eq h]
  by_cases h1 : cFrom (N : Nat) (L : Nat) 0 ≤ a
  ·by_cases h2 : a < cFrom (N : Nat) (L : Nat) (gN (N : Nat) (L : Nat))
   ·refine (of_yes _ _ a w1 h h1 h2).mono ?_
    rintro e w' ⟨rfl, hb⟩
    exact ⟨⟨_, _, rfl, by rw [decide_eq_true (show cFrom (N : Nat) (L : Nat) 0 ≤ a ∧ a < cFrom (N : Nat) (L : Nat) (gN (N : Nat) (L : Nat)) from ⟨h1, h2⟩)]; exact decide_eq_true (by omega)⟩, hb⟩
   ·refine (of_high _ _ a w1 h h1 (by omega)).mono ?_
    rintro e w' ⟨rfl, hb⟩
    exact ⟨⟨_, _, rfl, by rw [decide_eq_false (show ¬ (cFrom (N : Nat) (L : Nat) 0 ≤ a ∧ a < cFrom (N : Nat) (L : Nat) (gN (N : Nat) (L : Nat))) from fun q => h2 q.2)]; rfl⟩, hb⟩
  ·refine (of_low _ _ a w1 h (by omega)).mono ?_
   rintro e w' ⟨rfl, hb⟩
   exact ⟨⟨_, _, rfl, by rw [decide_eq_false (show ¬ (cFrom (N : Nat) (L : Nat) 0 ≤ a ∧ a < cFrom (N : Nat) (L : Nat) (gN (N : Nat) (L : Nat))) from fun q => h1 q.1)]; rfl⟩, hb⟩
 have hOx := hO (w.alloc (.cells #[.int .i64 (N : Nat), .int .i64 (L : Nat)] 33))
 generalize inCh N L a = r at *
 clear hO h
 go_enter Tryz.func102, Tryz.ntmps102
 go_wp2_with fail
 refine hOx.mono ?_
 rintro e w1 ⟨⟨x, y, rfl, hx⟩, hb⟩
 have hB := hA.trans (hb.mono hA.size)
 clear hOx
 go_wp2_with fail
 go_ret
 exact ⟨by first | exact congrArg (fun b => Ending.returned (.bool b)) hx | rfl, hB⟩
end Go.Proofs.YtkdhdibjbabgfaaGreatDoor
end
section
namespace Go.Proofs.YtkdhdibjbabgfaaGreatDoor
open Go.Lib Go.RowKit Go.ChangeShapes Go.WideShapes Go.Deep
theorem KL.part {K : IntKind} {w : World} {g off n cap : Nat} {l : List Nat} (h : KL K w (.slice (some ⟨g, off, none⟩) n cap) l) (hn : l.length = n) (f m : Nat) (hf : f + m ≤ n) : KL K w (.slice (some ⟨g, off + f, none⟩) m m) ((l.drop f).take m) := by
 obtain ⟨A, c, hv, h⟩ := h
 simp only [Value.slice.injEq] at hv
 obtain ⟨rfl, -, rfl⟩ := hv
 have hlen : ((l.drop f).take m).length = m := by rw [List.length_take, List.length_drop]; omega
 refine ⟨_, m, by rw [hlen], fun hp => ?_⟩
 rw [hlen] at hp
 obtain ⟨g2, o2, hA, hg, hc, hi⟩ := h (by omega)
 cases hA
 refine ⟨g, off + f, rfl, hg, by rw [hlen]; omega, fun i hi2 => ?_⟩
 rw [hlen] at hi2
 have := hi (f + i) (by omega)
 rw [Nat.add_assoc, this]
 have e : ((l.drop f).take m).getD i 0 = l.getD (f + i) 0 := by
  rw [List.getD_eq_getElem?_getD, List.getD_eq_getElem?_getD, List.getElem?_take, if_pos hi2, List.getElem?_drop]
 rw [e]
theorem KL.addr {K : IntKind} {w : World} {v : Value} {l : List Nat} {n : Nat} (h : KL K w v l) (hn : l.length = n) (hp : 0 < n) : ∃ g off cap, v = .slice (some ⟨g, off, none⟩) n cap ∧ n ≤ cap ∧ g < w.heap.size := by
 obtain ⟨A, c, hv, h⟩ := h
 obtain ⟨g, off, rfl, hg, hc, _⟩ := h (by omega)
 exact ⟨g, off, c, by rw [hv, hn], by omega, hg⟩
theorem WL.part {l : List Nat} (h : WL l) (f m : Nat) : WL ((l.drop f).take m) := fun x hx => h x (List.mem_of_mem_drop (List.mem_of_mem_take hx))
theorem readable_any (v : Value) (I : List Nat) (W L : Int) (w : World) (hw : Lw w) (hW : WL I) (hv : KL .u64 w v I) :
 Calls Tryz.prog 38 #[v, .agg #[.int .i64 W, .int .i64 L]] w fun e w' => e = .returned (.bool (readB I W L)) ∧ Below w.heap.size w w' := by
 have hA := bZ w (.cells #[.int .i64 W, .int .i64 L] 33)
 have hD := dec_any v I _ hW (KL.sl (hv.keep hA))
 obtain ⟨nn, hnn⟩ : ∃ n, I.length = n := ⟨_, rfl⟩
 cases hs : sOk I with
 | false =>
   have hr : readB I W L = false := by unfold readB poolB; rw [hs]; rfl
   rw [hs] at hD
   rw [hr]
   obtain ⟨A, cap, rfl, _⟩ := hv.form hnn
   replace hD : Calls Tryz.prog 49 #[.slice A nn cap] (w.alloc (.cells #[.int .i64 W, .int .i64 L] 33)) (fun e w' => e = .returned (.tuple #[.agg #[.int .i64 0, .int .i64 0], .int .i64 7]) ∧ Below (w.alloc (.cells #[.int .i64 W, .int .i64 L] 33)).heap.size (w.alloc (.cells #[.int .i64 W, .int .i64 L] 33)) w') := hD
   clear hr hs hv hW hw
   replace hnn := lh hnn
   go_enter Tryz.func38, Tryz.ntmps38
   go_wp2_with fail
   refine hD.mono ?_
   rintro e w1 ⟨rfl, hb⟩
   have hB1 := (hA.trans (hb.mono hA.size)).alloc (hA.trans (hb.mono hA.size)).size (.cells #[.int .i64 0, .int .i64 0] 33)
   clear hD
   go_wp2_with fail
   go_ret
   exact ⟨rfl, hB1⟩
 | true =>
   obtain ⟨g8, hgk⟩ := gOk_pool hs
   obtain ⟨s1, s2, s3, s4, s5, s6, s7, s8⟩ := pool_size hgk
   obtain ⟨G, hG⟩ : ∃ G, gNat I.length (I.getD 3 0) = G := ⟨_, rfl⟩
   obtain ⟨L3, hL3⟩ : ∃ L3, I.getD 3 0 = L3 := ⟨_, rfl⟩
   rw [hG] at s5 s6 s7 s8
   rw [hL3] at s1 s2 s4 s5 s8 hgk
   have hTl := tabW_len hgk
   have hTl2 : (tabW I L3).length = G := by rw [hTl, ← hL3]; exact hG
   have hTw := hW.part (10 + 73 * L3) G
   have hTk : tabW I L3 = (I.drop (10 + 73 * L3)).take G := by unfold tabW; rw [← hL3, hG]
   rw [← hTk] at hTw
   have hTb := table_t (I.length : Nat) (L3 : Nat)
   rw [hnn] at s3 s4 s5 s8 hgk hTb
   have hTb2 := lh (fun w1 => hTb w1 hgk)
   rw [s5] at hTb2
   obtain ⟨g, off, cap, rfl, hcap, hgs⟩ := hv.addr hnn (by omega)
   obtain ⟨F, hF⟩ : ∃ F, 10 + 73 * L3 = F := ⟨_, rfl⟩
   have hF' : (10 + 73 * (L3 : Int)) = (F : Int) := by omega
   rw [hF'] at hTb2
   have hWd := lh (fun w1 => mwords_any g off nn cap F G w1 (by omega) hcap (by omega) (by omega))
   have hCh := lh (fun w1 (hb : Below w.heap.size w w1) => chunks_any (.slice (some ⟨g, off + F, none⟩) G G) (tabW I L3) w1 (hw.keep hb) (by rw [hTk, hF]; exact (hv.keep hb).part hnn F G (by omega)) hTw (by rw [hTl2]; omega))
   rw [hs, hL3, hnn] at hD
   replace hD : Calls Tryz.prog 49 #[.slice (some ⟨g, off, none⟩) nn cap] (w.alloc (.cells #[.int .i64 W, .int .i64 L] 33)) (fun e w' => e = .returned (.tuple #[.agg #[.int .i64 (nn : Nat), .int .i64 (L3 : Nat)], .int .i64 0]) ∧ Below (w.alloc (.cells #[.int .i64 W, .int .i64 L] 33)).heap.size (w.alloc (.cells #[.int .i64 W, .int .i64 L] 33)) w') := hD
   have hr : readB I W L = ((tabW I L3).all okN && decide (W = (nn : Nat) ∧ L = (L3 : Nat))) := by unfold readB poolB; rw [hs, hL3, hnn, Bool.true_and]
   rw [hr]
   replace hr := lh hr
   replace hL3 := lh hL3
   replace hnn := lh hnn
   replace hG := lh hG
   replace hF := lh hF
   obtain ⟨C, hC⟩ : ∃ C, w.heap.size = C := ⟨_, rfl⟩
   have gB := C2.new w (.int .i64 W) (.int .i64 L) 33
   clear hv hW hw hs hTl hTw hTk hTb g8
   by_cases hg : W = (nn : Nat) ∧ L = (L3 : Nat)
   ·obtain ⟨rfl, rfl⟩ := hg
    rw [decide_eq_true (p := ((nn : Int) = (nn : Nat) ∧ (L3 : Int) = (L3 : Nat))) ⟨rfl, rfl⟩, Bool.and_true]
    go_enter Tryz.func38, Tryz.ntmps38
    go_wp2_with fail
    refine hD.mono ?_
    rintro e w1 ⟨rfl, hb⟩
    have gB1 := (gB.keep hb).alloc (.cells #[.int .i64 (nn : Nat), .int .i64 (L3 : Nat)] 33)
    obtain ⟨q0, q1⟩ := gB.keep hb
    have hcl := (gB.keep hb).lt
    rw [hC] at q0 q1 gB1 hcl
    have hne : ¬ C = w1.heap.size := Nat.ne_of_lt hcl
    have hB1 := (hA.trans (hb.mono hA.size)).alloc (hA.trans (hb.mono hA.size)).size (.cells #[.int .i64 (nn : Nat), .int .i64 (L3 : Nat)] 33)
    clear hD
    go_wp2_with fail
    refine (hTb2.out _).mono ?_
    rintro e w2 ⟨rfl, hb2⟩
    have hB2 := hB1.trans (hb2.mono hB1.size)
    go_wp2_with fail
    refine (hWd.out _).mono ?_
    rintro e w3 ⟨rfl, hb3⟩
    have hB3 := hB2.trans (hb3.mono hB2.size)
    go_wp2_with fail
    refine (hCh.out _ hB3).mono ?_
    rintro e w4 ⟨hP, hb4⟩
    have hB4 := hB3.trans (hb4.mono hB3.size)
    rcases hP with ⟨hall, v', rfl, -⟩ | ⟨hall, rfl⟩
    ·go_wp2_with fail
     go_ret
     exact ⟨by rw [hall]; rfl, hB4⟩
    ·go_wp2_with fail
     go_ret
     exact ⟨by rw [hall]; rfl, hB4⟩
   ·have hgd : decide (W = (nn : Nat) ∧ L = (L3 : Nat)) = false := decide_eq_false hg
    rw [hgd, Bool.and_false]
    clear hgd hr
    by_cases hW2 : W = (nn : Nat)
    ·have hL2 : ¬ L = (L3 : Nat) := fun h => hg ⟨hW2, h⟩
     have hL4 : ¬ (L3 : Int) = L := fun h => hL2 h.symm
     subst hW2
     clear hg
     go_enter Tryz.func38, Tryz.ntmps38
     go_wp2_with fail
     refine hD.mono ?_
     rintro e w1 ⟨rfl, hb⟩
     have gB1 := (gB.keep hb).alloc (.cells #[.int .i64 (nn : Nat), .int .i64 (L3 : Nat)] 33)
     obtain ⟨q0, q1⟩ := gB.keep hb
     have hcl := (gB.keep hb).lt
     rw [hC] at q0 q1 gB1 hcl
     have hne : ¬ C = w1.heap.size := Nat.ne_of_lt hcl
     have hB1 := (hA.trans (hb.mono hA.size)).alloc (hA.trans (hb.mono hA.size)).size (.cells #[.int .i64 (nn : Nat), .int .i64 (L3 : Nat)] 33)
     clear hD
     go_wp2_with fail
     go_ret
     exact ⟨rfl, hB1⟩
    ·have hW4 : ¬ (nn : Int) = W := fun h => hW2 h.symm
     clear hg
     go_enter Tryz.func38, Tryz.ntmps38
     go_wp2_with fail
     refine hD.mono ?_
     rintro e w1 ⟨rfl, hb⟩
     have gB1 := (gB.keep hb).alloc (.cells #[.int .i64 (nn : Nat), .int .i64 (L3 : Nat)] 33)
     obtain ⟨q0, q1⟩ := gB.keep hb
     have hcl := (gB.keep hb).lt
     rw [hC] at q0 q1 gB1 hcl
     have hne : ¬ C = w1.heap.size := Nat.ne_of_lt hcl
     have hB1 := (hA.trans (hb.mono hA.size)).alloc (hA.trans (hb.mono hA.size)).size (.cells #[.int .i64 (nn : Nat), .int .i64 (L3 : Nat)] 33)
     clear hD
     go_wp2_with fail
     go_ret
     exact ⟨rfl, hB1⟩
end Go.Proofs.YtkdhdibjbabgfaaGreatDoor
end
