/-
  Part of the proof of JournalSteps.
-/
import Derived.Test.YtkkbngcgphlikaaGreatDoorJt30
import Derived.Test.YtkkbngcgphlikaaGreatDoorRows
import Derived.Test.YtkkbngcgphlikaaGreatDoorJt0
set_option maxRecDepth 10000
set_option maxHeartbeats 1000000
set_option linter.unusedVariables false
set_option linter.unusedSimpArgs false
section
namespace Go.Proofs.YtkkbngcgphlikaaGreatDoor
open Go.RowKit Go.ChangeShapes Go.WideShapes Go.Deep Go.Maps
def iE (x : Int) : List Value := [.int .i64 x]
theorem iE_len (x : Int) : (iE x).length = 1 := rfl
theorem iT_pm : ElT Tryz.prog 84 3 1 8 iE :=
 ⟨Tryz.underlying84, by obtain ⟨i0, h1, h2, h3, h4⟩ := info_parts infoInt; exact ⟨i0, _, h1, h2, h3, h4, rfl⟩, iE_len, fun x u hu => by simp only [iE, List.mem_cons, List.not_mem_nil, or_false] at hu; subst hu; rfl, by decide, by decide⟩
theorem row_ne {w : World} {base sz : Nat} {e t : TypeId} {v : Value} {n : Nat} {xs : List Value} {B : Nat} {cs : Array Value} {f : Nat × Nat} (h : w.ownsRow base e sz v n xs) (hb : w.heap[B]? = some (.cells cs t f)) (hne : t ≠ e) : ∀ k, v.ownBlock = some k → k ≠ B := by
 rintro k hk rfl
 rcases h.2 with ⟨rfl, _⟩ | ⟨g, cap, cur, rfl, _, hg, _⟩
 ·cases hk
 cases hk
 rw [hb] at hg
 cases hg
 exact hne rfl
theorem cell_blk {w : World} {B o : Nat} {cs : Array Value} {t : TypeId} {v : Value} (h : w.heap[B]? = some (.cells cs t (0, 0))) (ho : cs[o]? = some v) : w.cell? ⟨B, o, none⟩ = some v ∧ w.frozen? ⟨B, o, none⟩ = false := by
 constructor
 ·simp [World.cell?, h, ho]
 simp [World.frozen?, h]
structure St_pm where
 noted : List Sp
 fresh : Gf
 n : Nat
 depth : Int
 bad : Bool
 gone : List Int
 root : Int
 named : Bool
def st0 : St_pm := ⟨[], fun _ => none, 0, 0, false, [], 0, false⟩
theorem one_int (w : World) (x : Int) : EL 1 iE (w.alloc (.cells #[.int .i64 x] (3 : Nat))) (.slice (some ⟨w.heap.size, 0, none⟩) 1 1) [x] := (OwnE.lit 3 iE_len w [x] #[.int .i64 x] rfl (by simp)).el iE_len
end Go.Proofs.YtkkbngcgphlikaaGreatDoor
end
section
namespace Go.Proofs.YtkkbngcgphlikaaGreatDoor
theorem nodup_len : ∀ (n : Nat) (l : List Nat), l.Nodup → (∀ x ∈ l, x < n) → l.length ≤ n
 | 0, l, _, h => by
   cases l with
   | nil => simp
   | cons a l => exact absurd (h a (by simp)) (by omega)
 | n + 1, l, hd, h => by
   by_cases hm : n ∈ l
   ·have h1 := nodup_len n (l.erase n) (hd.erase n) (fun x hx => by
     have h2 := (hd.mem_erase_iff).1 hx
     have := h x h2.2
     have := h2.1
     omega)
    rw [List.length_erase_of_mem hm] at h1
    omega
   ·have h1 := nodup_len n l hd (fun x hx => by
     have := h x hx
     have : x ≠ n := fun q => hm (q ▸ hx)
     omega)
    omega
theorem logs_few (t : List Nat) (ln : Int) : (logsT t ln).length ≤ t.length := by
 refine nodup_len _ _ ?_ logs_bd
 unfold logsT
 split
 ·exact (logsR_srt t ln t.length (Nat.le_refl _) 8).imp (fun h q => by rw [q] at h; exact Int.lt_irrefl _ h)
 exact List.nodup_nil
theorem logSp_len {I : List Nat} {L ln : Nat} (h : gOk (I.length : Nat) (L : Nat) = true) : (logSp I L ln).length ≤ 1 + gNat I.length L := by
 have h1 := logs_few (tabW I L) (ln : Nat)
 rw [tabW_len h] at h1
 unfold logSp
 rw [List.length_cons, List.length_map]
 omega
theorem logSp_in {I : List Nat} {L ln : Nat} (h : gOk (I.length : Nat) (L : Nat) = true) (hl : ln < L) : ∀ x ∈ logSp I L ln, 0 ≤ x.1 ∧ x.2 = 32 ∧ x.1 + 32 ≤ (I.length : Nat) := by
 obtain ⟨s1, s2, s3, s4, s5, s6, s7, s8⟩ := pool_size h
 intro x hx
 unfold logSp at hx
 rcases List.mem_cons.1 hx with rfl | hx
 ·exact ⟨by simp only []; omega, rfl, by simp only []; omega⟩
 obtain ⟨i, hi, rfl⟩ := List.mem_map.1 hx
 have := logs_bd i hi
 rw [tabW_len h] at this
 unfold chSp
 exact ⟨by simp only []; omega, rfl, by simp only []; omega⟩
theorem logSp_PB {I : List Nat} {L ln : Nat} (h : gOk (I.length : Nat) (L : Nat) = true) (hl : ln < L) : PBs (logSp I L ln) := fun x hx => by
 have h1 := logSp_in h hl x hx
 have := (pool_size h).2.2.1
 unfold PB
 omega
end Go.Proofs.YtkkbngcgphlikaaGreatDoor
end
section
namespace Go.Proofs.YtkkbngcgphlikaaGreatDoor
theorem pwL_min (x : Sp) (m k : Nat) : (pwL x m).take k = pwL x (min k m) := by
 unfold pwL
 rw [← List.map_take, List.take_range]
theorem pwL_len (x : Sp) (m : Nat) : (pwL x m).length = m := by unfold pwL; simp
theorem places_inter1 (x : Sp) (c n : Int) (hn : 0 ≤ n) : placesL (inter1 n (0, c) x) = (pwL x x.2.toNat).take (c - n).toNat := by
 rw [pwL_min]
 unfold inter1
 simp only []
 by_cases h : max (0 - n) 0 < min (0 + c - n) x.2
 ·rw [if_pos h]
  unfold placesL
  simp only [List.flatMap_cons, List.flatMap_nil, List.append_nil]
  have e1 : max (0 - n) 0 = 0 := by omega
  rw [e1] at h ⊢
  have e2 : (min (0 + c - n) x.2 - 0).toNat = min (c - n).toNat x.2.toNat := by omega
  rw [e2]
  unfold pwL
  simp only [Int.add_zero]
 rw [if_neg h]
 have e : min (c - n).toNat x.2.toNat = 0 := by omega
 rw [e]
 rfl
theorem places_inter (c : Int) : ∀ (l : List Sp) (n : Int), 0 ≤ n → Npos l → placesL (interL (0, c) n l) = (placesL l).take (c - n).toNat
 | [], n, _, _ => by simp [interL, placesL]
 | x :: l, n, hn, hl => by
   have hx := hl x (by simp)
   have ih := places_inter c l (n + x.2) (by omega) (fun y hy => hl y (List.mem_cons_of_mem _ hy))
   have e0 : placesL (x :: l) = pwL x x.2.toNat ++ placesL l := rfl
   have e1 : placesL (interL (0, c) n (x :: l)) = placesL (inter1 n (0, c) x) ++ placesL (interL (0, c) (n + x.2) l) := by
    rw [interL]; unfold placesL; rw [List.flatMap_append]
   rw [e1, ih, places_inter1 x c n hn, e0, List.take_append, pwL_len]
   rw [show (c - (n + x.2)).toNat = (c - n).toNat - x.2.toNat from by omega]
theorem gath_cut (I : List Nat) {l : List Sp} (hl : PBs l) (c : Nat) (h : (c : Int) ≤ totS l) : gathL I (cutL l (0, (c : Int))) = (gathL I l).take c := by
 unfold cutL gathL
 simp only []
 by_cases h0 : (c : Int) < 1
 ·rw [if_pos (.inr h0), show c = 0 from by omega]; rfl
 rw [if_neg (by omega), if_pos (by omega), places_inter (c : Int) l 0 (Int.le_refl _) hl.np, ← List.map_take, show ((c : Int) - 0).toNat = c from by omega]
theorem gath_len (I : List Nat) {l : List Sp} (hl : PBs l) : (gathL I l).length = (totS l).toNat := by
 unfold gathL; rw [List.length_map, (placesL_len l hl).1]
theorem gath_WL {I : List Nat} (h : WL I) (l : List Sp) : WL (gathL I l) := fun x hx => by
 obtain ⟨y, _, rfl⟩ := List.mem_map.1 hx
 unfold imgAt
 split
 ·exact h.getN _
 ·decide
end Go.Proofs.YtkkbngcgphlikaaGreatDoor
end
section
namespace Go.Proofs.YtkkbngcgphlikaaGreatDoor
open Go.Lib Go.RowKit Go.ChangeShapes Go.WideShapes Go.Deep
theorem run_slice2 {P : Program} {ty el : TypeId} {i0 : TypeInfo} (hu : P.underlying ty = some (.slice el)) (hi : P.info? el = some i0) (h1 : i0.size = 1) (g off n cap f e m : Nat) (h : f ≤ e) (h2 : e ≤ cap) (hm : m = e - f) (hm0 : 0 < m) (w : World) :
 (Instr.slice ty (.slice (some ⟨g, off, none⟩) n cap) (some (.int .i64 (f : Int))) (some (.int .i64 (e : Int))) none).run P w = .ok (.slice (some ⟨g, off + f, none⟩) m (cap - f)) w := by
 have h3 : (e : Int) ≤ (cap : Int) := by omega
 have h4 : (0 : Int) ≤ (e : Int) := by omega
 have h5 : (f : Int) ≤ (e : Int) := by omega
 have h6 : (0 : Int) ≤ (f : Int) := by omega
 subst hm
 simp [Instr.slice, run_underlying hu, Instr.sliceBounds, Instr.sliceBound, asIntOf, sizeOf, typeInfo, hi, h1, h3, h4, h5, h6, go_sem]
 rw [if_pos h2, if_pos h, if_neg (by omega)]
theorem KL.partC {K : IntKind} {w : World} {g off n cap : Nat} {l : List Nat} (h : KL K w (.slice (some ⟨g, off, none⟩) n cap) l) (hn : l.length = n) (f m c : Nat) (hf : f + m ≤ n) (hc : m ≤ c) : KL K w (.slice (some ⟨g, off + f, none⟩) m c) ((l.drop f).take m) := by
 have h1 := h.part hn f m hf
 have hlen : ((l.drop f).take m).length = m := by rw [List.length_take, List.length_drop]; omega
 obtain ⟨A, c2, hv, h2⟩ := h1
 simp only [Value.slice.injEq] at hv
 obtain ⟨rfl, -, rfl⟩ := hv
 refine ⟨_, c, by rw [hlen], fun hp => ?_⟩
 obtain ⟨g2, o2, hA, hg, _, hi⟩ := h2 hp
 exact ⟨g2, o2, hA, hg, by rw [hlen]; exact hc, hi⟩
theorem part15_any (g off n cap f m : Nat) (w : World) (h1 : f + m ≤ n) (h2 : n ≤ cap) (h3 : 1 ≤ m) (hn : n ≤ 100000) :
 Calls Tryz.prog 48 #[.slice (some ⟨g, off, none⟩) n cap, .agg #[.int .i64 (f : Nat), .int .i64 (m : Nat)]] w fun e w' => e = .returned (.slice (some ⟨g, off + f, none⟩) m (cap - f)) ∧ Below w.heap.size w w' := by
 have hA := bZ w (.cells #[.int .i64 (f : Nat), .int .i64 (m : Nat)] 70)
 obtain ⟨e, he⟩ : ∃ e, f + m = e := ⟨_, rfl⟩
 have w1 : IntKind.i64.wrap ((f : Int) + (m : Int)) = (e : Int) := by rw [IntKind.wrap_i64]; omega
 have w2 : (f : Int) + (m : Int) = (e : Int) := by omega
 obtain ⟨i0, hi, hz0, hz1, hz2⟩ := info_parts infoU64
 have hS := fun w => run_slice2 (P := Tryz.prog) Tryz.underlying25 hi hz1 g off n cap f e m (by omega) (by omega) (by omega) (by omega) w
 replace he := lh he
 go_enter Tryz.func48, Tryz.ntmps48
 go_wp2_with fail
 go_ret
 exact ⟨rfl, hA⟩
end Go.Proofs.YtkkbngcgphlikaaGreatDoor
end
section
namespace Go.Proofs.YtkkbngcgphlikaaGreatDoor
open Go.Lib Go.RowKit Go.ChangeShapes Go.WideShapes Go.Deep
theorem pool_any (v : Value) (I : List Nat) (W L ln : Int) (w : World) (hw : Lw w) (hW : WL I) (hv : KL .u64 w v I) (hlen : I.length ≤ 100000) :
 Calls Tryz.prog 137 #[v, .agg #[.int .i64 W, .int .i64 L], .int .i64 ln] w fun e w' => e = .returned (.bool (laneB I W L ln)) ∧ Below w.heap.size w w' := by
 have hA := bZ w (.cells #[.int .i64 W, .int .i64 L] 37)
 obtain ⟨nn, hnn⟩ : ∃ n, I.length = n := ⟨_, rfl⟩
 have hD := fun w1 (hb : Below w.heap.size w w1) => rdec_any v I nn w1 hnn (by omega) (KL.sl (hv.keep hb))
 have gB := C2.new w (.int .i64 W) (.int .i64 L) 37
 obtain ⟨C, hC⟩ : ∃ C, w.heap.size = C := ⟨_, rfl⟩
 cases hs : sOk I with
 | false =>
   have hno := lh (show laneB I W L ln = false from by unfold laneB readB poolB; rw [hs]; rfl)
   obtain ⟨A, cap, rfl, _⟩ := hv.form hnn
   rw [hs] at hD
   replace hD := lh (fun w1 hb => show Calls Tryz.prog 39 #[.slice A nn cap] w1 (fun e w' => e = .returned (.tuple #[.agg #[.int .i64 0, .int .i64 0], .int .i64 7]) ∧ Below w1.heap.size w1 w') from hD w1 hb)
   rw [hC] at gB
   clear hs hv hW hw
   replace hnn := lh hnn
   go_enter Tryz.func137, Tryz.ntmps137
   go_wp2_with fail
   refine (hD.out _ hA).mono ?_
   rintro e w1 ⟨rfl, hb⟩
   have gB1 := (gB.keep hb).alloc (.cells #[.int .i64 0, .int .i64 0] 37)
   obtain ⟨q0, q1⟩ := gB.keep hb
   have hcl := (gB.keep hb).lt
   have hne : ¬ C = w1.heap.size := Nat.ne_of_lt hcl
   have hB1 := (hA.trans (hb.mono hA.size)).alloc (hA.trans (hb.mono hA.size)).size (.cells #[.int .i64 0, .int .i64 0] 37)
   clear hD
   go_wp2_with fail
   go_ret
   exact ⟨by rw [hno.out]; rfl, hB1⟩
 | true =>
   obtain ⟨g8, hgk⟩ := gOk_pool hs
   obtain ⟨s1, s2, s3, s4, s5, s6, s7, s8⟩ := pool_size hgk
   obtain ⟨G, hG⟩ : ∃ G, gNat I.length (I.getD 3 0) = G := ⟨_, rfl⟩
   obtain ⟨L3, hL3⟩ : ∃ L3, I.getD 3 0 = L3 := ⟨_, rfl⟩
   rw [hG] at s5 s6 s7 s8
   rw [hL3] at s1 s2 s4 s5 s8 hgk
   have hTl := tabW_len hgk
   have hTl2 : (tabW I L3).length = G := by rw [hTl, ← hL3]; exact hG
   have hTw := hW.part (10 + 73 * L3) G
   have hTk : tabW I L3 = (I.drop (10 + 73 * L3)).take G := by unfold tabW; rw [← hL3, hG]
   rw [← hTk] at hTw
   have hTb := refTable_t (I.length : Nat) (L3 : Nat)
   rw [hnn] at s3 s4 s5 s8 hgk hTb
   replace hTb := lh (fun w1 => hTb w1 hgk)
   rw [s5] at hTb
   obtain ⟨g, off, cap, rfl, hcap, hgs⟩ := hv.addr hnn (by omega)
   obtain ⟨F, hF⟩ : ∃ F, 10 + 73 * L3 = F := ⟨_, rfl⟩
   have hF' : (10 + 73 * (L3 : Int)) = (F : Int) := by omega
   rw [hF'] at hTb
   have hWd := lh (fun w1 => part15_any g off nn cap F G w1 (by omega) hcap (by omega) (by omega))
   have hCh := lh (fun w1 (hb : Below w.heap.size w w1) => refChunks_any (.slice (some ⟨g, off + F, none⟩) G (cap - F)) (tabW I L3) w1 (hw.keep hb) (by rw [hTk, hF]; exact (hv.keep hb).partC hnn F G _ (by omega) (by omega)) hTw (by rw [hTl2]; omega))
   rw [hs, hL3] at hD
   replace hD := lh (fun w1 hb => show Calls Tryz.prog 39 #[.slice (some ⟨g, off, none⟩) nn cap] w1 (fun e w' => e = .returned (.tuple #[.agg #[.int .i64 (nn : Nat), .int .i64 (L3 : Nat)], .int .i64 0]) ∧ Below w1.heap.size w1 w') from hD w1 hb)
   have hr : laneB I W L ln = ((tabW I L3).all okN && decide (W = (nn : Nat) ∧ L = (L3 : Nat)) && decide (0 ≤ ln ∧ ln < L)) := by unfold laneB readB poolB; rw [hs, hL3, hnn, Bool.true_and]
   replace hL3 := lh hL3
   replace hnn := lh hnn
   replace hG := lh hG
   replace hF := lh hF
   rw [hC] at gB
   clear hv hW hw hs hTl hTw hTk g8 hTl2
   by_cases hW2 : W = (nn : Nat)
   rotate_left
   ·have hW4 : ¬ (nn : Int) = W := fun h => hW2 h.symm
    have hno := lh (show laneB I W L ln = false from by rw [hr, decide_eq_false (p := W = (nn : Nat) ∧ L = (L3 : Nat)) (fun h => hW2 h.1), Bool.and_false, Bool.false_and])
    clear hr
    go_enter Tryz.func137, Tryz.ntmps137
    go_wp2_with fail
    refine (hD.out _ hA).mono ?_
    rintro e w1 ⟨rfl, hb⟩
    have gB1 := (gB.keep hb).alloc (.cells #[.int .i64 (nn : Nat), .int .i64 (L3 : Nat)] 37)
    obtain ⟨q0, q1⟩ := gB.keep hb
    have hcl := (gB.keep hb).lt
    have hne : ¬ C = w1.heap.size := Nat.ne_of_lt hcl
    have hB1 := (hA.trans (hb.mono hA.size)).alloc (hA.trans (hb.mono hA.size)).size (.cells #[.int .i64 (nn : Nat), .int .i64 (L3 : Nat)] 37)
    clear hD
    go_wp2_with fail
    go_ret
    exact ⟨by rw [hno.out]; rfl, hB1⟩
   subst hW2
   by_cases hL2 : L = (L3 : Nat)
   rotate_left
   ·have hL4 : ¬ (L3 : Int) = L := fun h => hL2 h.symm
    have hno := lh (show laneB I (nn : Nat) L ln = false from by rw [hr, decide_eq_false (p := ((nn : Nat) : Int) = (nn : Nat) ∧ L = (L3 : Nat)) (fun h => hL2 h.2), Bool.and_false, Bool.false_and])
    clear hr
    go_enter Tryz.func137, Tryz.ntmps137
    go_wp2_with fail
    refine (hD.out _ hA).mono ?_
    rintro e w1 ⟨rfl, hb⟩
    have gB1 := (gB.keep hb).alloc (.cells #[.int .i64 (nn : Nat), .int .i64 (L3 : Nat)] 37)
    obtain ⟨q0, q1⟩ := gB.keep hb
    have hcl := (gB.keep hb).lt
    have hne : ¬ C = w1.heap.size := Nat.ne_of_lt hcl
    have hB1 := (hA.trans (hb.mono hA.size)).alloc (hA.trans (hb.mono hA.size)).size (.cells #[.int .i64 (nn : Nat), .int .i64 (L3 : Nat)] 37)
    clear hD
    go_wp2_with fail
    go_ret
    exact ⟨by rw [hno.out]; rfl, hB1⟩
   subst hL2
   by_cases h0 : ln < 0
   ·have hno := lh (show laneB I (nn : Nat) (L3 : Nat) ln = false from by rw [hr, decide_eq_false (p := 0 ≤ ln ∧ ln < (L3 : Nat)) (by omega), Bool.and_false])
    clear hr
    go_enter Tryz.func137, Tryz.ntmps137
    go_wp2_with fail
    refine (hD.out _ hA).mono ?_
    rintro e w1 ⟨rfl, hb⟩
    have gB1 := (gB.keep hb).alloc (.cells #[.int .i64 (nn : Nat), .int .i64 (L3 : Nat)] 37)
    obtain ⟨q0, q1⟩ := gB.keep hb
    have hcl := (gB.keep hb).lt
    have hne : ¬ C = w1.heap.size := Nat.ne_of_lt hcl
    have hB1 := (hA.trans (hb.mono hA.size)).alloc (hA.trans (hb.mono hA.size)).size (.cells #[.int .i64 (nn : Nat), .int .i64 (L3 : Nat)] 37)
    clear hD
    go_wp2_with fail
    go_ret
    exact ⟨by rw [hno.out]; rfl, hB1⟩
   by_cases h1 : (L3 : Int) ≤ ln
   ·have hno := lh (show laneB I (nn : Nat) (L3 : Nat) ln = false from by rw [hr, decide_eq_false (p := 0 ≤ ln ∧ ln < (L3 : Nat)) (by omega), Bool.and_false])
    clear hr
    go_enter Tryz.func137, Tryz.ntmps137
    go_wp2_with fail
    refine (hD.out _ hA).mono ?_
    rintro e w1 ⟨rfl, hb⟩
    have gB1 := (gB.keep hb).alloc (.cells #[.int .i64 (nn : Nat), .int .i64 (L3 : Nat)] 37)
    obtain ⟨q0, q1⟩ := gB.keep hb
    have hcl := (gB.keep hb).lt
    have hne : ¬ C = w1.heap.size := Nat.ne_of_lt hcl
    have hB1 := (hA.trans (hb.mono hA.size)).alloc (hA.trans (hb.mono hA.size)).size (.cells #[.int .i64 (nn : Nat), .int .i64 (L3 : Nat)] 37)
    clear hD
    go_wp2_with fail
    go_ret
    exact ⟨by rw [hno.out]; rfl, hB1⟩
   have hyes := lh (show laneB I (nn : Nat) (L3 : Nat) ln = (tabW I L3).all okN from by rw [hr, decide_eq_true (p := 0 ≤ ln ∧ ln < (L3 : Nat)) (by omega), decide_eq_true (p := ((nn : Nat) : Int) = (nn : Nat) ∧ ((L3 : Nat) : Int) = (L3 : Nat)) ⟨rfl, rfl⟩, Bool.and_true, Bool.and_true])
   clear hr
   go_enter Tryz.func137, Tryz.ntmps137
   go_wp2_with fail
   refine (hD.out _ hA).mono ?_
   rintro e w1 ⟨rfl, hb⟩
   have gB1 := (gB.keep hb).alloc (.cells #[.int .i64 (nn : Nat), .int .i64 (L3 : Nat)] 37)
   obtain ⟨q0, q1⟩ := gB.keep hb
   have hcl := (gB.keep hb).lt
   have hne : ¬ C = w1.heap.size := Nat.ne_of_lt hcl
   have hB1 := (hA.trans (hb.mono hA.size)).alloc (hA.trans (hb.mono hA.size)).size (.cells #[.int .i64 (nn : Nat), .int .i64 (L3 : Nat)] 37)
   clear hD
   go_wp2_with fail
   refine (hTb.out _).mono ?_
   rintro e w2 ⟨rfl, hb2⟩
   have hB2 := hB1.trans (hb2.mono hB1.size)
   go_wp2_with fail
   refine (hWd.out _).mono ?_
   rintro e w3 ⟨rfl, hb3⟩
   have hB3 := hB2.trans (hb3.mono hB2.size)
   go_wp2_with fail
   refine (hCh.out _ hB3).mono ?_
   rintro e w4 ⟨hP, hb4⟩
   have hB4 := hB3.trans (hb4.mono hB3.size)
   rcases hP with ⟨hall, v', rfl, -⟩ | ⟨hall, rfl⟩
   ·go_wp2_with fail
    go_ret
    exact ⟨by rw [hyes.out, hall]; rfl, hB4⟩
   go_wp2_with fail
   go_ret
   exact ⟨by rw [hyes.out, hall]; rfl, hB4⟩
end Go.Proofs.YtkkbngcgphlikaaGreatDoor
end
section
namespace Go.Proofs.YtkkbngcgphlikaaGreatDoor
open Go.Lib Go.RowKit Go.ChangeShapes Go.WideShapes Go.Deep
theorem rlog_yes (v : Value) (I : List Nat) (L ln : Nat) (w : World) (hw : Lw w) (hW : WL I) (hv : KL .u64 w v I) (hg : gOk (I.length : Nat) (L : Nat) = true) (hln : ln < L) (h40 : gNat I.length L ≤ 40) (hlb : laneB I (I.length : Nat) (L : Nat) (ln : Nat) = true) :
 Calls Tryz.prog 82 #[v, .agg #[.int .i64 (I.length : Nat), .int .i64 (L : Nat)], .int .i64 (ln : Nat)] w fun e w' => ∃ v', e = .returned v' ∧ OwnSp w' w.heap.size v' (logSp I L ln) ∧ Below w.heap.size w w' := by
 have hPo := lh (fun w1 (hb : Below w.heap.size w w1) => pool_any v I (I.length : Nat) (L : Nat) (ln : Nat) w1 (hw.keep hb) hW (hv.keep hb) (by have := (pool_size hg).2.2.1; omega))
 rw [hlb] at hPo
 obtain ⟨nn, hnn⟩ : ∃ n, I.length = n := ⟨_, rfl⟩
 rw [hnn] at hPo
 obtain ⟨s1, s2, s3, s4, s5, s6, s7, s8⟩ := pool_size hg
 have hTl := tabW_len hg
 obtain ⟨G, hG⟩ : ∃ G, gNat I.length L = G := ⟨_, rfl⟩
 rw [hG] at s5 s6 s7 s8 h40 hTl
 have hTw := hW.part (10 + 73 * L) G
 have hTk : tabW I L = (I.drop (10 + 73 * L)).take G := by unfold tabW; rw [hG]
 rw [← hTk] at hTw
 obtain ⟨F, hF⟩ : ∃ F, 10 + 73 * L = F := ⟨_, rfl⟩
 have hF' : (10 + 73 * (L : Int)) = (F : Int) := by omega
 rw [hnn] at hg s3 s4 s5 s8
 have hlk : lOk (nn : Nat) (L : Nat) (ln : Nat) = true := by unfold lOk; rw [hg, Bool.true_and]; exact decide_eq_true (by omega)
 have hLg := lh (fun w1 => refLog_t (nn : Nat) (L : Nat) (ln : Nat) w1 hlk)
 have hTb := lh (fun w1 => refTable_t (nn : Nat) (L : Nat) w1 hg)
 rw [hF', s5] at hTb
 obtain ⟨H0, hH0⟩ : ∃ h, 10 + L + ln * 72 = h := ⟨_, rfl⟩
 have hH1 : (10 + (L : Int) + (ln : Int) * 72) = (H0 : Int) := by omega
 rw [hH1] at hLg
 have hCk := lh (fun (i : Nat) (hi : i < G) w1 => show Calls Tryz.prog 36 #[.agg #[.int .i64 (nn : Nat), .int .i64 (L : Nat)], .int .i64 (i : Nat)] w1 (fun e w' => e = .returned (.agg #[.int .i64 (chSp I.length L i).1, .int .i64 32]) ∧ Below w1.heap.size w1 w') from by
  have h := refChunk_yes (nn : Nat) (L : Nat) (i : Nat) w1 hg (by omega) (by omega)
  unfold cFrom at h
  rw [s5] at h
  unfold chSp
  rw [hG, show (((10 + 73 * L + G + i * 32 : Nat) : Int)) = 10 + 73 * (L : Int) + (G : Nat) + (i : Nat) * 32 from by push_cast; rfl]
  exact h)
 obtain ⟨g, off, cap, rfl, hcap, hgs⟩ := hv.addr hnn (by omega)
 have hWd := lh (fun w1 => part15_any g off nn cap F G w1 (by omega) hcap (by omega) (by omega))
 have hLs := lh (fun w1 (hb : Below w.heap.size w w1) => refLogs_any (.slice (some ⟨g, off + F, none⟩) G (cap - F)) (tabW I L) (ln : Nat) w1 (hw.keep hb) (by rw [hTk, hF]; exact (hv.keep hb).partC hnn F G _ (by omega) (by omega)) hTw (by rw [hTl]; omega))
 obtain ⟨R, hR⟩ : ∃ R, logsT (tabW I L) (ln : Nat) = R := ⟨_, rfl⟩
 rw [hR] at hLs
 have hRb : ∀ x ∈ R, x < G := fun x hx => by rw [← hTl]; rw [← hR] at hx; exact logs_bd x hx
 have hRl : R.length ≤ 320 := by have := logs_len (t := tabW I L) (ln := (ln : Nat)); rw [hR, hTl] at this; omega
 have hSp : logSp I L ln = ((H0 : Int), 32) :: R.map (chSp I.length L) := by unfold logSp; rw [hR, hH0]
 rw [hSp, hnn]
 obtain ⟨mm, hmm⟩ : ∃ m, R.length = m := ⟨_, rfl⟩
 have hRx := lh (fun j (hj : j < mm) => show R.getD j 0 < G from hRb _ (by rw [List.getD_eq_getElem?_getD, List.getElem?_eq_getElem (by omega)]; exact List.getElem_mem _))
 have hSt := lh (fun j (hj : j < mm) => show (((H0 : Int), 32) :: (R.take j).map (chSp I.length L)) ++ [chSp I.length L (R.getD j 0)] = ((H0 : Int), 32) :: (R.take (j + 1)).map (chSp I.length L) from by
  rw [List.take_succ_eq_append_getElem (by omega), List.map_append, List.getD_eq_getElem?_getD, List.getElem?_eq_getElem (by omega)]; rfl)
 have hEn := lh (show R.take mm = R from List.take_of_length_le (by omega))
 have hA := bZ w (.cells #[.int .i64 (nn : Nat), .int .i64 (L : Nat)] 37)
 have gB := C2.new w (.int .i64 (nn : Nat)) (.int .i64 (L : Nat)) 37
 obtain ⟨C, hC⟩ : ∃ C, w.heap.size = C := ⟨_, rfl⟩
 have hm9 : mm ≤ 320 := by omega
 replace hnn := lh hnn
 replace hmm := lh hmm
 replace hR := lh hR
 replace hG := lh hG
 clear hv hW hw hTl hTw hTk hg hlk hSp hRb hF hF' hH0 hH1 hRl
 rw [hC] at gB
 go_enter Tryz.func82, Tryz.ntmps82
 have hCC : (w.alloc (.cells #[.int .i64 (nn : Nat), .int .i64 (L : Nat)] 37)).heap.size = C + 1 := by simp; omega
 generalize hw0 : w.alloc (.cells #[.int .i64 (nn : Nat), .int .i64 (L : Nat)] 37) = w0 at *
 obtain ⟨q0, q1⟩ := id gB
 subst hw0
 go_wp2_with fail
 refine (hPo.out _ hA).mono ?_
 rintro e wp ⟨rfl, hbp⟩
 replace hA := hA.trans (hbp.mono hA.size)
 replace gB := gB.keep hbp
 obtain ⟨q0, q1⟩ := id gB
 clear hPo hbp
 go_wp2_with fail
 refine (hLg.out _).mono ?_
 rintro e w1 ⟨rfl, hb1⟩
 have hB1 := hA.trans (hb1.mono hA.size)
 have gB1 := gB.keep hb1
 obtain ⟨B, hBl⟩ : ∃ B, w1.heap.size = B := ⟨_, rfl⟩
 have hCB : C < B := by rw [← hBl]; exact gB1.lt
 have hOwn := (OwnSp.one w1 (H0 : Nat) 32 (70 : Nat) rfl)
 have hB2 := hB1.alloc hB1.size (.cells #[.int .i64 (H0 : Nat), .int .i64 32] (70 : Nat))
 have gB2 := gB1.alloc (.cells #[.int .i64 (H0 : Nat), .int .i64 32] (70 : Nat))
 rw [hBl] at hOwn
 obtain ⟨r0, r1⟩ := id gB2
 have hne : ¬ C = w1.heap.size := by omega
 clear q0 q1
 go_wp2_with fail
 refine (hTb.out _).mono ?_
 rintro e w3 ⟨rfl, hb3⟩
 have hB3 := hB2.trans (hb3.mono hB2.size)
 go_wp2_with fail
 refine (hWd.out _).mono ?_
 rintro e w4 ⟨rfl, hb4⟩
 have hB4 := hB3.trans (hb4.mono hB3.size)
 go_wp2_with fail
 refine (hLs.out _ hB4).mono ?_
 rintro e w5 ⟨v5, rfl, ho5, hb5⟩
 have hB5 := hB4.trans (hb5.mono hB4.size)
 have hs1 : (w1.alloc (.cells #[.int .i64 (H0 : Nat), .int .i64 32] (70 : Nat))).heap.size = B + 1 := by simp; omega
 have hB45 : B + 1 ≤ w4.heap.size := by rw [← hs1]; exact Nat.le_trans hb3.size hb4.size
 have hOwn5 := ((hOwn.keep hb3).keep hb4).keep hb5
 have gB5 := ((gB2.keep hb3).keep hb4).keep hb5
 obtain ⟨A5, c5, rfl, hK5⟩ := ho5.kl.form hmm.out
 have hlt5 := hb5.size
 have hoB : ∀ k, (Value.slice A5 mm c5).ownBlock = some k → ¬ k = B := fun k hk => by have := (ho5.lt k hk).1; omega
 have ho5' := lh ho5
 replace hB5 := lh hB5
 clear hB1 hB2 hB3 hB4 hb1 hb3 hb4 hb5 gB gB1 gB2 hA hOwn ho5 hK5 r0 r1
 obtain ⟨A0, c0, hv0⟩ : ∃ A0 c0, (Value.slice (some ⟨B, 0, none⟩) 1 1) = .slice A0 1 c0 := ⟨_, _, rfl⟩
 go_wp2_with fail
 go_loopw [10, 8] (fun i l wr => ∃ (j : Nat) (P : List Sp), j ≤ mm ∧ i = .int .i64 j ∧ Hid (P = ((H0 : Int), 32) :: (R.take j).map (chSp I.length L)) ∧ P.length = j + 1 ∧ OwnSp wr (C + 1) l P ∧ Chg (fun k => k = B) w5 wr ∧ (∀ k, l.ownBlock = some k → k = B ∨ w5.heap.size ≤ k)) (fun i _ _ => mm + 1 - (intOf i).toNat)
 case atStart => exact ⟨0, _, Nat.zero_le _, rfl, rfl, by simp, hOwn5.mono (by omega), Chg.refl _ _, fun k hk => .inl (by cases hk; rfl)⟩
 obtain ⟨j, P, hj, rfl, hP, hPl, hown, hch, hbk⟩ := hrel
 have gBr := gB5.chg hch (by omega)
 have hBr := hB5.out.trans (hch.below (N := w.heap.size) (fun k hk => by omega) hB5.out.size)
 by_cases hlt : j < mm
 rotate_left
 ·obtain rfl : j = mm := by omega
  have hfin := lh (show OwnSp wr C u8 (((H0 : Int), 32) :: R.map (chSp nn L)) from by rw [hP.out, hEn.out, hnn.out] at hown; exact hown.mono (by omega))
  clear hown hch hbk
  go_wp2_with fail
  go_ret
  exact ⟨_, rfl, by rw [hC]; exact hfin.out, hBr⟩
 obtain ⟨A9, c9, hv9, hK9⟩ := (IKO.kl (OwnE.chg ho5'.out hch hoB)).form hmm.out
 cases hv9
 obtain ⟨g2, o2, rfl, hcap2, hg2, c0⟩ := hK9 wr j (Below.refl _ _) hlt
 have hlt' : (j : Int) < (mm : Int) := by omega
 have hx := hRx.out j hlt
 have hst := lh (hSt.out j hlt)
 have hCj := hCk.out (R.getD j 0) hx
 generalize R.getD j 0 = x at *
 obtain ⟨q0, q1⟩ := id gBr
 rw [hnn.out] at hCj
 clear hK9
 obtain ⟨s, hs⟩ : ∃ s, chSp nn L x = s := ⟨_, rfl⟩
 have hs2 : s.2 = 32 := by rw [← hs]; rfl
 go_wp2_with fail
 refine wp_region_tail (S := (fun w' => Below wr.heap.size wr w')) (n := 8) (by kernel_rfl) ?_ (fun hHeld hInv => ?_) (by decide)
 ·(try dsimp only)
  (first | assumption | exact (Below.refl _ _).drew | exact hHeld.trans (hb.mono hHeld.size))
 refine takeS 0 (v := ?_) (tailAt (by kernel_rfl)) hInv (by decide) rfl (by kernel_rfl) (by kernel_rfl) (by kernel_rfl) (fun _ _ _ h => h) (by rfl) (by assumption) ?_ (fun hInv2 => ?_)
 rotate_left
 ·(intro w hSw; (try dsimp only at hSw); have zz := gBr.keep hSw; obtain ⟨z0, z1⟩ := zz; have z2 := (bcell hSw).1 _ (o2 + j) hg2; rw [c0] at z2; go_simp <;> with_reducible rfl)
 clear hInv
 have hInv := hInv2
 clear hInv2
 try simp only [Act.put,sA,sB,sC] at hInv ⊢
 refine takeS 1 (v := ?_) (tailAt (by kernel_rfl)) hInv (by decide) rfl (by kernel_rfl) (by kernel_rfl) (by kernel_rfl) (fun _ _ _ h => h) (by rfl) (by assumption) ?_ (fun hInv2 => ?_)
 rotate_left
 ·(intro w hSw; (try dsimp only at hSw); have zz := gBr.keep hSw; obtain ⟨z0, z1⟩ := zz; have z2 := (bcell hSw).1 _ (o2 + j) hg2; rw [c0] at z2; go_simp <;> with_reducible rfl)
 clear hInv
 have hInv := hInv2
 clear hInv2
 try simp only [Act.put,sA,sB,sC] at hInv ⊢
 refine takeS 2 (v := ?_) (tailAt (by kernel_rfl)) hInv (by decide) rfl (by kernel_rfl) (by kernel_rfl) (by kernel_rfl) (fun _ _ _ h => h) (by rfl) (by assumption) ?_ (fun hInv2 => ?_)
 rotate_left
 ·(intro w hSw; (try dsimp only at hSw); have zz := gBr.keep hSw; obtain ⟨z0, z1⟩ := zz; have z2 := (bcell hSw).1 _ (o2 + j) hg2; rw [c0] at z2; go_simp <;> with_reducible rfl)
 clear hInv
 have hInv := hInv2
 clear hInv2
 try simp only [Act.put,sA,sB,sC] at hInv ⊢
 refine takeS 3 (v := ?_) (tailAt (by kernel_rfl)) hInv (by decide) rfl (by kernel_rfl) (by kernel_rfl) (by kernel_rfl) (fun _ _ _ h => h) (by rfl) (by assumption) ?_ (fun hInv2 => ?_)
 rotate_left
 ·(intro w hSw; (try dsimp only at hSw); have zz := gBr.keep hSw; obtain ⟨z0, z1⟩ := zz; have z2 := (bcell hSw).1 _ (o2 + j) hg2; rw [c0] at z2; go_simp <;> with_reducible rfl)
 clear hInv
 have hInv := hInv2
 clear hInv2
 try simp only [Act.put,sA,sB,sC] at hInv ⊢
 refine takeS 4 (v := ?_) (tailAt (by kernel_rfl)) hInv (by decide) rfl (by kernel_rfl) (by kernel_rfl) (by kernel_rfl) (fun _ _ _ h => h) (by rfl) (by assumption) ?_ (fun hInv2 => ?_)
 rotate_left
 ·(intro w hSw; (try dsimp only at hSw); have zz := gBr.keep hSw; obtain ⟨z0, z1⟩ := zz; have z2 := (bcell hSw).1 _ (o2 + j) hg2; rw [c0] at z2; go_simp <;> with_reducible rfl)
 clear hInv
 have hInv := hInv2
 clear hInv2
 try simp only [Act.put,sA,sB,sC] at hInv ⊢
 refine takeS 5 (v := ?_) (tailAt (by kernel_rfl)) hInv (by decide) rfl (by kernel_rfl) (by kernel_rfl) (by kernel_rfl) (fun _ _ _ h => h) (by rfl) (by assumption) ?_ (fun hInv2 => ?_)
 rotate_left
 ·(intro w hSw; (try dsimp only at hSw); have zz := gBr.keep hSw; obtain ⟨z0, z1⟩ := zz; have z2 := (bcell hSw).1 _ (o2 + j) hg2; rw [c0] at z2; go_simp <;> with_reducible rfl)
 clear hInv
 have hInv := hInv2
 clear hInv2
 try simp only [Act.put,sA,sB,sC] at hInv ⊢
 refine oneS 6 hInv (by decide) rfl (by kernel_rfl) (fun K hK => ?_)
 go_simp
 refine (hCj _).mono ?_; rintro e w6 ⟨rfl, hb⟩; rw [hs]
 refine hK.out _ _ ?_ (fun hHeld2 hInv2 => ?_)
 ·(try dsimp only)
  (first | assumption | exact (Below.refl _ _).drew | exact hHeld.trans (hb.mono hHeld.size))
 clear hK K hHeld hInv
 have hHeld := hHeld2
 have hInv := hInv2
 clear hHeld2 hInv2
 try simp only [Act.put,sA,sB,sC] at hInv ⊢
 refine oneS 7 hInv (by decide) rfl (by kernel_rfl) (fun K hK => ?_)
 go_simp
 have hb := bZ w6 (.cells #[.int .i64 s.1, .int .i64 32] (70 : Nat))
 refine hK.out _ _ ?_ (fun hHeld2 hInv2 => ?_)
 ·(try dsimp only)
  (first | assumption | exact (Below.refl _ _).drew | exact hHeld.trans (hb.mono hHeld.size))
 clear hK K hHeld hInv
 have hHeld := hHeld2
 have hInv := hInv2
 clear hHeld2 hInv2
 try simp only [Act.put,sA,sB,sC] at hInv ⊢
 refine lastS 8 rfl (by decide) (by kernel_rfl) (fun K hK => ?_)
 have hC6 := C2.new w6 (.int .i64 s.1) (.int .i64 32) (70 : Nat)
 obtain ⟨v', w8, hrun, ho8, hg8, hor⟩ := app1 (s := s) (hown.keep hHeld) (by rw [hs2]; exact hC6) (by have := hBr.size; have := gBr.lt; have := hHeld.size; omega) (by omega)
 have hch8 : Chg (fun k => k = B) w5 w8 := (hch.trans (Chg.of_below (fun k => k = B) hHeld) (fun k h => .inl h)).trans (Chg.of_grown (S := fun k => k = B ∨ w5.heap.size ≤ k) hg8 (fun k hk => .inl (hbk k hk))) (fun k h => by rcases h with h | h; exact .inl h; exact .inr h)
 have hbk8 : ∀ k, v'.ownBlock = some k → k = B ∨ w5.heap.size ≤ k := fun k hk => by
  rcases hor with h | h
  ·exact hbk k (by rw [← h]; exact hk)
  rw [h] at hk
  cases hk
  have := hch.size; have := hHeld.size
  omega
 rw [if_pos (by rfl)]
 refine wp_append_run _ _ _ _ rfl _ _ _ rfl rfl hrun ?_
 refine hK.out _ _ ?_
 clear hK K
 try simp only [Act.put,sA,sB,sC]
 refine lastS 9 rfl (by decide) (by kernel_rfl) (fun K hK => ?_)
 go_simp
 refine hK.out _ _ ?_
 clear hK K
 try simp only [Act.put,sA,sB,sC]
 refine wpAnyS_done (by kernel_rfl) ?_ _
 go_wp2_with fail
 go_roundw
 case rel => exact ⟨j + 1, P ++ [s], by omega, by go_num, by rw [hP.out, ← hs, ← hnn.out]; exact hst.out, by rw [List.length_append, hPl]; rfl, ho8, hch8, hbk8⟩
 first | (simp [intOf]; done) | (simp [intOf]; omega)
theorem rlog_any (v : Value) (I : List Nat) (W L ln : Int) (w : World) (hw : Lw w) (hW : WL I) (hv : KL .u64 w v I) (hlen : I.length ≤ 100000) (h40 : poolB I = true → gNat I.length (I.getD 3 0) ≤ 40) :
 Calls Tryz.prog 82 #[v, .agg #[.int .i64 W, .int .i64 L], .int .i64 ln] w fun e w' => ∃ v', e = .returned v' ∧ OwnSp w' w.heap.size v' (logP I W L ln) ∧ Below w.heap.size w w' := by
 cases hl : laneB I W L ln with
 | true =>
   have h2 := hl
   unfold laneB at h2
   rw [Bool.and_eq_true] at h2
   obtain ⟨h3, h4⟩ := h2
   have h5 := of_decide_eq_true h4
   obtain ⟨hp, hW1, hL1⟩ := readB_t h3
   obtain ⟨n, rfl⟩ := Int.eq_ofNat_of_zero_le h5.1
   subst hW1
   subst hL1
   have hy : logP I (I.length : Nat) (I.getD 3 0 : Nat) (n : Nat) = logSp I (I.getD 3 0) n := if_pos hl
   rw [hy]
   exact rlog_yes v I (I.getD 3 0) n w hw hW hv (gOk_pool (pool_t hp).1).2 (by omega) (h40 hp) hl
 | false =>
   have hno := lh (show logP I W L ln = [] from if_neg (by rw [hl]; simp))
   have hA := bZ w (.cells #[.int .i64 W, .int .i64 L] 37)
   have hPo := lh (fun w1 (hb : Below w.heap.size w w1) => pool_any v I W L ln w1 (hw.keep hb) hW (hv.keep hb) hlen)
   rw [hl] at hPo
   obtain ⟨q0, q1⟩ := C2.new w (.int .i64 W) (.int .i64 L) 37
   clear h40 hl
   go_enter Tryz.func82, Tryz.ntmps82
   go_wp2_with fail
   refine (hPo.out _ hA).mono ?_
   rintro e w1 ⟨rfl, hb1⟩
   have hB1 := hA.trans (hb1.mono hA.size)
   clear hb1 hPo
   go_wp2_with fail
   go_ret
   exact ⟨_, rfl, by rw [hno.out]; exact OwnSp.nil _ _, hB1⟩
end Go.Proofs.YtkkbngcgphlikaaGreatDoor
end
section
namespace Go.Proofs.YtkkbngcgphlikaaGreatDoor
open Go.Lib Go.RowKit Go.ChangeShapes Go.WideShapes Go.Deep Go.Shelf
def HB (W : World) (b : Nat) (cs : Array Value) (t : TypeId) : Prop := W.heap[b]? = some (.cells cs t (0, 0))
theorem HB.lt {W : World} {b : Nat} {cs : Array Value} {t : TypeId} (h : HB W b cs t) : b < W.heap.size := (Array.getElem?_eq_some_iff.1 h).1
theorem HB.keep {w w1 : World} {b : Nat} {cs : Array Value} {t : TypeId} (h : HB w b cs t) (hb : Below w.heap.size w w1) : HB w1 b cs t := (hb.block b h.lt).trans h
theorem HB.new (w : World) (cs : Array Value) (t : TypeId) : HB (w.alloc (.cells cs t)) w.heap.size cs t := World.alloc_heap_new w _
theorem HB.c2 {w : World} {b : Nat} {x y : Value} {t : TypeId} (h : HB w b #[x, y] t) : C2 w b x y := ⟨(row_cell h 0).1, (row_cell h 1).1⟩
end Go.Proofs.YtkkbngcgphlikaaGreatDoor
end
