/-
  Part of the proof of JournalSteps.
-/
import Derived.Test.YtkkbngcgphlikaaGreatDoorJt21
import Derived.Test.YtkkbngcgphlikaaGreatDoorJt29
import Derived.Test.YtkkbngcgphlikaaGreatDoorRows
import Derived.Test.YtkkbngcgphlikaaGreatDoorJt0
set_option maxRecDepth 10000
set_option maxHeartbeats 1000000
set_option linter.unusedVariables false
set_option linter.unusedSimpArgs false
section
namespace Go.Proofs.YtkkbngcgphlikaaGreatDoor
def tabW (I : List Nat) (L : Nat) : List Nat := (I.drop (10 + 73 * L)).take (gNat I.length L)
def poolB (I : List Nat) : Bool := sOk I && (tabW I (I.getD 3 0)).all okN
def readB (I : List Nat) (W L : Int) : Bool := poolB I && decide (W = (I.length : Nat) ∧ L = (I.getD 3 0 : Nat))
def mkS (x : Nat) : Nat := x % 4
def mkC (x : Nat) : Nat := x / 4 % 16384
def mkG (x : Nat) : Nat := x / 65536
def mkOk (x : Nat) : Bool := okB (mkS x : Nat) (mkC x : Nat) (mkG x : Nat)
def chSp (N L i : Nat) : Sp := (((10 + 73 * L + gNat N L + i * 32 : Nat) : Int), 32)
def logSp (I : List Nat) (L ln : Nat) : List Sp := (((10 + L + ln * 72 : Nat) : Int), 32) :: (logsT (tabW I L) (ln : Nat)).map (chSp I.length L)
def inCh (N L : Nat) (a : Int) : Bool := decide (((10 + 73 * L + gNat N L : Nat) : Int) ≤ a ∧ a < ((10 + 73 * L + gNat N L + gNat N L * 32 : Nat) : Int))
def entOps (x : Pe) : List Ox := (List.range x.2.length).map fun i : Nat => ((0 : Int), x.1 + (i : Int), x.2.getD i 0)
def entIn (N L : Nat) (x : Pe) : Bool := inCh N L x.1 && inCh N L (x.1 + (x.2.length : Int) - 1)
def notedD (I : List Nat) (L ln c g : Nat) : Option (List Ox) :=
 if totS (logSp I L ln) < (c : Int) then none else
 match decL g (gathL I (cutL (logSp I L ln) (0, (c : Int)))) with
 | none => none
 | some es => if es.all (entIn I.length L) then some (es.reverse.flatMap entOps) else none
def redoW (I : List Nat) (L ln : Nat) : List Nat := (I.drop (10 + L + ln * 72 + 32)).take 40
def opIn (N L : Nat) (o : Ox) : Bool := decide (o.2.1 = 8 ∨ (((10 + 73 * L : Nat) : Int) ≤ o.2.1 ∧ o.2.1 < ((10 + 73 * L + gNat N L : Nat) : Int)))
def decidedD (I : List Nat) (L ln c : Nat) : Option (List Ox) :=
 if c ≤ 19 ∧ decB (redoW I L ln) c = true ∧ (opsN (redoW I L ln) c).all (opIn I.length L) = true then some (opsN (redoW I L ln) c) else none
def laneD (I : List Nat) (L ln : Nat) : Option (List Ox) :=
 if mkOk (I.getD (10 + ln) 0) then
  (if mkS (I.getD (10 + ln) 0) = 1 then notedD I L ln (mkC (I.getD (10 + ln) 0)) (mkG (I.getD (10 + ln) 0))
   else if mkS (I.getD (10 + ln) 0) = 2 then decidedD I L ln (mkC (I.getD (10 + ln) 0)) else some [])
 else none
def lanesD (I : List Nat) (L : Nat) : Nat → Option (List Ox)
 | 0 => some []
 | k + 1 => match lanesD I L k, laneD I L k with
   | some a, some b => some (a ++ b)
   | _, _ => none
def endN (x : Nat) : Nat := if mkOk x then mkG x * 65536 else 0
def idlesL (I : List Nat) : Nat → List Nat
 | 0 => I
 | k + 1 => (idlesL I k).set (10 + k) (endN ((idlesL I k).getD (10 + k) 0))
def noLog (x : Nat) : Nat := if okN x = true ∧ kN x = 4 then 0 else x
def clrL (I : List Nat) (L : Nat) : Nat → List Nat
 | 0 => I
 | k + 1 => (clrL I L k).set (10 + 73 * L + k) (noLog ((clrL I L k).getD (10 + 73 * L + k) 0))
def restL (I : List Nat) (L : Nat) : List Nat := clrL (idlesL I L) L (gNat I.length L)
def mendD (I : List Nat) : Option (List Nat) :=
 if poolB I then
  (match lanesD I (I.getD 3 0) (I.getD 3 0) with
   | none => none
   | some ops => some (restL (applyL I ops) (I.getD 3 0)))
 else none
theorem idlesL_len (I : List Nat) : ∀ k, (idlesL I k).length = I.length
 | 0 => rfl
 | k + 1 => by rw [idlesL, List.length_set, idlesL_len I k]
theorem clrL_len (I : List Nat) (L : Nat) : ∀ k, (clrL I L k).length = I.length
 | 0 => rfl
 | k + 1 => by rw [clrL, List.length_set, clrL_len I L k]
theorem pool_t {I : List Nat} (h : poolB I = true) : sOk I = true ∧ (tabW I (I.getD 3 0)).all okN = true := by
 unfold poolB at h; rw [Bool.and_eq_true] at h; exact h
theorem gOk_pool {I : List Nat} (h : sOk I = true) : 8 ≤ I.length ∧ gOk (I.length : Nat) (I.getD 3 0 : Nat) = true := by
 unfold sOk at h
 rw [Bool.and_eq_true, Bool.and_eq_true] at h
 exact ⟨of_decide_eq_true h.1, h.2.1⟩
theorem pool_size {N L : Nat} (h : gOk (N : Nat) (L : Nat) = true) : 1 ≤ L ∧ L ≤ 64 ∧ N ≤ 65536 ∧ 43 + 73 * L ≤ N ∧ gN (N : Nat) (L : Nat) = (gNat N L : Nat) ∧ 1 ≤ gNat N L ∧ gNat N L ≤ 2000 ∧ 10 + 73 * L + 33 * gNat N L ≤ N := by
 have h1 := gOk_t h
 have h2 := gN_bd h
 have h3 := gNat_eq h
 rw [h3] at h2
 refine ⟨by omega, by omega, by omega, by omega, h3, by omega, by omega, by omega⟩
theorem tabW_len {I : List Nat} {L : Nat} (h : gOk (I.length : Nat) (L : Nat) = true) : (tabW I L).length = gNat I.length L := by
 have := pool_size h
 unfold tabW
 rw [List.length_take, List.length_drop]; omega
end Go.Proofs.YtkkbngcgphlikaaGreatDoor
end
section
namespace Go.Proofs.YtkkbngcgphlikaaGreatDoor
open Go.Lib Go.RowKit Go.ChangeShapes Go.WideShapes Go.Deep
theorem run_slice3 {P : Program} {ty el : TypeId} {i0 : TypeInfo} (hu : P.underlying ty = some (.slice el)) (hi : P.info? el = some i0) (h1 : i0.size = 1) (g off n cap f e m : Nat) (h : f ≤ e) (h2 : e ≤ cap) (hm : m = e - f) (hm0 : 0 < m) (w : World) :
 (Instr.slice ty (.slice (some ⟨g, off, none⟩) n cap) (some (.int .i64 (f : Int))) (some (.int .i64 (e : Int))) (some (.int .i64 (e : Int)))).run P w = .ok (.slice (some ⟨g, off + f, none⟩) m m) w := by
 have h3 : (e : Int) ≤ (cap : Int) := by omega
 have h4 : (0 : Int) ≤ (e : Int) := by omega
 have h5 : (f : Int) ≤ (e : Int) := by omega
 have h6 : (0 : Int) ≤ (f : Int) := by omega
 subst hm
 simp [Instr.slice, run_underlying hu, Instr.sliceBounds, Instr.sliceBound, asIntOf, sizeOf, typeInfo, hi, h1, h3, h4, h5, h6, go_sem]
 rw [if_pos h2, if_pos h, if_neg (by omega)]
theorem mwords_any (g off n cap f m : Nat) (w : World) (h1 : f + m ≤ n) (h2 : n ≤ cap) (h3 : 1 ≤ m) (hn : n ≤ 100000) :
 Calls Tryz.prog 119 #[.slice (some ⟨g, off, none⟩) n cap, .agg #[.int .i64 (f : Nat), .int .i64 (m : Nat)]] w fun e w' => e = .returned (.slice (some ⟨g, off + f, none⟩) m m) ∧ Below w.heap.size w w' := by
 have hA := bZ w (.cells #[.int .i64 (f : Nat), .int .i64 (m : Nat)] 70)
 obtain ⟨e, he⟩ : ∃ e, f + m = e := ⟨_, rfl⟩
 have w1 : IntKind.i64.wrap ((f : Int) + (m : Int)) = (e : Int) := by rw [IntKind.wrap_i64]; omega
 have w2 : (f : Int) + (m : Int) = (e : Int) := by omega
 obtain ⟨i0, hi, hz0, hz1, hz2⟩ := info_parts infoU64
 have hS := fun w => run_slice3 (P := Tryz.prog) Tryz.underlying25 hi hz1 g off n cap f e m (by omega) (by omega) (by omega) (by omega) w
 replace he := lh he
 go_enter Tryz.func119, Tryz.ntmps119
 go_wp2_with fail
 go_ret
 exact ⟨rfl, hA⟩
end Go.Proofs.YtkkbngcgphlikaaGreatDoor
end
section
namespace Go.Proofs.YtkkbngcgphlikaaGreatDoor
open Go.Lib Go.RowKit Go.ChangeShapes Go.WideShapes Go.Deep
theorem KL.part {K : IntKind} {w : World} {g off n cap : Nat} {l : List Nat} (h : KL K w (.slice (some ⟨g, off, none⟩) n cap) l) (hn : l.length = n) (f m : Nat) (hf : f + m ≤ n) : KL K w (.slice (some ⟨g, off + f, none⟩) m m) ((l.drop f).take m) := by
 obtain ⟨A, c, hv, h⟩ := h
 simp only [Value.slice.injEq] at hv
 obtain ⟨rfl, -, rfl⟩ := hv
 have hlen : ((l.drop f).take m).length = m := by rw [List.length_take, List.length_drop]; omega
 refine ⟨_, m, by rw [hlen], fun hp => ?_⟩
 rw [hlen] at hp
 obtain ⟨g2, o2, hA, hg, hc, hi⟩ := h (by omega)
 cases hA
 refine ⟨g, off + f, rfl, hg, by rw [hlen]; omega, fun i hi2 => ?_⟩
 rw [hlen] at hi2
 have := hi (f + i) (by omega)
 rw [Nat.add_assoc, this]
 have e : ((l.drop f).take m).getD i 0 = l.getD (f + i) 0 := by
  rw [List.getD_eq_getElem?_getD, List.getD_eq_getElem?_getD, List.getElem?_take, if_pos hi2, List.getElem?_drop]
 rw [e]
theorem KL.addr {K : IntKind} {w : World} {v : Value} {l : List Nat} {n : Nat} (h : KL K w v l) (hn : l.length = n) (hp : 0 < n) : ∃ g off cap, v = .slice (some ⟨g, off, none⟩) n cap ∧ n ≤ cap ∧ g < w.heap.size := by
 obtain ⟨A, c, hv, h⟩ := h
 obtain ⟨g, off, rfl, hg, hc, _⟩ := h (by omega)
 exact ⟨g, off, c, by rw [hv, hn], by omega, hg⟩
theorem WL.part {l : List Nat} (h : WL l) (f m : Nat) : WL ((l.drop f).take m) := fun x hx => h x (List.mem_of_mem_drop (List.mem_of_mem_take hx))
theorem readable_any (v : Value) (I : List Nat) (W L : Int) (w : World) (hw : Lw w) (hW : WL I) (hv : KL .u64 w v I) :
 Calls Tryz.prog 62 #[v, .agg #[.int .i64 W, .int .i64 L]] w fun e w' => e = .returned (.bool (readB I W L)) ∧ Below w.heap.size w w' := by
 have hA := bZ w (.cells #[.int .i64 W, .int .i64 L] 37)
 have hD := dec_any v I _ hW (KL.sl (hv.keep hA))
 obtain ⟨nn, hnn⟩ : ∃ n, I.length = n := ⟨_, rfl⟩
 cases hs : sOk I with
 | false =>
   have hr : readB I W L = false := by unfold readB poolB; rw [hs]; rfl
   rw [hs] at hD
   rw [hr]
   obtain ⟨A, cap, rfl, _⟩ := hv.form hnn
   replace hD : Calls Tryz.prog 61 #[.slice A nn cap] (w.alloc (.cells #[.int .i64 W, .int .i64 L] 37)) (fun e w' => e = .returned (.tuple #[.agg #[.int .i64 0, .int .i64 0], .int .i64 7]) ∧ Below (w.alloc (.cells #[.int .i64 W, .int .i64 L] 37)).heap.size (w.alloc (.cells #[.int .i64 W, .int .i64 L] 37)) w') := hD
   clear hr hs hv hW hw
   replace hnn := lh hnn
   go_enter Tryz.func62, Tryz.ntmps62
   go_wp2_with fail
   refine hD.mono ?_
   rintro e w1 ⟨rfl, hb⟩
   have hB1 := (hA.trans (hb.mono hA.size)).alloc (hA.trans (hb.mono hA.size)).size (.cells #[.int .i64 0, .int .i64 0] 37)
   clear hD
   go_wp2_with fail
   go_ret
   exact ⟨rfl, hB1⟩
 | true =>
   obtain ⟨g8, hgk⟩ := gOk_pool hs
   obtain ⟨s1, s2, s3, s4, s5, s6, s7, s8⟩ := pool_size hgk
   obtain ⟨G, hG⟩ : ∃ G, gNat I.length (I.getD 3 0) = G := ⟨_, rfl⟩
   obtain ⟨L3, hL3⟩ : ∃ L3, I.getD 3 0 = L3 := ⟨_, rfl⟩
   rw [hG] at s5 s6 s7 s8
   rw [hL3] at s1 s2 s4 s5 s8 hgk
   have hTl := tabW_len hgk
   have hTl2 : (tabW I L3).length = G := by rw [hTl, ← hL3]; exact hG
   have hTw := hW.part (10 + 73 * L3) G
   have hTk : tabW I L3 = (I.drop (10 + 73 * L3)).take G := by unfold tabW; rw [← hL3, hG]
   rw [← hTk] at hTw
   have hTb := table_t (I.length : Nat) (L3 : Nat)
   rw [hnn] at s3 s4 s5 s8 hgk hTb
   have hTb2 := lh (fun w1 => hTb w1 hgk)
   rw [s5] at hTb2
   obtain ⟨g, off, cap, rfl, hcap, hgs⟩ := hv.addr hnn (by omega)
   obtain ⟨F, hF⟩ : ∃ F, 10 + 73 * L3 = F := ⟨_, rfl⟩
   have hF' : (10 + 73 * (L3 : Int)) = (F : Int) := by omega
   rw [hF'] at hTb2
   have hWd := lh (fun w1 => mwords_any g off nn cap F G w1 (by omega) hcap (by omega) (by omega))
   have hCh := lh (fun w1 (hb : Below w.heap.size w w1) => chunks_any (.slice (some ⟨g, off + F, none⟩) G G) (tabW I L3) w1 (hw.keep hb) (by rw [hTk, hF]; exact (hv.keep hb).part hnn F G (by omega)) hTw (by rw [hTl2]; omega))
   rw [hs, hL3, hnn] at hD
   replace hD : Calls Tryz.prog 61 #[.slice (some ⟨g, off, none⟩) nn cap] (w.alloc (.cells #[.int .i64 W, .int .i64 L] 37)) (fun e w' => e = .returned (.tuple #[.agg #[.int .i64 (nn : Nat), .int .i64 (L3 : Nat)], .int .i64 0]) ∧ Below (w.alloc (.cells #[.int .i64 W, .int .i64 L] 37)).heap.size (w.alloc (.cells #[.int .i64 W, .int .i64 L] 37)) w') := hD
   have hr : readB I W L = ((tabW I L3).all okN && decide (W = (nn : Nat) ∧ L = (L3 : Nat))) := by unfold readB poolB; rw [hs, hL3, hnn, Bool.true_and]
   rw [hr]
   replace hr := lh hr
   replace hL3 := lh hL3
   replace hnn := lh hnn
   replace hG := lh hG
   replace hF := lh hF
   obtain ⟨C, hC⟩ : ∃ C, w.heap.size = C := ⟨_, rfl⟩
   have gB := C2.new w (.int .i64 W) (.int .i64 L) 37
   clear hv hW hw hs hTl hTw hTk hTb g8
   by_cases hg : W = (nn : Nat) ∧ L = (L3 : Nat)
   ·obtain ⟨rfl, rfl⟩ := hg
    rw [decide_eq_true (p := ((nn : Int) = (nn : Nat) ∧ (L3 : Int) = (L3 : Nat))) ⟨rfl, rfl⟩, Bool.and_true]
    go_enter Tryz.func62, Tryz.ntmps62
    go_wp2_with fail
    refine hD.mono ?_
    rintro e w1 ⟨rfl, hb⟩
    have gB1 := (gB.keep hb).alloc (.cells #[.int .i64 (nn : Nat), .int .i64 (L3 : Nat)] 37)
    obtain ⟨q0, q1⟩ := gB.keep hb
    have hcl := (gB.keep hb).lt
    rw [hC] at q0 q1 gB1 hcl
    have hne : ¬ C = w1.heap.size := Nat.ne_of_lt hcl
    have hB1 := (hA.trans (hb.mono hA.size)).alloc (hA.trans (hb.mono hA.size)).size (.cells #[.int .i64 (nn : Nat), .int .i64 (L3 : Nat)] 37)
    clear hD
    go_wp2_with fail
    refine (hTb2.out _).mono ?_
    rintro e w2 ⟨rfl, hb2⟩
    have hB2 := hB1.trans (hb2.mono hB1.size)
    go_wp2_with fail
    refine (hWd.out _).mono ?_
    rintro e w3 ⟨rfl, hb3⟩
    have hB3 := hB2.trans (hb3.mono hB2.size)
    go_wp2_with fail
    refine (hCh.out _ hB3).mono ?_
    rintro e w4 ⟨hP, hb4⟩
    have hB4 := hB3.trans (hb4.mono hB3.size)
    rcases hP with ⟨hall, v', rfl, -⟩ | ⟨hall, rfl⟩
    ·go_wp2_with fail
     go_ret
     exact ⟨by rw [hall]; rfl, hB4⟩
    go_wp2_with fail
    go_ret
    exact ⟨by rw [hall]; rfl, hB4⟩
   have hgd : decide (W = (nn : Nat) ∧ L = (L3 : Nat)) = false := decide_eq_false hg
   rw [hgd, Bool.and_false]
   clear hgd hr
   by_cases hW2 : W = (nn : Nat)
   ·have hL2 : ¬ L = (L3 : Nat) := fun h => hg ⟨hW2, h⟩
    have hL4 : ¬ (L3 : Int) = L := fun h => hL2 h.symm
    subst hW2
    clear hg
    go_enter Tryz.func62, Tryz.ntmps62
    go_wp2_with fail
    refine hD.mono ?_
    rintro e w1 ⟨rfl, hb⟩
    have gB1 := (gB.keep hb).alloc (.cells #[.int .i64 (nn : Nat), .int .i64 (L3 : Nat)] 37)
    obtain ⟨q0, q1⟩ := gB.keep hb
    have hcl := (gB.keep hb).lt
    rw [hC] at q0 q1 gB1 hcl
    have hne : ¬ C = w1.heap.size := Nat.ne_of_lt hcl
    have hB1 := (hA.trans (hb.mono hA.size)).alloc (hA.trans (hb.mono hA.size)).size (.cells #[.int .i64 (nn : Nat), .int .i64 (L3 : Nat)] 37)
    clear hD
    go_wp2_with fail
    go_ret
    exact ⟨rfl, hB1⟩
   have hW4 : ¬ (nn : Int) = W := fun h => hW2 h.symm
   clear hg
   go_enter Tryz.func62, Tryz.ntmps62
   go_wp2_with fail
   refine hD.mono ?_
   rintro e w1 ⟨rfl, hb⟩
   have gB1 := (gB.keep hb).alloc (.cells #[.int .i64 (nn : Nat), .int .i64 (L3 : Nat)] 37)
   obtain ⟨q0, q1⟩ := gB.keep hb
   have hcl := (gB.keep hb).lt
   rw [hC] at q0 q1 gB1 hcl
   have hne : ¬ C = w1.heap.size := Nat.ne_of_lt hcl
   have hB1 := (hA.trans (hb.mono hA.size)).alloc (hA.trans (hb.mono hA.size)).size (.cells #[.int .i64 (nn : Nat), .int .i64 (L3 : Nat)] 37)
   clear hD
   go_wp2_with fail
   go_ret
   exact ⟨rfl, hB1⟩
end Go.Proofs.YtkkbngcgphlikaaGreatDoor
end
section
namespace Go.Proofs.YtkkbngcgphlikaaGreatDoor
open Go.Lib Go.RowKit Go.ChangeShapes Go.WideShapes Go.Deep
theorem OwnSp.chg {S : Nat → Prop} {w w1 : World} {base : Nat} {v : Value} {l : List Sp} (h : OwnSp w base v l) (hc : Chg S w w1) (hn : ∀ k, v.ownBlock = some k → ¬ S k) : OwnSp w1 base v l := by
 refine ⟨h.1, ?_⟩
 rcases h.2 with h2 | ⟨g, cap, cur, hv, hbg, hg, h1, h2, h3, h4⟩
 ·exact .inl h2
 exact .inr ⟨g, cap, cur, hv, hbg, by rw [hc.block g (Array.getElem?_eq_some_iff.1 hg).1 (hn g (by rw [hv]; rfl))]; exact hg, h1, h2, h3, h4⟩
theorem OwnSp.one (w : World) (a b : Int) (t : TypeId) (ht : t = 70) : OwnSp (w.alloc (.cells #[.int .i64 a, .int .i64 b] t)) w.heap.size (.slice (some ⟨w.heap.size, 0, none⟩) 1 1) [(a, b)] := by
 subst ht
 exact World.ownsRow_lit (base := w.heap.size) (e := 70) (size := 2) w #[.int .i64 a, .int .i64 b] 1 (Nat.le_refl _) (by unfold maxLen; omega) (by simp)
theorem C2.chg {S : Nat → Prop} {w w1 : World} {b : Nat} {x y : Value} (h : C2 w b x y) (hc : Chg S w w1) (hn : ¬ S b) : C2 w1 b x y := by
 have hb := hc.block b h.lt hn
 exact ⟨(World.cell?_of_block hb).trans h.1, (World.cell?_of_block hb).trans h.2⟩
theorem logs_bd {t : List Nat} {ln : Int} : ∀ x ∈ logsT t ln, x < t.length := by
 intro x hx
 unfold logsT at hx
 split at hx
 ·exact (logsR_in hx).1
 cases hx
theorem logs_len {t : List Nat} {ln : Int} : (logsT t ln).length ≤ 8 * t.length := by
 unfold logsT
 split
 ·exact logsR_len t ln 8
 simp
theorem mlog_any (v : Value) (I : List Nat) (L ln : Nat) (w : World) (hw : Lw w) (hW : WL I) (hv : KL .u64 w v I) (hg : gOk (I.length : Nat) (L : Nat) = true) (hln : ln < L) (h40 : gNat I.length L ≤ 40) :
 Calls Tryz.prog 147 #[v, .agg #[.int .i64 (I.length : Nat), .int .i64 (L : Nat)], .int .i64 (ln : Nat)] w fun e w' => ∃ v', e = .returned v' ∧ OwnSp w' w.heap.size v' (logSp I L ln) ∧ Below w.heap.size w w' := by
 obtain ⟨nn, hnn⟩ : ∃ n, I.length = n := ⟨_, rfl⟩
 obtain ⟨s1, s2, s3, s4, s5, s6, s7, s8⟩ := pool_size hg
 have hTl := tabW_len hg
 obtain ⟨G, hG⟩ : ∃ G, gNat I.length L = G := ⟨_, rfl⟩
 rw [hG] at s5 s6 s7 s8 h40 hTl
 have hTw := hW.part (10 + 73 * L) G
 have hTk : tabW I L = (I.drop (10 + 73 * L)).take G := by unfold tabW; rw [hG]
 rw [← hTk] at hTw
 obtain ⟨F, hF⟩ : ∃ F, 10 + 73 * L = F := ⟨_, rfl⟩
 have hF' : (10 + 73 * (L : Int)) = (F : Int) := by omega
 rw [hnn] at hg s3 s4 s5 s8
 have hlk : lOk (nn : Nat) (L : Nat) (ln : Nat) = true := by unfold lOk; rw [hg, Bool.true_and]; exact decide_eq_true (by omega)
 have hLg := lh (fun w1 => log_t (nn : Nat) (L : Nat) (ln : Nat) w1 hlk)
 have hTb := lh (fun w1 => table_t (nn : Nat) (L : Nat) w1 hg)
 rw [hF', s5] at hTb
 obtain ⟨H0, hH0⟩ : ∃ h, 10 + L + ln * 72 = h := ⟨_, rfl⟩
 have hH1 : (10 + (L : Int) + (ln : Int) * 72) = (H0 : Int) := by omega
 rw [hH1] at hLg
 have hCk := lh (fun (i : Nat) (hi : i < G) w1 => show Calls Tryz.prog 88 #[.agg #[.int .i64 (nn : Nat), .int .i64 (L : Nat)], .int .i64 (i : Nat)] w1 (fun e w' => e = .returned (.agg #[.int .i64 (chSp I.length L i).1, .int .i64 32]) ∧ Below w1.heap.size w1 w') from by
  have h := chunk_yes (nn : Nat) (L : Nat) (i : Nat) w1 hg (by omega) (by omega)
  unfold cFrom at h
  rw [s5] at h
  unfold chSp
  rw [hG, show (((10 + 73 * L + G + i * 32 : Nat) : Int)) = 10 + 73 * (L : Int) + (G : Nat) + (i : Nat) * 32 from by push_cast; rfl]
  exact h)
 obtain ⟨g, off, cap, rfl, hcap, hgs⟩ := hv.addr hnn (by omega)
 have hWd := lh (fun w1 => mwords_any g off nn cap F G w1 (by omega) hcap (by omega) (by omega))
 have hLs := lh (fun w1 (hb : Below w.heap.size w w1) => logs_any (.slice (some ⟨g, off + F, none⟩) G G) (tabW I L) (ln : Nat) w1 (hw.keep hb) (by rw [hTk, hF]; exact (hv.keep hb).part hnn F G (by omega)) hTw (by rw [hTl]; omega) (by omega) (by omega))
 obtain ⟨R, hR⟩ : ∃ R, logsT (tabW I L) (ln : Nat) = R := ⟨_, rfl⟩
 rw [hR] at hLs
 have hRb : ∀ x ∈ R, x < G := fun x hx => by rw [← hTl]; rw [← hR] at hx; exact logs_bd x hx
 have hRl : R.length ≤ 320 := by have := logs_len (t := tabW I L) (ln := (ln : Nat)); rw [hR, hTl] at this; omega
 have hSp : logSp I L ln = ((H0 : Int), 32) :: R.map (chSp I.length L) := by unfold logSp; rw [hR, hH0]
 rw [hSp, hnn]
 obtain ⟨mm, hmm⟩ : ∃ m, R.length = m := ⟨_, rfl⟩
 have hRx := lh (fun j (hj : j < mm) => show R.getD j 0 < G from hRb _ (by rw [List.getD_eq_getElem?_getD, List.getElem?_eq_getElem (by omega)]; exact List.getElem_mem _))
 have hSt := lh (fun j (hj : j < mm) => show (((H0 : Int), 32) :: (R.take j).map (chSp I.length L)) ++ [chSp I.length L (R.getD j 0)] = ((H0 : Int), 32) :: (R.take (j + 1)).map (chSp I.length L) from by
  rw [List.take_succ_eq_append_getElem (by omega), List.map_append, List.getD_eq_getElem?_getD, List.getElem?_eq_getElem (by omega)]; rfl)
 have hEn := lh (show R.take mm = R from List.take_of_length_le (by omega))
 have hA := bZ w (.cells #[.int .i64 (nn : Nat), .int .i64 (L : Nat)] 37)
 have gB := C2.new w (.int .i64 (nn : Nat)) (.int .i64 (L : Nat)) 37
 obtain ⟨C, hC⟩ : ∃ C, w.heap.size = C := ⟨_, rfl⟩
 have hm9 : mm ≤ 320 := by omega
 replace hnn := lh hnn
 replace hmm := lh hmm
 replace hR := lh hR
 replace hG := lh hG
 clear hv hW hw hTl hTw hTk hg hlk hSp hRb hF hF' hH0 hH1 hRl
 rw [hC] at gB
 go_enter Tryz.func147, Tryz.ntmps147
 have hCC : (w.alloc (.cells #[.int .i64 (nn : Nat), .int .i64 (L : Nat)] 37)).heap.size = C + 1 := by simp; omega
 generalize hw0 : w.alloc (.cells #[.int .i64 (nn : Nat), .int .i64 (L : Nat)] 37) = w0 at *
 obtain ⟨q0, q1⟩ := id gB
 subst hw0
 go_wp2_with fail
 refine (hLg.out _).mono ?_
 rintro e w1 ⟨rfl, hb1⟩
 have hB1 := hA.trans (hb1.mono hA.size)
 have gB1 := gB.keep hb1
 obtain ⟨B, hBl⟩ : ∃ B, w1.heap.size = B := ⟨_, rfl⟩
 have hCB : C < B := by rw [← hBl]; exact gB1.lt
 have hOwn := (OwnSp.one w1 (H0 : Nat) 32 (70 : Nat) rfl)
 have hB2 := hB1.alloc hB1.size (.cells #[.int .i64 (H0 : Nat), .int .i64 32] (70 : Nat))
 have gB2 := gB1.alloc (.cells #[.int .i64 (H0 : Nat), .int .i64 32] (70 : Nat))
 rw [hBl] at hOwn
 obtain ⟨r0, r1⟩ := id gB2
 have hne : ¬ C = w1.heap.size := by omega
 clear q0 q1
 go_wp2_with fail
 refine (hTb.out _).mono ?_
 rintro e w3 ⟨rfl, hb3⟩
 have hB3 := hB2.trans (hb3.mono hB2.size)
 go_wp2_with fail
 refine (hWd.out _).mono ?_
 rintro e w4 ⟨rfl, hb4⟩
 have hB4 := hB3.trans (hb4.mono hB3.size)
 go_wp2_with fail
 refine (hLs.out _ hB4).mono ?_
 rintro e w5 ⟨v5, rfl, ho5, hb5⟩
 have hB5 := hB4.trans (hb5.mono hB4.size)
 have hs1 : (w1.alloc (.cells #[.int .i64 (H0 : Nat), .int .i64 32] (70 : Nat))).heap.size = B + 1 := by simp; omega
 have hB45 : B + 1 ≤ w4.heap.size := by rw [← hs1]; exact Nat.le_trans hb3.size hb4.size
 have hOwn5 := ((hOwn.keep hb3).keep hb4).keep hb5
 have gB5 := ((gB2.keep hb3).keep hb4).keep hb5
 obtain ⟨A5, c5, rfl, hK5⟩ := ho5.kl.form hmm.out
 have hlt5 := hb5.size
 have hoB : ∀ k, (Value.slice A5 mm c5).ownBlock = some k → ¬ k = B := fun k hk => by have := (ho5.lt k hk).1; omega
 have ho5' := lh ho5
 replace hB5 := lh hB5
 clear hB1 hB2 hB3 hB4 hb1 hb3 hb4 hb5 gB gB1 gB2 hA hOwn ho5 hK5 r0 r1
 obtain ⟨A0, c0, hv0⟩ : ∃ A0 c0, (Value.slice (some ⟨B, 0, none⟩) 1 1) = .slice A0 1 c0 := ⟨_, _, rfl⟩
 go_wp2_with fail
 go_loopw [21, 7] (fun i l wr => ∃ (j : Nat) (P : List Sp), j ≤ mm ∧ i = .int .i64 j ∧ Hid (P = ((H0 : Int), 32) :: (R.take j).map (chSp I.length L)) ∧ P.length = j + 1 ∧ OwnSp wr (C + 1) l P ∧ Chg (fun k => k = B) w5 wr ∧ (∀ k, l.ownBlock = some k → k = B ∨ w5.heap.size ≤ k)) (fun i _ _ => mm + 1 - (intOf i).toNat)
 case atStart => exact ⟨0, _, Nat.zero_le _, rfl, rfl, by simp, hOwn5.mono (by omega), Chg.refl _ _, fun k hk => .inl (by cases hk; rfl)⟩
 obtain ⟨j, P, hj, rfl, hP, hPl, hown, hch, hbk⟩ := hrel
 have gBr := gB5.chg hch (by omega)
 have hBr := hB5.out.trans (hch.below (N := w.heap.size) (fun k hk => by omega) hB5.out.size)
 by_cases hlt : j < mm
 rotate_left
 ·obtain rfl : j = mm := by omega
  have hfin := lh (show OwnSp wr C u7 (((H0 : Int), 32) :: R.map (chSp nn L)) from by rw [hP.out, hEn.out, hnn.out] at hown; exact hown.mono (by omega))
  clear hown hch hbk
  go_wp2_with fail
  go_ret
  exact ⟨_, rfl, by rw [hC]; exact hfin.out, hBr⟩
 obtain ⟨A9, c9, hv9, hK9⟩ := (IKO.kl (OwnE.chg ho5'.out hch hoB)).form hmm.out
 cases hv9
 obtain ⟨g2, o2, rfl, hcap2, hg2, c0⟩ := hK9 wr j (Below.refl _ _) hlt
 have hlt' : (j : Int) < (mm : Int) := by omega
 have hx := hRx.out j hlt
 have hst := lh (hSt.out j hlt)
 have hCj := hCk.out (R.getD j 0) hx
 generalize R.getD j 0 = x at *
 obtain ⟨q0, q1⟩ := id gBr
 rw [hnn.out] at hCj
 clear hK9
 go_wp2_with fail
 refine (hCj wr).mono ?_
 rintro e w6 ⟨rfl, hb6⟩
 have hB6 := hBr.trans (hb6.mono hBr.size)
 obtain ⟨s, hs⟩ : ∃ s, chSp nn L x = s := ⟨_, rfl⟩
 have hs2 : s.2 = 32 := by rw [← hs]; rfl
 have hC6 := C2.new w6 (.int .i64 s.1) (.int .i64 32) (70 : Nat)
 obtain ⟨v', w8, hrun, ho8, hg8, hor⟩ := app1 (s := s) ((hown.keep hb6).keep (bZ w6 (.cells #[.int .i64 s.1, .int .i64 32] (70 : Nat)))) (by rw [hs2]; exact hC6) (by have := hB6.size; have := gBr.lt; have := hb6.size; simp; omega) (by omega)
 rw [hs]
 have hch8 : Chg (fun k => k = B) w5 w8 := (hch.trans (Chg.of_below (fun k => k = B) (hb6.alloc hb6.size (.cells #[.int .i64 s.1, .int .i64 32] (70 : Nat)))) (fun k h => .inl h)).trans (Chg.of_grown (S := fun k => k = B ∨ w5.heap.size ≤ k) hg8 (fun k hk => .inl (hbk k hk))) (fun k h => by rcases h with h | h; exact .inl h; exact .inr h)
 have hbk8 : ∀ k, v'.ownBlock = some k → k = B ∨ w5.heap.size ≤ k := fun k hk => by
  rcases hor with h | h
  ·exact hbk k (by rw [← h]; exact hk)
  rw [h] at hk
  cases hk
  have := hch.size; have := hb6.size
  simp; omega
 clear hg8 hC6 hor hown hch hbk hb6
 go_wp2_with (at_builtin; refine wpList_append_run rfl _ _ 49 rfl _ _ _ rfl rfl hrun ?_)
 go_roundw
 case rel => exact ⟨j + 1, P ++ [s], by omega, by go_num, by rw [hP.out, ← hs, ← hnn.out]; exact hst.out, by rw [List.length_append, hPl]; rfl, ho8, hch8, hbk8⟩
 first | (simp [intOf]; done) | (simp [intOf]; omega)
end Go.Proofs.YtkkbngcgphlikaaGreatDoor
end
section
namespace Go.Proofs.YtkkbngcgphlikaaGreatDoor
open Go.Lib Go.RowKit Go.ChangeShapes Go.WideShapes Go.Deep
theorem readB_t {I : List Nat} {W L : Int} (h : readB I W L = true) : poolB I = true ∧ W = (I.length : Nat) ∧ L = (I.getD 3 0 : Nat) := by
 unfold readB at h
 rw [Bool.and_eq_true] at h
 exact ⟨h.1, of_decide_eq_true h.2⟩
def laneB (I : List Nat) (W L ln : Int) : Bool := readB I W L && decide (0 ≤ ln ∧ ln < L)
def logP (I : List Nat) (W L ln : Int) : List Sp := if laneB I W L ln = true then logSp I L.toNat ln.toNat else []
theorem log_any (v : Value) (I : List Nat) (W L ln : Int) (w : World) (hw : Lw w) (hW : WL I) (hv : KL .u64 w v I) (h40 : poolB I = true → gNat I.length (I.getD 3 0) ≤ 40) :
 Calls Tryz.prog 95 #[v, .agg #[.int .i64 W, .int .i64 L], .int .i64 ln] w fun e w' => ∃ v', e = .returned v' ∧ OwnSp w' w.heap.size v' (logP I W L ln) ∧ Below w.heap.size w w' := by
 have hA := bZ w (.cells #[.int .i64 W, .int .i64 L] 37)
 have hR := lh (fun w1 (hb : Below w.heap.size w w1) => readable_any v I W L w1 (hw.keep hb) hW (hv.keep hb))
 obtain ⟨nn, hnn⟩ : ∃ n, I.length = n := ⟨_, rfl⟩
 have gC := C2.new w (.int .i64 W) (.int .i64 L) 37
 obtain ⟨C, hC⟩ : ∃ C, w.heap.size = C := ⟨_, rfl⟩
 rw [hC] at gC
 cases hr : readB I W L with
 | false =>
   have hno := lh (show logP I W L ln = [] from if_neg (by unfold laneB; rw [hr]; simp))
   rw [hr] at hR
   obtain ⟨q0, q1⟩ := id gC
   clear hr h40
   go_enter Tryz.func95, Tryz.ntmps95
   go_wp2_with fail
   refine (hR.out _ hA).mono ?_
   rintro e w1 ⟨rfl, hb1⟩
   have hB1 := hA.trans (hb1.mono hA.size)
   clear hb1 hR
   go_wp2_with fail
   go_ret
   exact ⟨_, rfl, by rw [hno.out]; exact OwnSp.nil _ _, hB1⟩
 | true =>
   obtain ⟨hp, hW1, hL1⟩ := readB_t hr
   obtain ⟨L3, hL3⟩ : ∃ L3, I.getD 3 0 = L3 := ⟨_, rfl⟩
   have hgk := (gOk_pool (pool_t hp).1).2
   replace h40 := h40 hp
   rw [hL3] at hL1 hgk h40
   rw [hnn] at hW1
   subst hW1
   subst hL1
   rw [hr] at hR
   have hsz := (pool_size hgk).2.1
   by_cases h0 : ln < 0
   ·have hno := lh (show logP I (nn : Nat) (L3 : Nat) ln = [] from if_neg (by unfold laneB; rw [hr, decide_eq_false (by omega)]; decide))
    obtain ⟨q0, q1⟩ := id gC
    clear hr h40 hgk hp hL3
    go_enter Tryz.func95, Tryz.ntmps95
    go_wp2_with fail
    refine (hR.out _ hA).mono ?_
    rintro e w1 ⟨rfl, hb1⟩
    have hB1 := hA.trans (hb1.mono hA.size)
    clear hb1 hR
    go_wp2_with fail
    go_ret
    exact ⟨_, rfl, by rw [hno.out]; exact OwnSp.nil _ _, hB1⟩
   obtain ⟨n, rfl⟩ := Int.eq_ofNat_of_zero_le (show 0 ≤ ln by omega)
   by_cases h1 : L3 ≤ n
   ·have hno := lh (show logP I (nn : Nat) (L3 : Nat) (n : Nat) = [] from if_neg (by unfold laneB; rw [hr, decide_eq_false (by omega)]; decide))
    have h1' : ((L3 : Int)) ≤ (n : Int) := by omega
    clear hr h40 hgk hp hL3 h0
    go_enter Tryz.func95, Tryz.ntmps95
    obtain ⟨q0, q1⟩ := id gC
    go_wp2_with fail
    refine (hR.out _ hA).mono ?_
    rintro e w1 ⟨rfl, hb1⟩
    have hB1 := hA.trans (hb1.mono hA.size)
    obtain ⟨r0, r1⟩ := gC.keep hb1
    clear hb1 hR q0 q1
    go_wp2_with fail
    go_ret
    exact ⟨_, rfl, by rw [hno.out]; exact OwnSp.nil _ _, hB1⟩
   have hyes := lh (show logP I (nn : Nat) (L3 : Nat) (n : Nat) = logSp I L3 n from if_pos (by unfold laneB; rw [hr, decide_eq_true (by omega)]; decide))
   have hMl := lh (fun w1 (hb : Below w.heap.size w w1) => mlog_any v I L3 n w1 (hw.keep hb) hW (hv.keep hb) hgk (by omega) h40)
   rw [hnn] at hMl
   have h1' : ((n : Int)) < (L3 : Int) := by omega
   clear hr h40 hgk hp hL3 h0
   go_enter Tryz.func95, Tryz.ntmps95
   obtain ⟨q0, q1⟩ := id gC
   go_wp2_with fail
   refine (hR.out _ hA).mono ?_
   rintro e w1 ⟨rfl, hb1⟩
   have hB1 := hA.trans (hb1.mono hA.size)
   obtain ⟨r0, r1⟩ := gC.keep hb1
   clear hb1 hR q0 q1
   go_wp2_with fail
   refine (hMl.out _ hB1).mono ?_
   rintro e w2 ⟨v', rfl, ho2, hb2⟩
   have hB2 := hB1.trans (hb2.mono hB1.size)
   have ho3 := lh (ho2.mono hB1.size)
   clear ho2 hb2 hMl
   go_wp2_with fail
   go_ret
   exact ⟨_, rfl, by rw [hyes.out]; exact ho3.out, hB2⟩
end Go.Proofs.YtkkbngcgphlikaaGreatDoor
end
section
namespace Go.Proofs.YtkkbngcgphlikaaGreatDoor
open Go.Lib Go.RowKit Go.ChangeShapes Go.WideShapes Go.Deep
theorem WL.setN {l : List Nat} (h : WL l) (i y : Nat) (hy : y < 18446744073709551616) : WL (l.set i y) := fun z hz => by
 rcases List.mem_or_eq_of_mem_set hz with h1 | h1
 ·exact h z h1
 ·rw [h1]; exact hy
theorem WL.getN {l : List Nat} (h : WL l) (i : Nat) : l.getD i 0 < 18446744073709551616 := by
 rw [List.getD_eq_getElem?_getD]
 cases hc : l[i]? with
 | none => decide
 | some x => exact h x (List.mem_of_getElem? hc)
end Go.Proofs.YtkkbngcgphlikaaGreatDoor
end
section
namespace Go.Proofs.YtkkbngcgphlikaaGreatDoor
open Go.Lib Go.RowKit Go.ChangeShapes Go.WideShapes Go.Deep
theorem OwnU_row {w : World} {base g n c : Nat} {l : List Nat} (h : OwnU w base (.slice (some ⟨g, 0, none⟩) n c) l) : base ≤ g ∧ ∃ cur, w.heap[g]? = some (.cells cur 40 (0, 0)) := by
 rcases h.2 with ⟨q, _⟩ | ⟨g', cap', cur, q, hb, hg, _⟩
 ·cases q
 cases q; exact ⟨hb, cur, hg⟩
theorem OwnU_cap {w : World} {base g n c : Nat} {l : List Nat} (h : OwnU w base (.slice (some ⟨g, 0, none⟩) n c) l) (hn : l.length = n) : n ≤ c := by
 rcases h.2 with ⟨q, _⟩ | ⟨g', cap', cur, q, hb, hg, h1, _⟩
 ·cases q
 cases q; omega
end Go.Proofs.YtkkbngcgphlikaaGreatDoor
end
