/-
  Part of the proof of JournalUndo.
-/
import Derived.Test.YtkkbngcgphlikaaGreatDoorJu21
import Derived.Test.YtkkbngcgphlikaaGreatDoorJu25
import Derived.Test.YtkkbngcgphlikaaGreatDoorRows
import Derived.Test.YtkkbngcgphlikaaGreatDoorJu0
set_option maxRecDepth 10000
set_option maxHeartbeats 1000000
set_option linter.unusedVariables false
set_option linter.unusedSimpArgs false
section
namespace Go.Proofs.YtkkbngcgphlikaaGreatDoor
def tabW (I : List Nat) (L : Nat) : List Nat := (I.drop (10 + 73 * L)).take (gNat I.length L)
def poolB (I : List Nat) : Bool := sOk I && (tabW I (I.getD 3 0)).all okN
def readB (I : List Nat) (W L : Int) : Bool := poolB I && decide (W = (I.length : Nat) ∧ L = (I.getD 3 0 : Nat))
def mkS (x : Nat) : Nat := x % 4
def mkC (x : Nat) : Nat := x / 4 % 16384
def mkG (x : Nat) : Nat := x / 65536
def mkOk (x : Nat) : Bool := okB (mkS x : Nat) (mkC x : Nat) (mkG x : Nat)
def chSp (N L i : Nat) : Sp := (((10 + 73 * L + gNat N L + i * 32 : Nat) : Int), 32)
def logSp (I : List Nat) (L ln : Nat) : List Sp := (((10 + L + ln * 72 : Nat) : Int), 32) :: (logsT (tabW I L) (ln : Nat)).map (chSp I.length L)
def inCh (N L : Nat) (a : Int) : Bool := decide (((10 + 73 * L + gNat N L : Nat) : Int) ≤ a ∧ a < ((10 + 73 * L + gNat N L + gNat N L * 32 : Nat) : Int))
def entOps (x : Pe) : List Ox := (List.range x.2.length).map fun i : Nat => ((0 : Int), x.1 + (i : Int), x.2.getD i 0)
def entIn (N L : Nat) (x : Pe) : Bool := inCh N L x.1 && inCh N L (x.1 + (x.2.length : Int) - 1)
def notedD (I : List Nat) (L ln c g : Nat) : Option (List Ox) :=
 if totS (logSp I L ln) < (c : Int) then none else
 match decL g (gathL I (cutL (logSp I L ln) (0, (c : Int)))) with
 | none => none
 | some es => if es.all (entIn I.length L) then some (es.reverse.flatMap entOps) else none
def redoW (I : List Nat) (L ln : Nat) : List Nat := (I.drop (10 + L + ln * 72 + 32)).take 40
def opIn (N L : Nat) (o : Ox) : Bool := decide (o.2.1 = 8 ∨ (((10 + 73 * L : Nat) : Int) ≤ o.2.1 ∧ o.2.1 < ((10 + 73 * L + gNat N L : Nat) : Int)))
def decidedD (I : List Nat) (L ln c : Nat) : Option (List Ox) :=
 if c ≤ 19 ∧ decB (redoW I L ln) c = true ∧ (opsN (redoW I L ln) c).all (opIn I.length L) = true then some (opsN (redoW I L ln) c) else none
def laneD (I : List Nat) (L ln : Nat) : Option (List Ox) :=
 if mkOk (I.getD (10 + ln) 0) then
  (if mkS (I.getD (10 + ln) 0) = 1 then notedD I L ln (mkC (I.getD (10 + ln) 0)) (mkG (I.getD (10 + ln) 0))
   else if mkS (I.getD (10 + ln) 0) = 2 then decidedD I L ln (mkC (I.getD (10 + ln) 0)) else some [])
 else none
def lanesD (I : List Nat) (L : Nat) : Nat → Option (List Ox)
 | 0 => some []
 | k + 1 => match lanesD I L k, laneD I L k with
   | some a, some b => some (a ++ b)
   | _, _ => none
def endN (x : Nat) : Nat := if mkOk x then mkG x * 65536 else 0
def idlesL (I : List Nat) : Nat → List Nat
 | 0 => I
 | k + 1 => (idlesL I k).set (10 + k) (endN ((idlesL I k).getD (10 + k) 0))
def noLog (x : Nat) : Nat := if okN x = true ∧ kN x = 4 then 0 else x
def clrL (I : List Nat) (L : Nat) : Nat → List Nat
 | 0 => I
 | k + 1 => (clrL I L k).set (10 + 73 * L + k) (noLog ((clrL I L k).getD (10 + 73 * L + k) 0))
def restL (I : List Nat) (L : Nat) : List Nat := clrL (idlesL I L) L (gNat I.length L)
def mendD (I : List Nat) : Option (List Nat) :=
 if poolB I then
  (match lanesD I (I.getD 3 0) (I.getD 3 0) with
   | none => none
   | some ops => some (restL (applyL I ops) (I.getD 3 0)))
 else none
theorem idlesL_len (I : List Nat) : ∀ k, (idlesL I k).length = I.length
 | 0 => rfl
 | k + 1 => by rw [idlesL, List.length_set, idlesL_len I k]
theorem clrL_len (I : List Nat) (L : Nat) : ∀ k, (clrL I L k).length = I.length
 | 0 => rfl
 | k + 1 => by rw [clrL, List.length_set, clrL_len I L k]
theorem pool_t {I : List Nat} (h : poolB I = true) : sOk I = true ∧ (tabW I (I.getD 3 0)).all okN = true := by
 unfold poolB at h; rw [Bool.and_eq_true] at h; exact h
theorem gOk_pool {I : List Nat} (h : sOk I = true) : 8 ≤ I.length ∧ gOk (I.length : Nat) (I.getD 3 0 : Nat) = true := by
 unfold sOk at h
 rw [Bool.and_eq_true, Bool.and_eq_true] at h
 exact ⟨of_decide_eq_true h.1, h.2.1⟩
theorem pool_size {N L : Nat} (h : gOk (N : Nat) (L : Nat) = true) : 1 ≤ L ∧ L ≤ 64 ∧ N ≤ 65536 ∧ 43 + 73 * L ≤ N ∧ gN (N : Nat) (L : Nat) = (gNat N L : Nat) ∧ 1 ≤ gNat N L ∧ gNat N L ≤ 2000 ∧ 10 + 73 * L + 33 * gNat N L ≤ N := by
 have h1 := gOk_t h
 have h2 := gN_bd h
 have h3 := gNat_eq h
 rw [h3] at h2
 refine ⟨by omega, by omega, by omega, by omega, h3, by omega, by omega, by omega⟩
theorem tabW_len {I : List Nat} {L : Nat} (h : gOk (I.length : Nat) (L : Nat) = true) : (tabW I L).length = gNat I.length L := by
 have := pool_size h
 unfold tabW
 rw [List.length_take, List.length_drop]; omega
theorem redoW_len {I : List Nat} {L ln : Nat} (h : gOk (I.length : Nat) (L : Nat) = true) (hl : ln < L) : (redoW I L ln).length = 40 := by
 have := pool_size h
 unfold redoW
 rw [List.length_take, List.length_drop]; omega
end Go.Proofs.YtkkbngcgphlikaaGreatDoor
end
section
namespace Go.Proofs.YtkkbngcgphlikaaGreatDoor
open Go.Lib Go.RowKit Go.ChangeShapes Go.WideShapes Go.Deep
theorem run_slice3 {P : Program} {ty el : TypeId} {i0 : TypeInfo} (hu : P.underlying ty = some (.slice el)) (hi : P.info? el = some i0) (h1 : i0.size = 1) (g off n cap f e m : Nat) (h : f ≤ e) (h2 : e ≤ cap) (hm : m = e - f) (hm0 : 0 < m) (w : World) :
 (Instr.slice ty (.slice (some ⟨g, off, none⟩) n cap) (some (.int .i64 (f : Int))) (some (.int .i64 (e : Int))) (some (.int .i64 (e : Int)))).run P w = .ok (.slice (some ⟨g, off + f, none⟩) m m) w := by
 have h3 : (e : Int) ≤ (cap : Int) := by omega
 have h4 : (0 : Int) ≤ (e : Int) := by omega
 have h5 : (f : Int) ≤ (e : Int) := by omega
 have h6 : (0 : Int) ≤ (f : Int) := by omega
 subst hm
 simp [Instr.slice, run_underlying hu, Instr.sliceBounds, Instr.sliceBound, asIntOf, sizeOf, typeInfo, hi, h1, h3, h4, h5, h6, go_sem]
 rw [if_pos h2, if_pos h, if_neg (by omega)]
theorem mwords_any (g off n cap f m : Nat) (w : World) (h1 : f + m ≤ n) (h2 : n ≤ cap) (h3 : 1 ≤ m) (hn : n ≤ 100000) :
 Calls Tryz.prog 119 #[.slice (some ⟨g, off, none⟩) n cap, .agg #[.int .i64 (f : Nat), .int .i64 (m : Nat)]] w fun e w' => e = .returned (.slice (some ⟨g, off + f, none⟩) m m) ∧ Below w.heap.size w w' := by
 have hA := bZ w (.cells #[.int .i64 (f : Nat), .int .i64 (m : Nat)] 70)
 obtain ⟨e, he⟩ : ∃ e, f + m = e := ⟨_, rfl⟩
 have w1 : IntKind.i64.wrap ((f : Int) + (m : Int)) = (e : Int) := by rw [IntKind.wrap_i64]; omega
 have w2 : (f : Int) + (m : Int) = (e : Int) := by omega
 obtain ⟨i0, hi, hz0, hz1, hz2⟩ := info_parts infoU64
 have hS := fun w => run_slice3 (P := Tryz.prog) Tryz.underlying25 hi hz1 g off n cap f e m (by omega) (by omega) (by omega) (by omega) w
 replace he := lh he
 go_enter Tryz.func119, Tryz.ntmps119
 go_wp2_with fail
 go_ret
 exact ⟨rfl, hA⟩
theorem inCh_eq {N L : Nat} (h : gOk (N : Nat) (L : Nat) = true) (a : Int) : inCh N L a = decide (cFrom (N : Nat) (L : Nat) 0 ≤ a ∧ a < cFrom (N : Nat) (L : Nat) (gN (N : Nat) (L : Nat))) := by
 obtain ⟨s1, s2, s3, s4, s5, s6, s7, s8⟩ := pool_size h
 unfold inCh cFrom
 rw [s5]
 have e1 : (((10 + 73 * L + gNat N L : Nat)) : Int) = 10 + 73 * (L : Int) + (gNat N L : Nat) + 0 * 32 := by push_cast; omega
 have e2 : (((10 + 73 * L + gNat N L + gNat N L * 32 : Nat)) : Int) = 10 + 73 * (L : Int) + (gNat N L : Nat) + (gNat N L : Nat) * 32 := by push_cast; rfl
 rw [e1, e2]
theorem inCh_any (N L : Nat) (a : Int) (w : World) (h : gOk (N : Nat) (L : Nat) = true) :
 Calls Tryz.prog 189 #[.agg #[.int .i64 (N : Nat), .int .i64 (L : Nat)], .int .i64 a] w fun e w' => e = .returned (.bool (inCh N L a)) ∧ Below w.heap.size w w' := by
 have hA := bZ w (.cells #[.int .i64 (N : Nat), .int .i64 (L : Nat)] 37)
 have hO : ∀ w1, Calls Tryz.prog 130 #[.agg #[.int .i64 (N : Nat), .int .i64 (L : Nat)], .int .i64 a] w1 fun e w' => (∃ x y : Int, e = .returned (.tuple #[.int .i64 x, .int .i64 y]) ∧ decide (0 ≤ x) = inCh N L a) ∧ Below w1.heap.size w1 w' := fun w1 => by
  rw [inCh_eq h]
  by_cases h1 : cFrom (N : Nat) (L : Nat) 0 ≤ a
  ·by_cases h2 : a < cFrom (N : Nat) (L : Nat) (gN (N : Nat) (L : Nat))
   ·refine (of_yes _ _ a w1 h h1 h2).mono ?_
    rintro e w' ⟨rfl, hb⟩
    exact ⟨⟨_, _, rfl, by rw [decide_eq_true (show cFrom (N : Nat) (L : Nat) 0 ≤ a ∧ a < cFrom (N : Nat) (L : Nat) (gN (N : Nat) (L : Nat)) from ⟨h1, h2⟩)]; exact decide_eq_true (by omega)⟩, hb⟩
   refine (of_high _ _ a w1 h h1 (by omega)).mono ?_
   rintro e w' ⟨rfl, hb⟩
   exact ⟨⟨_, _, rfl, by rw [decide_eq_false (show ¬ (cFrom (N : Nat) (L : Nat) 0 ≤ a ∧ a < cFrom (N : Nat) (L : Nat) (gN (N : Nat) (L : Nat))) from fun q => h2 q.2)]; rfl⟩, hb⟩
  refine (of_low _ _ a w1 h (by omega)).mono ?_
  rintro e w' ⟨rfl, hb⟩
  exact ⟨⟨_, _, rfl, by rw [decide_eq_false (show ¬ (cFrom (N : Nat) (L : Nat) 0 ≤ a ∧ a < cFrom (N : Nat) (L : Nat) (gN (N : Nat) (L : Nat))) from fun q => h1 q.1)]; rfl⟩, hb⟩
 have hOx := hO (w.alloc (.cells #[.int .i64 (N : Nat), .int .i64 (L : Nat)] 37))
 generalize inCh N L a = r at *
 clear hO h
 go_enter Tryz.func189, Tryz.ntmps189
 go_wp2_with fail
 refine hOx.mono ?_
 rintro e w1 ⟨⟨x, y, rfl, hx⟩, hb⟩
 have hB := hA.trans (hb.mono hA.size)
 clear hOx
 go_wp2_with fail
 go_ret
 exact ⟨by first | exact congrArg (fun b => Ending.returned (.bool b)) hx | rfl, hB⟩
end Go.Proofs.YtkkbngcgphlikaaGreatDoor
end
section
namespace Go.Proofs.YtkkbngcgphlikaaGreatDoor
open Go.Lib Go.RowKit Go.ChangeShapes Go.WideShapes Go.Deep
theorem KL.part {K : IntKind} {w : World} {g off n cap : Nat} {l : List Nat} (h : KL K w (.slice (some ⟨g, off, none⟩) n cap) l) (hn : l.length = n) (f m : Nat) (hf : f + m ≤ n) : KL K w (.slice (some ⟨g, off + f, none⟩) m m) ((l.drop f).take m) := by
 obtain ⟨A, c, hv, h⟩ := h
 simp only [Value.slice.injEq] at hv
 obtain ⟨rfl, -, rfl⟩ := hv
 have hlen : ((l.drop f).take m).length = m := by rw [List.length_take, List.length_drop]; omega
 refine ⟨_, m, by rw [hlen], fun hp => ?_⟩
 rw [hlen] at hp
 obtain ⟨g2, o2, hA, hg, hc, hi⟩ := h (by omega)
 cases hA
 refine ⟨g, off + f, rfl, hg, by rw [hlen]; omega, fun i hi2 => ?_⟩
 rw [hlen] at hi2
 have := hi (f + i) (by omega)
 rw [Nat.add_assoc, this]
 have e : ((l.drop f).take m).getD i 0 = l.getD (f + i) 0 := by
  rw [List.getD_eq_getElem?_getD, List.getD_eq_getElem?_getD, List.getElem?_take, if_pos hi2, List.getElem?_drop]
 rw [e]
theorem KL.addr {K : IntKind} {w : World} {v : Value} {l : List Nat} {n : Nat} (h : KL K w v l) (hn : l.length = n) (hp : 0 < n) : ∃ g off cap, v = .slice (some ⟨g, off, none⟩) n cap ∧ n ≤ cap ∧ g < w.heap.size := by
 obtain ⟨A, c, hv, h⟩ := h
 obtain ⟨g, off, rfl, hg, hc, _⟩ := h (by omega)
 exact ⟨g, off, c, by rw [hv, hn], by omega, hg⟩
theorem WL.part {l : List Nat} (h : WL l) (f m : Nat) : WL ((l.drop f).take m) := fun x hx => h x (List.mem_of_mem_drop (List.mem_of_mem_take hx))
theorem readable_any (v : Value) (I : List Nat) (W L : Int) (w : World) (hw : Lw w) (hW : WL I) (hv : KL .u64 w v I) :
 Calls Tryz.prog 62 #[v, .agg #[.int .i64 W, .int .i64 L]] w fun e w' => e = .returned (.bool (readB I W L)) ∧ Below w.heap.size w w' := by
 have hA := bZ w (.cells #[.int .i64 W, .int .i64 L] 37)
 have hD := dec_any v I _ hW (KL.sl (hv.keep hA))
 obtain ⟨nn, hnn⟩ : ∃ n, I.length = n := ⟨_, rfl⟩
 cases hs : sOk I with
 | false =>
   have hr : readB I W L = false := by unfold readB poolB; rw [hs]; rfl
   rw [hs] at hD
   rw [hr]
   obtain ⟨A, cap, rfl, _⟩ := hv.form hnn
   replace hD : Calls Tryz.prog 61 #[.slice A nn cap] (w.alloc (.cells #[.int .i64 W, .int .i64 L] 37)) (fun e w' => e = .returned (.tuple #[.agg #[.int .i64 0, .int .i64 0], .int .i64 7]) ∧ Below (w.alloc (.cells #[.int .i64 W, .int .i64 L] 37)).heap.size (w.alloc (.cells #[.int .i64 W, .int .i64 L] 37)) w') := hD
   clear hr hs hv hW hw
   replace hnn := lh hnn
   go_enter Tryz.func62, Tryz.ntmps62
   go_wp2_with fail
   refine hD.mono ?_
   rintro e w1 ⟨rfl, hb⟩
   have hB1 := (hA.trans (hb.mono hA.size)).alloc (hA.trans (hb.mono hA.size)).size (.cells #[.int .i64 0, .int .i64 0] 37)
   clear hD
   go_wp2_with fail
   go_ret
   exact ⟨rfl, hB1⟩
 | true =>
   obtain ⟨g8, hgk⟩ := gOk_pool hs
   obtain ⟨s1, s2, s3, s4, s5, s6, s7, s8⟩ := pool_size hgk
   obtain ⟨G, hG⟩ : ∃ G, gNat I.length (I.getD 3 0) = G := ⟨_, rfl⟩
   obtain ⟨L3, hL3⟩ : ∃ L3, I.getD 3 0 = L3 := ⟨_, rfl⟩
   rw [hG] at s5 s6 s7 s8
   rw [hL3] at s1 s2 s4 s5 s8 hgk
   have hTl := tabW_len hgk
   have hTl2 : (tabW I L3).length = G := by rw [hTl, ← hL3]; exact hG
   have hTw := hW.part (10 + 73 * L3) G
   have hTk : tabW I L3 = (I.drop (10 + 73 * L3)).take G := by unfold tabW; rw [← hL3, hG]
   rw [← hTk] at hTw
   have hTb := table_t (I.length : Nat) (L3 : Nat)
   rw [hnn] at s3 s4 s5 s8 hgk hTb
   have hTb2 := lh (fun w1 => hTb w1 hgk)
   rw [s5] at hTb2
   obtain ⟨g, off, cap, rfl, hcap, hgs⟩ := hv.addr hnn (by omega)
   obtain ⟨F, hF⟩ : ∃ F, 10 + 73 * L3 = F := ⟨_, rfl⟩
   have hF' : (10 + 73 * (L3 : Int)) = (F : Int) := by omega
   rw [hF'] at hTb2
   have hWd := lh (fun w1 => mwords_any g off nn cap F G w1 (by omega) hcap (by omega) (by omega))
   have hCh := lh (fun w1 (hb : Below w.heap.size w w1) => chunks_any (.slice (some ⟨g, off + F, none⟩) G G) (tabW I L3) w1 (hw.keep hb) (by rw [hTk, hF]; exact (hv.keep hb).part hnn F G (by omega)) hTw (by rw [hTl2]; omega))
   rw [hs, hL3, hnn] at hD
   replace hD : Calls Tryz.prog 61 #[.slice (some ⟨g, off, none⟩) nn cap] (w.alloc (.cells #[.int .i64 W, .int .i64 L] 37)) (fun e w' => e = .returned (.tuple #[.agg #[.int .i64 (nn : Nat), .int .i64 (L3 : Nat)], .int .i64 0]) ∧ Below (w.alloc (.cells #[.int .i64 W, .int .i64 L] 37)).heap.size (w.alloc (.cells #[.int .i64 W, .int .i64 L] 37)) w') := hD
   have hr : readB I W L = ((tabW I L3).all okN && decide (W = (nn : Nat) ∧ L = (L3 : Nat))) := by unfold readB poolB; rw [hs, hL3, hnn, Bool.true_and]
   rw [hr]
   replace hr := lh hr
   replace hL3 := lh hL3
   replace hnn := lh hnn
   replace hG := lh hG
   replace hF := lh hF
   obtain ⟨C, hC⟩ : ∃ C, w.heap.size = C := ⟨_, rfl⟩
   have gB := C2.new w (.int .i64 W) (.int .i64 L) 37
   clear hv hW hw hs hTl hTw hTk hTb g8
   by_cases hg : W = (nn : Nat) ∧ L = (L3 : Nat)
   ·obtain ⟨rfl, rfl⟩ := hg
    rw [decide_eq_true (p := ((nn : Int) = (nn : Nat) ∧ (L3 : Int) = (L3 : Nat))) ⟨rfl, rfl⟩, Bool.and_true]
    go_enter Tryz.func62, Tryz.ntmps62
    go_wp2_with fail
    refine hD.mono ?_
    rintro e w1 ⟨rfl, hb⟩
    have gB1 := (gB.keep hb).alloc (.cells #[.int .i64 (nn : Nat), .int .i64 (L3 : Nat)] 37)
    obtain ⟨q0, q1⟩ := gB.keep hb
    have hcl := (gB.keep hb).lt
    rw [hC] at q0 q1 gB1 hcl
    have hne : ¬ C = w1.heap.size := Nat.ne_of_lt hcl
    have hB1 := (hA.trans (hb.mono hA.size)).alloc (hA.trans (hb.mono hA.size)).size (.cells #[.int .i64 (nn : Nat), .int .i64 (L3 : Nat)] 37)
    clear hD
    go_wp2_with fail
    refine (hTb2.out _).mono ?_
    rintro e w2 ⟨rfl, hb2⟩
    have hB2 := hB1.trans (hb2.mono hB1.size)
    go_wp2_with fail
    refine (hWd.out _).mono ?_
    rintro e w3 ⟨rfl, hb3⟩
    have hB3 := hB2.trans (hb3.mono hB2.size)
    go_wp2_with fail
    refine (hCh.out _ hB3).mono ?_
    rintro e w4 ⟨hP, hb4⟩
    have hB4 := hB3.trans (hb4.mono hB3.size)
    rcases hP with ⟨hall, v', rfl, -⟩ | ⟨hall, rfl⟩
    ·go_wp2_with fail
     go_ret
     exact ⟨by rw [hall]; rfl, hB4⟩
    go_wp2_with fail
    go_ret
    exact ⟨by rw [hall]; rfl, hB4⟩
   have hgd : decide (W = (nn : Nat) ∧ L = (L3 : Nat)) = false := decide_eq_false hg
   rw [hgd, Bool.and_false]
   clear hgd hr
   by_cases hW2 : W = (nn : Nat)
   ·have hL2 : ¬ L = (L3 : Nat) := fun h => hg ⟨hW2, h⟩
    have hL4 : ¬ (L3 : Int) = L := fun h => hL2 h.symm
    subst hW2
    clear hg
    go_enter Tryz.func62, Tryz.ntmps62
    go_wp2_with fail
    refine hD.mono ?_
    rintro e w1 ⟨rfl, hb⟩
    have gB1 := (gB.keep hb).alloc (.cells #[.int .i64 (nn : Nat), .int .i64 (L3 : Nat)] 37)
    obtain ⟨q0, q1⟩ := gB.keep hb
    have hcl := (gB.keep hb).lt
    rw [hC] at q0 q1 gB1 hcl
    have hne : ¬ C = w1.heap.size := Nat.ne_of_lt hcl
    have hB1 := (hA.trans (hb.mono hA.size)).alloc (hA.trans (hb.mono hA.size)).size (.cells #[.int .i64 (nn : Nat), .int .i64 (L3 : Nat)] 37)
    clear hD
    go_wp2_with fail
    go_ret
    exact ⟨rfl, hB1⟩
   have hW4 : ¬ (nn : Int) = W := fun h => hW2 h.symm
   clear hg
   go_enter Tryz.func62, Tryz.ntmps62
   go_wp2_with fail
   refine hD.mono ?_
   rintro e w1 ⟨rfl, hb⟩
   have gB1 := (gB.keep hb).alloc (.cells #[.int .i64 (nn : Nat), .int .i64 (L3 : Nat)] 37)
   obtain ⟨q0, q1⟩ := gB.keep hb
   have hcl := (gB.keep hb).lt
   rw [hC] at q0 q1 gB1 hcl
   have hne : ¬ C = w1.heap.size := Nat.ne_of_lt hcl
   have hB1 := (hA.trans (hb.mono hA.size)).alloc (hA.trans (hb.mono hA.size)).size (.cells #[.int .i64 (nn : Nat), .int .i64 (L3 : Nat)] 37)
   clear hD
   go_wp2_with fail
   go_ret
   exact ⟨rfl, hB1⟩
end Go.Proofs.YtkkbngcgphlikaaGreatDoor
end
section
namespace Go.Proofs.YtkkbngcgphlikaaGreatDoor
open Go.RowKit Go.ChangeShapes Go.WideShapes Go.Deep
theorem IKO.kl {w : World} {base : Nat} {v : Value} {l : List Nat} (h : IKO w base v l) : KL .i64 w v l := by
 obtain ⟨A, cap, hv, hc⟩ := OwnE.el eI_len h
 refine ⟨A, cap, hv, fun hl => ?_⟩
 obtain ⟨g, off, hA, hg, hcp, hi⟩ := hc hl
 refine ⟨g, off, hA, hg, hcp, fun i hil => ?_⟩
 have := hi i hil 0 (by decide)
 simpa [eI] using this
end Go.Proofs.YtkkbngcgphlikaaGreatDoor
end
section
namespace Go.Proofs.YtkkbngcgphlikaaGreatDoor
open Go.Lib Go.RowKit Go.ChangeShapes Go.WideShapes Go.Deep
theorem OwnSp.chg {S : Nat → Prop} {w w1 : World} {base : Nat} {v : Value} {l : List Sp} (h : OwnSp w base v l) (hc : Chg S w w1) (hn : ∀ k, v.ownBlock = some k → ¬ S k) : OwnSp w1 base v l := by
 refine ⟨h.1, ?_⟩
 rcases h.2 with h2 | ⟨g, cap, cur, hv, hbg, hg, h1, h2, h3, h4⟩
 ·exact .inl h2
 exact .inr ⟨g, cap, cur, hv, hbg, by rw [hc.block g (Array.getElem?_eq_some_iff.1 hg).1 (hn g (by rw [hv]; rfl))]; exact hg, h1, h2, h3, h4⟩
theorem OwnSp.one (w : World) (a b : Int) (t : TypeId) (ht : t = 70) : OwnSp (w.alloc (.cells #[.int .i64 a, .int .i64 b] t)) w.heap.size (.slice (some ⟨w.heap.size, 0, none⟩) 1 1) [(a, b)] := by
 subst ht
 exact World.ownsRow_lit (base := w.heap.size) (e := 70) (size := 2) w #[.int .i64 a, .int .i64 b] 1 (Nat.le_refl _) (by unfold maxLen; omega) (by simp)
theorem OwnSp.sl {w : World} {base n : Nat} {v : Value} {l : List Sp} (h : OwnSp w base v l) (hn : l.length = n) : ∃ A c, v = .slice A n c := by
 rcases h.2 with ⟨q, h2⟩ | ⟨g', cap', cur, q, _⟩
 ·exact ⟨none, 0, by rw [q, ← hn, h2]⟩
 exact ⟨_, _, by rw [q, hn]⟩
theorem C2.chg {S : Nat → Prop} {w w1 : World} {b : Nat} {x y : Value} (h : C2 w b x y) (hc : Chg S w w1) (hn : ¬ S b) : C2 w1 b x y := by
 have hb := hc.block b h.lt hn
 exact ⟨(World.cell?_of_block hb).trans h.1, (World.cell?_of_block hb).trans h.2⟩
theorem logs_bd {t : List Nat} {ln : Int} : ∀ x ∈ logsT t ln, x < t.length := by
 intro x hx
 unfold logsT at hx
 split at hx
 ·exact (logsR_in hx).1
 cases hx
theorem logs_len {t : List Nat} {ln : Int} : (logsT t ln).length ≤ 8 * t.length := by
 unfold logsT
 split
 ·exact logsR_len t ln 8
 simp
def LgN (I : List Nat) (L : Nat) : Prop := gNat I.length L ≤ 40 ∧ CalmW (tabW I L)
theorem mlog_any (v : Value) (I : List Nat) (L ln : Nat) (w : World) (hw : Lw w) (hW : WL I) (hv : KL .u64 w v I) (hg : gOk (I.length : Nat) (L : Nat) = true) (hln : ln < L) (h40 : LgN I L) :
 Calls Tryz.prog 147 #[v, .agg #[.int .i64 (I.length : Nat), .int .i64 (L : Nat)], .int .i64 (ln : Nat)] w fun e w' => ∃ v', e = .returned v' ∧ OwnSp w' w.heap.size v' (logSp I L ln) ∧ Below w.heap.size w w' := by
 obtain ⟨nn, hnn⟩ : ∃ n, I.length = n := ⟨_, rfl⟩
 obtain ⟨s1, s2, s3, s4, s5, s6, s7, s8⟩ := pool_size hg
 have hTl := tabW_len hg
 obtain ⟨G, hG⟩ : ∃ G, gNat I.length L = G := ⟨_, rfl⟩
 obtain ⟨h40, hcm⟩ := h40
 rw [hG] at s5 s6 s7 s8 h40 hTl
 have hTw := hW.part (10 + 73 * L) G
 have hTk : tabW I L = (I.drop (10 + 73 * L)).take G := by unfold tabW; rw [hG]
 rw [← hTk] at hTw
 obtain ⟨F, hF⟩ : ∃ F, 10 + 73 * L = F := ⟨_, rfl⟩
 have hF' : (10 + 73 * (L : Int)) = (F : Int) := by omega
 rw [hnn] at hg s3 s4 s5 s8
 have hlk : lOk (nn : Nat) (L : Nat) (ln : Nat) = true := by unfold lOk; rw [hg, Bool.true_and]; exact decide_eq_true (by omega)
 have hLg := lh (fun w1 => log_t (nn : Nat) (L : Nat) (ln : Nat) w1 hlk)
 have hTb := lh (fun w1 => table_t (nn : Nat) (L : Nat) w1 hg)
 rw [hF', s5] at hTb
 obtain ⟨H0, hH0⟩ : ∃ h, 10 + L + ln * 72 = h := ⟨_, rfl⟩
 have hH1 : (10 + (L : Int) + (ln : Int) * 72) = (H0 : Int) := by omega
 rw [hH1] at hLg
 have hCk := lh (fun (i : Nat) (hi : i < G) w1 => show Calls Tryz.prog 88 #[.agg #[.int .i64 (nn : Nat), .int .i64 (L : Nat)], .int .i64 (i : Nat)] w1 (fun e w' => e = .returned (.agg #[.int .i64 (chSp I.length L i).1, .int .i64 32]) ∧ Below w1.heap.size w1 w') from by
  have h := chunk_yes (nn : Nat) (L : Nat) (i : Nat) w1 hg (by omega) (by omega)
  unfold cFrom at h
  rw [s5] at h
  unfold chSp
  rw [hG, show (((10 + 73 * L + G + i * 32 : Nat) : Int)) = 10 + 73 * (L : Int) + (G : Nat) + (i : Nat) * 32 from by push_cast; rfl]
  exact h)
 obtain ⟨g, off, cap, rfl, hcap, hgs⟩ := hv.addr hnn (by omega)
 have hWd := lh (fun w1 => mwords_any g off nn cap F G w1 (by omega) hcap (by omega) (by omega))
 have hLs := lh (fun w1 (hb : Below w.heap.size w w1) => logs_any (.slice (some ⟨g, off + F, none⟩) G G) (tabW I L) (ln : Nat) w1 (hw.keep hb) (by rw [hTk, hF]; exact (hv.keep hb).part hnn F G (by omega)) hTw (by rw [hTl]; omega) hcm (by omega) (by omega))
 obtain ⟨R, hR⟩ : ∃ R, logsT (tabW I L) (ln : Nat) = R := ⟨_, rfl⟩
 rw [hR] at hLs
 have hRb : ∀ x ∈ R, x < G := fun x hx => by rw [← hTl]; rw [← hR] at hx; exact logs_bd x hx
 have hRl : R.length ≤ 320 := by have := logs_len (t := tabW I L) (ln := (ln : Nat)); rw [hR, hTl] at this; omega
 have hSp : logSp I L ln = ((H0 : Int), 32) :: R.map (chSp I.length L) := by unfold logSp; rw [hR, hH0]
 rw [hSp, hnn]
 obtain ⟨mm, hmm⟩ : ∃ m, R.length = m := ⟨_, rfl⟩
 have hRx := lh (fun j (hj : j < mm) => show R.getD j 0 < G from hRb _ (by rw [List.getD_eq_getElem?_getD, List.getElem?_eq_getElem (by omega)]; exact List.getElem_mem _))
 have hSt := lh (fun j (hj : j < mm) => show (((H0 : Int), 32) :: (R.take j).map (chSp I.length L)) ++ [chSp I.length L (R.getD j 0)] = ((H0 : Int), 32) :: (R.take (j + 1)).map (chSp I.length L) from by
  rw [List.take_succ_eq_append_getElem (by omega), List.map_append, List.getD_eq_getElem?_getD, List.getElem?_eq_getElem (by omega)]; rfl)
 have hEn := lh (show R.take mm = R from List.take_of_length_le (by omega))
 have hA := bZ w (.cells #[.int .i64 (nn : Nat), .int .i64 (L : Nat)] 37)
 have gB := C2.new w (.int .i64 (nn : Nat)) (.int .i64 (L : Nat)) 37
 obtain ⟨C, hC⟩ : ∃ C, w.heap.size = C := ⟨_, rfl⟩
 have hm9 : mm ≤ 320 := by omega
 replace hnn := lh hnn
 replace hmm := lh hmm
 replace hR := lh hR
 replace hG := lh hG
 clear hv hW hw hTl hTw hTk hg hlk hSp hRb hF hF' hH0 hH1 hRl
 rw [hC] at gB
 go_enter Tryz.func147, Tryz.ntmps147
 have hCC : (w.alloc (.cells #[.int .i64 (nn : Nat), .int .i64 (L : Nat)] 37)).heap.size = C + 1 := by simp; omega
 generalize hw0 : w.alloc (.cells #[.int .i64 (nn : Nat), .int .i64 (L : Nat)] 37) = w0 at *
 obtain ⟨q0, q1⟩ := id gB
 subst hw0
 go_wp2_with fail
 refine (hLg.out _).mono ?_
 rintro e w1 ⟨rfl, hb1⟩
 have hB1 := hA.trans (hb1.mono hA.size)
 have gB1 := gB.keep hb1
 obtain ⟨B, hBl⟩ : ∃ B, w1.heap.size = B := ⟨_, rfl⟩
 have hCB : C < B := by rw [← hBl]; exact gB1.lt
 have hOwn := (OwnSp.one w1 (H0 : Nat) 32 (70 : Nat) rfl)
 have hB2 := hB1.alloc hB1.size (.cells #[.int .i64 (H0 : Nat), .int .i64 32] (70 : Nat))
 have gB2 := gB1.alloc (.cells #[.int .i64 (H0 : Nat), .int .i64 32] (70 : Nat))
 rw [hBl] at hOwn
 obtain ⟨r0, r1⟩ := id gB2
 have hne : ¬ C = w1.heap.size := by omega
 clear q0 q1
 go_wp2_with fail
 refine (hTb.out _).mono ?_
 rintro e w3 ⟨rfl, hb3⟩
 have hB3 := hB2.trans (hb3.mono hB2.size)
 go_wp2_with fail
 refine (hWd.out _).mono ?_
 rintro e w4 ⟨rfl, hb4⟩
 have hB4 := hB3.trans (hb4.mono hB3.size)
 go_wp2_with fail
 refine (hLs.out _ hB4).mono ?_
 rintro e w5 ⟨v5, rfl, ho5, hb5⟩
 have hB5 := hB4.trans (hb5.mono hB4.size)
 have hs1 : (w1.alloc (.cells #[.int .i64 (H0 : Nat), .int .i64 32] (70 : Nat))).heap.size = B + 1 := by simp; omega
 have hB45 : B + 1 ≤ w4.heap.size := by rw [← hs1]; exact Nat.le_trans hb3.size hb4.size
 have hOwn5 := ((hOwn.keep hb3).keep hb4).keep hb5
 have gB5 := ((gB2.keep hb3).keep hb4).keep hb5
 obtain ⟨A5, c5, rfl, hK5⟩ := ho5.kl.form hmm.out
 have hlt5 := hb5.size
 have hoB : ∀ k, (Value.slice A5 mm c5).ownBlock = some k → ¬ k = B := fun k hk => by have := (ho5.lt k hk).1; omega
 have ho5' := lh ho5
 replace hB5 := lh hB5
 clear hB1 hB2 hB3 hB4 hb1 hb3 hb4 hb5 gB gB1 gB2 hA hOwn ho5 hK5 r0 r1
 obtain ⟨A0, c0, hv0⟩ : ∃ A0 c0, (Value.slice (some ⟨B, 0, none⟩) 1 1) = .slice A0 1 c0 := ⟨_, _, rfl⟩
 go_wp2_with fail
 go_loopw [21, 7] (fun i l wr => ∃ (j : Nat) (P : List Sp), j ≤ mm ∧ i = .int .i64 j ∧ Hid (P = ((H0 : Int), 32) :: (R.take j).map (chSp I.length L)) ∧ P.length = j + 1 ∧ OwnSp wr (C + 1) l P ∧ Chg (fun k => k = B) w5 wr ∧ (∀ k, l.ownBlock = some k → k = B ∨ w5.heap.size ≤ k)) (fun i _ _ => mm + 1 - (intOf i).toNat)
 case atStart => exact ⟨0, _, Nat.zero_le _, rfl, rfl, by simp, hOwn5.mono (by omega), Chg.refl _ _, fun k hk => .inl (by cases hk; rfl)⟩
 obtain ⟨j, P, hj, rfl, hP, hPl, hown, hch, hbk⟩ := hrel
 have gBr := gB5.chg hch (by omega)
 have hBr := hB5.out.trans (hch.below (N := w.heap.size) (fun k hk => by omega) hB5.out.size)
 by_cases hlt : j < mm
 rotate_left
 ·obtain rfl : j = mm := by omega
  have hfin := lh (show OwnSp wr C u7 (((H0 : Int), 32) :: R.map (chSp nn L)) from by rw [hP.out, hEn.out, hnn.out] at hown; exact hown.mono (by omega))
  clear hown hch hbk
  go_wp2_with fail
  go_ret
  exact ⟨_, rfl, by rw [hC]; exact hfin.out, hBr⟩
 obtain ⟨A9, c9, hv9, hK9⟩ := (IKO.kl (OwnE.chg ho5'.out hch hoB)).form hmm.out
 cases hv9
 obtain ⟨g2, o2, rfl, hcap2, hg2, c0⟩ := hK9 wr j (Below.refl _ _) hlt
 have hlt' : (j : Int) < (mm : Int) := by omega
 have hx := hRx.out j hlt
 have hst := lh (hSt.out j hlt)
 have hCj := hCk.out (R.getD j 0) hx
 generalize R.getD j 0 = x at *
 obtain ⟨q0, q1⟩ := id gBr
 rw [hnn.out] at hCj
 clear hK9
 go_wp2_with fail
 refine (hCj wr).mono ?_
 rintro e w6 ⟨rfl, hb6⟩
 have hB6 := hBr.trans (hb6.mono hBr.size)
 obtain ⟨s, hs⟩ : ∃ s, chSp nn L x = s := ⟨_, rfl⟩
 have hs2 : s.2 = 32 := by rw [← hs]; rfl
 have hC6 := C2.new w6 (.int .i64 s.1) (.int .i64 32) (70 : Nat)
 obtain ⟨v', w8, hrun, ho8, hg8, hor⟩ := app1 (s := s) ((hown.keep hb6).keep (bZ w6 (.cells #[.int .i64 s.1, .int .i64 32] (70 : Nat)))) (by rw [hs2]; exact hC6) (by have := hB6.size; have := gBr.lt; have := hb6.size; simp; omega) (by omega)
 rw [hs]
 have hch8 : Chg (fun k => k = B) w5 w8 := (hch.trans (Chg.of_below (fun k => k = B) (hb6.alloc hb6.size (.cells #[.int .i64 s.1, .int .i64 32] (70 : Nat)))) (fun k h => .inl h)).trans (Chg.of_grown (S := fun k => k = B ∨ w5.heap.size ≤ k) hg8 (fun k hk => .inl (hbk k hk))) (fun k h => by rcases h with h | h; exact .inl h; exact .inr h)
 have hbk8 : ∀ k, v'.ownBlock = some k → k = B ∨ w5.heap.size ≤ k := fun k hk => by
  rcases hor with h | h
  ·exact hbk k (by rw [← h]; exact hk)
  rw [h] at hk
  cases hk
  have := hch.size; have := hb6.size
  simp; omega
 clear hg8 hC6 hor hown hch hbk hb6
 go_wp2_with (at_builtin; refine wpList_append_run rfl _ _ 49 rfl _ _ _ rfl rfl hrun ?_)
 go_roundw
 case rel => exact ⟨j + 1, P ++ [s], by omega, by go_num, by rw [hP.out, ← hs, ← hnn.out]; exact hst.out, by rw [List.length_append, hPl]; rfl, ho8, hch8, hbk8⟩
 first | (simp [intOf]; done) | (simp [intOf]; omega)
end Go.Proofs.YtkkbngcgphlikaaGreatDoor
end
section
namespace Go.Proofs.YtkkbngcgphlikaaGreatDoor
open Go.RowKit Go.ChangeShapes Go.WideShapes Go.Deep Go.Maps
def iE (x : Int) : List Value := [.int .i64 x]
theorem iE_len (x : Int) : (iE x).length = 1 := rfl
theorem iT_pm : ElT Tryz.prog 84 3 1 8 iE :=
 ⟨Tryz.underlying84, by obtain ⟨i0, h1, h2, h3, h4⟩ := info_parts infoInt; exact ⟨i0, _, h1, h2, h3, h4, rfl⟩, iE_len, fun x u hu => by simp only [iE, List.mem_cons, List.not_mem_nil, or_false] at hu; subst hu; rfl, by decide, by decide⟩
theorem row_ne {w : World} {base sz : Nat} {e t : TypeId} {v : Value} {n : Nat} {xs : List Value} {B : Nat} {cs : Array Value} {f : Nat × Nat} (h : w.ownsRow base e sz v n xs) (hb : w.heap[B]? = some (.cells cs t f)) (hne : t ≠ e) : ∀ k, v.ownBlock = some k → k ≠ B := by
 rintro k hk rfl
 rcases h.2 with ⟨rfl, _⟩ | ⟨g, cap, cur, rfl, _, hg, _⟩
 ·cases hk
 cases hk
 rw [hb] at hg
 cases hg
 exact hne rfl
theorem cell_blk {w : World} {B o : Nat} {cs : Array Value} {t : TypeId} {v : Value} (h : w.heap[B]? = some (.cells cs t (0, 0))) (ho : cs[o]? = some v) : w.cell? ⟨B, o, none⟩ = some v ∧ w.frozen? ⟨B, o, none⟩ = false := by
 constructor
 ·simp [World.cell?, h, ho]
 simp [World.frozen?, h]
structure St_pm where
 noted : List Sp
 fresh : Gf
 n : Nat
 depth : Int
 bad : Bool
 gone : List Int
 root : Int
 named : Bool
def st0 : St_pm := ⟨[], fun _ => none, 0, 0, false, [], 0, false⟩
theorem one_int (w : World) (x : Int) : EL 1 iE (w.alloc (.cells #[.int .i64 x] (3 : Nat))) (.slice (some ⟨w.heap.size, 0, none⟩) 1 1) [x] := (OwnE.lit 3 iE_len w [x] #[.int .i64 x] rfl (by simp)).el iE_len
end Go.Proofs.YtkkbngcgphlikaaGreatDoor
end
section
namespace Go.Proofs.YtkkbngcgphlikaaGreatDoor
open Go.Lib Go.RowKit Go.ChangeShapes Go.WideShapes Go.Deep
theorem OPL.nil (w : World) : OPL w (.slice none 0 0) [] := ⟨none, 0, rfl, fun h => absurd h (by simp)⟩
def rdO (ws : List Nat) (c : Nat) : Option (List Ox) := if c ≤ 19 ∧ decB ws c = true then some (opsN ws c) else none
theorem decided_rd (I : List Nat) (L ln c : Nat) : decidedD I L ln c = (rdO (redoW I L ln) c).bind fun ops => if ops.all (opIn I.length L) = true then some ops else none := by
 unfold decidedD rdO
 by_cases h1 : c ≤ 19 ∧ decB (redoW I L ln) c = true
 ·rw [if_pos h1]
  by_cases h2 : (opsN (redoW I L ln) c).all (opIn I.length L) = true
  ·rw [if_pos ⟨h1.1, h1.2, h2⟩]; simp only [Option.bind_some]; rw [if_pos h2]
  rw [if_neg (fun h => h2 h.2.2)]; simp only [Option.bind_some]; rw [if_neg h2]
 rw [if_neg (fun h => h1 ⟨h.1, h.2.1⟩), if_neg h1]; rfl
theorem rd_any (v : Value) (ws : List Nat) (c : Nat) (w : World) (hv : KL .u64 w v ws) (hW : WL ws) (hlen : ws.length = 40) (hc : c < 16384) :
 Calls Tryz.prog 190 #[v, .int .i64 (c : Nat)] w fun e w' => ∃ v', e = .returned (.tuple #[v', .bool (rdO ws c).isSome]) ∧ OPL w' v' ((rdO ws c).getD []) ∧ Below w.heap.size w w' := by
 by_cases h : c ≤ 19
 ·refine (dec_n v ws c w hv hW (by omega) h (by omega)).mono ?_
  rintro e w' ⟨v', rfl, ho, hb⟩
  unfold decD at ho
  unfold rdO
  cases hd : decB ws c with
  | true => rw [if_pos ⟨h, rfl⟩]; rw [if_pos hd] at ho; exact ⟨v', rfl, ho, hb⟩
  | false => rw [if_neg (fun q => by cases q.2)]; rw [if_neg (by rw [hd]; decide)] at ho; exact ⟨v', rfl, ho, hb⟩
 refine (dec_bad v ws (c : Nat) w hv (by omega) (by omega) (by omega) (.inr (.inl ⟨by omega, by omega⟩))).mono ?_
 rintro e w' ⟨rfl, hb⟩
 unfold rdO
 rw [if_neg (fun q => h q.1)]
 exact ⟨_, rfl, OPL.nil w', hb⟩
theorem decided_any (v : Value) (I : List Nat) (L ln s c gn : Nat) (w : World) (hW : WL I) (hv : KL .u64 w v I) (hg : gOk (I.length : Nat) (L : Nat) = true) (hln : ln < L) (hc : c < 16384) :
 Calls Tryz.prog 164 #[v, .agg #[.int .i64 (I.length : Nat), .int .i64 (L : Nat)], .int .i64 (ln : Nat), .agg #[.int .i64 (s : Nat), .int .i64 (c : Nat), .int .u64 (gn : Nat)]] w fun e w' => ∃ v', e = .returned (.tuple #[v', .bool (decidedD I L ln c).isSome]) ∧ OPL w' v' ((decidedD I L ln c).getD []) ∧ Below w.heap.size w w' := by
 obtain ⟨nn, hnn⟩ : ∃ n, I.length = n := ⟨_, rfl⟩
 obtain ⟨s1, s2, s3, s4, s5, s6, s7, s8⟩ := pool_size hg
 have hrl := redoW_len hg hln
 obtain ⟨G, hG⟩ : ∃ G, gNat I.length L = G := ⟨_, rfl⟩
 obtain ⟨F, hF⟩ : ∃ F, 10 + 73 * L = F := ⟨_, rfl⟩
 have hF' : (10 + 73 * (L : Int)) = (F : Int) := by omega
 obtain ⟨J, hJ⟩ : ∃ J, 10 + L + ln * 72 + 32 = J := ⟨_, rfl⟩
 have hJ' : (10 + (L : Int) + (ln : Int) * 72 + 32) = (J : Int) := by omega
 have hWr : WL (redoW I L ln) := hW.part _ _
 rw [hG] at s5 s6 s7 s8
 rw [decided_rd]
 have hin : ∀ o : Ox, opIn I.length L o = decide (o.2.1 = 8 ∨ ((F : Int) ≤ o.2.1 ∧ o.2.1 < (F : Int) + (G : Int))) := fun o => by
  unfold opIn; rw [hG, hF, show (((F + G : Nat)) : Int) = (F : Int) + (G : Int) from by push_cast; rfl]
 rw [hnn] at hg s3 s4 s5 s8 hin
 rw [hnn]
 have hlk : lOk (nn : Nat) (L : Nat) (ln : Nat) = true := by unfold lOk; rw [hg, Bool.true_and]; exact decide_eq_true (by omega)
 have hRd := lh (fun w1 => redo_t (nn : Nat) (L : Nat) (ln : Nat) w1 hlk)
 have hTb := lh (fun w1 => table_t (nn : Nat) (L : Nat) w1 hg)
 rw [hF', s5] at hTb
 rw [hJ'] at hRd
 obtain ⟨g, off, cap, rfl, hcap, hgs⟩ := hv.addr hnn (by omega)
 have hWd := lh (fun w1 => show Calls Tryz.prog 119 #[.slice (some ⟨g, off, none⟩) nn cap, .agg #[.int .i64 (J : Nat), .int .i64 40]] w1 (fun e w' => e = .returned (.slice (some ⟨g, off + J, none⟩) 40 40) ∧ Below w1.heap.size w1 w') from mwords_any g off nn cap J 40 w1 (by omega) hcap (by omega) (by omega))
 have hDc := lh (fun w1 (hb : Below w.heap.size w w1) => rd_any (.slice (some ⟨g, off + J, none⟩) 40 40) (redoW I L ln) c w1 (by unfold redoW; rw [hJ]; exact (hv.keep hb).part hnn J 40 (by omega)) hWr hrl hc)
 have hol : ((rdO (redoW I L ln) c).getD []).length ≤ 19 := by
  unfold rdO
  split
  ·rename_i q; simp only [Option.getD_some, opsN_len]; exact q.1
  simp
 generalize rdO (redoW I L ln) c = rd at *
 have hA1 := bZ w (.cells #[.int .i64 (nn : Nat), .int .i64 (L : Nat)] 37)
 have gC := (C2.new w (.int .i64 (nn : Nat)) (.int .i64 (L : Nat)) 37).alloc (.cells #[.int .i64 (s : Nat), .int .i64 (c : Nat), .int .u64 (gn : Nat)] 123)
 have gD := C3.new (w.alloc (.cells #[.int .i64 (nn : Nat), .int .i64 (L : Nat)] 37)) (.int .i64 (s : Nat)) (.int .i64 (c : Nat)) (.int .u64 (gn : Nat)) 123
 have hA := hA1.alloc hA1.size (.cells #[.int .i64 (s : Nat), .int .i64 (c : Nat), .int .u64 (gn : Nat)] 123)
 have hD0 : (w.alloc (.cells #[.int .i64 (nn : Nat), .int .i64 (L : Nat)] 37)).heap.size = w.heap.size + 1 := by simp
 rw [hD0] at gD
 obtain ⟨C, hC⟩ : ∃ C, w.heap.size = C := ⟨_, rfl⟩
 rw [hC] at gC gD
 have hFb : F ≤ 5000 := by omega
 replace hnn := lh hnn
 replace hG := lh hG
 clear hv hW hF hF' hJ hJ' hWr hrl hg hlk hA1
 have hSt : C2 ((w.alloc (.cells #[.int .i64 (nn : Nat), .int .i64 (L : Nat)] 37)).alloc (.cells #[.int .i64 (s : Nat), .int .i64 (c : Nat), .int .u64 (gn : Nat)] 123)).drew C (.int .i64 (nn : Nat)) (.int .i64 (L : Nat)) ∧ C3 ((w.alloc (.cells #[.int .i64 (nn : Nat), .int .i64 (L : Nat)] 37)).alloc (.cells #[.int .i64 (s : Nat), .int .i64 (c : Nat), .int .u64 (gn : Nat)] 123)).drew (C + 1) (.int .i64 (s : Nat)) (.int .i64 (c : Nat)) (.int .u64 (gn : Nat)) ∧ Below w.heap.size w ((w.alloc (.cells #[.int .i64 (nn : Nat), .int .i64 (L : Nat)] 37)).alloc (.cells #[.int .i64 (s : Nat), .int .i64 (c : Nat), .int .u64 (gn : Nat)] 123)).drew := ⟨gC, gD, hA.drew⟩
 clear gC gD hA
 replace hSt := lh hSt
 cases rd with
 | none =>
   have hon : (([] : List Ox)).length = 0 := rfl
   simp only [Option.isSome_none, Option.getD_none, Option.bind_none] at hDc ⊢
   go_enter Tryz.func164, Tryz.ntmps164
   go_wp2_with fail
   replace hSt := hSt.out
   refine wp_region_held_drew (S := (fun w' => C2 w' C (.int .i64 (nn : Nat)) (.int .i64 (L : Nat)) ∧ C3 w' (C + 1) (.int .i64 (s : Nat)) (.int .i64 (c : Nat)) (.int .u64 (gn : Nat)) ∧ Below w.heap.size w w')) (by kernel_rfl) ?_ (fun hHeld => ?_)
   ·(try dsimp only)
    (first | assumption | (exact ⟨hHeld.1.keep hb, hHeld.2.1.keep hb, hHeld.2.2.trans (hb.mono hHeld.2.2.size)⟩))
   refine takeL 0 (v := ?_) rfl (by kernel_rfl) (by kernel_rfl) (by kernel_rfl) (fun _ _ _ h => h) (by rfl) (by assumption) ?_ ?_
   rotate_left
   ·(intro w hSw; (try dsimp only at hSw); obtain ⟨⟨z0, z1⟩, ⟨z2, z3, z4⟩, zB⟩ := hSw; go_simp <;> with_reducible rfl)
   try simp only [Act.put,sA,sB,sC]
   refine takeL 1 (v := ?_) rfl (by kernel_rfl) (by kernel_rfl) (by kernel_rfl) (fun _ _ _ h => h) (by rfl) (by assumption) ?_ ?_
   rotate_left
   ·(intro w hSw; (try dsimp only at hSw); obtain ⟨⟨z0, z1⟩, ⟨z2, z3, z4⟩, zB⟩ := hSw; go_simp <;> with_reducible rfl)
   try simp only [Act.put,sA,sB,sC]
   refine takeL 2 (v := ?_) rfl (by kernel_rfl) (by kernel_rfl) (by kernel_rfl) (fun _ _ _ h => h) (by rfl) (by assumption) ?_ ?_
   rotate_left
   ·(intro w hSw; (try dsimp only at hSw); obtain ⟨⟨z0, z1⟩, ⟨z2, z3, z4⟩, zB⟩ := hSw; go_simp <;> with_reducible rfl)
   try simp only [Act.put,sA,sB,sC]
   refine takeL 5 (v := ?_) rfl (by kernel_rfl) (by kernel_rfl) (by kernel_rfl) (fun _ _ _ h => h) (by rfl) (by assumption) ?_ ?_
   rotate_left
   ·(intro w hSw; (try dsimp only at hSw); obtain ⟨⟨z0, z1⟩, ⟨z2, z3, z4⟩, zB⟩ := hSw; go_simp <;> with_reducible rfl)
   try simp only [Act.put,sA,sB,sC]
   refine takeL 6 (v := ?_) rfl (by kernel_rfl) (by kernel_rfl) (by kernel_rfl) (fun _ _ _ h => h) (by rfl) (by assumption) ?_ ?_
   rotate_left
   ·(intro w hSw; (try dsimp only at hSw); obtain ⟨⟨z0, z1⟩, ⟨z2, z3, z4⟩, zB⟩ := hSw; go_simp <;> with_reducible rfl)
   try simp only [Act.put,sA,sB,sC]
   refine oneL 3 rfl (by kernel_rfl) (fun K hK => ?_)
   go_simp
   (refine (hRd.out _).mono ?_; rintro e w8 ⟨rfl, hb⟩)
   refine hK.out _ _ ?_ (fun hHeld2 => ?_)
   ·(try dsimp only)
    (first | assumption | (exact ⟨hHeld.1.keep hb, hHeld.2.1.keep hb, hHeld.2.2.trans (hb.mono hHeld.2.2.size)⟩))
   clear hK K hHeld
   have hHeld := hHeld2
   clear hHeld2
   try simp only [Act.put,sA,sB,sC]
   refine oneL 4 rfl (by kernel_rfl) (fun K hK => ?_)
   go_simp
   (refine (hWd.out _).mono ?_; rintro e w8 ⟨rfl, hb⟩)
   refine hK.out _ _ ?_ (fun hHeld2 => ?_)
   ·(try dsimp only)
    (first | assumption | (exact ⟨hHeld.1.keep hb, hHeld.2.1.keep hb, hHeld.2.2.trans (hb.mono hHeld.2.2.size)⟩))
   clear hK K hHeld
   have hHeld := hHeld2
   clear hHeld2
   try simp only [Act.put,sA,sB,sC]
   refine oneL 7 rfl (by kernel_rfl) (fun K hK => ?_)
   go_simp
   (obtain ⟨_, _, hq⟩ := id hHeld; refine (hDc.out _ hq).mono ?_; rintro e w8 ⟨v8, rfl, hO8, hb⟩; obtain ⟨A8, c8, rfl, hF8⟩ := hO8.form hon)
   refine hK.out _ _ ?_ (fun hHeld2 => ?_)
   ·(try dsimp only)
    (first | assumption | (exact ⟨hHeld.1.keep hb, hHeld.2.1.keep hb, hHeld.2.2.trans (hb.mono hHeld.2.2.size)⟩))
   clear hK K hHeld
   have hHeld := hHeld2
   clear hHeld2
   try simp only [Act.put,sA,sB,sC]
   refine takeL 8 (v := ?_) rfl (by kernel_rfl) (by kernel_rfl) (by kernel_rfl) (fun _ _ _ h => h) (by rfl) (by assumption) ?_ ?_
   rotate_left
   ·(intro w hSw; (try dsimp only at hSw); obtain ⟨⟨z0, z1⟩, ⟨z2, z3, z4⟩, zB⟩ := hSw; go_simp <;> with_reducible rfl)
   try simp only [Act.put,sA,sB,sC]
   refine takeL 9 (v := ?_) rfl (by kernel_rfl) (by kernel_rfl) (by kernel_rfl) (fun _ _ _ h => h) (by rfl) (by assumption) ?_ ?_
   rotate_left
   ·(intro w hSw; (try dsimp only at hSw); obtain ⟨⟨z0, z1⟩, ⟨z2, z3, z4⟩, zB⟩ := hSw; go_simp <;> with_reducible rfl)
   try simp only [Act.put,sA,sB,sC]
   refine takeL 10 (v := ?_) rfl (by kernel_rfl) (by kernel_rfl) (by kernel_rfl) (fun _ _ _ h => h) (by rfl) (by assumption) ?_ ?_
   rotate_left
   ·(intro w hSw; (try dsimp only at hSw); obtain ⟨⟨z0, z1⟩, ⟨z2, z3, z4⟩, zB⟩ := hSw; go_simp <;> with_reducible rfl)
   try simp only [Act.put,sA,sB,sC]
   refine takeL 11 (v := ?_) rfl (by kernel_rfl) (by kernel_rfl) (by kernel_rfl) (fun _ _ _ h => h) (by rfl) (by assumption) ?_ ?_
   rotate_left
   ·(intro w hSw; (try dsimp only at hSw); obtain ⟨⟨z0, z1⟩, ⟨z2, z3, z4⟩, zB⟩ := hSw; go_simp <;> with_reducible rfl)
   try simp only [Act.put,sA,sB,sC]
   refine takeL 12 (v := ?_) rfl (by kernel_rfl) (by kernel_rfl) (by kernel_rfl) (fun _ _ _ h => h) (by rfl) (by assumption) ?_ ?_
   rotate_left
   ·(intro w hSw; (try dsimp only at hSw); obtain ⟨⟨z0, z1⟩, ⟨z2, z3, z4⟩, zB⟩ := hSw; go_simp <;> with_reducible rfl)
   try simp only [Act.put,sA,sB,sC]
   refine wpAnyH_done (by kernel_rfl) ?_ _
   have hB9 := hHeld.2.2
   go_wp2_with fail
   go_ret2
   exact ⟨_, rfl, OPL.nil _, hB9⟩
 | some O =>
   obtain ⟨n, hon⟩ : ∃ n, O.length = n := ⟨_, rfl⟩
   simp only [Option.isSome_some, Option.getD_some, Option.bind_some] at hDc hol ⊢
   have hn9 : n ≤ 19 := by omega
   have hgt := fun j (hj : j < n) => show O.getD j default = O[j]'(by omega) from by rw [List.getD_eq_getElem?_getD, List.getElem?_eq_getElem (by omega)]; rfl
   have hOk := lh (fun j (hj : j < n) (h1 : (O.take j).all (opIn nn L) = true) (h2 : opIn nn L (O.getD j default) = true) => show Hid ((O.take (j + 1)).all (opIn nn L) = true) from lh (by
    rw [List.take_succ_eq_append_getElem (by omega), List.all_append, h1, Bool.true_and]
    rw [hgt j hj] at h2
    simp [h2]))
   have hBad := lh (fun j (hj : j < n) (h2 : opIn nn L (O.getD j default) = false) => show (if O.all (opIn nn L) = true then some O else none) = none from if_neg (fun q => by
    have := List.all_eq_true.1 q _ (List.getElem_mem (show j < O.length by omega))
    rw [← hgt j hj, h2] at this
    cases this))
   have hAll := lh (fun (h : (O.take n).all (opIn nn L) = true) => show (if O.all (opIn nn L) = true then some O else none) = some O from if_pos (by rw [← h, List.take_of_length_le (by omega)]))
   have hin2 := lh hin
   clear hin hgt
   generalize hX : (if O.all (opIn nn L) = true then some O else none) = X at *
   replace hX := lh hX
   go_enter Tryz.func164, Tryz.ntmps164
   go_wp2_with fail
   replace hSt := hSt.out
   refine wp_region_held_drew (S := (fun w' => C2 w' C (.int .i64 (nn : Nat)) (.int .i64 (L : Nat)) ∧ C3 w' (C + 1) (.int .i64 (s : Nat)) (.int .i64 (c : Nat)) (.int .u64 (gn : Nat)) ∧ Below w.heap.size w w')) (by kernel_rfl) ?_ (fun hHeld => ?_)
   ·(try dsimp only)
    (first | assumption | (exact ⟨hHeld.1.keep hb, hHeld.2.1.keep hb, hHeld.2.2.trans (hb.mono hHeld.2.2.size)⟩))
   refine takeL 0 (v := ?_) rfl (by kernel_rfl) (by kernel_rfl) (by kernel_rfl) (fun _ _ _ h => h) (by rfl) (by assumption) ?_ ?_
   rotate_left
   ·(intro w hSw; (try dsimp only at hSw); obtain ⟨⟨z0, z1⟩, ⟨z2, z3, z4⟩, zB⟩ := hSw; go_simp <;> with_reducible rfl)
   try simp only [Act.put,sA,sB,sC]
   refine takeL 1 (v := ?_) rfl (by kernel_rfl) (by kernel_rfl) (by kernel_rfl) (fun _ _ _ h => h) (by rfl) (by assumption) ?_ ?_
   rotate_left
   ·(intro w hSw; (try dsimp only at hSw); obtain ⟨⟨z0, z1⟩, ⟨z2, z3, z4⟩, zB⟩ := hSw; go_simp <;> with_reducible rfl)
   try simp only [Act.put,sA,sB,sC]
   refine takeL 2 (v := ?_) rfl (by kernel_rfl) (by kernel_rfl) (by kernel_rfl) (fun _ _ _ h => h) (by rfl) (by assumption) ?_ ?_
   rotate_left
   ·(intro w hSw; (try dsimp only at hSw); obtain ⟨⟨z0, z1⟩, ⟨z2, z3, z4⟩, zB⟩ := hSw; go_simp <;> with_reducible rfl)
   try simp only [Act.put,sA,sB,sC]
   refine takeL 5 (v := ?_) rfl (by kernel_rfl) (by kernel_rfl) (by kernel_rfl) (fun _ _ _ h => h) (by rfl) (by assumption) ?_ ?_
   rotate_left
   ·(intro w hSw; (try dsimp only at hSw); obtain ⟨⟨z0, z1⟩, ⟨z2, z3, z4⟩, zB⟩ := hSw; go_simp <;> with_reducible rfl)
   try simp only [Act.put,sA,sB,sC]
   refine takeL 6 (v := ?_) rfl (by kernel_rfl) (by kernel_rfl) (by kernel_rfl) (fun _ _ _ h => h) (by rfl) (by assumption) ?_ ?_
   rotate_left
   ·(intro w hSw; (try dsimp only at hSw); obtain ⟨⟨z0, z1⟩, ⟨z2, z3, z4⟩, zB⟩ := hSw; go_simp <;> with_reducible rfl)
   try simp only [Act.put,sA,sB,sC]
   refine oneL 3 rfl (by kernel_rfl) (fun K hK => ?_)
   go_simp
   (refine (hRd.out _).mono ?_; rintro e w8 ⟨rfl, hb⟩)
   refine hK.out _ _ ?_ (fun hHeld2 => ?_)
   ·(try dsimp only)
    (first | assumption | (exact ⟨hHeld.1.keep hb, hHeld.2.1.keep hb, hHeld.2.2.trans (hb.mono hHeld.2.2.size)⟩))
   clear hK K hHeld
   have hHeld := hHeld2
   clear hHeld2
   try simp only [Act.put,sA,sB,sC]
   refine oneL 4 rfl (by kernel_rfl) (fun K hK => ?_)
   go_simp
   (refine (hWd.out _).mono ?_; rintro e w8 ⟨rfl, hb⟩)
   refine hK.out _ _ ?_ (fun hHeld2 => ?_)
   ·(try dsimp only)
    (first | assumption | (exact ⟨hHeld.1.keep hb, hHeld.2.1.keep hb, hHeld.2.2.trans (hb.mono hHeld.2.2.size)⟩))
   clear hK K hHeld
   have hHeld := hHeld2
   clear hHeld2
   try simp only [Act.put,sA,sB,sC]
   refine oneL 7 rfl (by kernel_rfl) (fun K hK => ?_)
   go_simp
   (obtain ⟨_, _, hq⟩ := id hHeld; refine (hDc.out _ hq).mono ?_; rintro e w8 ⟨v8, rfl, hO8, hb⟩; obtain ⟨A8, c8, rfl, hF8⟩ := hO8.form hon)
   refine hK.out _ _ ?_ (fun hHeld2 => ?_)
   ·(try dsimp only)
    (first | assumption | (exact ⟨hHeld.1.keep hb, hHeld.2.1.keep hb, hHeld.2.2.trans (hb.mono hHeld.2.2.size)⟩))
   clear hK K hHeld
   have hHeld := hHeld2
   clear hHeld2
   try simp only [Act.put,sA,sB,sC]
   refine takeL 8 (v := ?_) rfl (by kernel_rfl) (by kernel_rfl) (by kernel_rfl) (fun _ _ _ h => h) (by rfl) (by assumption) ?_ ?_
   rotate_left
   ·(intro w hSw; (try dsimp only at hSw); obtain ⟨⟨z0, z1⟩, ⟨z2, z3, z4⟩, zB⟩ := hSw; go_simp <;> with_reducible rfl)
   try simp only [Act.put,sA,sB,sC]
   refine takeL 9 (v := ?_) rfl (by kernel_rfl) (by kernel_rfl) (by kernel_rfl) (fun _ _ _ h => h) (by rfl) (by assumption) ?_ ?_
   rotate_left
   ·(intro w hSw; (try dsimp only at hSw); obtain ⟨⟨z0, z1⟩, ⟨z2, z3, z4⟩, zB⟩ := hSw; go_simp <;> with_reducible rfl)
   try simp only [Act.put,sA,sB,sC]
   refine takeL 10 (v := ?_) rfl (by kernel_rfl) (by kernel_rfl) (by kernel_rfl) (fun _ _ _ h => h) (by rfl) (by assumption) ?_ ?_
   rotate_left
   ·(intro w hSw; (try dsimp only at hSw); obtain ⟨⟨z0, z1⟩, ⟨z2, z3, z4⟩, zB⟩ := hSw; go_simp <;> with_reducible rfl)
   try simp only [Act.put,sA,sB,sC]
   refine takeL 11 (v := ?_) rfl (by kernel_rfl) (by kernel_rfl) (by kernel_rfl) (fun _ _ _ h => h) (by rfl) (by assumption) ?_ ?_
   rotate_left
   ·(intro w hSw; (try dsimp only at hSw); obtain ⟨⟨z0, z1⟩, ⟨z2, z3, z4⟩, zB⟩ := hSw; go_simp <;> with_reducible rfl)
   try simp only [Act.put,sA,sB,sC]
   refine takeL 12 (v := ?_) rfl (by kernel_rfl) (by kernel_rfl) (by kernel_rfl) (fun _ _ _ h => h) (by rfl) (by assumption) ?_ ?_
   rotate_left
   ·(intro w hSw; (try dsimp only at hSw); obtain ⟨⟨z0, z1⟩, ⟨z2, z3, z4⟩, zB⟩ := hSw; go_simp <;> with_reducible rfl)
   try simp only [Act.put,sA,sB,sC]
   refine wpAnyH_done (by kernel_rfl) ?_ _
   obtain ⟨⟨q0, q1⟩, _, hB9⟩ := hHeld
   clear hSt
   go_wp2_with fail
   refine (hTb.out _).mono ?_
   rintro e w10 ⟨rfl, hb10⟩
   have hO10 := hO8.keep hb10
   have hB10 := hB9.trans (hb10.mono hB9.size)
   clear hF8 hO8 hB9
   obtain ⟨A10, c10, hv10, hF10⟩ := hO10.form hon
   cases hv10
   have hF := lh hF10
   have hO := lh hO10
   have gT := C2.new w10 (.int .i64 (F : Nat)) (.int .i64 (G : Nat)) 70
   have hB9 := hB10
   obtain ⟨T, hT⟩ : ∃ T, w10.heap.size = T := ⟨_, rfl⟩
   have hb11 := bZ w10 (.cells #[.int .i64 (F : Nat), .int .i64 (G : Nat)] 70)
   rw [hT] at gT
   clear hF10 hO10 hB10 hb10 hb q0 q1 hWd hRd hDc hTb
   go_wp2_with fail
   go_loopw [32] (fun i wr => ∃ (j : Nat), j ≤ n ∧ i = .int .i64 j ∧ Hid ((O.take j).all (opIn nn L) = true) ∧ C2 wr T (.int .i64 (F : Nat)) (.int .i64 (G : Nat)) ∧ Below w10.heap.size w10 wr) (fun i _ => n + 1 - (intOf i).toNat)
   case atStart => exact ⟨0, Nat.zero_le _, rfl, lh (by simp), gT, hb11⟩
   obtain ⟨j, hj, rfl, hAl, gTr, hBr⟩ := hrel
   by_cases hlt : j < n
   rotate_left
   ·obtain rfl : j = n := by omega
    have hx := lh (hAll.out hAl.out)
    have hO2 := lh (hO.out.keep hBr)
    have hBe := hB9.trans (hBr.mono hB9.size)
    clear hAl gTr hBr
    go_wp2_with fail
    go_ret2
    exact ⟨_, by rw [hx.out]; rfl, by rw [hx.out]; exact hO2.out, hBe⟩
   obtain ⟨g2, o2, rfl, hcap2, hg2, hg3, c0, c1, c2⟩ := hF.out wr j hBr hlt
   have hlt' : (j : Int) < (n : Int) := by omega
   have hop := hin2.out (O.getD j default)
   have hOj := hOk.out j hlt
   have hBj := hBad.out j hlt
   generalize O.getD j default = o at *
   obtain ⟨k, a, x⟩ := o
   simp only [] at c0 c1 c2 hop
   obtain ⟨t0, t1⟩ := id gTr
   have htl := gTr.lt
   have hne : ¬ T = wr.heap.size := Nat.ne_of_lt htl
   have gT2 := gTr.alloc (.cells #[.int .i64 k, .int .i64 a, .int .u64 (x : Nat)] 107)
   have hB2 := hBr.alloc hBr.size (.cells #[.int .i64 k, .int .i64 a, .int .u64 (x : Nat)] 107)
   by_cases h8 : a = 8
   ·subst h8
    have hyes := lh (hOj hAl.out (by rw [hop]; exact decide_eq_true (.inl rfl)))
    clear hop hOj hBj
    go_wp2_with fail
    go_roundw
    case rel => exact ⟨j + 1, by omega, by go_num, hyes.out, gT2, hB2⟩
    first | (simp [intOf]; done) | (simp [intOf]; omega)
   have h8b : (a != 8) = true := bne_iff_ne.2 h8
   by_cases h1 : a < (F : Int)
   ·have hno := lh (hBj (by rw [hop]; exact decide_eq_false (by omega)))
    have hBe := hB9.trans (hB2.mono hB9.size)
    clear hop hOj hBj
    go_wp2_with fail
    go_ret2
    exact ⟨_, by rw [hno.out]; rfl, by rw [hno.out]; exact OPL.nil _, by first | exact hBe | (rw [hC] at hBe; exact hBe)⟩
   by_cases h2 : (F : Int) + (G : Int) ≤ a
   ·have hno := lh (hBj (by rw [hop]; exact decide_eq_false (by omega)))
    have hBe := hB9.trans (hB2.mono hB9.size)
    clear hop hOj hBj
    go_wp2_with fail
    go_ret2
    exact ⟨_, by rw [hno.out]; rfl, by rw [hno.out]; exact OPL.nil _, by first | exact hBe | (rw [hC] at hBe; exact hBe)⟩
   have hyes := lh (hOj hAl.out (by rw [hop]; exact decide_eq_true (by omega)))
   clear hop hOj hBj
   go_wp2_with fail
   go_roundw
   case rel => exact ⟨j + 1, by omega, by go_num, hyes.out, gT2, hB2⟩
   first | (simp [intOf]; done) | (simp [intOf]; omega)
end Go.Proofs.YtkkbngcgphlikaaGreatDoor
end
