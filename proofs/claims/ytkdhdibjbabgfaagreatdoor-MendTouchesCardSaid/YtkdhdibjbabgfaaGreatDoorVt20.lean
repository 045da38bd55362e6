/-
  Part of the proof of MendTouches.
-/
import Derived.Test.YtkdhdibjbabgfaaGreatDoorVt10
import Derived.Test.YtkdhdibjbabgfaaGreatDoorVt11
import Derived.Test.YtkdhdibjbabgfaaGreatDoorVt17
import Derived.Test.YtkdhdibjbabgfaaGreatDoorVt19
import Derived.Test.YtkdhdibjbabgfaaGreatDoorVt27
import Derived.Test.YtkdhdibjbabgfaaGreatDoorVt37
import Derived.Test.YtkdhdibjbabgfaaGreatDoorVt7
import Derived.Maps.AppendAt
import Derived.Test.YtkdhdibjbabgfaaGreatDoorVt0
set_option maxRecDepth 10000
set_option maxHeartbeats 400000
set_option linter.unusedVariables false
set_option linter.unusedSimpArgs false
section
namespace Go.Proofs.YtkdhdibjbabgfaaGreatDoor
open Go.RowKit
theorem rdec_any (v : Value) (l : List Nat) (N : Nat) (w : World) (hn : l.length = N) (hN : N ≤ 1000000) (hv : SL w v l) :
 Calls Tryz.prog 24 #[v] w fun e w' => e = .returned (decR N (l.getD 3 0) (sOk l)) ∧ Below w.heap.size w w' := by
 by_cases h8 : N < 8
 ·have := rdec_short v l N w hn h8 hv
  rw [sOk_short (by omega)]
  exact this
 ·obtain ⟨M, hM⟩ : ∃ M, l.length = M + 1 := ⟨l.length - 1, by omega⟩
  obtain ⟨g, o, p, rfl, hg, hp, hc⟩ := hv.pos hM
  rw [← hM, hn] at hp hc ⊢
  exact rdec_in l N g o p w hn (by omega) hN hg hp hc
end Go.Proofs.YtkdhdibjbabgfaaGreatDoor
end
section
namespace Go.Proofs.YtkdhdibjbabgfaaGreatDoor
open Go.RowKit Go.ChangeShapes Go.WideShapes Go.Deep
theorem KL.nil (w : World) (A : Option Addr) (cap : Nat) : KL .u64 w (.slice A 0 cap) [] := ⟨A, cap, rfl, fun h => by simp at h⟩
theorem OPL.one (w : World) (o : Ox) : OPL (w.alloc (.cells #[.int .i64 o.1, .int .i64 o.2.1, .int .u64 (o.2.2 : Nat)] (53 : Nat))) (.slice (some ⟨w.heap.size, 0, none⟩) 1 1) [o] := (OwnE.lit 53 opE_len w [o] _ rfl (by simp)).el opE_len
theorem OwnE.opl {w : World} {base : Nat} {v : Value} {l : List Ox} (h : OwnE 53 3 opE w base v l) : OPL w v l := h.el opE_len
end Go.Proofs.YtkdhdibjbabgfaaGreatDoor
end
section
namespace Go.Proofs.YtkdhdibjbabgfaaGreatDoor
open Go.RowKit Go.ChangeShapes Go.WideShapes Go.Deep
def decD (ws : List Nat) (k : Nat) : List Ox := if decB ws k = true then opsN ws k else []
theorem dec_n (v : Value) (ws : List Nat) (k : Nat) (w : World) (hv : KL .u64 w v ws) (hW : WL ws) (hlen : ws.length ≤ 900) (hk : k ≤ 19) (hkl : 2 * k + 1 ≤ ws.length) :
 Calls Tryz.prog 103 #[v, .int .i64 (k : Nat)] w fun e w' => ∃ v', e = .returned (.tuple #[v', .bool (decB ws k)]) ∧ OPL w' v' (decD ws k) ∧ Below w.heap.size w w' := by
 unfold decD
 cases hd : decB ws k with
 | true =>
   refine (dec_t v ws k w hv hW hlen hk hkl hd).mono ?_
   rintro e w' ⟨v', rfl, ho, hb⟩
   exact ⟨v', rfl, ho.opl, hb⟩
 | false =>
   refine (dec_f v ws k w hv hW hlen hk hkl hd).mono ?_
   rintro e w' ⟨rfl, hb⟩
   exact ⟨_, rfl, EL.nil _ _ _ _ _, hb⟩
end Go.Proofs.YtkdhdibjbabgfaaGreatDoor
end
section
namespace Go.Proofs.YtkdhdibjbabgfaaGreatDoor
def tabW (I : List Nat) (L : Nat) : List Nat := (I.drop (10 + 73 * L)).take (gNat I.length L)
def poolB (I : List Nat) : Bool := sOk I && (tabW I (I.getD 3 0)).all okN
def readB (I : List Nat) (W L : Int) : Bool := poolB I && decide (W = (I.length : Nat) ∧ L = (I.getD 3 0 : Nat))
def mkS (x : Nat) : Nat := x % 4
def mkC (x : Nat) : Nat := x / 4 % 16384
def mkG (x : Nat) : Nat := x / 65536
def mkOk (x : Nat) : Bool := okB (mkS x : Nat) (mkC x : Nat) (mkG x : Nat)
def chSp (N L i : Nat) : Sp := (((10 + 73 * L + gNat N L + i * 32 : Nat) : Int), 32)
def logSp (I : List Nat) (L ln : Nat) : List Sp := (((10 + L + ln * 72 : Nat) : Int), 32) :: (logsT (tabW I L) (ln : Nat)).map (chSp I.length L)
def inCh (N L : Nat) (a : Int) : Bool := decide (((10 + 73 * L + gNat N L : Nat) : Int) ≤ a ∧ a < ((10 + 73 * L + gNat N L + gNat N L * 32 : Nat) : Int))
def entOps (x : Pe) : List Ox := (List.range x.2.length).map fun i : Nat => ((0 : Int), x.1 + (i : Int), x.2.getD i 0)
def entIn (N L : Nat) (x : Pe) : Bool := inCh N L x.1 && inCh N L (x.1 + (x.2.length : Int) - 1)
def notedD (I : List Nat) (L ln c g : Nat) : Option (List Ox) :=
 if totS (logSp I L ln) < (c : Int) then none else
 match decL g (gathL I (cutL (logSp I L ln) (0, (c : Int)))) with
 | none => none
 | some es => if es.all (entIn I.length L) then some (es.reverse.flatMap entOps) else none
def redoW (I : List Nat) (L ln : Nat) : List Nat := (I.drop (10 + L + ln * 72 + 32)).take 40
def opIn (N L : Nat) (o : Ox) : Bool := decide (o.2.1 = 8 ∨ (((10 + 73 * L : Nat) : Int) ≤ o.2.1 ∧ o.2.1 < ((10 + 73 * L + gNat N L : Nat) : Int)))
def decidedD (I : List Nat) (L ln c : Nat) : Option (List Ox) :=
 if c ≤ 19 ∧ decB (redoW I L ln) c = true ∧ (opsN (redoW I L ln) c).all (opIn I.length L) = true then some (opsN (redoW I L ln) c) else none
def laneD (I : List Nat) (L ln : Nat) : Option (List Ox) :=
 if mkOk (I.getD (10 + ln) 0) then
  (if mkS (I.getD (10 + ln) 0) = 1 then notedD I L ln (mkC (I.getD (10 + ln) 0)) (mkG (I.getD (10 + ln) 0))
   else if mkS (I.getD (10 + ln) 0) = 2 then decidedD I L ln (mkC (I.getD (10 + ln) 0)) else some [])
 else none
def lanesD (I : List Nat) (L : Nat) : Nat → Option (List Ox)
 | 0 => some []
 | k + 1 => match lanesD I L k, laneD I L k with
   | some a, some b => some (a ++ b)
   | _, _ => none
def endN (x : Nat) : Nat := if mkOk x then mkG x * 65536 else 0
def idlesL (I : List Nat) : Nat → List Nat
 | 0 => I
 | k + 1 => (idlesL I k).set (10 + k) (endN ((idlesL I k).getD (10 + k) 0))
def noLog (x : Nat) : Nat := if okN x = true ∧ kN x = 4 then 0 else x
def clrL (I : List Nat) (L : Nat) : Nat → List Nat
 | 0 => I
 | k + 1 => (clrL I L k).set (10 + 73 * L + k) (noLog ((clrL I L k).getD (10 + 73 * L + k) 0))
def restL (I : List Nat) (L : Nat) : List Nat := clrL (idlesL I L) L (gNat I.length L)
def mendD (I : List Nat) : Option (List Nat) :=
 if poolB I then
  (match lanesD I (I.getD 3 0) (I.getD 3 0) with
   | none => none
   | some ops => some (restL (applyL I ops) (I.getD 3 0)))
 else none
theorem idlesL_len (I : List Nat) : ∀ k, (idlesL I k).length = I.length
 | 0 => rfl
 | k + 1 => by rw [idlesL, List.length_set, idlesL_len I k]
theorem clrL_len (I : List Nat) (L : Nat) : ∀ k, (clrL I L k).length = I.length
 | 0 => rfl
 | k + 1 => by rw [clrL, List.length_set, clrL_len I L k]
theorem restL_len (I : List Nat) (L : Nat) : (restL I L).length = I.length := by unfold restL; rw [clrL_len, idlesL_len]
theorem pool_t {I : List Nat} (h : poolB I = true) : sOk I = true ∧ (tabW I (I.getD 3 0)).all okN = true := by
 unfold poolB at h; rw [Bool.and_eq_true] at h; exact h
theorem gOk_pool {I : List Nat} (h : sOk I = true) : 8 ≤ I.length ∧ gOk (I.length : Nat) (I.getD 3 0 : Nat) = true := by
 unfold sOk at h
 rw [Bool.and_eq_true, Bool.and_eq_true] at h
 exact ⟨of_decide_eq_true h.1, h.2.1⟩
theorem pool_size {N L : Nat} (h : gOk (N : Nat) (L : Nat) = true) : 1 ≤ L ∧ L ≤ 64 ∧ N ≤ 65536 ∧ 43 + 73 * L ≤ N ∧ gN (N : Nat) (L : Nat) = (gNat N L : Nat) ∧ 1 ≤ gNat N L ∧ gNat N L ≤ 2000 ∧ 10 + 73 * L + 33 * gNat N L ≤ N := by
 have h1 := gOk_t h
 have h2 := gN_bd h
 have h3 := gNat_eq h
 rw [h3] at h2
 refine ⟨by omega, by omega, by omega, by omega, h3, by omega, by omega, by omega⟩
theorem tabW_len {I : List Nat} {L : Nat} (h : gOk (I.length : Nat) (L : Nat) = true) : (tabW I L).length = gNat I.length L := by
 have := pool_size h
 unfold tabW
 rw [List.length_take, List.length_drop]; omega
theorem redoW_len {I : List Nat} {L ln : Nat} (h : gOk (I.length : Nat) (L : Nat) = true) (hl : ln < L) : (redoW I L ln).length = 40 := by
 have := pool_size h
 unfold redoW
 rw [List.length_take, List.length_drop]; omega
end Go.Proofs.YtkdhdibjbabgfaaGreatDoor
end
section
namespace Go.Proofs.YtkdhdibjbabgfaaGreatDoor
open Go.Lib Go.RowKit Go.ChangeShapes Go.WideShapes Go.Deep
theorem run_slice3 {P : Program} {ty el : TypeId} {i0 : TypeInfo} (hu : P.underlying ty = some (.slice el)) (hi : P.info? el = some i0) (h1 : i0.size = 1) (g off n cap f e m : Nat) (h : f ≤ e) (h2 : e ≤ cap) (hm : m = e - f) (hm0 : 0 < m) (w : World) :
 (Instr.slice ty (.slice (some ⟨g, off, none⟩) n cap) (some (.int .i64 (f : Int))) (some (.int .i64 (e : Int))) (some (.int .i64 (e : Int)))).run P w = .ok (.slice (some ⟨g, off + f, none⟩) m m) w := by
 have h3 : (e : Int) ≤ (cap : Int) := by omega
 have h4 : (0 : Int) ≤ (e : Int) := by omega
 have h5 : (f : Int) ≤ (e : Int) := by omega
 have h6 : (0 : Int) ≤ (f : Int) := by omega
 subst hm
 simp [Instr.slice, run_underlying hu, Instr.sliceBounds, Instr.sliceBound, asIntOf, sizeOf, typeInfo, hi, h1, h3, h4, h5, h6, go_sem]
 rw [if_pos h2, if_pos h, if_neg (by omega)]
theorem mwords_any (g off n cap f m : Nat) (w : World) (h1 : f + m ≤ n) (h2 : n ≤ cap) (h3 : 1 ≤ m) (hn : n ≤ 100000) :
 Calls Tryz.prog 66 #[.slice (some ⟨g, off, none⟩) n cap, .agg #[.int .i64 (f : Nat), .int .i64 (m : Nat)]] w fun e w' => e = .returned (.slice (some ⟨g, off + f, none⟩) m m) ∧ Below w.heap.size w w' := by
 have hA := bZ w (.cells #[.int .i64 (f : Nat), .int .i64 (m : Nat)] 51)
 obtain ⟨e, he⟩ : ∃ e, f + m = e := ⟨_, rfl⟩
 have w1 : IntKind.i64.wrap ((f : Int) + (m : Int)) = (e : Int) := by rw [IntKind.wrap_i64]; omega
 have w2 : (f : Int) + (m : Int) = (e : Int) := by omega
 obtain ⟨i0, hi, hz0, hz1, hz2⟩ := info_parts infoU64
 have hS := fun w => run_slice3 (P := Tryz.prog) Tryz.underlying23 hi hz1 g off n cap f e m (by omega) (by omega) (by omega) (by omega) w
 replace he := lh he
 go_enter Tryz.func66, Tryz.ntmps66
 go_wp2_with fail
 go_ret
 exact ⟨rfl, hA⟩
theorem inCh_eq {N L : Nat} (h : gOk (N : Nat) (L : Nat) = true) (a : Int) : inCh N L a = decide (cFrom (N : Nat) (L : Nat) 0 ≤ a ∧ a < cFrom (N : Nat) (L : Nat) (gN (N : Nat) (L : Nat))) := by
 obtain ⟨s1, s2, s3, s4, s5, s6, s7, s8⟩ := pool_size h
 unfold inCh cFrom
 rw [s5]
 have e1 : (((10 + 73 * L + gNat N L : Nat)) : Int) = 10 + 73 * (L : Int) + (gNat N L : Nat) + 0 * 32 := by push_cast; omega
 have e2 : (((10 + 73 * L + gNat N L + gNat N L * 32 : Nat)) : Int) = 10 + 73 * (L : Int) + (gNat N L : Nat) + (gNat N L : Nat) * 32 := by push_cast; rfl
 rw [e1, e2]
theorem inCh_any (N L : Nat) (a : Int) (w : World) (h : gOk (N : Nat) (L : Nat) = true) :
 Calls Tryz.prog 102 #[.agg #[.int .i64 (N : Nat), .int .i64 (L : Nat)], .int .i64 a] w fun e w' => e = .returned (.bool (inCh N L a)) ∧ Below w.heap.size w w' := by
 have hA := bZ w (.cells #[.int .i64 (N : Nat), .int .i64 (L : Nat)] 33)
 have hO : ∀ w1, Calls Tryz.prog 126 #[.agg #[.int .i64 (N : Nat), .int .i64 (L : Nat)], .int .i64 a] w1 fun e w' => (∃ x y : Int, e = .returned (.tuple #[.int .i64 x, .int .i64 y]) ∧ decide (0 ≤ x) = inCh N L a) ∧ Below w1.heap.size w1 w' := fun w1 => by
  rw [inCh_eq h]
  by_cases h1 : cFrom (N : Nat) (L : Nat) 0 ≤ a
  ·by_cases h2 : a < cFrom (N : Nat) (L : Nat) (gN (N : Nat) (L : Nat))
   ·refine (of_yes _ _ a w1 h h1 h2).mono ?_
    rintro e w' ⟨rfl, hb⟩
    exact ⟨⟨_, _, rfl, by rw [decide_eq_true (show cFrom (N : Nat) (L : Nat) 0 ≤ a ∧ a < cFrom (N : Nat) (L : Nat) (gN (N : Nat) (L : Nat)) from ⟨h1, h2⟩)]; exact decide_eq_true (by omega)⟩, hb⟩
   ·refine (of_high _ _ a w1 h h1 (by omega)).mono ?_
    rintro e w' ⟨rfl, hb⟩
    exact ⟨⟨_, _, rfl, by rw [decide_eq_false (show ¬ (cFrom (N : Nat) (L : Nat) 0 ≤ a ∧ a < cFrom (N : Nat) (L : Nat) (gN (N : Nat) (L : Nat))) from fun q => h2 q.2)]; rfl⟩, hb⟩
  ·refine (of_low _ _ a w1 h (by omega)).mono ?_
   rintro e w' ⟨rfl, hb⟩
   exact ⟨⟨_, _, rfl, by rw [decide_eq_false (show ¬ (cFrom (N : Nat) (L : Nat) 0 ≤ a ∧ a < cFrom (N : Nat) (L : Nat) (gN (N : Nat) (L : Nat))) from fun q => h1 q.1)]; rfl⟩, hb⟩
 have hOx := hO (w.alloc (.cells #[.int .i64 (N : Nat), .int .i64 (L : Nat)] 33))
 generalize inCh N L a = r at *
 clear hO h
 go_enter Tryz.func102, Tryz.ntmps102
 go_wp2_with fail
 refine hOx.mono ?_
 rintro e w1 ⟨⟨x, y, rfl, hx⟩, hb⟩
 have hB := hA.trans (hb.mono hA.size)
 clear hOx
 go_wp2_with fail
 go_ret
 exact ⟨by first | exact congrArg (fun b => Ending.returned (.bool b)) hx | rfl, hB⟩
end Go.Proofs.YtkdhdibjbabgfaaGreatDoor
end
