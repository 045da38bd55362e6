/-
  Part of the proof of JournalSaves.
-/
import Derived.Test.YtkkbngcgphlikaaGreatDoorJv1
import Derived.Test.YtkkbngcgphlikaaGreatDoorJv10
import Derived.Test.YtkkbngcgphlikaaGreatDoorJv11
import Derived.Test.YtkkbngcgphlikaaGreatDoorJv12
import Derived.Test.YtkkbngcgphlikaaGreatDoorJv13
import Derived.Test.YtkkbngcgphlikaaGreatDoorJv15
import Derived.Test.YtkkbngcgphlikaaGreatDoorJv18
import Derived.Test.YtkkbngcgphlikaaGreatDoorJv2
import Derived.Test.YtkkbngcgphlikaaGreatDoorJv20
import Derived.Test.YtkkbngcgphlikaaGreatDoorJv23
import Derived.Test.YtkkbngcgphlikaaGreatDoorJv24
import Derived.Test.YtkkbngcgphlikaaGreatDoorJv25
import Derived.Test.YtkkbngcgphlikaaGreatDoorJv26
import Derived.Test.YtkkbngcgphlikaaGreatDoorJv3
import Derived.Test.YtkkbngcgphlikaaGreatDoorJv4
import Derived.Test.YtkkbngcgphlikaaGreatDoorJv6
import Derived.Test.YtkkbngcgphlikaaGreatDoorJv7
import Derived.Test.YtkkbngcgphlikaaGreatDoorJv8
import Derived.Test.YtkkbngcgphlikaaGreatDoorJv9
import Derived.Test.YtkkbngcgphlikaaGreatDoorRows
import Derived.BigQuiet
import Derived.Carry
import Derived.ChangeSlices
import Derived.Deep.QuietTactic
import Derived.Deep.RegionHeld3
import Derived.Deep.SlicePairs
import Derived.Handy
import Derived.Laws.BitsAllLaws
import Derived.Laws.CopyOwn
import Derived.Laws.EntriesVeiled
import Derived.Laws.OwnMore
import Derived.Laws.ShiftsVarLaws
import Derived.Lib.AppendZerosOnto
import Derived.Lib.Hide
import Derived.Lib.SliceRun
import Derived.LoopIn
import Derived.LoopNIn
import Derived.Maps.AppendAt
import Derived.OpenShut
import Derived.OwnWalk
import Derived.OwnWalkIn
import Derived.ProofKit
import Derived.RangeFuncBound
import Derived.RangeFuncBox
import Derived.RangeFuncCalls
import Derived.RangeFuncFrom
import Derived.RangeFuncLeaves
import Derived.RangeFuncNested
import Derived.RangeFuncWrites
import Derived.Scope
import Derived.Shelf.Abstract
import Derived.Shelf.RegionOpen
import Derived.StillTail
import Derived.TacticsInMore
import Derived.WalkKit
import Derived.WalkLawsBesides
import Derived.WalkSpells
import Derived.Test.YtkkbngcgphlikaaGreatDoorJv0
set_option maxRecDepth 10000
set_option maxHeartbeats 8000000
set_option linter.unusedVariables false
set_option linter.unusedSimpArgs false
namespace Go.Proofs.YtkkbngcgphlikaaGreatDoor
open Go.RowKit Go.ChangeShapes Go.WideShapes Go.Deep
def ChR (x M m : Nat) (k c l q b : Int) : Prop :=
 ((x : Int) % 6 = 0 ∧ k = 0 ∧ c = 0 ∧ l = 0 ∧ q = 0 ∧ b = 0) ∨
 (((x : Int) % 6 = 1 ∨ (x : Int) % 6 = 2) ∧ k = 1 ∧ c = (x : Int) / 8 % 3 ∧ l = 0 ∧ q = 0 ∧ ((c = 0 ∧ b = (x : Int) / 32 % 256) ∨ (c = 1 ∧ b = (x : Int) / 32 % 16) ∨ (c = 2 ∧ b = (x : Int) / 32 % 4))) ∨
 ((x : Int) % 6 = 3 ∧ c = 0 ∧ l = 0 ∧ b = 0 ∧ (((M : Int) < (m : Int) + (1 + (x : Int) / 8 % 4) ∧ k = 0 ∧ q = 0) ∨ ((m : Int) + (1 + (x : Int) / 8 % 4) ≤ (M : Int) ∧ k = 2 ∧ q = 1 + (x : Int) / 8 % 4))) ∨
 ((x : Int) % 6 = 4 ∧ k = 1 ∧ c = (x : Int) / 8 % 3 ∧ l = 0 ∧ q = 0 ∧ b = 0) ∨
 ((x : Int) % 6 = 5 ∧ k = 4 ∧ c = 0 ∧ l = (x : Int) / 8 % 3 ∧ q = (x : Int) / 32 % 8 ∧ b = 0)
theorem chr0 {x M m : Nat} (h : (x : Int) % 6 = 0) : ChR x M m 0 0 0 0 0 := .inl ⟨h, rfl, rfl, rfl, rfl, rfl⟩
theorem chr12 {x M m : Nat} {c b : Int} (h : (x : Int) % 6 = 1 ∨ (x : Int) % 6 = 2) (hc : c = (x : Int) / 8 % 3) (hb : (c = 0 ∧ b = (x : Int) / 32 % 256) ∨ (c = 1 ∧ b = (x : Int) / 32 % 16) ∨ (c = 2 ∧ b = (x : Int) / 32 % 4)) : ChR x M m 1 c 0 0 b := .inr (.inl ⟨h, rfl, hc, rfl, rfl, hb⟩)
theorem chr3n {x M m : Nat} (h : (x : Int) % 6 = 3) (hm : (M : Int) < (m : Int) + (1 + (x : Int) / 8 % 4)) : ChR x M m 0 0 0 0 0 := .inr (.inr (.inl ⟨h, rfl, rfl, rfl, .inl ⟨hm, rfl, rfl⟩⟩))
theorem chr3 {x M m : Nat} {q : Int} (h : (x : Int) % 6 = 3) (hm : (m : Int) + (1 + (x : Int) / 8 % 4) ≤ (M : Int)) (hq : q = 1 + (x : Int) / 8 % 4) : ChR x M m 2 0 0 q 0 := .inr (.inr (.inl ⟨h, rfl, rfl, rfl, .inr ⟨hm, rfl, hq⟩⟩))
theorem chr4 {x M m : Nat} {c : Int} (h : (x : Int) % 6 = 4) (hc : c = (x : Int) / 8 % 3) : ChR x M m 1 c 0 0 0 := .inr (.inr (.inr (.inl ⟨h, rfl, hc, rfl, rfl, rfl⟩)))
theorem chr5 {x M m : Nat} {l q : Int} (h : (x : Int) % 6 = 5) (hl : l = (x : Int) / 8 % 3) (hq : q = (x : Int) / 32 % 8) : ChR x M m 4 0 l q 0 := .inr (.inr (.inr (.inr ⟨h, rfl, rfl, hl, hq, rfl⟩)))
def chK (x M m : Nat) : Int × Int × Int × Int × Int :=
 if (x : Int) % 6 = 0 then (0, 0, 0, 0, 0)
 else if (x : Int) % 6 = 1 ∨ (x : Int) % 6 = 2 then (1, (x : Int) / 8 % 3, 0, 0, if (x : Int) / 8 % 3 = 0 then (x : Int) / 32 % 256 else if (x : Int) / 8 % 3 = 1 then (x : Int) / 32 % 16 else (x : Int) / 32 % 4)
 else if (x : Int) % 6 = 3 then (if (M : Int) < (m : Int) + (1 + (x : Int) / 8 % 4) then (0, 0, 0, 0, 0) else (2, 0, 0, 1 + (x : Int) / 8 % 4, 0))
 else if (x : Int) % 6 = 4 then (1, (x : Int) / 8 % 3, 0, 0, 0)
 else (4, 0, (x : Int) / 8 % 3, (x : Int) / 32 % 8, 0)
theorem chK_of {x M m : Nat} {k c l q b : Int} (h : ChR x M m k c l q b) : chK x M m = (k, c, l, q, b) := by
 unfold ChR at h
 unfold chK
 rcases h with h | h | h | h | h
 ·rw [if_pos h.1]; simp only [Prod.mk.injEq]; omega
 ·rw [if_neg (by omega), if_pos h.1]
  by_cases h0 : (x : Int) / 8 % 3 = 0
  ·rw [if_pos h0]; simp only [Prod.mk.injEq]; omega
  ·rw [if_neg h0]
   by_cases h1 : (x : Int) / 8 % 3 = 1
   ·rw [if_pos h1]; simp only [Prod.mk.injEq]; omega
   ·rw [if_neg h1]; simp only [Prod.mk.injEq]; omega
 ·rw [if_neg (by omega), if_neg (by omega), if_pos h.1]
  by_cases h0 : (M : Int) < (m : Int) + (1 + (x : Int) / 8 % 4)
  ·rw [if_pos h0]; simp only [Prod.mk.injEq]; omega
  ·rw [if_neg h0]; simp only [Prod.mk.injEq]; omega
 ·rw [if_neg (by omega), if_neg (by omega), if_neg (by omega), if_pos h.1]; simp only [Prod.mk.injEq]; omega
 ·rw [if_neg (by omega), if_neg (by omega), if_neg (by omega), if_neg (by omega)]; simp only [Prod.mk.injEq]; omega
def chF (x M m : Nat) : List Nat := (wordI (chK x M m).1 (chK x M m).2.1 (chK x M m).2.2.1 (chK x M m).2.2.2.1 (chK x M m).2.2.2.2).toNat :: List.replicate (if (chK x M m).1 = 2 then (chK x M m).2.2.2.1.toNat - 1 else 0) 3
theorem chF_of {x M m y : Nat} {k c l q b : Int} (h : ChR x M m k c l q b) (hy : wordI k c l q b = (y : Int)) : chF x M m = y :: List.replicate (if k = 2 then q.toNat - 1 else 0) 3 := by
 unfold chF
 rw [chK_of h]
 simp only []
 rw [hy]
 rfl
theorem chF_many {x M m y n : Nat} (h : ∃ u, chF x M m = y :: u ∧ u = List.replicate (u.length) 3 ∧ u.length = n) : chF x M m = y :: List.replicate n 3 := by
 obtain ⟨u, h1, h2, h3⟩ := h
 rw [h1, h2, h3]
theorem chF_one {x M m y : Nat} (h : ∃ u, chF x M m = y :: u ∧ u = List.replicate (u.length) 3 ∧ u.length = 0) : chF x M m = [y] := chF_many h
def madeS (M : Nat) (P : List Nat) (x : Nat) : List Nat := if P.length < M then P ++ chF x M P.length else P
def madeT (l : List Nat) (M : Nat) : List Nat := l.foldl (madeS M) []
theorem made_snoc {l J u : List Nat} {j x M m : Nat} (ht : l.take (j + 1) = l.take j ++ [x]) (hJ : J = madeT (l.take j) M) (hm : J.length = m) (hl : m < M) (hc : chF x M m = u) : J ++ u = madeT (l.take (j + 1)) M := by
 rw [ht]
 unfold madeT at hJ ⊢
 rw [List.foldl_append, ← hJ]
 show J ++ u = madeS M J x
 unfold madeS
 rw [hm, if_pos hl, hc]
theorem made_stay (M : Nat) : ∀ (l P : List Nat), M ≤ P.length → l.foldl (madeS M) P = P
 | [], _, _ => rfl
 | x :: l, P, h => by
   rw [List.foldl_cons]
   have : madeS M P x = P := by unfold madeS; rw [if_neg (by omega)]
   rw [this]
   exact made_stay M l P h
theorem made_full {l J : List Nat} {j M : Nat} (hJ : J = madeT (l.take j) M) (h : M ≤ J.length) : madeT l M = J := by
 have e : l = l.take j ++ l.drop j := (List.take_append_drop j l).symm
 unfold madeT at hJ ⊢
 conv => lhs; rw [e]
 rw [List.foldl_append, ← hJ]
 exact made_stay M _ J h
theorem made_fn (v : Value) (l : List Nat) (M : Nat) (w : World) (hw : Lw w) (hH : HL l) (hv : KL .u16 w v l) (hlen : l.length ≤ 1000) (hM : M ≤ 1000) :
 Calls Tryz.prog 79 #[v, .int .i64 (M : Nat)] w fun e w' => ∃ v', e = .returned v' ∧ OwnU w' w.heap.size v' (madeT l M) ∧ (rightT (madeT l M) = true ∧ (madeT l M).length ≤ M) ∧ Below w.heap.size w w' := by
 obtain ⟨n, hn⟩ : ∃ n, l.length = n := ⟨_, rfl⟩
 obtain ⟨A, cap, rfl, hC⟩ := hv.form hn
 replace hC := lh hC
 have hHx := lh (fun k (hk : k < n) => show l.getD k 0 < 65536 from by
  rw [List.getD_eq_getElem?_getD, List.getElem?_eq_getElem (by omega)]; exact hH _ (List.getElem_mem _))
 have hn9 : n ≤ 1000 := by omega
 have hwh := lh hw
 have hAp := lh (fun (J u : List Nat) => rightT_app (t := J) (u := u))
 have hOne := lh (fun (x : Nat) => rightT_one (x := x))
 have hHuge := lh (fun (x n : Nat) => rightT_huge (x := x) (n := n))
 have hMn := lh (fun (c : Nat) w => refMny_any (c : Nat) w)
 have hTk := lh (fun j (hj : j < n) => show l.take (j + 1) = l.take j ++ [l.getD j 0] from by rw [List.take_succ_eq_append_getElem (by omega), List.getD_eq_getElem?_getD, List.getElem?_eq_getElem (by omega)]; rfl)
 have hEn := lh (show l.take n = l from List.take_of_length_le (by omega))
 replace hn := lh hn
 clear hv hH hlen hw
 go_enter Tryz.func79, Tryz.ntmps79
 go_wp2_with fail
 go_loopw [6, 5] (fun i vr wr => ∃ (j : Nat) (J : List Nat), j ≤ n ∧ i = .int .i64 j ∧ Hid (rightT J = true ∧ J = madeT (l.take j) M) ∧ J.length ≤ M ∧ OwnU wr w.heap.size vr J ∧ Below w.heap.size w wr) (fun i _ _ => n + 1 - (intOf i).toNat)
 case atStart => exact ⟨0, [], Nat.zero_le _, rfl, lh ⟨rfl, rfl⟩, Nat.zero_le _, World.ownsRow_nil _ _ _ _, Below.refl _ _⟩
 case round =>
  obtain ⟨j, J, hj, rfl, hJ, hJM, hown, hB⟩ := hrel
  obtain ⟨m, hm⟩ : ∃ m, J.length = m := ⟨_, rfl⟩
  obtain ⟨Ar, cr, rfl⟩ := hown.sl hm
  rw [hm] at hJM
  have hml2 := lh hm
  have hJMi : (m : Int) ≤ (M : Int) := by omega
  by_cases hlt : j < n
  ·have hlt' : (j : Int) < (n : Int) := by omega
   by_cases hfull : m < M
   ·have hfull' : (m : Int) < (M : Int) := by omega
    obtain ⟨g, off, rfl, hcap, hg, c0⟩ := hC.out wr j hB hlt
    have hx := hHx.out j hlt
    have htk := lh (hTk.out j hlt)
    generalize l.getD j 0 = x at *
    obtain ⟨B8, hB8⟩ : ∃ B8, wr.heap.size = B8 := ⟨_, rfl⟩
    have hrow8 : Hid (∀ b, Value.ownBlock (.slice Ar m cr) = some b → b < B8) := lh (fun b q => by rw [← hB8]; exact (hown.lt b q).2)
    have hwB : w.heap.size ≤ B8 := by rw [← hB8]; exact hB.size
    have hcv : IntKind.i64.wrap (x : Int) = (x : Int) := by rw [IntKind.wrap_i64]; omega
    have hml : Hid (J.length = m) := lh hm
    clear hm
    by_cases hr4 : x % 6 = 4
    ·skip
     have e0 : (x : Int) % 6 = (4 : Int) := by omega
     obtain ⟨c, hc⟩ : ∃ c : Nat, x / 8 % 3 = c := ⟨_, rfl⟩
     have hc3 : c < 3 := by omega
     have e2 : (x : Int) / 8 % 3 = (c : Int) := by omega
     have hrB : rightB_ti 1 (c : Nat) 0 0 0 = true := right_yes (by unfold RightP; omega)
     obtain ⟨y, hy, hyo, hyk, hym⟩ := okN_word hrB (by omega)
     have hch : Hid (∃ u, chF x M m = y :: u ∧ u = List.replicate (u.length) 3 ∧ u.length = 0) := lh ⟨_, chF_of (chr4 e0 (by omega)) hy, by simp, by simp⟩
     have hE := fun w5 (h5 : Lw w5) => refEnc_yes 1 (c : Nat) 0 0 0 w5 h5 (by omega) hrB
     rw [hy] at hE
     replace hE := lh hE
     clear hy
     replace hyk := lh hyk
     replace hym := lh hym
     replace hyo := lh hyo
     clear hrB
     have hlw5 := (hwh.out.keep hB).alloc (.cells #[.int .i64 1, .int .i64 (c : Nat), .int .i64 0, .int .i64 0, .int .u64 0] 109)
     have hown5 := hown.keep (bZ wr (.cells #[.int .i64 1, .int .i64 (c : Nat), .int .i64 0, .int .i64 0, .int .u64 0] 109))
     have hC5 := C5.new wr 1 (c : Nat) 0 0 0 109
     rw [hB8] at hC5
     have hB5 := hB.alloc hB.size (.cells #[.int .i64 1, .int .i64 (c : Nat), .int .i64 0, .int .i64 0, .int .u64 0] 109)
     go_wp2_with fail
     refine (hE.out _ hlw5).mono ?_
     rintro e w6 ⟨rfl, hb6⟩
     have hown6 := hown5.keep hb6
     have hB6 := hB5.trans (hb6.mono hB5.size)
     have hC6 := hC5.keep hb6
     clear hown5 hC5 hB5 hlw5 hb6 hE hown hB
     obtain ⟨v', w7, hrun, ho7, hB7, hg7, hv7⟩ := appU1 (y := y) hown6 hB6.size (by rw [hml.out]; omega) (40 : Nat)
     have hBN := hB6.trans hB7
     have hC7 := (hC6.keep (bZ w6 (.cells #[.int .u64 (y : Nat)] (40 : Nat)))).grown hg7 (fun e => by have := hrow8.out B8 e; omega)
     obtain ⟨q0, q1, q2, q3, q4⟩ := hC6
     obtain ⟨z0, z1, z2, z3, z4⟩ := id hC7
     have hJ1 : Hid (J.length + 1 = (J ++ [y]).length) := lh (by simp)
     obtain ⟨A7, c7, rfl⟩ := ho7.sl (m := m + 1) (by rw [← hJ1.out, hml.out])
     clear hg7 hv7 hown6 hB6 hB7
     have hJn : Hid (rightT (J ++ [y]) = true ∧ J ++ [y] = madeT (l.take (j + 1)) M) := lh ⟨hAp.out _ _ hJ.out.1 (hOne.out y hyo.out (by have := hyk.out; omega) (by have := hyk.out; omega)), made_snoc htk.out hJ.out.2 hml.out hfull (chF_one hch.out)⟩
     have hJl : (J ++ [y]).length ≤ M := by rw [← hJ1.out, hml.out]; omega
     clear hC7
     go_wp2_with (at_builtin; refine wpList_append_run rfl _ _ 25 rfl _ _ _ rfl rfl hrun ?_)
     go_loopw [11, 5] (fun i v9 wq => i = .int .i64 1 ∧ v9 = .slice A7 (m + 1) c7 ∧ wq = w7) (fun _ _ _ => 0)
     case atStart => exact ⟨rfl, rfl, rfl⟩
     case round =>
      obtain ⟨rfl, rfl, rfl⟩ := hrel
      go_wp2_with fail
      go_roundw
      case rel => exact ⟨j + 1, _, by omega, by go_num, hJn, hJl, ho7, hBN⟩
      case measure => first | (simp [intOf]; done) | (simp [intOf]; omega)
    ·skip
     by_cases hr0 : x % 6 = 0
     ·skip
      have e0 : (x : Int) % 6 = (0 : Int) := by omega
      have hrB : rightB_ti 0 0 0 0 0 = true := right_yes (by unfold RightP; omega)
      obtain ⟨y, hy, hyo, hyk, hym⟩ := okN_word hrB (by omega)
      have hch : Hid (∃ u, chF x M m = y :: u ∧ u = List.replicate (u.length) 3 ∧ u.length = 0) := lh ⟨_, chF_of (by first | exact chr0 e0 | exact chr3n e0 (by omega)) hy, by simp, by simp⟩
      have hE := fun w5 (h5 : Lw w5) => refEnc_yes 0 0 0 0 0 w5 h5 (by omega) hrB
      rw [hy] at hE
      replace hE := lh hE
      clear hy
      replace hyk := lh hyk
      replace hym := lh hym
      replace hyo := lh hyo
      clear hrB
      have hlw5 := (hwh.out.keep hB).alloc (.cells #[.int .i64 0, .int .i64 0, .int .i64 0, .int .i64 0, .int .u64 0] 109)
      have hown5 := hown.keep (bZ wr (.cells #[.int .i64 0, .int .i64 0, .int .i64 0, .int .i64 0, .int .u64 0] 109))
      have hC5 := C5.new wr 0 0 0 0 0 109
      rw [hB8] at hC5
      have hB5 := hB.alloc hB.size (.cells #[.int .i64 0, .int .i64 0, .int .i64 0, .int .i64 0, .int .u64 0] 109)
      go_wp2_with fail
      refine (hE.out _ hlw5).mono ?_
      rintro e w6 ⟨rfl, hb6⟩
      have hown6 := hown5.keep hb6
      have hB6 := hB5.trans (hb6.mono hB5.size)
      have hC6 := hC5.keep hb6
      clear hown5 hC5 hB5 hlw5 hb6 hE hown hB
      obtain ⟨v', w7, hrun, ho7, hB7, hg7, hv7⟩ := appU1 (y := y) hown6 hB6.size (by rw [hml.out]; omega) (40 : Nat)
      have hBN := hB6.trans hB7
      have hC7 := (hC6.keep (bZ w6 (.cells #[.int .u64 (y : Nat)] (40 : Nat)))).grown hg7 (fun e => by have := hrow8.out B8 e; omega)
      obtain ⟨q0, q1, q2, q3, q4⟩ := hC6
      obtain ⟨z0, z1, z2, z3, z4⟩ := id hC7
      have hJ1 : Hid (J.length + 1 = (J ++ [y]).length) := lh (by simp)
      obtain ⟨A7, c7, rfl⟩ := ho7.sl (m := m + 1) (by rw [← hJ1.out, hml.out])
      clear hg7 hv7 hown6 hB6 hB7
      have hJn : Hid (rightT (J ++ [y]) = true ∧ J ++ [y] = madeT (l.take (j + 1)) M) := lh ⟨hAp.out _ _ hJ.out.1 (hOne.out y hyo.out (by have := hyk.out; omega) (by have := hyk.out; omega)), made_snoc htk.out hJ.out.2 hml.out hfull (chF_one hch.out)⟩
      have hJl : (J ++ [y]).length ≤ M := by rw [← hJ1.out, hml.out]; omega
      clear hC7
      go_wp2_with (at_builtin; refine wpList_append_run rfl _ _ 25 rfl _ _ _ rfl rfl hrun ?_)
      go_loopw [11, 5] (fun i v9 wq => i = .int .i64 1 ∧ v9 = .slice A7 (m + 1) c7 ∧ wq = w7) (fun _ _ _ => 0)
      case atStart => exact ⟨rfl, rfl, rfl⟩
      case round =>
       obtain ⟨rfl, rfl, rfl⟩ := hrel
       go_wp2_with fail
       go_roundw
       case rel => exact ⟨j + 1, _, by omega, by go_num, hJn, hJl, ho7, hBN⟩
       case measure => first | (simp [intOf]; done) | (simp [intOf]; omega)
     ·skip
      by_cases hr5 : x % 6 = 5
      ·skip
       have e0 : (x : Int) % 6 = (5 : Int) := by omega
       obtain ⟨c, hc⟩ : ∃ c : Nat, x / 8 % 3 = c := ⟨_, rfl⟩
       have hc3 : c < 3 := by omega
       have e2 : (x : Int) / 8 % 3 = (c : Int) := by omega
       obtain ⟨q, hq⟩ : ∃ q : Nat, x / 32 % 8 = q := ⟨_, rfl⟩
       have hq8 : q < 8 := by omega
       have e3 : (x : Int) / 32 % 8 = (q : Int) := by omega
       by_cases hq0 : q = 0
       ·subst hq0
        have hrB : rightB_ti 4 0 (c : Nat) 0 0 = true := right_yes (by unfold RightP; omega)
        obtain ⟨y, hy, hyo, hyk, hym⟩ := okN_word hrB (by omega)
        have hch : Hid (∃ u, chF x M m = y :: u ∧ u = List.replicate (u.length) 3 ∧ u.length = 0) := lh ⟨_, chF_of (chr5 e0 (by omega) (by omega)) hy, by simp, by simp⟩
        have hE := fun w5 (h5 : Lw w5) => refEnc_yes 4 0 (c : Nat) 0 0 w5 h5 (by omega) hrB
        rw [hy] at hE
        replace hE := lh hE
        clear hy
        replace hyk := lh hyk
        replace hym := lh hym
        replace hyo := lh hyo
        clear hrB
        have hlw5 := (hwh.out.keep hB).alloc (.cells #[.int .i64 4, .int .i64 0, .int .i64 (c : Nat), .int .i64 0, .int .u64 0] 109)
        have hown5 := hown.keep (bZ wr (.cells #[.int .i64 4, .int .i64 0, .int .i64 (c : Nat), .int .i64 0, .int .u64 0] 109))
        have hC5 := C5.new wr 4 0 (c : Nat) 0 0 109
        rw [hB8] at hC5
        have hB5 := hB.alloc hB.size (.cells #[.int .i64 4, .int .i64 0, .int .i64 (c : Nat), .int .i64 0, .int .u64 0] 109)
        rw [show (((0 : Nat) : Int)) = 0 from rfl] at e3
        go_wp2_with fail
        refine (hE.out _ hlw5).mono ?_
        rintro e w6 ⟨rfl, hb6⟩
        have hown6 := hown5.keep hb6
        have hB6 := hB5.trans (hb6.mono hB5.size)
        have hC6 := hC5.keep hb6
        clear hown5 hC5 hB5 hlw5 hb6 hE hown hB
        obtain ⟨v', w7, hrun, ho7, hB7, hg7, hv7⟩ := appU1 (y := y) hown6 hB6.size (by rw [hml.out]; omega) (40 : Nat)
        have hBN := hB6.trans hB7
        have hC7 := (hC6.keep (bZ w6 (.cells #[.int .u64 (y : Nat)] (40 : Nat)))).grown hg7 (fun e => by have := hrow8.out B8 e; omega)
        obtain ⟨q0, q1, q2, q3, q4⟩ := hC6
        obtain ⟨z0, z1, z2, z3, z4⟩ := id hC7
        have hJ1 : Hid (J.length + 1 = (J ++ [y]).length) := lh (by simp)
        obtain ⟨A7, c7, rfl⟩ := ho7.sl (m := m + 1) (by rw [← hJ1.out, hml.out])
        clear hg7 hv7 hown6 hB6 hB7
        have hJn : Hid (rightT (J ++ [y]) = true ∧ J ++ [y] = madeT (l.take (j + 1)) M) := lh ⟨hAp.out _ _ hJ.out.1 (hOne.out y hyo.out (by have := hyk.out; omega) (by have := hyk.out; omega)), made_snoc htk.out hJ.out.2 hml.out hfull (chF_one hch.out)⟩
        have hJl : (J ++ [y]).length ≤ M := by rw [← hJ1.out, hml.out]; omega
        clear hC7
        go_wp2_with (at_builtin; refine wpList_append_run rfl _ _ 25 rfl _ _ _ rfl rfl hrun ?_)
        go_loopw [11, 5] (fun i v9 wq => i = .int .i64 1 ∧ v9 = .slice A7 (m + 1) c7 ∧ wq = w7) (fun _ _ _ => 0)
        case atStart => exact ⟨rfl, rfl, rfl⟩
        case round =>
         obtain ⟨rfl, rfl, rfl⟩ := hrel
         go_wp2_with fail
         go_roundw
         case rel => exact ⟨j + 1, _, by omega, by go_num, hJn, hJl, ho7, hBN⟩
         case measure => first | (simp [intOf]; done) | (simp [intOf]; omega)
       ·by_cases hqo : q = 1
        ·subst hqo
         have hrB : rightB_ti 4 0 (c : Nat) 1 0 = true := right_yes (by unfold RightP; omega)
         obtain ⟨y, hy, hyo, hyk, hym⟩ := okN_word hrB (by omega)
         have hch : Hid (∃ u, chF x M m = y :: u ∧ u = List.replicate (u.length) 3 ∧ u.length = 0) := lh ⟨_, chF_of (chr5 e0 (by omega) (by omega)) hy, by simp, by simp⟩
         have hE := fun w5 (h5 : Lw w5) => refEnc_yes 4 0 (c : Nat) 1 0 w5 h5 (by omega) hrB
         rw [hy] at hE
         replace hE := lh hE
         clear hy
         replace hyk := lh hyk
         replace hym := lh hym
         replace hyo := lh hyo
         clear hrB
         have hlw5 := (hwh.out.keep hB).alloc (.cells #[.int .i64 4, .int .i64 0, .int .i64 (c : Nat), .int .i64 1, .int .u64 0] 109)
         have hown5 := hown.keep (bZ wr (.cells #[.int .i64 4, .int .i64 0, .int .i64 (c : Nat), .int .i64 1, .int .u64 0] 109))
         have hC5 := C5.new wr 4 0 (c : Nat) 1 0 109
         rw [hB8] at hC5
         have hB5 := hB.alloc hB.size (.cells #[.int .i64 4, .int .i64 0, .int .i64 (c : Nat), .int .i64 1, .int .u64 0] 109)
         rw [show (((1 : Nat) : Int)) = 1 from rfl] at e3
         go_wp2_with fail
         refine (hE.out _ hlw5).mono ?_
         rintro e w6 ⟨rfl, hb6⟩
         have hown6 := hown5.keep hb6
         have hB6 := hB5.trans (hb6.mono hB5.size)
         have hC6 := hC5.keep hb6
         clear hown5 hC5 hB5 hlw5 hb6 hE hown hB
         obtain ⟨v', w7, hrun, ho7, hB7, hg7, hv7⟩ := appU1 (y := y) hown6 hB6.size (by rw [hml.out]; omega) (40 : Nat)
         have hBN := hB6.trans hB7
         have hC7 := (hC6.keep (bZ w6 (.cells #[.int .u64 (y : Nat)] (40 : Nat)))).grown hg7 (fun e => by have := hrow8.out B8 e; omega)
         obtain ⟨q0, q1, q2, q3, q4⟩ := hC6
         obtain ⟨z0, z1, z2, z3, z4⟩ := id hC7
         have hJ1 : Hid (J.length + 1 = (J ++ [y]).length) := lh (by simp)
         obtain ⟨A7, c7, rfl⟩ := ho7.sl (m := m + 1) (by rw [← hJ1.out, hml.out])
         clear hg7 hv7 hown6 hB6 hB7
         have hJn : Hid (rightT (J ++ [y]) = true ∧ J ++ [y] = madeT (l.take (j + 1)) M) := lh ⟨hAp.out _ _ hJ.out.1 (hOne.out y hyo.out (by have := hyk.out; omega) (by have := hyk.out; omega)), made_snoc htk.out hJ.out.2 hml.out hfull (chF_one hch.out)⟩
         have hJl : (J ++ [y]).length ≤ M := by rw [← hJ1.out, hml.out]; omega
         clear hC7
         go_wp2_with (at_builtin; refine wpList_append_run rfl _ _ 25 rfl _ _ _ rfl rfl hrun ?_)
         go_loopw [11, 5] (fun i v9 wq => i = .int .i64 1 ∧ v9 = .slice A7 (m + 1) c7 ∧ wq = w7) (fun _ _ _ => 0)
         case atStart => exact ⟨rfl, rfl, rfl⟩
         case round =>
          obtain ⟨rfl, rfl, rfl⟩ := hrel
          go_wp2_with fail
          go_roundw
          case rel => exact ⟨j + 1, _, by omega, by go_num, hJn, hJl, ho7, hBN⟩
          case measure => first | (simp [intOf]; done) | (simp [intOf]; omega)
        ·have hq1 : (1 : Int) < (q : Int) := by omega
         have hw9 : IntKind.i64.wrap ((m : Int) + (q : Int)) = (m : Int) + (q : Int) := by rw [IntKind.wrap_i64]; omega
         by_cases hfit : m + q > M
         ·have hfit' : (M : Int) < (m : Int) + (q : Int) := by omega
          have hrB : rightB_ti 4 0 (c : Nat) (q : Nat) 0 = true := right_yes (by unfold RightP; omega)
          obtain ⟨y, hy, hyo, hyk, hym⟩ := okN_word hrB (by omega)
          have hch : Hid (∃ u, chF x M m = y :: u ∧ u = List.replicate (u.length) 3 ∧ u.length = 0) := lh ⟨_, chF_of (chr5 e0 (by omega) (by omega)) hy, by simp, by simp⟩
          have hE := fun w5 (h5 : Lw w5) => refEnc_yes 4 0 (c : Nat) (q : Nat) 0 w5 h5 (by omega) hrB
          rw [hy] at hE
          replace hE := lh hE
          clear hy
          replace hyk := lh hyk
          replace hym := lh hym
          replace hyo := lh hyo
          clear hrB
          have hlw5 := (hwh.out.keep hB).alloc (.cells #[.int .i64 4, .int .i64 0, .int .i64 (c : Nat), .int .i64 (q : Nat), .int .u64 0] 109)
          have hown5 := hown.keep (bZ wr (.cells #[.int .i64 4, .int .i64 0, .int .i64 (c : Nat), .int .i64 (q : Nat), .int .u64 0] 109))
          have hC5 := C5.new wr 4 0 (c : Nat) (q : Nat) 0 109
          rw [hB8] at hC5
          have hB5 := hB.alloc hB.size (.cells #[.int .i64 4, .int .i64 0, .int .i64 (c : Nat), .int .i64 (q : Nat), .int .u64 0] 109)
          go_wp2_with fail
          refine (hE.out _ hlw5).mono ?_
          rintro e w6 ⟨rfl, hb6⟩
          have hown6 := hown5.keep hb6
          have hB6 := hB5.trans (hb6.mono hB5.size)
          have hC6 := hC5.keep hb6
          clear hown5 hC5 hB5 hlw5 hb6 hE hown hB
          obtain ⟨v', w7, hrun, ho7, hB7, hg7, hv7⟩ := appU1 (y := y) hown6 hB6.size (by rw [hml.out]; omega) (40 : Nat)
          have hBN := hB6.trans hB7
          have hC7 := (hC6.keep (bZ w6 (.cells #[.int .u64 (y : Nat)] (40 : Nat)))).grown hg7 (fun e => by have := hrow8.out B8 e; omega)
          obtain ⟨q0, q1, q2, q3, q4⟩ := hC6
          obtain ⟨z0, z1, z2, z3, z4⟩ := id hC7
          have hJ1 : Hid (J.length + 1 = (J ++ [y]).length) := lh (by simp)
          obtain ⟨A7, c7, rfl⟩ := ho7.sl (m := m + 1) (by rw [← hJ1.out, hml.out])
          clear hg7 hv7 hown6 hB6 hB7
          have hJn : Hid (rightT (J ++ [y]) = true ∧ J ++ [y] = madeT (l.take (j + 1)) M) := lh ⟨hAp.out _ _ hJ.out.1 (hOne.out y hyo.out (by have := hyk.out; omega) (by have := hyk.out; omega)), made_snoc htk.out hJ.out.2 hml.out hfull (chF_one hch.out)⟩
          have hJl : (J ++ [y]).length ≤ M := by rw [← hJ1.out, hml.out]; omega
          clear hC7
          go_wp2_with (at_builtin; refine wpList_append_run rfl _ _ 25 rfl _ _ _ rfl rfl hrun ?_)
          go_loopw [11, 5] (fun i v9 wq => i = .int .i64 1 ∧ v9 = .slice A7 (m + 1) c7 ∧ wq = w7) (fun _ _ _ => 0)
          case atStart => exact ⟨rfl, rfl, rfl⟩
          case round =>
           obtain ⟨rfl, rfl, rfl⟩ := hrel
           go_wp2_with fail
           go_roundw
           case rel => exact ⟨j + 1, _, by omega, by go_num, hJn, hJl, ho7, hBN⟩
           case measure => first | (simp [intOf]; done) | (simp [intOf]; omega)
         ·have hfit' : ¬ (M : Int) < (m : Int) + (q : Int) := by omega
          have hfit2 : decide ((M : Int) < (m : Int) + (q : Int)) = false := decide_eq_false hfit'
          have hrB : rightB_ti 4 0 (c : Nat) (q : Nat) 0 = true := right_yes (by unfold RightP; omega)
          obtain ⟨y, hy, hyo, hyk, hym⟩ := okN_word hrB (by omega)
          have hch : Hid (∃ u, chF x M m = y :: u ∧ u = List.replicate (u.length) 3 ∧ u.length = 0) := lh ⟨_, chF_of (chr5 e0 (by omega) (by omega)) hy, by simp, by simp⟩
          have hE := fun w5 (h5 : Lw w5) => refEnc_yes 4 0 (c : Nat) (q : Nat) 0 w5 h5 (by omega) hrB
          rw [hy] at hE
          replace hE := lh hE
          clear hy
          replace hyk := lh hyk
          replace hym := lh hym
          replace hyo := lh hyo
          clear hrB
          have hlw5 := (hwh.out.keep hB).alloc (.cells #[.int .i64 4, .int .i64 0, .int .i64 (c : Nat), .int .i64 (q : Nat), .int .u64 0] 109)
          have hown5 := hown.keep (bZ wr (.cells #[.int .i64 4, .int .i64 0, .int .i64 (c : Nat), .int .i64 (q : Nat), .int .u64 0] 109))
          have hC5 := C5.new wr 4 0 (c : Nat) (q : Nat) 0 109
          rw [hB8] at hC5
          have hB5 := hB.alloc hB.size (.cells #[.int .i64 4, .int .i64 0, .int .i64 (c : Nat), .int .i64 (q : Nat), .int .u64 0] 109)
          go_wp2_with fail
          refine (hE.out _ hlw5).mono ?_
          rintro e w6 ⟨rfl, hb6⟩
          have hown6 := hown5.keep hb6
          have hB6 := hB5.trans (hb6.mono hB5.size)
          have hC6 := hC5.keep hb6
          clear hown5 hC5 hB5 hlw5 hb6 hE hown hB
          obtain ⟨v', w7, hrun, ho7, hB7, hg7, hv7⟩ := appU1 (y := y) hown6 hB6.size (by rw [hml.out]; omega) (40 : Nat)
          have hBN := hB6.trans hB7
          have hC7 := (hC6.keep (bZ w6 (.cells #[.int .u64 (y : Nat)] (40 : Nat)))).grown hg7 (fun e => by have := hrow8.out B8 e; omega)
          obtain ⟨q0, q1, q2, q3, q4⟩ := hC6
          obtain ⟨z0, z1, z2, z3, z4⟩ := id hC7
          have hJ1 : Hid (J.length + 1 = (J ++ [y]).length) := lh (by simp)
          obtain ⟨A7, c7, rfl⟩ := ho7.sl (m := m + 1) (by rw [← hJ1.out, hml.out])
          clear hg7 hv7 hown6 hB6 hB7
          have hJn : Hid (rightT (J ++ [y]) = true ∧ J ++ [y] = madeT (l.take (j + 1)) M) := lh ⟨hAp.out _ _ hJ.out.1 (hOne.out y hyo.out (by have := hyk.out; omega) (by have := hyk.out; omega)), made_snoc htk.out hJ.out.2 hml.out hfull (chF_one hch.out)⟩
          have hJl : (J ++ [y]).length ≤ M := by rw [← hJ1.out, hml.out]; omega
          clear hC7
          go_wp2_with (at_builtin; refine wpList_append_run rfl _ _ 25 rfl _ _ _ rfl rfl hrun ?_)
          go_loopw [11, 5] (fun i v9 wq => i = .int .i64 1 ∧ v9 = .slice A7 (m + 1) c7 ∧ wq = w7) (fun _ _ _ => 0)
          case atStart => exact ⟨rfl, rfl, rfl⟩
          case round =>
           obtain ⟨rfl, rfl, rfl⟩ := hrel
           go_wp2_with fail
           go_roundw
           case rel => exact ⟨j + 1, _, by omega, by go_num, hJn, hJl, ho7, hBN⟩
           case measure => first | (simp [intOf]; done) | (simp [intOf]; omega)
      ·skip
       by_cases hr3 : x % 6 = 3
       ·skip
        have e0 : (x : Int) % 6 = (3 : Int) := by omega
        obtain ⟨mh, hh⟩ : ∃ mh : Nat, x / 8 % 4 + 1 = mh := ⟨_, rfl⟩
        obtain ⟨d, hd⟩ : ∃ d : Nat, x / 8 % 4 = d := ⟨_, rfl⟩
        have hd4 : d < 4 := by omega
        have e2 : (x : Int) / 8 % 4 = (d : Int) := by omega
        have e4 : (1 : Int) + (d : Int) = (mh : Int) := by omega
        have hm1 : 1 ≤ mh := by omega
        have hm4 : mh ≤ 4 := by omega
        have e5 : IntKind.i64.wrap (mh : Int) = (mh : Int) := by rw [IntKind.wrap_i64]; omega
        have hw9 : IntKind.i64.wrap ((m : Int) + (mh : Int)) = (m : Int) + (mh : Int) := by rw [IntKind.wrap_i64]; omega
        clear hh hd
        by_cases hfit : m + mh > M
        ·have hfit' : (M : Int) < (m : Int) + (mh : Int) := by omega
         have hq1 : (1 : Int) < (mh : Int) := by omega
         have hrB : rightB_ti 0 0 0 0 0 = true := right_yes (by unfold RightP; omega)
         obtain ⟨y, hy, hyo, hyk, hym⟩ := okN_word hrB (by omega)
         have hch : Hid (∃ u, chF x M m = y :: u ∧ u = List.replicate (u.length) 3 ∧ u.length = 0) := lh ⟨_, chF_of (by first | exact chr0 e0 | exact chr3n e0 (by omega)) hy, by simp, by simp⟩
         have hE := fun w5 (h5 : Lw w5) => refEnc_yes 0 0 0 0 0 w5 h5 (by omega) hrB
         rw [hy] at hE
         replace hE := lh hE
         clear hy
         replace hyk := lh hyk
         replace hym := lh hym
         replace hyo := lh hyo
         clear hrB
         have hlw5 := (hwh.out.keep hB).alloc (.cells #[.int .i64 0, .int .i64 0, .int .i64 0, .int .i64 0, .int .u64 0] 109)
         have hown5 := hown.keep (bZ wr (.cells #[.int .i64 0, .int .i64 0, .int .i64 0, .int .i64 0, .int .u64 0] 109))
         have hC5 := C5.new wr 0 0 0 0 0 109
         rw [hB8] at hC5
         have hB5 := hB.alloc hB.size (.cells #[.int .i64 0, .int .i64 0, .int .i64 0, .int .i64 0, .int .u64 0] 109)
         go_wp2_with fail
         refine (hE.out _ hlw5).mono ?_
         rintro e w6 ⟨rfl, hb6⟩
         have hown6 := hown5.keep hb6
         have hB6 := hB5.trans (hb6.mono hB5.size)
         have hC6 := hC5.keep hb6
         clear hown5 hC5 hB5 hlw5 hb6 hE hown hB
         obtain ⟨v', w7, hrun, ho7, hB7, hg7, hv7⟩ := appU1 (y := y) hown6 hB6.size (by rw [hml.out]; omega) (40 : Nat)
         have hBN := hB6.trans hB7
         have hC7 := (hC6.keep (bZ w6 (.cells #[.int .u64 (y : Nat)] (40 : Nat)))).grown hg7 (fun e => by have := hrow8.out B8 e; omega)
         obtain ⟨q0, q1, q2, q3, q4⟩ := hC6
         obtain ⟨z0, z1, z2, z3, z4⟩ := id hC7
         have hJ1 : Hid (J.length + 1 = (J ++ [y]).length) := lh (by simp)
         obtain ⟨A7, c7, rfl⟩ := ho7.sl (m := m + 1) (by rw [← hJ1.out, hml.out])
         clear hg7 hv7 hown6 hB6 hB7
         have hJn : Hid (rightT (J ++ [y]) = true ∧ J ++ [y] = madeT (l.take (j + 1)) M) := lh ⟨hAp.out _ _ hJ.out.1 (hOne.out y hyo.out (by have := hyk.out; omega) (by have := hyk.out; omega)), made_snoc htk.out hJ.out.2 hml.out hfull (chF_one hch.out)⟩
         have hJl : (J ++ [y]).length ≤ M := by rw [← hJ1.out, hml.out]; omega
         clear hC7
         go_wp2_with (at_builtin; refine wpList_append_run rfl _ _ 25 rfl _ _ _ rfl rfl hrun ?_)
         go_loopw [11, 5] (fun i v9 wq => i = .int .i64 1 ∧ v9 = .slice A7 (m + 1) c7 ∧ wq = w7) (fun _ _ _ => 0)
         case atStart => exact ⟨rfl, rfl, rfl⟩
         case round =>
          obtain ⟨rfl, rfl, rfl⟩ := hrel
          go_wp2_with fail
          go_roundw
          case rel => exact ⟨j + 1, _, by omega, by go_num, hJn, hJl, ho7, hBN⟩
          case measure => first | (simp [intOf]; done) | (simp [intOf]; omega)
        ·have hfit' : ¬ (M : Int) < (m : Int) + (mh : Int) := by omega
         have hfit2 : decide ((M : Int) < (m : Int) + (mh : Int)) = false := decide_eq_false hfit'
         by_cases hmo : mh = 1
         ·subst hmo
          rw [show (((1 : Nat) : Int)) = 1 from rfl] at e4 e5 hw9 hfit' hfit2
          have hrB : rightB_ti 2 0 0 1 0 = true := right_yes (by unfold RightP; omega)
          obtain ⟨y, hy, hyo, hyk, hym⟩ := okN_word hrB (by omega)
          have hch : Hid (∃ u, chF x M m = y :: u ∧ u = List.replicate (u.length) 3 ∧ u.length = 1 - 1) := lh ⟨_, chF_of (chr3 e0 (by omega) (by omega)) hy, by simp, by simp⟩
          have hE := fun w5 (h5 : Lw w5) => refEnc_yes 2 0 0 1 0 w5 h5 (by omega) hrB
          rw [hy] at hE
          replace hE := lh hE
          clear hy
          replace hyk := lh hyk
          replace hym := lh hym
          replace hyo := lh hyo
          clear hrB
          have hlw5 := (hwh.out.keep hB).alloc (.cells #[.int .i64 2, .int .i64 0, .int .i64 0, .int .i64 1, .int .u64 0] 109)
          have hown5 := hown.keep (bZ wr (.cells #[.int .i64 2, .int .i64 0, .int .i64 0, .int .i64 1, .int .u64 0] 109))
          have hC5 := C5.new wr 2 0 0 1 0 109
          rw [hB8] at hC5
          have hB5 := hB.alloc hB.size (.cells #[.int .i64 2, .int .i64 0, .int .i64 0, .int .i64 1, .int .u64 0] 109)
          go_wp2_with fail
          refine (hE.out _ hlw5).mono ?_
          rintro e w6 ⟨rfl, hb6⟩
          have hown6 := hown5.keep hb6
          have hB6 := hB5.trans (hb6.mono hB5.size)
          have hC6 := hC5.keep hb6
          clear hown5 hC5 hB5 hlw5 hb6 hE hown hB
          obtain ⟨v', w7, hrun, ho7, hB7, hg7, hv7⟩ := appU1 (y := y) hown6 hB6.size (by rw [hml.out]; omega) (40 : Nat)
          have hBN := hB6.trans hB7
          have hC7 := (hC6.keep (bZ w6 (.cells #[.int .u64 (y : Nat)] (40 : Nat)))).grown hg7 (fun e => by have := hrow8.out B8 e; omega)
          obtain ⟨q0, q1, q2, q3, q4⟩ := hC6
          obtain ⟨z0, z1, z2, z3, z4⟩ := id hC7
          have hJ1 : Hid (J.length + 1 = (J ++ [y]).length) := lh (by simp)
          obtain ⟨A7, c7, rfl⟩ := ho7.sl (m := m + 1) (by rw [← hJ1.out, hml.out])
          have hJs : Hid (J ++ [y] = J ++ (y :: List.replicate (1 - 1) 3)) := lh rfl
          have hl1 : Hid ((J ++ [y]).length = m + 1) := lh (by rw [← hJ1.out, hml.out])
          have hne0 : Hid (∀ b, Value.ownBlock (.slice A7 (m + 1) c7) = some b → b ≠ B8) := lh (fun b q => by
           rcases hv7 with e | e
           ·rw [e] at q; have := hrow8.out b q; omega
           ·rw [e] at q; have hlt8 : B8 < w6.heap.size := World.block_lt_of_cell? _ _ q0; simp at q; omega)
          have hRep := lh (fun k (hk : 1 ≤ k) => show (J ++ (y :: List.replicate (k - 1) 3)) ++ [3] = J ++ (y :: List.replicate (k + 1 - 1) 3) from by
           rw [List.append_assoc, List.cons_append, ← List.replicate_succ', show k - 1 + 1 = k + 1 - 1 by omega])
          have hEnd : Hid (rightT (J ++ (y :: List.replicate (1 - 1) 3)) = true ∧ J ++ (y :: List.replicate (1 - 1) 3) = madeT (l.take (j + 1)) M) := lh ⟨hAp.out _ _ hJ.out.1 (hHuge.out y (1 - 1) hyo.out (by have := hyk.out; omega) (by have := hym.out; omega)), made_snoc htk.out hJ.out.2 hml.out hfull (chF_many hch.out)⟩
          have hEl : Hid ((J ++ (y :: List.replicate (1 - 1) 3)).length ≤ M) := lh (by simp; have := hml.out; omega)
          generalize hJ2 : J ++ [y] = J2 at *
          replace hJ2 := lh hJ2
          clear hg7 hv7 hown6 hB6 hB7 hJ1 q0 q1 q2 q3 q4
          go_wp2_with (at_builtin; refine wpList_append_run rfl _ _ 25 rfl _ _ _ rfl rfl hrun ?_)
          go_loopw [11, 5] (fun i v9 wq => ∃ (k : Nat) (J2 : List Nat), 1 ≤ k ∧ k ≤ 1 ∧ i = .int .i64 k ∧ Hid (J2 = J ++ (y :: List.replicate (k - 1) 3)) ∧ J2.length = m + k ∧ OwnU wq w.heap.size v9 J2 ∧ Hid (∀ b, v9.ownBlock = some b → b ≠ B8) ∧ C5 wq B8 2 0 0 1 0 ∧ Below w.heap.size w wq) (fun i _ _ => 1 + 1 - (intOf i).toNat)
          case atStart => exact ⟨1, J2, by omega, hm1, rfl, hJs, hl1.out, ho7, hne0, hC7, hBN⟩
          case round =>
           clear hrun ho7 hBN hJs hl1 hne0 hC7 z0 z1 z2 z3 z4
           obtain ⟨k, J3, hk1, hk, rfl, hJ3, hJl, hown, hne, hC5, hB⟩ := hrel
           obtain ⟨A9, c9, rfl⟩ := hown.sl hJl
           by_cases hlt2 : k < 1
           ·exact absurd hlt2 (by omega)
           ·obtain rfl : k = 1 := by omega
            obtain ⟨z0, z1, z2, z3, z4⟩ := id hC5
            have hJn : Hid (rightT J3 = true ∧ J3 = madeT (l.take (j + 1)) M) := lh (by rw [hJ3.out]; exact hEnd.out)
            have hJM3 : Hid (J3.length ≤ M) := lh (by rw [hJ3.out]; exact hEl.out)
            go_wp2_with fail
            go_roundw
            case rel => exact ⟨j + 1, J3, by omega, by go_num, hJn, hJM3.out, hown, hB⟩
            case measure => first | (simp [intOf]; done) | (simp [intOf]; omega)
         ·have hq1 : (1 : Int) < (mh : Int) := by omega
          have hrB : rightB_ti 2 0 0 (mh : Nat) 0 = true := right_yes (by unfold RightP; omega)
          obtain ⟨y, hy, hyo, hyk, hym⟩ := okN_word hrB (by omega)
          have hch : Hid (∃ u, chF x M m = y :: u ∧ u = List.replicate (u.length) 3 ∧ u.length = mh - 1) := lh ⟨_, chF_of (chr3 e0 (by omega) (by omega)) hy, by simp, by simp⟩
          have hE := fun w5 (h5 : Lw w5) => refEnc_yes 2 0 0 (mh : Nat) 0 w5 h5 (by omega) hrB
          rw [hy] at hE
          replace hE := lh hE
          clear hy
          replace hyk := lh hyk
          replace hym := lh hym
          replace hyo := lh hyo
          clear hrB
          have hlw5 := (hwh.out.keep hB).alloc (.cells #[.int .i64 2, .int .i64 0, .int .i64 0, .int .i64 (mh : Nat), .int .u64 0] 109)
          have hown5 := hown.keep (bZ wr (.cells #[.int .i64 2, .int .i64 0, .int .i64 0, .int .i64 (mh : Nat), .int .u64 0] 109))
          have hC5 := C5.new wr 2 0 0 (mh : Nat) 0 109
          rw [hB8] at hC5
          have hB5 := hB.alloc hB.size (.cells #[.int .i64 2, .int .i64 0, .int .i64 0, .int .i64 (mh : Nat), .int .u64 0] 109)
          go_wp2_with fail
          refine (hE.out _ hlw5).mono ?_
          rintro e w6 ⟨rfl, hb6⟩
          have hown6 := hown5.keep hb6
          have hB6 := hB5.trans (hb6.mono hB5.size)
          have hC6 := hC5.keep hb6
          clear hown5 hC5 hB5 hlw5 hb6 hE hown hB
          obtain ⟨v', w7, hrun, ho7, hB7, hg7, hv7⟩ := appU1 (y := y) hown6 hB6.size (by rw [hml.out]; omega) (40 : Nat)
          have hBN := hB6.trans hB7
          have hC7 := (hC6.keep (bZ w6 (.cells #[.int .u64 (y : Nat)] (40 : Nat)))).grown hg7 (fun e => by have := hrow8.out B8 e; omega)
          obtain ⟨q0, q1, q2, q3, q4⟩ := hC6
          obtain ⟨z0, z1, z2, z3, z4⟩ := id hC7
          have hJ1 : Hid (J.length + 1 = (J ++ [y]).length) := lh (by simp)
          obtain ⟨A7, c7, rfl⟩ := ho7.sl (m := m + 1) (by rw [← hJ1.out, hml.out])
          have hJs : Hid (J ++ [y] = J ++ (y :: List.replicate (1 - 1) 3)) := lh rfl
          have hl1 : Hid ((J ++ [y]).length = m + 1) := lh (by rw [← hJ1.out, hml.out])
          have hne0 : Hid (∀ b, Value.ownBlock (.slice A7 (m + 1) c7) = some b → b ≠ B8) := lh (fun b q => by
           rcases hv7 with e | e
           ·rw [e] at q; have := hrow8.out b q; omega
           ·rw [e] at q; have hlt8 : B8 < w6.heap.size := World.block_lt_of_cell? _ _ q0; simp at q; omega)
          have hRep := lh (fun k (hk : 1 ≤ k) => show (J ++ (y :: List.replicate (k - 1) 3)) ++ [3] = J ++ (y :: List.replicate (k + 1 - 1) 3) from by
           rw [List.append_assoc, List.cons_append, ← List.replicate_succ', show k - 1 + 1 = k + 1 - 1 by omega])
          have hEnd : Hid (rightT (J ++ (y :: List.replicate (mh - 1) 3)) = true ∧ J ++ (y :: List.replicate (mh - 1) 3) = madeT (l.take (j + 1)) M) := lh ⟨hAp.out _ _ hJ.out.1 (hHuge.out y (mh - 1) hyo.out (by have := hyk.out; omega) (by have := hym.out; omega)), made_snoc htk.out hJ.out.2 hml.out hfull (chF_many hch.out)⟩
          have hEl : Hid ((J ++ (y :: List.replicate (mh - 1) 3)).length ≤ M) := lh (by simp; have := hml.out; omega)
          generalize hJ2 : J ++ [y] = J2 at *
          replace hJ2 := lh hJ2
          clear hg7 hv7 hown6 hB6 hB7 hJ1 q0 q1 q2 q3 q4
          go_wp2_with (at_builtin; refine wpList_append_run rfl _ _ 25 rfl _ _ _ rfl rfl hrun ?_)
          go_loopw [11, 5] (fun i v9 wq => ∃ (k : Nat) (J2 : List Nat), 1 ≤ k ∧ k ≤ mh ∧ i = .int .i64 k ∧ Hid (J2 = J ++ (y :: List.replicate (k - 1) 3)) ∧ J2.length = m + k ∧ OwnU wq w.heap.size v9 J2 ∧ Hid (∀ b, v9.ownBlock = some b → b ≠ B8) ∧ C5 wq B8 2 0 0 mh 0 ∧ Below w.heap.size w wq) (fun i _ _ => mh + 1 - (intOf i).toNat)
          case atStart => exact ⟨1, J2, by omega, hm1, rfl, hJs, hl1.out, ho7, hne0, hC7, hBN⟩
          case round =>
           clear hrun ho7 hBN hJs hl1 hne0 hC7 z0 z1 z2 z3 z4
           obtain ⟨k, J3, hk1, hk, rfl, hJ3, hJl, hown, hne, hC5, hB⟩ := hrel
           obtain ⟨A9, c9, rfl⟩ := hown.sl hJl
           by_cases hlt2 : k < mh
           ·have hlt2' : (k : Int) < (mh : Int) := by omega
            obtain ⟨v', w8, hrun, ho8, hB8', hg8, hv8⟩ := appU1 (y := 3) hown hB.size (by omega) (40 : Nat)
            rw [show (((3 : Nat) : Int)) = 3 from rfl] at hrun hg8
            have hBN := hB.trans hB8'
            have hC8 := (hC5.keep (bZ wr (.cells #[.int .u64 3] (40 : Nat)))).grown hg8 (fun e => hne.out B8 e rfl)
            obtain ⟨z0, z1, z2, z3, z4⟩ := id hC5
            have hne8 : Hid (∀ b, v'.ownBlock = some b → b ≠ B8) := lh (fun b q => by
             rcases hv8 with e | e
             ·rw [e] at q; exact hne.out b q
             ·rw [e] at q; have hlt8 : B8 < wr.heap.size := World.block_lt_of_cell? _ _ z0; simp at q; omega)
            have hJn : Hid (J3 ++ [3] = J ++ (y :: List.replicate (k + 1 - 1) 3)) := lh (by rw [hJ3.out]; exact hRep.out k hk1)
            have hJn2 : (J3 ++ [3]).length = m + (k + 1) := by rw [List.length_append, hJl]; rfl
            clear hg8 hv8 hB8' hown hB hC5 hne hJ3
            go_wp2_with (at_builtin; refine wpList_append_run rfl _ _ 25 rfl _ _ _ rfl rfl hrun ?_)
            go_roundw
            case rel => exact ⟨k + 1, _, by omega, by omega, by go_num, hJn, hJn2, ho8, hne8, hC8, hBN⟩
            case measure => first | (simp [intOf]; done) | (simp [intOf]; omega)
           ·obtain rfl : k = mh := by omega
            obtain ⟨z0, z1, z2, z3, z4⟩ := id hC5
            have hJn : Hid (rightT J3 = true ∧ J3 = madeT (l.take (j + 1)) M) := lh (by rw [hJ3.out]; exact hEnd.out)
            have hJM3 : Hid (J3.length ≤ M) := lh (by rw [hJ3.out]; exact hEl.out)
            go_wp2_with fail
            go_roundw
            case rel => exact ⟨j + 1, J3, by omega, by go_num, hJn, hJM3.out, hown, hB⟩
            case measure => first | (simp [intOf]; done) | (simp [intOf]; omega)
       ·skip
        by_cases hr1 : x % 6 = 1
        ·skip
         have e0 : (x : Int) % 6 = (1 : Int) := by omega
         obtain ⟨c, hc⟩ : ∃ c : Nat, x / 8 % 3 = c := ⟨_, rfl⟩
         have hc3 : c < 3 := by omega
         have e2 : (x : Int) / 8 % 3 = (c : Int) := by omega
         obtain ⟨b0, hb0⟩ : ∃ b0 : Nat, x / 32 = b0 := ⟨_, rfl⟩
         have hb08 : b0 < 2048 := by omega
         have e3 : (x : Int) / 32 = (b0 : Int) := by omega
         have e7 : IntKind.u64.wrap (b0 : Int) = (b0 : Int) := by rw [IntKind.wrap_u64]; omega
         clear hb0 hc
         have hcc : c = 0 ∨ c = 1 ∨ c = 2 := by omega
         rcases hcc with rfl | rfl | rfl
         ·skip
          obtain ⟨b, hb⟩ : ∃ b : Nat, b0 % 256 = b := ⟨_, rfl⟩
          have hb9 : b < 256 := by rw [← hb]; exact Nat.mod_lt _ (by decide)
          have e6 : (b0 : Int) % 256 = (b : Int) := by omega
          have e8 : (b0 : Int).tmod 256 = (b : Int) := by rw [Int.tmod_eq_emod_of_nonneg (by omega)]; exact e6
          have e9 : IntKind.u64.wrap 256 = 256 := rfl
          have e10 : ¬ (256 : Int) = 0 := by decide
          have hmy : mnyI (((0 : Nat) : Int)) = 8 := rfl
          rw [show (((0 : Nat) : Int)) = 0 from rfl] at e2 hmy
          have hrB : rightB_ti 1 0 0 0 (b : Nat) = true := right_yes (by unfold RightP; omega)
          obtain ⟨y, hy, hyo, hyk, hym⟩ := okN_word hrB (by omega)
          have hch : Hid (∃ u, chF x M m = y :: u ∧ u = List.replicate (u.length) 3 ∧ u.length = 0) := lh ⟨_, chF_of (chr12 (by first | exact .inl e0 | exact .inr e0) (by omega) (by omega)) hy, by simp, by simp⟩
          have hE := fun w5 (h5 : Lw w5) => refEnc_yes 1 0 0 0 (b : Nat) w5 h5 (by omega) hrB
          rw [hy] at hE
          replace hE := lh hE
          clear hy
          replace hyk := lh hyk
          replace hym := lh hym
          replace hyo := lh hyo
          clear hrB
          have hC5 := C5.new wr 1 0 0 0 (b0 : Nat) 109
          have xf : (wr.alloc (.cells #[.int .i64 1, .int .i64 0, .int .i64 0, .int .i64 0, .int .u64 (b0 : Nat)] 109)).frozen? ⟨wr.heap.size, 4, none⟩ = false := by simp [go_sem]
          rw [hB8] at hC5 xf
          have hA5 := bZ wr (.cells #[.int .i64 1, .int .i64 0, .int .i64 0, .int .i64 0, .int .u64 (b0 : Nat)] 109)
          go_wp2_with fail
          generalize hW5 : wr.alloc (.cells #[.int .i64 1, .int .i64 0, .int .i64 0, .int .i64 0, .int .u64 (b0 : Nat)] 109) = W5 at *
          obtain ⟨x0, x1, x2, x3, x4⟩ := id hC5
          refine wp_region_tail (S := (fun w' => (w'.cell? ⟨B8, 1, none⟩ = some (.int .i64 0) ∧ w'.cell? ⟨B8, 4, none⟩ = some (.int .u64 (b0 : Nat)) ∧ w'.frozen? ⟨B8, 4, none⟩ = false) ∧ Below W5.heap.size W5 w')) (n := 8) (by kernel_rfl) ?_ (fun hHeld hInv => ?_) (by decide)
          ·(try dsimp only)
           (first | assumption | (exact ⟨⟨x1, x4, xf⟩, (Below.refl _ _).drew⟩))
          refine takeVS 0 hInv ?_; clear hInv; intro hInv
          refine takeVS 1 hInv ?_; clear hInv; intro hInv
          refine takeVS 2 hInv ?_; clear hInv; intro hInv
          refine takeVS 3 hInv ?_; clear hInv; intro hInv
          refine oneS 4 hInv (by decide) rfl (by kernel_rfl) (fun K hK => ?_)
          go_simp
          (refine (Calls.mono (hMn.out 0 _) ?_); rintro e w9 ⟨rfl, rfl⟩; (try rw [hmy]))
          refine hK.out _ _ ?_ (fun hHeld2 hInv2 => ?_)
          ·(try dsimp only)
           (first | assumption | (exact ⟨⟨x1, x4, xf⟩, (Below.refl _ _).drew⟩))
          clear hK K hHeld hInv
          have hHeld := hHeld2
          have hInv := hInv2
          clear hHeld2 hInv2
          try simp only [Act.put,sA,sB,sC] at hInv ⊢
          refine takeVS 5 hInv ?_; clear hInv; intro hInv
          refine takeVS 6 hInv ?_; clear hInv; intro hInv
          refine takeVS 7 hInv ?_; clear hInv; intro hInv
          refine lastS 8 rfl (by decide) (by kernel_rfl) (fun K hK => ?_)
          go_simp
          refine hK.out _ _ ?_
          clear hK K
          try simp only [Act.put,sA,sB,sC]
          refine wpAnyS_done (by kernel_rfl) ?_ _
          clear hHeld hInv
          have hD5 := hA5
          have hC6 : C5 W5 B8 1 0 0 0 (b0 : Nat) := hC5
          have hst : C5 ((W5.setCell ⟨B8, 4, none⟩ (.int .u64 (b : Nat))).drew) B8 1 0 0 0 (b : Nat) := by
           obtain ⟨y0, y1, y2, y3, y4⟩ := hC6
           refine ⟨?_, ?_, ?_, ?_, ?_⟩ <;> simp [go_sem, *]
          have hBs : Below B8 wr ((W5.setCell ⟨B8, 4, none⟩ (.int .u64 (b : Nat))).drew) := by
           rw [← hB8]; exact (hD5.setCell (by simp [hB8]) _).drew
          have hBt : Below w.heap.size w ((W5.setCell ⟨B8, 4, none⟩ (.int .u64 (b : Nat))).drew) := hB.trans (hBs.mono hwB)
          have hown5 : OwnU ((W5.setCell ⟨B8, 4, none⟩ (.int .u64 (b : Nat))).drew) w.heap.size (.slice Ar m cr) J := hown.keepG hBs hrow8.out
          have hlw5 := hwh.out.keep hBt
          have hB5 := hBt
          clear hBt hBs hD5 hC6 hC5 hA5 xf x0 x1 x2 x3 x4 hW5
          have hC5 := hst
          clear hst
          obtain ⟨x0, x1, x2, x3, x4⟩ := id hC5
          generalize (W5.setCell ⟨B8, 4, none⟩ (.int .u64 (b : Nat))).drew = W9 at *
          go_wp2_with fail
          refine (hE.out _ hlw5).mono ?_
          rintro e w6 ⟨rfl, hb6⟩
          have hown6 := hown5.keep hb6
          have hB6 := hB5.trans (hb6.mono hB5.size)
          have hC6 := hC5.keep hb6
          clear hown5 hC5 hB5 hlw5 hb6 hE hown hB
          obtain ⟨v', w7, hrun, ho7, hB7, hg7, hv7⟩ := appU1 (y := y) hown6 hB6.size (by rw [hml.out]; omega) (40 : Nat)
          have hBN := hB6.trans hB7
          have hC7 := (hC6.keep (bZ w6 (.cells #[.int .u64 (y : Nat)] (40 : Nat)))).grown hg7 (fun e => by have := hrow8.out B8 e; omega)
          obtain ⟨q0, q1, q2, q3, q4⟩ := hC6
          obtain ⟨z0, z1, z2, z3, z4⟩ := id hC7
          have hJ1 : Hid (J.length + 1 = (J ++ [y]).length) := lh (by simp)
          obtain ⟨A7, c7, rfl⟩ := ho7.sl (m := m + 1) (by rw [← hJ1.out, hml.out])
          clear hg7 hv7 hown6 hB6 hB7
          have hJn : Hid (rightT (J ++ [y]) = true ∧ J ++ [y] = madeT (l.take (j + 1)) M) := lh ⟨hAp.out _ _ hJ.out.1 (hOne.out y hyo.out (by have := hyk.out; omega) (by have := hyk.out; omega)), made_snoc htk.out hJ.out.2 hml.out hfull (chF_one hch.out)⟩
          have hJl : (J ++ [y]).length ≤ M := by rw [← hJ1.out, hml.out]; omega
          clear hC7
          go_wp2_with (at_builtin; refine wpList_append_run rfl _ _ 25 rfl _ _ _ rfl rfl hrun ?_)
          go_loopw [11, 5] (fun i v9 wq => i = .int .i64 1 ∧ v9 = .slice A7 (m + 1) c7 ∧ wq = w7) (fun _ _ _ => 0)
          case atStart => exact ⟨rfl, rfl, rfl⟩
          case round =>
           obtain ⟨rfl, rfl, rfl⟩ := hrel
           go_wp2_with fail
           go_roundw
           case rel => exact ⟨j + 1, _, by omega, by go_num, hJn, hJl, ho7, hBN⟩
           case measure => first | (simp [intOf]; done) | (simp [intOf]; omega)
         ·skip
          obtain ⟨b, hb⟩ : ∃ b : Nat, b0 % 16 = b := ⟨_, rfl⟩
          have hb9 : b < 16 := by rw [← hb]; exact Nat.mod_lt _ (by decide)
          have e6 : (b0 : Int) % 16 = (b : Int) := by omega
          have e8 : (b0 : Int).tmod 16 = (b : Int) := by rw [Int.tmod_eq_emod_of_nonneg (by omega)]; exact e6
          have e9 : IntKind.u64.wrap 16 = 16 := rfl
          have e10 : ¬ (16 : Int) = 0 := by decide
          have hmy : mnyI (((1 : Nat) : Int)) = 4 := rfl
          rw [show (((1 : Nat) : Int)) = 1 from rfl] at e2 hmy
          have hrB : rightB_ti 1 1 0 0 (b : Nat) = true := right_yes (by unfold RightP; omega)
          obtain ⟨y, hy, hyo, hyk, hym⟩ := okN_word hrB (by omega)
          have hch : Hid (∃ u, chF x M m = y :: u ∧ u = List.replicate (u.length) 3 ∧ u.length = 0) := lh ⟨_, chF_of (chr12 (by first | exact .inl e0 | exact .inr e0) (by omega) (by omega)) hy, by simp, by simp⟩
          have hE := fun w5 (h5 : Lw w5) => refEnc_yes 1 1 0 0 (b : Nat) w5 h5 (by omega) hrB
          rw [hy] at hE
          replace hE := lh hE
          clear hy
          replace hyk := lh hyk
          replace hym := lh hym
          replace hyo := lh hyo
          clear hrB
          have hC5 := C5.new wr 1 1 0 0 (b0 : Nat) 109
          have xf : (wr.alloc (.cells #[.int .i64 1, .int .i64 1, .int .i64 0, .int .i64 0, .int .u64 (b0 : Nat)] 109)).frozen? ⟨wr.heap.size, 4, none⟩ = false := by simp [go_sem]
          rw [hB8] at hC5 xf
          have hA5 := bZ wr (.cells #[.int .i64 1, .int .i64 1, .int .i64 0, .int .i64 0, .int .u64 (b0 : Nat)] 109)
          go_wp2_with fail
          generalize hW5 : wr.alloc (.cells #[.int .i64 1, .int .i64 1, .int .i64 0, .int .i64 0, .int .u64 (b0 : Nat)] 109) = W5 at *
          obtain ⟨x0, x1, x2, x3, x4⟩ := id hC5
          refine wp_region_tail (S := (fun w' => (w'.cell? ⟨B8, 1, none⟩ = some (.int .i64 1) ∧ w'.cell? ⟨B8, 4, none⟩ = some (.int .u64 (b0 : Nat)) ∧ w'.frozen? ⟨B8, 4, none⟩ = false) ∧ Below W5.heap.size W5 w')) (n := 8) (by kernel_rfl) ?_ (fun hHeld hInv => ?_) (by decide)
          ·(try dsimp only)
           (first | assumption | (exact ⟨⟨x1, x4, xf⟩, (Below.refl _ _).drew⟩))
          refine takeVS 0 hInv ?_; clear hInv; intro hInv
          refine takeVS 1 hInv ?_; clear hInv; intro hInv
          refine takeVS 2 hInv ?_; clear hInv; intro hInv
          refine takeVS 3 hInv ?_; clear hInv; intro hInv
          refine oneS 4 hInv (by decide) rfl (by kernel_rfl) (fun K hK => ?_)
          go_simp
          (refine (Calls.mono (hMn.out 1 _) ?_); rintro e w9 ⟨rfl, rfl⟩; (try rw [hmy]))
          refine hK.out _ _ ?_ (fun hHeld2 hInv2 => ?_)
          ·(try dsimp only)
           (first | assumption | (exact ⟨⟨x1, x4, xf⟩, (Below.refl _ _).drew⟩))
          clear hK K hHeld hInv
          have hHeld := hHeld2
          have hInv := hInv2
          clear hHeld2 hInv2
          try simp only [Act.put,sA,sB,sC] at hInv ⊢
          refine takeVS 5 hInv ?_; clear hInv; intro hInv
          refine takeVS 6 hInv ?_; clear hInv; intro hInv
          refine takeVS 7 hInv ?_; clear hInv; intro hInv
          refine lastS 8 rfl (by decide) (by kernel_rfl) (fun K hK => ?_)
          go_simp
          refine hK.out _ _ ?_
          clear hK K
          try simp only [Act.put,sA,sB,sC]
          refine wpAnyS_done (by kernel_rfl) ?_ _
          clear hHeld hInv
          have hD5 := hA5
          have hC6 : C5 W5 B8 1 1 0 0 (b0 : Nat) := hC5
          have hst : C5 ((W5.setCell ⟨B8, 4, none⟩ (.int .u64 (b : Nat))).drew) B8 1 1 0 0 (b : Nat) := by
           obtain ⟨y0, y1, y2, y3, y4⟩ := hC6
           refine ⟨?_, ?_, ?_, ?_, ?_⟩ <;> simp [go_sem, *]
          have hBs : Below B8 wr ((W5.setCell ⟨B8, 4, none⟩ (.int .u64 (b : Nat))).drew) := by
           rw [← hB8]; exact (hD5.setCell (by simp [hB8]) _).drew
          have hBt : Below w.heap.size w ((W5.setCell ⟨B8, 4, none⟩ (.int .u64 (b : Nat))).drew) := hB.trans (hBs.mono hwB)
          have hown5 : OwnU ((W5.setCell ⟨B8, 4, none⟩ (.int .u64 (b : Nat))).drew) w.heap.size (.slice Ar m cr) J := hown.keepG hBs hrow8.out
          have hlw5 := hwh.out.keep hBt
          have hB5 := hBt
          clear hBt hBs hD5 hC6 hC5 hA5 xf x0 x1 x2 x3 x4 hW5
          have hC5 := hst
          clear hst
          obtain ⟨x0, x1, x2, x3, x4⟩ := id hC5
          generalize (W5.setCell ⟨B8, 4, none⟩ (.int .u64 (b : Nat))).drew = W9 at *
          go_wp2_with fail
          refine (hE.out _ hlw5).mono ?_
          rintro e w6 ⟨rfl, hb6⟩
          have hown6 := hown5.keep hb6
          have hB6 := hB5.trans (hb6.mono hB5.size)
          have hC6 := hC5.keep hb6
          clear hown5 hC5 hB5 hlw5 hb6 hE hown hB
          obtain ⟨v', w7, hrun, ho7, hB7, hg7, hv7⟩ := appU1 (y := y) hown6 hB6.size (by rw [hml.out]; omega) (40 : Nat)
          have hBN := hB6.trans hB7
          have hC7 := (hC6.keep (bZ w6 (.cells #[.int .u64 (y : Nat)] (40 : Nat)))).grown hg7 (fun e => by have := hrow8.out B8 e; omega)
          obtain ⟨q0, q1, q2, q3, q4⟩ := hC6
          obtain ⟨z0, z1, z2, z3, z4⟩ := id hC7
          have hJ1 : Hid (J.length + 1 = (J ++ [y]).length) := lh (by simp)
          obtain ⟨A7, c7, rfl⟩ := ho7.sl (m := m + 1) (by rw [← hJ1.out, hml.out])
          clear hg7 hv7 hown6 hB6 hB7
          have hJn : Hid (rightT (J ++ [y]) = true ∧ J ++ [y] = madeT (l.take (j + 1)) M) := lh ⟨hAp.out _ _ hJ.out.1 (hOne.out y hyo.out (by have := hyk.out; omega) (by have := hyk.out; omega)), made_snoc htk.out hJ.out.2 hml.out hfull (chF_one hch.out)⟩
          have hJl : (J ++ [y]).length ≤ M := by rw [← hJ1.out, hml.out]; omega
          clear hC7
          go_wp2_with (at_builtin; refine wpList_append_run rfl _ _ 25 rfl _ _ _ rfl rfl hrun ?_)
          go_loopw [11, 5] (fun i v9 wq => i = .int .i64 1 ∧ v9 = .slice A7 (m + 1) c7 ∧ wq = w7) (fun _ _ _ => 0)
          case atStart => exact ⟨rfl, rfl, rfl⟩
          case round =>
           obtain ⟨rfl, rfl, rfl⟩ := hrel
           go_wp2_with fail
           go_roundw
           case rel => exact ⟨j + 1, _, by omega, by go_num, hJn, hJl, ho7, hBN⟩
           case measure => first | (simp [intOf]; done) | (simp [intOf]; omega)
         ·skip
          obtain ⟨b, hb⟩ : ∃ b : Nat, b0 % 4 = b := ⟨_, rfl⟩
          have hb9 : b < 4 := by rw [← hb]; exact Nat.mod_lt _ (by decide)
          have e6 : (b0 : Int) % 4 = (b : Int) := by omega
          have e8 : (b0 : Int).tmod 4 = (b : Int) := by rw [Int.tmod_eq_emod_of_nonneg (by omega)]; exact e6
          have e9 : IntKind.u64.wrap 4 = 4 := rfl
          have e10 : ¬ (4 : Int) = 0 := by decide
          have hmy : mnyI (((2 : Nat) : Int)) = 2 := rfl
          rw [show (((2 : Nat) : Int)) = 2 from rfl] at e2 hmy
          have hrB : rightB_ti 1 2 0 0 (b : Nat) = true := right_yes (by unfold RightP; omega)
          obtain ⟨y, hy, hyo, hyk, hym⟩ := okN_word hrB (by omega)
          have hch : Hid (∃ u, chF x M m = y :: u ∧ u = List.replicate (u.length) 3 ∧ u.length = 0) := lh ⟨_, chF_of (chr12 (by first | exact .inl e0 | exact .inr e0) (by omega) (by omega)) hy, by simp, by simp⟩
          have hE := fun w5 (h5 : Lw w5) => refEnc_yes 1 2 0 0 (b : Nat) w5 h5 (by omega) hrB
          rw [hy] at hE
          replace hE := lh hE
          clear hy
          replace hyk := lh hyk
          replace hym := lh hym
          replace hyo := lh hyo
          clear hrB
          have hC5 := C5.new wr 1 2 0 0 (b0 : Nat) 109
          have xf : (wr.alloc (.cells #[.int .i64 1, .int .i64 2, .int .i64 0, .int .i64 0, .int .u64 (b0 : Nat)] 109)).frozen? ⟨wr.heap.size, 4, none⟩ = false := by simp [go_sem]
          rw [hB8] at hC5 xf
          have hA5 := bZ wr (.cells #[.int .i64 1, .int .i64 2, .int .i64 0, .int .i64 0, .int .u64 (b0 : Nat)] 109)
          go_wp2_with fail
          generalize hW5 : wr.alloc (.cells #[.int .i64 1, .int .i64 2, .int .i64 0, .int .i64 0, .int .u64 (b0 : Nat)] 109) = W5 at *
          obtain ⟨x0, x1, x2, x3, x4⟩ := id hC5
          refine wp_region_tail (S := (fun w' => (w'.cell? ⟨B8, 1, none⟩ = some (.int .i64 2) ∧ w'.cell? ⟨B8, 4, none⟩ = some (.int .u64 (b0 : Nat)) ∧ w'.frozen? ⟨B8, 4, none⟩ = false) ∧ Below W5.heap.size W5 w')) (n := 8) (by kernel_rfl) ?_ (fun hHeld hInv => ?_) (by decide)
          ·(try dsimp only)
           (first | assumption | (exact ⟨⟨x1, x4, xf⟩, (Below.refl _ _).drew⟩))
          refine takeVS 0 hInv ?_; clear hInv; intro hInv
          refine takeVS 1 hInv ?_; clear hInv; intro hInv
          refine takeVS 2 hInv ?_; clear hInv; intro hInv
          refine takeVS 3 hInv ?_; clear hInv; intro hInv
          refine oneS 4 hInv (by decide) rfl (by kernel_rfl) (fun K hK => ?_)
          go_simp
          (refine (Calls.mono (hMn.out 2 _) ?_); rintro e w9 ⟨rfl, rfl⟩; (try rw [hmy]))
          refine hK.out _ _ ?_ (fun hHeld2 hInv2 => ?_)
          ·(try dsimp only)
           (first | assumption | (exact ⟨⟨x1, x4, xf⟩, (Below.refl _ _).drew⟩))
          clear hK K hHeld hInv
          have hHeld := hHeld2
          have hInv := hInv2
          clear hHeld2 hInv2
          try simp only [Act.put,sA,sB,sC] at hInv ⊢
          refine takeVS 5 hInv ?_; clear hInv; intro hInv
          refine takeVS 6 hInv ?_; clear hInv; intro hInv
          refine takeVS 7 hInv ?_; clear hInv; intro hInv
          refine lastS 8 rfl (by decide) (by kernel_rfl) (fun K hK => ?_)
          go_simp
          refine hK.out _ _ ?_
          clear hK K
          try simp only [Act.put,sA,sB,sC]
          refine wpAnyS_done (by kernel_rfl) ?_ _
          clear hHeld hInv
          have hD5 := hA5
          have hC6 : C5 W5 B8 1 2 0 0 (b0 : Nat) := hC5
          have hst : C5 ((W5.setCell ⟨B8, 4, none⟩ (.int .u64 (b : Nat))).drew) B8 1 2 0 0 (b : Nat) := by
           obtain ⟨y0, y1, y2, y3, y4⟩ := hC6
           refine ⟨?_, ?_, ?_, ?_, ?_⟩ <;> simp [go_sem, *]
          have hBs : Below B8 wr ((W5.setCell ⟨B8, 4, none⟩ (.int .u64 (b : Nat))).drew) := by
           rw [← hB8]; exact (hD5.setCell (by simp [hB8]) _).drew
          have hBt : Below w.heap.size w ((W5.setCell ⟨B8, 4, none⟩ (.int .u64 (b : Nat))).drew) := hB.trans (hBs.mono hwB)
          have hown5 : OwnU ((W5.setCell ⟨B8, 4, none⟩ (.int .u64 (b : Nat))).drew) w.heap.size (.slice Ar m cr) J := hown.keepG hBs hrow8.out
          have hlw5 := hwh.out.keep hBt
          have hB5 := hBt
          clear hBt hBs hD5 hC6 hC5 hA5 xf x0 x1 x2 x3 x4 hW5
          have hC5 := hst
          clear hst
          obtain ⟨x0, x1, x2, x3, x4⟩ := id hC5
          generalize (W5.setCell ⟨B8, 4, none⟩ (.int .u64 (b : Nat))).drew = W9 at *
          go_wp2_with fail
          refine (hE.out _ hlw5).mono ?_
          rintro e w6 ⟨rfl, hb6⟩
          have hown6 := hown5.keep hb6
          have hB6 := hB5.trans (hb6.mono hB5.size)
          have hC6 := hC5.keep hb6
          clear hown5 hC5 hB5 hlw5 hb6 hE hown hB
          obtain ⟨v', w7, hrun, ho7, hB7, hg7, hv7⟩ := appU1 (y := y) hown6 hB6.size (by rw [hml.out]; omega) (40 : Nat)
          have hBN := hB6.trans hB7
          have hC7 := (hC6.keep (bZ w6 (.cells #[.int .u64 (y : Nat)] (40 : Nat)))).grown hg7 (fun e => by have := hrow8.out B8 e; omega)
          obtain ⟨q0, q1, q2, q3, q4⟩ := hC6
          obtain ⟨z0, z1, z2, z3, z4⟩ := id hC7
          have hJ1 : Hid (J.length + 1 = (J ++ [y]).length) := lh (by simp)
          obtain ⟨A7, c7, rfl⟩ := ho7.sl (m := m + 1) (by rw [← hJ1.out, hml.out])
          clear hg7 hv7 hown6 hB6 hB7
          have hJn : Hid (rightT (J ++ [y]) = true ∧ J ++ [y] = madeT (l.take (j + 1)) M) := lh ⟨hAp.out _ _ hJ.out.1 (hOne.out y hyo.out (by have := hyk.out; omega) (by have := hyk.out; omega)), made_snoc htk.out hJ.out.2 hml.out hfull (chF_one hch.out)⟩
          have hJl : (J ++ [y]).length ≤ M := by rw [← hJ1.out, hml.out]; omega
          clear hC7
          go_wp2_with (at_builtin; refine wpList_append_run rfl _ _ 25 rfl _ _ _ rfl rfl hrun ?_)
          go_loopw [11, 5] (fun i v9 wq => i = .int .i64 1 ∧ v9 = .slice A7 (m + 1) c7 ∧ wq = w7) (fun _ _ _ => 0)
          case atStart => exact ⟨rfl, rfl, rfl⟩
          case round =>
           obtain ⟨rfl, rfl, rfl⟩ := hrel
           go_wp2_with fail
           go_roundw
           case rel => exact ⟨j + 1, _, by omega, by go_num, hJn, hJl, ho7, hBN⟩
           case measure => first | (simp [intOf]; done) | (simp [intOf]; omega)
        ·have hr2 : x % 6 = 2 := by omega
         have e0 : (x : Int) % 6 = (2 : Int) := by omega
         obtain ⟨c, hc⟩ : ∃ c : Nat, x / 8 % 3 = c := ⟨_, rfl⟩
         have hc3 : c < 3 := by omega
         have e2 : (x : Int) / 8 % 3 = (c : Int) := by omega
         obtain ⟨b0, hb0⟩ : ∃ b0 : Nat, x / 32 = b0 := ⟨_, rfl⟩
         have hb08 : b0 < 2048 := by omega
         have e3 : (x : Int) / 32 = (b0 : Int) := by omega
         have e7 : IntKind.u64.wrap (b0 : Int) = (b0 : Int) := by rw [IntKind.wrap_u64]; omega
         clear hb0 hc
         have hcc : c = 0 ∨ c = 1 ∨ c = 2 := by omega
         rcases hcc with rfl | rfl | rfl
         ·skip
          obtain ⟨b, hb⟩ : ∃ b : Nat, b0 % 256 = b := ⟨_, rfl⟩
          have hb9 : b < 256 := by rw [← hb]; exact Nat.mod_lt _ (by decide)
          have e6 : (b0 : Int) % 256 = (b : Int) := by omega
          have e8 : (b0 : Int).tmod 256 = (b : Int) := by rw [Int.tmod_eq_emod_of_nonneg (by omega)]; exact e6
          have e9 : IntKind.u64.wrap 256 = 256 := rfl
          have e10 : ¬ (256 : Int) = 0 := by decide
          have hmy : mnyI (((0 : Nat) : Int)) = 8 := rfl
          rw [show (((0 : Nat) : Int)) = 0 from rfl] at e2 hmy
          have hrB : rightB_ti 1 0 0 0 (b : Nat) = true := right_yes (by unfold RightP; omega)
          obtain ⟨y, hy, hyo, hyk, hym⟩ := okN_word hrB (by omega)
          have hch : Hid (∃ u, chF x M m = y :: u ∧ u = List.replicate (u.length) 3 ∧ u.length = 0) := lh ⟨_, chF_of (chr12 (by first | exact .inl e0 | exact .inr e0) (by omega) (by omega)) hy, by simp, by simp⟩
          have hE := fun w5 (h5 : Lw w5) => refEnc_yes 1 0 0 0 (b : Nat) w5 h5 (by omega) hrB
          rw [hy] at hE
          replace hE := lh hE
          clear hy
          replace hyk := lh hyk
          replace hym := lh hym
          replace hyo := lh hyo
          clear hrB
          have hC5 := C5.new wr 1 0 0 0 (b0 : Nat) 109
          have xf : (wr.alloc (.cells #[.int .i64 1, .int .i64 0, .int .i64 0, .int .i64 0, .int .u64 (b0 : Nat)] 109)).frozen? ⟨wr.heap.size, 4, none⟩ = false := by simp [go_sem]
          rw [hB8] at hC5 xf
          have hA5 := bZ wr (.cells #[.int .i64 1, .int .i64 0, .int .i64 0, .int .i64 0, .int .u64 (b0 : Nat)] 109)
          go_wp2_with fail
          generalize hW5 : wr.alloc (.cells #[.int .i64 1, .int .i64 0, .int .i64 0, .int .i64 0, .int .u64 (b0 : Nat)] 109) = W5 at *
          obtain ⟨x0, x1, x2, x3, x4⟩ := id hC5
          refine wp_region_tail (S := (fun w' => (w'.cell? ⟨B8, 1, none⟩ = some (.int .i64 0) ∧ w'.cell? ⟨B8, 4, none⟩ = some (.int .u64 (b0 : Nat)) ∧ w'.frozen? ⟨B8, 4, none⟩ = false) ∧ Below W5.heap.size W5 w')) (n := 8) (by kernel_rfl) ?_ (fun hHeld hInv => ?_) (by decide)
          ·(try dsimp only)
           (first | assumption | (exact ⟨⟨x1, x4, xf⟩, (Below.refl _ _).drew⟩))
          refine takeVS 0 hInv ?_; clear hInv; intro hInv
          refine takeVS 1 hInv ?_; clear hInv; intro hInv
          refine takeVS 2 hInv ?_; clear hInv; intro hInv
          refine takeVS 3 hInv ?_; clear hInv; intro hInv
          refine oneS 4 hInv (by decide) rfl (by kernel_rfl) (fun K hK => ?_)
          go_simp
          (refine (Calls.mono (hMn.out 0 _) ?_); rintro e w9 ⟨rfl, rfl⟩; (try rw [hmy]))
          refine hK.out _ _ ?_ (fun hHeld2 hInv2 => ?_)
          ·(try dsimp only)
           (first | assumption | (exact ⟨⟨x1, x4, xf⟩, (Below.refl _ _).drew⟩))
          clear hK K hHeld hInv
          have hHeld := hHeld2
          have hInv := hInv2
          clear hHeld2 hInv2
          try simp only [Act.put,sA,sB,sC] at hInv ⊢
          refine takeVS 5 hInv ?_; clear hInv; intro hInv
          refine takeVS 6 hInv ?_; clear hInv; intro hInv
          refine takeVS 7 hInv ?_; clear hInv; intro hInv
          refine lastS 8 rfl (by decide) (by kernel_rfl) (fun K hK => ?_)
          go_simp
          refine hK.out _ _ ?_
          clear hK K
          try simp only [Act.put,sA,sB,sC]
          refine wpAnyS_done (by kernel_rfl) ?_ _
          clear hHeld hInv
          have hD5 := hA5
          have hC6 : C5 W5 B8 1 0 0 0 (b0 : Nat) := hC5
          have hst : C5 ((W5.setCell ⟨B8, 4, none⟩ (.int .u64 (b : Nat))).drew) B8 1 0 0 0 (b : Nat) := by
           obtain ⟨y0, y1, y2, y3, y4⟩ := hC6
           refine ⟨?_, ?_, ?_, ?_, ?_⟩ <;> simp [go_sem, *]
          have hBs : Below B8 wr ((W5.setCell ⟨B8, 4, none⟩ (.int .u64 (b : Nat))).drew) := by
           rw [← hB8]; exact (hD5.setCell (by simp [hB8]) _).drew
          have hBt : Below w.heap.size w ((W5.setCell ⟨B8, 4, none⟩ (.int .u64 (b : Nat))).drew) := hB.trans (hBs.mono hwB)
          have hown5 : OwnU ((W5.setCell ⟨B8, 4, none⟩ (.int .u64 (b : Nat))).drew) w.heap.size (.slice Ar m cr) J := hown.keepG hBs hrow8.out
          have hlw5 := hwh.out.keep hBt
          have hB5 := hBt
          clear hBt hBs hD5 hC6 hC5 hA5 xf x0 x1 x2 x3 x4 hW5
          have hC5 := hst
          clear hst
          obtain ⟨x0, x1, x2, x3, x4⟩ := id hC5
          generalize (W5.setCell ⟨B8, 4, none⟩ (.int .u64 (b : Nat))).drew = W9 at *
          go_wp2_with fail
          refine (hE.out _ hlw5).mono ?_
          rintro e w6 ⟨rfl, hb6⟩
          have hown6 := hown5.keep hb6
          have hB6 := hB5.trans (hb6.mono hB5.size)
          have hC6 := hC5.keep hb6
          clear hown5 hC5 hB5 hlw5 hb6 hE hown hB
          obtain ⟨v', w7, hrun, ho7, hB7, hg7, hv7⟩ := appU1 (y := y) hown6 hB6.size (by rw [hml.out]; omega) (40 : Nat)
          have hBN := hB6.trans hB7
          have hC7 := (hC6.keep (bZ w6 (.cells #[.int .u64 (y : Nat)] (40 : Nat)))).grown hg7 (fun e => by have := hrow8.out B8 e; omega)
          obtain ⟨q0, q1, q2, q3, q4⟩ := hC6
          obtain ⟨z0, z1, z2, z3, z4⟩ := id hC7
          have hJ1 : Hid (J.length + 1 = (J ++ [y]).length) := lh (by simp)
          obtain ⟨A7, c7, rfl⟩ := ho7.sl (m := m + 1) (by rw [← hJ1.out, hml.out])
          clear hg7 hv7 hown6 hB6 hB7
          have hJn : Hid (rightT (J ++ [y]) = true ∧ J ++ [y] = madeT (l.take (j + 1)) M) := lh ⟨hAp.out _ _ hJ.out.1 (hOne.out y hyo.out (by have := hyk.out; omega) (by have := hyk.out; omega)), made_snoc htk.out hJ.out.2 hml.out hfull (chF_one hch.out)⟩
          have hJl : (J ++ [y]).length ≤ M := by rw [← hJ1.out, hml.out]; omega
          clear hC7
          go_wp2_with (at_builtin; refine wpList_append_run rfl _ _ 25 rfl _ _ _ rfl rfl hrun ?_)
          go_loopw [11, 5] (fun i v9 wq => i = .int .i64 1 ∧ v9 = .slice A7 (m + 1) c7 ∧ wq = w7) (fun _ _ _ => 0)
          case atStart => exact ⟨rfl, rfl, rfl⟩
          case round =>
           obtain ⟨rfl, rfl, rfl⟩ := hrel
           go_wp2_with fail
           go_roundw
           case rel => exact ⟨j + 1, _, by omega, by go_num, hJn, hJl, ho7, hBN⟩
           case measure => first | (simp [intOf]; done) | (simp [intOf]; omega)
         ·skip
          obtain ⟨b, hb⟩ : ∃ b : Nat, b0 % 16 = b := ⟨_, rfl⟩
          have hb9 : b < 16 := by rw [← hb]; exact Nat.mod_lt _ (by decide)
          have e6 : (b0 : Int) % 16 = (b : Int) := by omega
          have e8 : (b0 : Int).tmod 16 = (b : Int) := by rw [Int.tmod_eq_emod_of_nonneg (by omega)]; exact e6
          have e9 : IntKind.u64.wrap 16 = 16 := rfl
          have e10 : ¬ (16 : Int) = 0 := by decide
          have hmy : mnyI (((1 : Nat) : Int)) = 4 := rfl
          rw [show (((1 : Nat) : Int)) = 1 from rfl] at e2 hmy
          have hrB : rightB_ti 1 1 0 0 (b : Nat) = true := right_yes (by unfold RightP; omega)
          obtain ⟨y, hy, hyo, hyk, hym⟩ := okN_word hrB (by omega)
          have hch : Hid (∃ u, chF x M m = y :: u ∧ u = List.replicate (u.length) 3 ∧ u.length = 0) := lh ⟨_, chF_of (chr12 (by first | exact .inl e0 | exact .inr e0) (by omega) (by omega)) hy, by simp, by simp⟩
          have hE := fun w5 (h5 : Lw w5) => refEnc_yes 1 1 0 0 (b : Nat) w5 h5 (by omega) hrB
          rw [hy] at hE
          replace hE := lh hE
          clear hy
          replace hyk := lh hyk
          replace hym := lh hym
          replace hyo := lh hyo
          clear hrB
          have hC5 := C5.new wr 1 1 0 0 (b0 : Nat) 109
          have xf : (wr.alloc (.cells #[.int .i64 1, .int .i64 1, .int .i64 0, .int .i64 0, .int .u64 (b0 : Nat)] 109)).frozen? ⟨wr.heap.size, 4, none⟩ = false := by simp [go_sem]
          rw [hB8] at hC5 xf
          have hA5 := bZ wr (.cells #[.int .i64 1, .int .i64 1, .int .i64 0, .int .i64 0, .int .u64 (b0 : Nat)] 109)
          go_wp2_with fail
          generalize hW5 : wr.alloc (.cells #[.int .i64 1, .int .i64 1, .int .i64 0, .int .i64 0, .int .u64 (b0 : Nat)] 109) = W5 at *
          obtain ⟨x0, x1, x2, x3, x4⟩ := id hC5
          refine wp_region_tail (S := (fun w' => (w'.cell? ⟨B8, 1, none⟩ = some (.int .i64 1) ∧ w'.cell? ⟨B8, 4, none⟩ = some (.int .u64 (b0 : Nat)) ∧ w'.frozen? ⟨B8, 4, none⟩ = false) ∧ Below W5.heap.size W5 w')) (n := 8) (by kernel_rfl) ?_ (fun hHeld hInv => ?_) (by decide)
          ·(try dsimp only)
           (first | assumption | (exact ⟨⟨x1, x4, xf⟩, (Below.refl _ _).drew⟩))
          refine takeVS 0 hInv ?_; clear hInv; intro hInv
          refine takeVS 1 hInv ?_; clear hInv; intro hInv
          refine takeVS 2 hInv ?_; clear hInv; intro hInv
          refine takeVS 3 hInv ?_; clear hInv; intro hInv
          refine oneS 4 hInv (by decide) rfl (by kernel_rfl) (fun K hK => ?_)
          go_simp
          (refine (Calls.mono (hMn.out 1 _) ?_); rintro e w9 ⟨rfl, rfl⟩; (try rw [hmy]))
          refine hK.out _ _ ?_ (fun hHeld2 hInv2 => ?_)
          ·(try dsimp only)
           (first | assumption | (exact ⟨⟨x1, x4, xf⟩, (Below.refl _ _).drew⟩))
          clear hK K hHeld hInv
          have hHeld := hHeld2
          have hInv := hInv2
          clear hHeld2 hInv2
          try simp only [Act.put,sA,sB,sC] at hInv ⊢
          refine takeVS 5 hInv ?_; clear hInv; intro hInv
          refine takeVS 6 hInv ?_; clear hInv; intro hInv
          refine takeVS 7 hInv ?_; clear hInv; intro hInv
          refine lastS 8 rfl (by decide) (by kernel_rfl) (fun K hK => ?_)
          go_simp
          refine hK.out _ _ ?_
          clear hK K
          try simp only [Act.put,sA,sB,sC]
          refine wpAnyS_done (by kernel_rfl) ?_ _
          clear hHeld hInv
          have hD5 := hA5
          have hC6 : C5 W5 B8 1 1 0 0 (b0 : Nat) := hC5
          have hst : C5 ((W5.setCell ⟨B8, 4, none⟩ (.int .u64 (b : Nat))).drew) B8 1 1 0 0 (b : Nat) := by
           obtain ⟨y0, y1, y2, y3, y4⟩ := hC6
           refine ⟨?_, ?_, ?_, ?_, ?_⟩ <;> simp [go_sem, *]
          have hBs : Below B8 wr ((W5.setCell ⟨B8, 4, none⟩ (.int .u64 (b : Nat))).drew) := by
           rw [← hB8]; exact (hD5.setCell (by simp [hB8]) _).drew
          have hBt : Below w.heap.size w ((W5.setCell ⟨B8, 4, none⟩ (.int .u64 (b : Nat))).drew) := hB.trans (hBs.mono hwB)
          have hown5 : OwnU ((W5.setCell ⟨B8, 4, none⟩ (.int .u64 (b : Nat))).drew) w.heap.size (.slice Ar m cr) J := hown.keepG hBs hrow8.out
          have hlw5 := hwh.out.keep hBt
          have hB5 := hBt
          clear hBt hBs hD5 hC6 hC5 hA5 xf x0 x1 x2 x3 x4 hW5
          have hC5 := hst
          clear hst
          obtain ⟨x0, x1, x2, x3, x4⟩ := id hC5
          generalize (W5.setCell ⟨B8, 4, none⟩ (.int .u64 (b : Nat))).drew = W9 at *
          go_wp2_with fail
          refine (hE.out _ hlw5).mono ?_
          rintro e w6 ⟨rfl, hb6⟩
          have hown6 := hown5.keep hb6
          have hB6 := hB5.trans (hb6.mono hB5.size)
          have hC6 := hC5.keep hb6
          clear hown5 hC5 hB5 hlw5 hb6 hE hown hB
          obtain ⟨v', w7, hrun, ho7, hB7, hg7, hv7⟩ := appU1 (y := y) hown6 hB6.size (by rw [hml.out]; omega) (40 : Nat)
          have hBN := hB6.trans hB7
          have hC7 := (hC6.keep (bZ w6 (.cells #[.int .u64 (y : Nat)] (40 : Nat)))).grown hg7 (fun e => by have := hrow8.out B8 e; omega)
          obtain ⟨q0, q1, q2, q3, q4⟩ := hC6
          obtain ⟨z0, z1, z2, z3, z4⟩ := id hC7
          have hJ1 : Hid (J.length + 1 = (J ++ [y]).length) := lh (by simp)
          obtain ⟨A7, c7, rfl⟩ := ho7.sl (m := m + 1) (by rw [← hJ1.out, hml.out])
          clear hg7 hv7 hown6 hB6 hB7
          have hJn : Hid (rightT (J ++ [y]) = true ∧ J ++ [y] = madeT (l.take (j + 1)) M) := lh ⟨hAp.out _ _ hJ.out.1 (hOne.out y hyo.out (by have := hyk.out; omega) (by have := hyk.out; omega)), made_snoc htk.out hJ.out.2 hml.out hfull (chF_one hch.out)⟩
          have hJl : (J ++ [y]).length ≤ M := by rw [← hJ1.out, hml.out]; omega
          clear hC7
          go_wp2_with (at_builtin; refine wpList_append_run rfl _ _ 25 rfl _ _ _ rfl rfl hrun ?_)
          go_loopw [11, 5] (fun i v9 wq => i = .int .i64 1 ∧ v9 = .slice A7 (m + 1) c7 ∧ wq = w7) (fun _ _ _ => 0)
          case atStart => exact ⟨rfl, rfl, rfl⟩
          case round =>
           obtain ⟨rfl, rfl, rfl⟩ := hrel
           go_wp2_with fail
           go_roundw
           case rel => exact ⟨j + 1, _, by omega, by go_num, hJn, hJl, ho7, hBN⟩
           case measure => first | (simp [intOf]; done) | (simp [intOf]; omega)
         ·skip
          obtain ⟨b, hb⟩ : ∃ b : Nat, b0 % 4 = b := ⟨_, rfl⟩
          have hb9 : b < 4 := by rw [← hb]; exact Nat.mod_lt _ (by decide)
          have e6 : (b0 : Int) % 4 = (b : Int) := by omega
          have e8 : (b0 : Int).tmod 4 = (b : Int) := by rw [Int.tmod_eq_emod_of_nonneg (by omega)]; exact e6
          have e9 : IntKind.u64.wrap 4 = 4 := rfl
          have e10 : ¬ (4 : Int) = 0 := by decide
          have hmy : mnyI (((2 : Nat) : Int)) = 2 := rfl
          rw [show (((2 : Nat) : Int)) = 2 from rfl] at e2 hmy
          have hrB : rightB_ti 1 2 0 0 (b : Nat) = true := right_yes (by unfold RightP; omega)
          obtain ⟨y, hy, hyo, hyk, hym⟩ := okN_word hrB (by omega)
          have hch : Hid (∃ u, chF x M m = y :: u ∧ u = List.replicate (u.length) 3 ∧ u.length = 0) := lh ⟨_, chF_of (chr12 (by first | exact .inl e0 | exact .inr e0) (by omega) (by omega)) hy, by simp, by simp⟩
          have hE := fun w5 (h5 : Lw w5) => refEnc_yes 1 2 0 0 (b : Nat) w5 h5 (by omega) hrB
          rw [hy] at hE
          replace hE := lh hE
          clear hy
          replace hyk := lh hyk
          replace hym := lh hym
          replace hyo := lh hyo
          clear hrB
          have hC5 := C5.new wr 1 2 0 0 (b0 : Nat) 109
          have xf : (wr.alloc (.cells #[.int .i64 1, .int .i64 2, .int .i64 0, .int .i64 0, .int .u64 (b0 : Nat)] 109)).frozen? ⟨wr.heap.size, 4, none⟩ = false := by simp [go_sem]
          rw [hB8] at hC5 xf
          have hA5 := bZ wr (.cells #[.int .i64 1, .int .i64 2, .int .i64 0, .int .i64 0, .int .u64 (b0 : Nat)] 109)
          go_wp2_with fail
          generalize hW5 : wr.alloc (.cells #[.int .i64 1, .int .i64 2, .int .i64 0, .int .i64 0, .int .u64 (b0 : Nat)] 109) = W5 at *
          obtain ⟨x0, x1, x2, x3, x4⟩ := id hC5
          refine wp_region_tail (S := (fun w' => (w'.cell? ⟨B8, 1, none⟩ = some (.int .i64 2) ∧ w'.cell? ⟨B8, 4, none⟩ = some (.int .u64 (b0 : Nat)) ∧ w'.frozen? ⟨B8, 4, none⟩ = false) ∧ Below W5.heap.size W5 w')) (n := 8) (by kernel_rfl) ?_ (fun hHeld hInv => ?_) (by decide)
          ·(try dsimp only)
           (first | assumption | (exact ⟨⟨x1, x4, xf⟩, (Below.refl _ _).drew⟩))
          refine takeVS 0 hInv ?_; clear hInv; intro hInv
          refine takeVS 1 hInv ?_; clear hInv; intro hInv
          refine takeVS 2 hInv ?_; clear hInv; intro hInv
          refine takeVS 3 hInv ?_; clear hInv; intro hInv
          refine oneS 4 hInv (by decide) rfl (by kernel_rfl) (fun K hK => ?_)
          go_simp
          (refine (Calls.mono (hMn.out 2 _) ?_); rintro e w9 ⟨rfl, rfl⟩; (try rw [hmy]))
          refine hK.out _ _ ?_ (fun hHeld2 hInv2 => ?_)
          ·(try dsimp only)
           (first | assumption | (exact ⟨⟨x1, x4, xf⟩, (Below.refl _ _).drew⟩))
          clear hK K hHeld hInv
          have hHeld := hHeld2
          have hInv := hInv2
          clear hHeld2 hInv2
          try simp only [Act.put,sA,sB,sC] at hInv ⊢
          refine takeVS 5 hInv ?_; clear hInv; intro hInv
          refine takeVS 6 hInv ?_; clear hInv; intro hInv
          refine takeVS 7 hInv ?_; clear hInv; intro hInv
          refine lastS 8 rfl (by decide) (by kernel_rfl) (fun K hK => ?_)
          go_simp
          refine hK.out _ _ ?_
          clear hK K
          try simp only [Act.put,sA,sB,sC]
          refine wpAnyS_done (by kernel_rfl) ?_ _
          clear hHeld hInv
          have hD5 := hA5
          have hC6 : C5 W5 B8 1 2 0 0 (b0 : Nat) := hC5
          have hst : C5 ((W5.setCell ⟨B8, 4, none⟩ (.int .u64 (b : Nat))).drew) B8 1 2 0 0 (b : Nat) := by
           obtain ⟨y0, y1, y2, y3, y4⟩ := hC6
           refine ⟨?_, ?_, ?_, ?_, ?_⟩ <;> simp [go_sem, *]
          have hBs : Below B8 wr ((W5.setCell ⟨B8, 4, none⟩ (.int .u64 (b : Nat))).drew) := by
           rw [← hB8]; exact (hD5.setCell (by simp [hB8]) _).drew
          have hBt : Below w.heap.size w ((W5.setCell ⟨B8, 4, none⟩ (.int .u64 (b : Nat))).drew) := hB.trans (hBs.mono hwB)
          have hown5 : OwnU ((W5.setCell ⟨B8, 4, none⟩ (.int .u64 (b : Nat))).drew) w.heap.size (.slice Ar m cr) J := hown.keepG hBs hrow8.out
          have hlw5 := hwh.out.keep hBt
          have hB5 := hBt
          clear hBt hBs hD5 hC6 hC5 hA5 xf x0 x1 x2 x3 x4 hW5
          have hC5 := hst
          clear hst
          obtain ⟨x0, x1, x2, x3, x4⟩ := id hC5
          generalize (W5.setCell ⟨B8, 4, none⟩ (.int .u64 (b : Nat))).drew = W9 at *
          go_wp2_with fail
          refine (hE.out _ hlw5).mono ?_
          rintro e w6 ⟨rfl, hb6⟩
          have hown6 := hown5.keep hb6
          have hB6 := hB5.trans (hb6.mono hB5.size)
          have hC6 := hC5.keep hb6
          clear hown5 hC5 hB5 hlw5 hb6 hE hown hB
          obtain ⟨v', w7, hrun, ho7, hB7, hg7, hv7⟩ := appU1 (y := y) hown6 hB6.size (by rw [hml.out]; omega) (40 : Nat)
          have hBN := hB6.trans hB7
          have hC7 := (hC6.keep (bZ w6 (.cells #[.int .u64 (y : Nat)] (40 : Nat)))).grown hg7 (fun e => by have := hrow8.out B8 e; omega)
          obtain ⟨q0, q1, q2, q3, q4⟩ := hC6
          obtain ⟨z0, z1, z2, z3, z4⟩ := id hC7
          have hJ1 : Hid (J.length + 1 = (J ++ [y]).length) := lh (by simp)
          obtain ⟨A7, c7, rfl⟩ := ho7.sl (m := m + 1) (by rw [← hJ1.out, hml.out])
          clear hg7 hv7 hown6 hB6 hB7
          have hJn : Hid (rightT (J ++ [y]) = true ∧ J ++ [y] = madeT (l.take (j + 1)) M) := lh ⟨hAp.out _ _ hJ.out.1 (hOne.out y hyo.out (by have := hyk.out; omega) (by have := hyk.out; omega)), made_snoc htk.out hJ.out.2 hml.out hfull (chF_one hch.out)⟩
          have hJl : (J ++ [y]).length ≤ M := by rw [← hJ1.out, hml.out]; omega
          clear hC7
          go_wp2_with (at_builtin; refine wpList_append_run rfl _ _ 25 rfl _ _ _ rfl rfl hrun ?_)
          go_loopw [11, 5] (fun i v9 wq => i = .int .i64 1 ∧ v9 = .slice A7 (m + 1) c7 ∧ wq = w7) (fun _ _ _ => 0)
          case atStart => exact ⟨rfl, rfl, rfl⟩
          case round =>
           obtain ⟨rfl, rfl, rfl⟩ := hrel
           go_wp2_with fail
           go_roundw
           case rel => exact ⟨j + 1, _, by omega, by go_num, hJn, hJl, ho7, hBN⟩
           case measure => first | (simp [intOf]; done) | (simp [intOf]; omega)
   ·have hfull' : ¬ (m : Int) < (M : Int) := by omega
    have hf2 : decide ((m : Int) < (M : Int)) = false := decide_eq_false hfull'
    go_wp2_with fail
    go_ret
    have hfin := made_full (l := l) (j := j) hJ.out.2 (by have := hml2.out; omega)
    exact ⟨_, rfl, by rw [hfin]; exact hown, ⟨by rw [hfin]; exact hJ.out.1, by rw [hfin]; have := hml2.out; omega⟩, hB⟩
  ·obtain rfl : j = n := by omega
   go_wp2_with fail
   go_ret
   have hfin : madeT l M = J := by have := hJ.out.2; rw [hEn.out] at this; exact this.symm
   exact ⟨_, rfl, by rw [hfin]; exact hown, ⟨by rw [hfin]; exact hJ.out.1, by rw [hfin]; have := hml2.out; omega⟩, hB⟩
end Go.Proofs.YtkkbngcgphlikaaGreatDoor
