/-
  Part of the proof of JournalUndo.
-/
import Derived.Test.YtkkbngcgphlikaaGreatDoorJu30
import Derived.Test.YtkkbngcgphlikaaGreatDoorJu32
import Derived.Test.YtkkbngcgphlikaaGreatDoorJu0
set_option maxRecDepth 10000
set_option maxHeartbeats 4000000
set_option linter.unusedVariables false
set_option linter.unusedSimpArgs false
namespace Go.Proofs.YtkkbngcgphlikaaGreatDoor
open Go.RowKit Go.ChangeShapes Go.WideShapes Go.Deep
def ChR (x M m : Nat) (k c l q b : Int) : Prop :=
 ((x : Int) % 6 = 0 ∧ k = 0 ∧ c = 0 ∧ l = 0 ∧ q = 0 ∧ b = 0) ∨
 (((x : Int) % 6 = 1 ∨ (x : Int) % 6 = 2) ∧ k = 1 ∧ c = (x : Int) / 8 % 3 ∧ l = 0 ∧ q = 0 ∧ ((c = 0 ∧ b = (x : Int) / 32 % 256) ∨ (c = 1 ∧ b = (x : Int) / 32 % 16) ∨ (c = 2 ∧ b = (x : Int) / 32 % 4))) ∨
 ((x : Int) % 6 = 3 ∧ c = 0 ∧ l = 0 ∧ b = 0 ∧ (((M : Int) < (m : Int) + (1 + (x : Int) / 8 % 4) ∧ k = 0 ∧ q = 0) ∨ ((m : Int) + (1 + (x : Int) / 8 % 4) ≤ (M : Int) ∧ k = 2 ∧ q = 1 + (x : Int) / 8 % 4))) ∨
 ((x : Int) % 6 = 4 ∧ k = 1 ∧ c = (x : Int) / 8 % 3 ∧ l = 0 ∧ q = 0 ∧ b = 0) ∨
 ((x : Int) % 6 = 5 ∧ k = 4 ∧ c = 0 ∧ l = (x : Int) / 8 % 3 ∧ q = (x : Int) / 32 % 8 ∧ b = 0)
theorem chr0 {x M m : Nat} (h : (x : Int) % 6 = 0) : ChR x M m 0 0 0 0 0 := .inl ⟨h, rfl, rfl, rfl, rfl, rfl⟩
theorem chr12 {x M m : Nat} {c b : Int} (h : (x : Int) % 6 = 1 ∨ (x : Int) % 6 = 2) (hc : c = (x : Int) / 8 % 3) (hb : (c = 0 ∧ b = (x : Int) / 32 % 256) ∨ (c = 1 ∧ b = (x : Int) / 32 % 16) ∨ (c = 2 ∧ b = (x : Int) / 32 % 4)) : ChR x M m 1 c 0 0 b := .inr (.inl ⟨h, rfl, hc, rfl, rfl, hb⟩)
theorem chr3n {x M m : Nat} (h : (x : Int) % 6 = 3) (hm : (M : Int) < (m : Int) + (1 + (x : Int) / 8 % 4)) : ChR x M m 0 0 0 0 0 := .inr (.inr (.inl ⟨h, rfl, rfl, rfl, .inl ⟨hm, rfl, rfl⟩⟩))
theorem chr3 {x M m : Nat} {q : Int} (h : (x : Int) % 6 = 3) (hm : (m : Int) + (1 + (x : Int) / 8 % 4) ≤ (M : Int)) (hq : q = 1 + (x : Int) / 8 % 4) : ChR x M m 2 0 0 q 0 := .inr (.inr (.inl ⟨h, rfl, rfl, rfl, .inr ⟨hm, rfl, hq⟩⟩))
theorem chr4 {x M m : Nat} {c : Int} (h : (x : Int) % 6 = 4) (hc : c = (x : Int) / 8 % 3) : ChR x M m 1 c 0 0 0 := .inr (.inr (.inr (.inl ⟨h, rfl, hc, rfl, rfl, rfl⟩)))
theorem chr5 {x M m : Nat} {l q : Int} (h : (x : Int) % 6 = 5) (hl : l = (x : Int) / 8 % 3) (hq : q = (x : Int) / 32 % 8) : ChR x M m 4 0 l q 0 := .inr (.inr (.inr (.inr ⟨h, rfl, rfl, hl, hq, rfl⟩)))
def chK (x M m : Nat) : Int × Int × Int × Int × Int :=
 if (x : Int) % 6 = 0 then (0, 0, 0, 0, 0)
 else if (x : Int) % 6 = 1 ∨ (x : Int) % 6 = 2 then (1, (x : Int) / 8 % 3, 0, 0, if (x : Int) / 8 % 3 = 0 then (x : Int) / 32 % 256 else if (x : Int) / 8 % 3 = 1 then (x : Int) / 32 % 16 else (x : Int) / 32 % 4)
 else if (x : Int) % 6 = 3 then (if (M : Int) < (m : Int) + (1 + (x : Int) / 8 % 4) then (0, 0, 0, 0, 0) else (2, 0, 0, 1 + (x : Int) / 8 % 4, 0))
 else if (x : Int) % 6 = 4 then (1, (x : Int) / 8 % 3, 0, 0, 0)
 else (4, 0, (x : Int) / 8 % 3, (x : Int) / 32 % 8, 0)
theorem chK_of {x M m : Nat} {k c l q b : Int} (h : ChR x M m k c l q b) : chK x M m = (k, c, l, q, b) := by
 unfold ChR at h
 unfold chK
 rcases h with h | h | h | h | h
 ·rw [if_pos h.1]; simp only [Prod.mk.injEq]; omega
 ·rw [if_neg (by omega), if_pos h.1]
  by_cases h0 : (x : Int) / 8 % 3 = 0
  ·rw [if_pos h0]; simp only [Prod.mk.injEq]; omega
  rw [if_neg h0]
  by_cases h1 : (x : Int) / 8 % 3 = 1
  ·rw [if_pos h1]; simp only [Prod.mk.injEq]; omega
  rw [if_neg h1]; simp only [Prod.mk.injEq]; omega
 ·rw [if_neg (by omega), if_neg (by omega), if_pos h.1]
  by_cases h0 : (M : Int) < (m : Int) + (1 + (x : Int) / 8 % 4)
  ·rw [if_pos h0]; simp only [Prod.mk.injEq]; omega
  rw [if_neg h0]; simp only [Prod.mk.injEq]; omega
 ·rw [if_neg (by omega), if_neg (by omega), if_neg (by omega), if_pos h.1]; simp only [Prod.mk.injEq]; omega
 rw [if_neg (by omega), if_neg (by omega), if_neg (by omega), if_neg (by omega)]; simp only [Prod.mk.injEq]; omega
def chF (x M m : Nat) : List Nat := (wordI (chK x M m).1 (chK x M m).2.1 (chK x M m).2.2.1 (chK x M m).2.2.2.1 (chK x M m).2.2.2.2).toNat :: List.replicate (if (chK x M m).1 = 2 then (chK x M m).2.2.2.1.toNat - 1 else 0) 3
theorem chF_of {x M m y : Nat} {k c l q b : Int} (h : ChR x M m k c l q b) (hy : wordI k c l q b = (y : Int)) : chF x M m = y :: List.replicate (if k = 2 then q.toNat - 1 else 0) 3 := by
 unfold chF
 rw [chK_of h]
 simp only []
 rw [hy]
 rfl
def madeS (M : Nat) (P : List Nat) (x : Nat) : List Nat := if P.length < M then P ++ chF x M P.length else P
def madeT (l : List Nat) (M : Nat) : List Nat := l.foldl (madeS M) []
theorem made_snoc {l J u : List Nat} {j x M m : Nat} (ht : l.take (j + 1) = l.take j ++ [x]) (hJ : J = madeT (l.take j) M) (hm : J.length = m) (hl : m < M) (hc : chF x M m = u) : J ++ u = madeT (l.take (j + 1)) M := by
 rw [ht]
 unfold madeT at hJ ⊢
 rw [List.foldl_append, ← hJ]
 show J ++ u = madeS M J x
 unfold madeS
 rw [hm, if_pos hl, hc]
theorem made_stay (M : Nat) : ∀ (l P : List Nat), M ≤ P.length → l.foldl (madeS M) P = P
 | [], _, _ => rfl
 | x :: l, P, h => by
   rw [List.foldl_cons]
   have : madeS M P x = P := by unfold madeS; rw [if_neg (by omega)]
   rw [this]
   exact made_stay M l P h
theorem made_full {l J : List Nat} {j M : Nat} (hJ : J = madeT (l.take j) M) (h : M ≤ J.length) : madeT l M = J := by
 have e : l = l.take j ++ l.drop j := (List.take_append_drop j l).symm
 unfold madeT at hJ ⊢
 conv => lhs; rw [e]
 rw [List.foldl_append, ← hJ]
 exact made_stay M _ J h
def ChQ (x k c l q b : Nat) : Prop :=
 (x % 6 = 0 ∧ k = 0 ∧ c = 0 ∧ l = 0 ∧ q = 0 ∧ b = 0) ∨
 ((x % 6 = 1 ∨ x % 6 = 2) ∧ k = 1 ∧ c = x / 8 % 3 ∧ l = 0 ∧ q = 0 ∧ ((c = 0 ∧ b = x / 32 % 256) ∨ (c = 1 ∧ b = x / 32 % 16) ∨ (c = 2 ∧ b = x / 32 % 4))) ∨
 (x % 6 = 3 ∧ k = 2 ∧ c = 0 ∧ l = 0 ∧ q = 1 + x / 8 % 4 ∧ b = 0) ∨
 (x % 6 = 4 ∧ k = 1 ∧ c = x / 8 % 3 ∧ l = 0 ∧ q = 0 ∧ b = 0) ∨
 (x % 6 = 5 ∧ k = 4 ∧ c = 0 ∧ l = x / 8 % 3 ∧ q = x / 32 % 8 ∧ b = 0)
theorem ChQ.fit {x M m k c l q b : Nat} (h : ChQ x k c l q b) (hf : ¬ (k = 2 ∧ M < m + q)) : ChR x M m k c l q b ∧ rightB_ti k c l q b = true := by
 unfold ChQ at h
 rcases h with ⟨h, rfl, rfl, rfl, rfl, rfl⟩ | ⟨h, rfl, hc, rfl, rfl, hb⟩ | ⟨h, rfl, rfl, rfl, hq, rfl⟩ | ⟨h, rfl, hc, rfl, rfl, rfl⟩ | ⟨h, rfl, rfl, hl, hq, rfl⟩
 ·exact ⟨chr0 (by omega), right_yes (by unfold RightP; omega)⟩
 ·refine ⟨chr12 (by omega) (by omega) (by omega), right_yes ?_⟩
  unfold RightP
  rcases hb with ⟨h1, h2⟩ | ⟨h1, h2⟩ | ⟨h1, h2⟩ <;> (rw [h1]; omega)
 ·exact ⟨chr3 (by omega) (by omega) (by omega), right_yes (by unfold RightP; omega)⟩
 ·have h3 : c < 3 := by omega
  refine ⟨chr4 (by omega) (by omega), right_yes ?_⟩
  clear h hc
  unfold RightP
  omega
 have h3 : l < 3 := by omega
 have h4 : q < 8 := by omega
 refine ⟨chr5 (by omega) (by omega) (by omega), right_yes ?_⟩
 clear h hl hq
 unfold RightP
 omega
theorem ChQ.no {x M m k c l q b : Nat} (h : ChQ x k c l q b) (hf : k = 2 ∧ M < m + q) : ChR x M m 0 0 0 0 0 ∧ rightB_ti 0 0 0 0 0 = true := by
 refine ⟨?_, right_yes (by unfold RightP; omega)⟩
 unfold ChQ at h
 obtain ⟨rfl, hf⟩ := hf
 rcases h with h | h | h | h | h
 ·omega
 ·omega
 ·exact chr3n (by omega) (by omega)
 ·omega
 omega
theorem ChQ.q8 {x k c l q b : Nat} (h : ChQ x k c l q b) : q ≤ 8 := by
 unfold ChQ at h
 omega
theorem HB.c5 {w : World} {g : Nat} {k c l m b : Int} {t : TypeId} (h : HB w g #[.int .i64 k, .int .i64 c, .int .i64 l, .int .i64 m, .int .u64 b] t) : C5 w g k c l m b := ⟨(row_cell h 0).1, (row_cell h 1).1, (row_cell h 2).1, (row_cell h 3).1, (row_cell h 4).1⟩
theorem HB.setT {w : World} {b : Nat} {cs : Array Value} {t : TypeId} (h : HB w b cs t) (i : Nat) (v : Value) : HB (w.setCell ⟨b, i, none⟩ v) b (cs.setIfInBounds i v) t := heap_setCell_same w b i cs t v h
theorem HB.there5 {w : World} {b : Nat} {x y z u v : Value} {t : TypeId} (h : HB w b #[x, y, z, u, v] t) : w.there b 0 5 := fun j hj => by
 rw [Nat.zero_add]
 refine ⟨?_, (row_cell h j).2⟩
 rw [(row_cell h j).1]
 have h5 : j = 0 ∨ j = 1 ∨ j = 2 ∨ j = 3 ∨ j = 4 := by omega
 rcases h5 with rfl | rfl | rfl | rfl | rfl <;> rfl
theorem one5c (a b c d e : Int) : (#[.int .i64 a, .int .i64 b, .int .i64 c, .int .i64 d, .int .u64 e] : Array Value).all (·.oneCell') = true :=
 all_oneCell_toArray (cs := [.int .i64 a, .int .i64 b, .int .i64 c, .int .i64 d, .int .u64 e]) (fun u hu => by
  simp only [List.mem_cons, List.not_mem_nil, or_false] at hu
  rcases hu with rfl | rfl | rfl | rfl | rfl <;> rfl)
theorem infoCh5 : (Tryz.prog.info? 109).map (·.size) = some 5 := by kernel_rfl
theorem made_fn (v : Value) (l : List Nat) (M : Nat) (w : World) (hw : Lw w) (hH : HL l) (hv : KL .u16 w v l) (hlen : l.length ≤ 1000) (hM : M ≤ 1000) :
 Calls Tryz.prog 79 #[v, .int .i64 (M : Nat)] w fun e w' => ∃ v', e = .returned v' ∧ OwnU w' w.heap.size v' (madeT l M) ∧ (rightT (madeT l M) = true ∧ (madeT l M).length ≤ M) ∧ Below w.heap.size w w' := by
 obtain ⟨n, hn⟩ : ∃ n, l.length = n := ⟨_, rfl⟩
 obtain ⟨A, cap, rfl, hC⟩ := hv.form hn
 replace hC := lh hC
 have hHx := lh (fun k (hk : k < n) => show l.getD k 0 < 65536 from by
  rw [List.getD_eq_getElem?_getD, List.getElem?_eq_getElem (by omega)]; exact hH _ (List.getElem_mem _))
 have hn9 : n ≤ 1000 := by omega
 have hwh := lh hw
 have hAp := lh (fun (J u : List Nat) => rightT_app (t := J) (u := u))
 have hOne := lh (fun (x : Nat) => rightT_one (x := x))
 have hHuge := lh (fun (x n : Nat) => rightT_huge (x := x) (n := n))
 have hMn := lh (fun (c : Nat) w => refMny_any (c : Nat) w)
 have hTk := lh (fun j (hj : j < n) => show l.take (j + 1) = l.take j ++ [l.getD j 0] from by rw [List.take_succ_eq_append_getElem (by omega), List.getD_eq_getElem?_getD, List.getElem?_eq_getElem (by omega)]; rfl)
 have hEn := lh (show l.take n = l from List.take_of_length_le (by omega))
 replace hn := lh hn
 clear hv hH hlen hw
 go_enter Tryz.func79, Tryz.ntmps79
 go_wp2_with fail
 go_loopw [6, 5] (fun i vr wr => ∃ (j : Nat) (J : List Nat), j ≤ n ∧ i = .int .i64 j ∧ Hid (rightT J = true ∧ J = madeT (l.take j) M) ∧ J.length ≤ M ∧ OwnU wr w.heap.size vr J ∧ Below w.heap.size w wr) (fun i _ _ => n + 1 - (intOf i).toNat)
 case atStart => exact ⟨0, [], Nat.zero_le _, rfl, lh ⟨rfl, rfl⟩, Nat.zero_le _, World.ownsRow_nil _ _ _ _, Below.refl _ _⟩
 obtain ⟨j, J, hj, rfl, hJ, hJM, hown, hB⟩ := hrel
 obtain ⟨m, hm⟩ : ∃ m, J.length = m := ⟨_, rfl⟩
 obtain ⟨Ar, cr, rfl⟩ := hown.sl hm
 rw [hm] at hJM
 have hml2 := lh hm
 have hJMi : (m : Int) ≤ (M : Int) := by omega
 by_cases hlt : j < n
 rotate_left
 ·obtain rfl : j = n := by omega
  go_wp2_with fail
  go_ret
  have hfin : madeT l M = J := by have := hJ.out.2; rw [hEn.out] at this; exact this.symm
  exact ⟨_, rfl, by rw [hfin]; exact hown, ⟨by rw [hfin]; exact hJ.out.1, by rw [hfin]; have := hml2.out; omega⟩, hB⟩
 have hlt' : (j : Int) < (n : Int) := by omega
 by_cases hfull : m < M
 rotate_left
 ·have hfull' : ¬ (m : Int) < (M : Int) := by omega
  have hf2 : decide ((m : Int) < (M : Int)) = false := decide_eq_false hfull'
  go_wp2_with fail
  go_ret
  have hfin := made_full (l := l) (j := j) hJ.out.2 (by have := hml2.out; omega)
  exact ⟨_, rfl, by rw [hfin]; exact hown, ⟨by rw [hfin]; exact hJ.out.1, by rw [hfin]; have := hml2.out; omega⟩, hB⟩
 have hfull' : (m : Int) < (M : Int) := by omega
 obtain ⟨g, off, rfl, hcap, hg, c0⟩ := hC.out wr j hB hlt
 have hx := hHx.out j hlt
 have htk := lh (hTk.out j hlt)
 generalize l.getD j 0 = x at *
 obtain ⟨B8, hB8⟩ : ∃ B8, wr.heap.size = B8 := ⟨_, rfl⟩
 have hrow8 : Hid (∀ b, Value.ownBlock (.slice Ar m cr) = some b → b < B8) := lh (fun b q => by rw [← hB8]; exact (hown.lt b q).2)
 have hwB : w.heap.size ≤ B8 := by rw [← hB8]; exact hB.size
 have hcv : IntKind.i64.wrap (x : Int) = (x : Int) := by rw [IntKind.wrap_i64]; omega
 have hml : Hid (J.length = m) := lh hm
 clear hm
 go_upto_block 2 with fail
 go_cut [8] from 12 to 108 (fun s8 wx => s8 = .pointer (some ⟨B8, 0, none⟩) ∧ ∃ k c ln q b : Nat, Hid (ChQ x k c ln q b) ∧ HB wx B8 #[.int .i64 (k : Nat), .int .i64 (c : Nat), .int .i64 (ln : Nat), .int .i64 (q : Nat), .int .u64 (b : Nat)] 109 ∧ Below w.heap.size w wx ∧ OwnU wx w.heap.size (.slice Ar m cr) J)
 case first =>
  have bA := fun (w : World) (o : Obj) => bZ w o
  have hr6 : x % 6 = 0 ∨ x % 6 = 3 ∨ x % 6 = 4 ∨ x % 6 = 5 ∨ (x % 6 = 1 ∨ x % 6 = 2) := by omega
  obtain ⟨c, hc⟩ : ∃ c : Nat, x / 8 % 3 = c := ⟨_, rfl⟩
  have e2 : (x : Int) / 8 % 3 = (c : Int) := by omega
  rcases hr6 with e0 | e0 | e0 | e0 | e0
  ·have e1 : (x : Int) % 6 = 0 := by omega
   have hq : Hid (ChQ x 0 0 0 0 0) := lh (by unfold ChQ; omega)
   clear hc e0
   go_wp2_with fail
   go_meet
   exact ⟨rfl, 0, 0, 0, 0, 0, hq, by rw [← hB8]; exact HB.new _ _ _, hB.alloc hB.size _, hown.keep (bA _ _)⟩
  ·have e1 : (x : Int) % 6 = 3 := by omega
   obtain ⟨d, hd⟩ : ∃ d : Nat, x / 8 % 4 = d := ⟨_, rfl⟩
   have e3 : (x : Int) / 8 % 4 = (d : Int) := by omega
   obtain ⟨q, hqd⟩ : ∃ q, 1 + d = q := ⟨_, rfl⟩
   have e4 : (1 : Int) + (d : Int) = (q : Int) := by omega
   have e5 : IntKind.i64.wrap (q : Int) = (q : Int) := by rw [IntKind.wrap_i64]; omega
   have hq : Hid (ChQ x 2 0 0 q 0) := lh (by unfold ChQ; omega)
   clear hc e0 hd hqd
   go_wp2_with fail
   go_meet
   exact ⟨rfl, 2, 0, 0, q, 0, hq, by rw [← hB8]; exact HB.new _ _ _, hB.alloc hB.size _, hown.keep (bA _ _)⟩
  ·have e1 : (x : Int) % 6 = 4 := by omega
   have hq : Hid (ChQ x 1 c 0 0 0) := lh (by unfold ChQ; omega)
   clear hc e0
   go_wp2_with fail
   go_meet
   exact ⟨rfl, 1, c, 0, 0, 0, hq, by rw [← hB8]; exact HB.new _ _ _, hB.alloc hB.size _, hown.keep (bA _ _)⟩
  ·have e1 : (x : Int) % 6 = 5 := by omega
   obtain ⟨q, hqd⟩ : ∃ q : Nat, x / 32 % 8 = q := ⟨_, rfl⟩
   have e3 : (x : Int) / 32 % 8 = (q : Int) := by omega
   have hq : Hid (ChQ x 4 0 c q 0) := lh (by unfold ChQ; omega)
   clear hc e0 hqd
   go_wp2_with fail
   go_meet
   exact ⟨rfl, 4, 0, c, q, 0, hq, by rw [← hB8]; exact HB.new _ _ _, hB.alloc hB.size _, hown.keep (bA _ _)⟩
  obtain ⟨b0, hb0⟩ : ∃ b0 : Nat, x / 32 = b0 := ⟨_, rfl⟩
  have e3 : (x : Int) / 32 = (b0 : Int) := by omega
  have hb08 : b0 < 2048 := by omega
  have e7 : IntKind.u64.wrap (b0 : Int) = (b0 : Int) := by rw [IntKind.wrap_u64]; omega
  obtain ⟨mn, P, hMP, hmy, hcP⟩ : ∃ mn P : Int, (mn = 8 ∧ P = 256 ∨ mn = 4 ∧ P = 16 ∨ mn = 2 ∧ P = 4) ∧ mnyI (c : Int) = mn ∧ (c = 0 ∧ P = 256 ∨ c = 1 ∧ P = 16 ∨ c = 2 ∧ P = 4) := by
   have h3 : c = 0 ∨ c = 1 ∨ c = 2 := by omega
   rcases h3 with h | h | h <;> rw [h]
   ·exact ⟨8, 256, by decide, rfl, by decide⟩
   ·exact ⟨4, 16, by decide, rfl, by decide⟩
   exact ⟨2, 4, by decide, rfl, by decide⟩
  obtain ⟨b, hb⟩ : ∃ b : Nat, ((b0 : Int) % P).toNat = b := ⟨_, rfl⟩
  have e6 : (b0 : Int) % P = (b : Int) := by rcases hMP with ⟨_, rfl⟩ | ⟨_, rfl⟩ | ⟨_, rfl⟩ <;> omega
  have e8 : (b0 : Int).tmod P = (b : Int) := by rw [Int.tmod_eq_emod_of_nonneg (by omega)]; exact e6
  have e9 : IntKind.u64.wrap P = P := by rcases hMP with ⟨_, rfl⟩ | ⟨_, rfl⟩ | ⟨_, rfl⟩ <;> rfl
  have e10 : ¬ P = 0 := by omega
  have hq : Hid (ChQ x 1 c 0 0 b) := lh (by
   unfold ChQ
   rcases hcP with ⟨h, rfl⟩ | ⟨h, rfl⟩ | ⟨h, rfl⟩ <;> omega)
  obtain ⟨r, hr, e1⟩ : ∃ r : Int, (r = 1 ∨ r = 2) ∧ (x : Int) % 6 = r := ⟨_, by omega, rfl⟩
  have hH : HB (wr.alloc (.cells #[.int .i64 (@1 : Nat), .int .i64 (c : Nat), .int .i64 (@0 : Nat), .int .i64 (@0 : Nat), .int .u64 (b0 : Nat)] 109)) B8 #[.int .i64 (@1 : Nat), .int .i64 (c : Nat), .int .i64 (@0 : Nat), .int .i64 (@0 : Nat), .int .u64 (b0 : Nat)] 109 := by rw [← hB8]; exact HB.new _ _ _
  have hB5 := hB.alloc hB.size (.cells #[.int .i64 (@1 : Nat), .int .i64 (c : Nat), .int .i64 (@0 : Nat), .int .i64 (@0 : Nat), .int .u64 (b0 : Nat)] 109)
  have hown5 := hown.keep (bA wr (.cells #[.int .i64 (@1 : Nat), .int .i64 (c : Nat), .int .i64 (@0 : Nat), .int .i64 (@0 : Nat), .int .u64 (b0 : Nat)] 109))
  clear hc e0 hb0 hcP hb bA
  rcases hr with rfl | rfl <;> rcases hMP with ⟨rfl, rfl⟩ | ⟨rfl, rfl⟩ | ⟨rfl, rfl⟩
  all_goals (
   go_wp2_with fail
   generalize hW5 : wr.alloc (.cells #[.int .i64 1, .int .i64 (c : Nat), .int .i64 0, .int .i64 0, .int .u64 (b0 : Nat)] 109) = W5 at *
   obtain ⟨x0, x1, x2, x3, x4⟩ := hH.c5
   refine wp_region_tail (S := (fun w' => (w'.cell? ⟨B8, 1, none⟩ = some (.int .i64 (c : Nat)) ∧ w'.cell? ⟨B8, 4, none⟩ = some (.int .u64 (b0 : Nat)) ∧ w'.frozen? ⟨B8, 4, none⟩ = false) ∧ Below W5.heap.size W5 w')) (n := 8) (by kernel_rfl) ?_ (fun hHeld hInv => ?_) (by decide)
   ·exact ⟨⟨x1, x4, (row_cell hH 4).2⟩, (Below.refl _ _).drew⟩
   refine takeVS 0 hInv ?_; clear hInv; intro hInv
   refine takeVS 1 hInv ?_; clear hInv; intro hInv
   refine takeVS 2 hInv ?_; clear hInv; intro hInv
   refine takeVS 3 hInv ?_; clear hInv; intro hInv
   refine oneS 4 hInv (by decide) rfl (by kernel_rfl) (fun K hK => ?_)
   go_simp
   refine Calls.mono (hMn.out c _) ?_
   rintro e w9 ⟨rfl, rfl⟩
   rw [hmy]
   refine hK.out _ _ hHeld (fun hHeld2 hInv2 => ?_)
   clear hK K hHeld hInv
   have hHeld := hHeld2
   have hInv := hInv2
   clear hHeld2 hInv2
   try simp only [Act.put,sA,sB,sC] at hInv ⊢
   refine takeVS 5 hInv ?_; clear hInv; intro hInv
   refine takeVS 6 hInv ?_; clear hInv; intro hInv
   refine takeVS 7 hInv ?_; clear hInv; intro hInv
   refine lastS 8 rfl (by decide) (by kernel_rfl) (fun K hK => ?_)
   go_simp
   refine hK.out _ _ ?_
   clear hK K
   try simp only [Act.put,sA,sB,sC]
   refine wpAnyS_done (by kernel_rfl) ?_ _
   clear hHeld hInv
   go_wp2_with fail
   go_meet
   exact ⟨rfl, 1, c, 0, 0, b, hq, hH.setT 4 (.int .u64 (b : Nat)), (hB5.setCell hwB _).drew, hown5.keepG ((Below.refl B8 _).setCell (Nat.le_refl _) _).drew hrow8.out⟩
  )
 obtain ⟨rfl, k, c, ln, q, b, hQ, hH, hB5, hown5⟩ := hcut
 obtain ⟨wA, rfl⟩ : ∃ y, y = wc := ⟨_, rfl⟩
 have hq8 := hQ.out.q8
 obtain ⟨u, hu⟩ : ∃ u : Bool, decide (k = 2 ∧ M < m + q) = u := ⟨_, rfl⟩
 replace hu := lh hu
 clear hown hB
 go_upto_region 18 with fail
 go_cut [84] from 12 to 108 (fun s84 wx => s84 = .bool u ∧ wx = wA)
 case first =>
  obtain ⟨z0, z1, z2, z3, z4⟩ := hH.c5
  have h3 : q = 0 ∨ q = 1 ∨ 1 < q := by omega
  have hn1 : ¬ (M : Int) < (m : Int) + 1 := by omega
  have hn2 : decide ((M : Int) < (m : Int) + 1) = false := decide_eq_false hn1
  rcases h3 with rfl | rfl | h3
  ·replace z3 : wA.cell? ⟨B8, 3, none⟩ = some (.int .i64 0) := z3
   obtain rfl : u = false := by rw [← hu.out]; exact decide_eq_false (by omega)
   go_wp2_with fail
   go_meet
   exact ⟨rfl, rfl⟩
  ·replace z3 : wA.cell? ⟨B8, 3, none⟩ = some (.int .i64 1) := z3
   obtain rfl : u = false := by rw [← hu.out]; exact decide_eq_false (by omega)
   go_wp2_with fail
   go_meet
   exact ⟨rfl, rfl⟩
  have h4 : (1 : Int) < (q : Int) := by omega
  have hw9 : IntKind.i64.wrap ((m : Int) + (q : Int)) = (m : Int) + (q : Int) := by rw [IntKind.wrap_i64]; omega
  by_cases hf : M < m + q
  rotate_left
  ·have hf1 : ¬ (M : Int) < (m : Int) + (q : Int) := by omega
   have hf2 : decide ((M : Int) < (m : Int) + (q : Int)) = false := decide_eq_false hf1
   obtain rfl : u = false := by rw [← hu.out]; exact decide_eq_false (fun q => hf q.2)
   go_wp2_with fail
   go_meet
   exact ⟨rfl, rfl⟩
  have hf1 : (M : Int) < (m : Int) + (q : Int) := by omega
  have hf2 : decide ((M : Int) < (m : Int) + (q : Int)) = true := decide_eq_true hf1
  by_cases hk : k = 2
  ·subst hk
   replace z0 : wA.cell? ⟨B8, 0, none⟩ = some (.int .i64 2) := z0
   obtain rfl : u = true := by rw [← hu.out]; exact decide_eq_true ⟨rfl, hf⟩
   go_wp2_with fail
   go_meet
   exact ⟨rfl, rfl⟩
  have hk1 : ¬ (k : Int) = 2 := by omega
  have hk2 : ((k : Int) == 2) = false := by simp [hk1]
  obtain rfl : u = false := by rw [← hu.out]; exact decide_eq_false (fun q => hk q.1)
  go_wp2_with fail
  go_meet
  exact ⟨rfl, rfl⟩
 obtain ⟨rfl, hwA⟩ := hcut
 obtain rfl : wA = wc := hwA.symm
 go_upto_if 84 with fail
 go_cut [8] from 12 to 108 (fun s8 wx => s8 = .pointer (some ⟨B8, 0, none⟩) ∧ ∃ k c ln q b : Nat, Hid (ChR x M m k c ln q b ∧ rightB_ti k c ln q b = true) ∧ C5 wx B8 k c ln q b ∧ Below w.heap.size w wx ∧ OwnU wx w.heap.size (.slice Ar m cr) J)
 case first =>
  cases u with
  | false =>
    go_wp2_with fail
    go_meet
    exact ⟨rfl, k, c, ln, q, b, lh (hQ.out.fit (of_decide_eq_false hu.out)), hH.c5, hB5, hown5⟩
  | true =>
    have hT5 := hH.there5
    have hH0 := ((((hH.setT 0 (.int .i64 0)).setT 1 (.int .i64 0)).setT 2 (.int .i64 0)).setT 3 (.int .i64 0)).setT 4 (.int .u64 0)
    have hbz := fun n w' (hn : n ≤ B8) (h : Below n w' wA) => ((((h.setCell (p := ⟨B8, 0, none⟩) hn (.int .i64 0)).setCell (p := ⟨B8, 1, none⟩) hn (.int .i64 0)).setCell (p := ⟨B8, 2, none⟩) hn (.int .i64 0)).setCell (p := ⟨B8, 3, none⟩) hn (.int .i64 0)).setCell (p := ⟨B8, 4, none⟩) hn (.int .u64 0)
    obtain ⟨W, hW⟩ : ∃ W, ((((wA.setCell ⟨B8, 0, none⟩ (.int .i64 0)).setCell ⟨B8, 1, none⟩ (.int .i64 0)).setCell ⟨B8, 2, none⟩ (.int .i64 0)).setCell ⟨B8, 3, none⟩ (.int .i64 0)).setCell ⟨B8, 4, none⟩ (.int .u64 0) = W := ⟨_, rfl⟩
    rw [hW] at hH0
    simp only [hW] at hbz
    have hBz := hbz _ _ hwB hB5
    have hoz := hown5.keepG (hbz _ _ (Nat.le_refl _) (Below.refl B8 wA)) hrow8.out
    replace hW := lh hW
    clear hbz hH
    go_wp2_with (refine wpList_store_mid rfl _ _ _ rfl B8 0 #[.int .i64 0, .int .i64 0, .int .i64 0, .int .i64 0, .int .u64 0] rfl rfl hT5 infoCh5 (one5c _ _ _ _ _) ?_; rw [show wA.setCells B8 0 (#[.int .i64 0, .int .i64 0, .int .i64 0, .int .i64 0, .int .u64 0] : Array Value).toList = W from hW.out])
    go_meet
    exact ⟨rfl, 0, 0, 0, 0, 0, lh (hQ.out.no (of_decide_eq_true hu.out)), hH0.c5, hBz, hoz⟩
 clear hu hQ hH hB5 hown5
 obtain ⟨rfl, k, c, ln, q, b, hR, hC5, hB5, hown5⟩ := hcut
 obtain ⟨y, hy, hyo, hyk, hym⟩ := okN_word hR.out.2 (by omega)
 have hE := fun w5 (h5 : Lw w5) => refEnc_yes k c ln q b w5 h5 (by omega) hR.out.2
 rw [hy] at hE
 replace hE := lh hE
 have hlw5 := hwh.out.keep hB5
 have hch := lh (chF_of hR.out.1 hy)
 replace hyk := lh hyk
 replace hym := lh hym
 replace hyo := lh hyo
 clear hy
 obtain ⟨z0, z1, z2, z3, z4⟩ := id hC5
 go_wp2_with fail
 refine (hE.out _ hlw5).mono ?_
 rintro e w6 ⟨rfl, hb6⟩
 have hown6 := hown5.keep hb6
 have hB6 := hB5.trans (hb6.mono hB5.size)
 have hC6 := hC5.keep hb6
 clear hown5 hC5 hB5 hlw5 hb6 hE z0 z1 z2 z3 z4
 obtain ⟨v', w7, hrun, ho7, hB7, hg7, hv7⟩ := appU1 (y := y) hown6 hB6.size (by rw [hml.out]; omega) (40 : Nat)
 have hBN := hB6.trans hB7
 have hC7 := (hC6.keep (bZ w6 (.cells #[.int .u64 (y : Nat)] (40 : Nat)))).grown hg7 (fun e => by have := hrow8.out B8 e; omega)
 have hJ1 : J.length + 1 = (J ++ [y]).length := by simp
 obtain ⟨A7, c7, rfl⟩ := ho7.sl (m := m + 1) (by rw [← hJ1, hml.out])
 have hl1 : Hid ((J ++ [y]).length = m + 1) := lh (by rw [← hJ1, hml.out])
 have hlt8 := hC6.lt
 have hne0 : Hid (∀ b, Value.ownBlock (.slice A7 (m + 1) c7) = some b → b ≠ B8) := lh (fun b q => by
  rcases hv7 with e | e
  ·rw [e] at q; have := hrow8.out b q; omega
  rw [e] at q; simp at q; omega)
 obtain ⟨q0, q1, q2, q3, q4⟩ := hC6
 have hEnd := lh (show ∀ u, chF x M m = u → rightT u = true → rightT (J ++ u) = true ∧ J ++ u = madeT (l.take (j + 1)) M from fun u h1 h2 => ⟨hAp.out _ _ hJ.out.1 h2, made_snoc htk.out hJ.out.2 hml.out hfull h1⟩)
 clear hg7 hv7 hB6 hB7 hJ1 hlt8 hown6
 by_cases hk2 : k = 2
 rotate_left
 ·have hk3 : ¬ (k : Int) = 2 := by omega
  have hk4 : ((k : Int) == 2) = false := by simp [hk3]
  have hkn : ¬ k = 3 := fun e => by
   have h := hR.out.1
   unfold ChR at h
   omega
  obtain ⟨z0, z1, z2, z3, z4⟩ := id hC7
  have hJn := lh (hEnd.out [y] (by have h := hch.out; rw [if_neg hk3] at h; exact h) (hOne.out y hyo.out (by have := hyk.out; omega) (by have := hyk.out; omega)))
  have hJl : (J ++ [y]).length ≤ M := by rw [hl1.out]; omega
  clear hC7 hEnd hch hR hyk hym hyo hne0
  go_wp2_with (at_builtin; refine wpList_append_run rfl _ _ 25 rfl _ _ _ rfl rfl hrun ?_)
  go_loopw [11, 5] (fun i v9 wq => i = .int .i64 1 ∧ v9 = .slice A7 (m + 1) c7 ∧ wq = w7) (fun _ _ _ => 0)
  case atStart => exact ⟨rfl, rfl, rfl⟩
  obtain ⟨rfl, rfl, rfl⟩ := hrel
  go_wp2_with fail
  go_roundw
  case rel => exact ⟨j + 1, _, by omega, by go_num, hJn, hJl, ho7, hBN⟩
  first | (simp [intOf]; done) | (simp [intOf]; omega)
 subst hk2
 have hq9 : 1 ≤ q ∧ q ≤ 8 ∧ m + q ≤ M := by
  have h := hR.out.1
  unfold ChR at h
  omega
 have hEl : Hid ((J ++ (y :: List.replicate (q - 1) 3)).length ≤ M) := lh (by simp; have := hml.out; omega)
 have hEn2 := lh (hEnd.out (y :: List.replicate (q - 1) 3) hch.out (hHuge.out y (q - 1) hyo.out (by have := hyk.out; omega) (by have := hym.out; omega)))
 have hRep := lh (fun k (hk : 1 ≤ k) => show (J ++ (y :: List.replicate (k - 1) 3)) ++ [3] = J ++ (y :: List.replicate (k + 1 - 1) 3) from by
  rw [List.append_assoc, List.cons_append, ← List.replicate_succ', show k - 1 + 1 = k + 1 - 1 by omega])
 replace q0 : w6.cell? ⟨B8, 0, none⟩ = some (.int .i64 2) := q0
 have hJs : Hid (J ++ [y] = J ++ (y :: List.replicate (1 - 1) 3)) := lh rfl
 generalize hJ2 : J ++ [y] = J2 at *
 replace hJ2 := lh hJ2
 clear q0 q1 q2 q3 q4 hEnd hch hR hyk hym hyo
 go_wp2_with (at_builtin; refine wpList_append_run rfl _ _ 25 rfl _ _ _ rfl rfl hrun ?_)
 go_loopw [11, 5] (fun i v9 wq => ∃ (k : Nat) (J2 : List Nat), 1 ≤ k ∧ k ≤ q ∧ i = .int .i64 k ∧ Hid (J2 = J ++ (y :: List.replicate (k - 1) 3)) ∧ J2.length = m + k ∧ OwnU wq w.heap.size v9 J2 ∧ Hid (∀ b, v9.ownBlock = some b → b ≠ B8) ∧ C5 wq B8 2 c ln q b ∧ Below w.heap.size w wq) (fun i _ _ => q + 1 - (intOf i).toNat)
 case atStart => exact ⟨1, J2, by omega, hq9.1, rfl, hJs, hl1.out, ho7, hne0, hC7, hBN⟩
 clear hrun ho7 hBN hJs hl1 hne0 hC7
 obtain ⟨k, J3, hk1, hk, rfl, hJ3, hJl, hown, hne, hC5, hB⟩ := hrel
 obtain ⟨A9, c9, rfl⟩ := hown.sl hJl
 obtain ⟨z0, z1, z2, z3, z4⟩ := id hC5
 by_cases hlt2 : k < q
 rotate_left
 ·obtain rfl : k = q := by omega
  have hJn : Hid (rightT J3 = true ∧ J3 = madeT (l.take (j + 1)) M) := lh (by rw [hJ3.out]; exact hEn2.out)
  have hJM3 : Hid (J3.length ≤ M) := lh (by rw [hJ3.out]; exact hEl.out)
  go_wp2_with fail
  go_roundw
  case rel => exact ⟨j + 1, J3, by omega, by go_num, hJn, hJM3.out, hown, hB⟩
  first | (simp [intOf]; done) | (simp [intOf]; omega)
 have hlt2' : (k : Int) < (q : Int) := by omega
 obtain ⟨v', w8, hrun, ho8, hB8', hg8, hv8⟩ := appU1 (y := 3) hown hB.size (by omega) (40 : Nat)
 rw [show (((3 : Nat) : Int)) = 3 from rfl] at hrun hg8
 have hBN := hB.trans hB8'
 have hC8 := (hC5.keep (bZ wr (.cells #[.int .u64 3] (40 : Nat)))).grown hg8 (fun e => hne.out B8 e rfl)
 have hlt8 := hC5.lt
 have hne8 : Hid (∀ b, v'.ownBlock = some b → b ≠ B8) := lh (fun b q => by
  rcases hv8 with e | e
  ·rw [e] at q; exact hne.out b q
  rw [e] at q; simp at q; omega)
 have hJn : Hid (J3 ++ [3] = J ++ (y :: List.replicate (k + 1 - 1) 3)) := lh (by rw [hJ3.out]; exact hRep.out k hk1)
 have hJn2 : (J3 ++ [3]).length = m + (k + 1) := by rw [List.length_append, hJl]; rfl
 clear hg8 hv8 hB8' hown hB hC5 hne hJ3 hlt8
 go_wp2_with (at_builtin; refine wpList_append_run rfl _ _ 25 rfl _ _ _ rfl rfl hrun ?_)
 go_roundw
 case rel => exact ⟨k + 1, _, by omega, by omega, by go_num, hJn, hJn2, ho8, hne8, hC8, hBN⟩
 first | (simp [intOf]; done) | (simp [intOf]; omega)
end Go.Proofs.YtkkbngcgphlikaaGreatDoor
