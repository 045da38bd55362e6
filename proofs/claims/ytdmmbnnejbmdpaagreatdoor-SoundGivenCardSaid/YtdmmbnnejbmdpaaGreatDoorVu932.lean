/-
  Part of the proof of SoundTells,SoundGiven.
-/
import Derived.Test.YtdmmbnnejbmdpaaGreatDoorVu91
import Derived.Test.YtdmmbnnejbmdpaaGreatDoorVu910
import Derived.Test.YtdmmbnnejbmdpaaGreatDoorVu911
import Derived.Test.YtdmmbnnejbmdpaaGreatDoorVu912
import Derived.Test.YtdmmbnnejbmdpaaGreatDoorVu913
import Derived.Test.YtdmmbnnejbmdpaaGreatDoorVu914
import Derived.Test.YtdmmbnnejbmdpaaGreatDoorVu915
import Derived.Test.YtdmmbnnejbmdpaaGreatDoorVu916
import Derived.Test.YtdmmbnnejbmdpaaGreatDoorVu917
import Derived.Test.YtdmmbnnejbmdpaaGreatDoorVu918
import Derived.Test.YtdmmbnnejbmdpaaGreatDoorVu919
import Derived.Test.YtdmmbnnejbmdpaaGreatDoorVu92
import Derived.Test.YtdmmbnnejbmdpaaGreatDoorVu920
import Derived.Test.YtdmmbnnejbmdpaaGreatDoorVu921
import Derived.Test.YtdmmbnnejbmdpaaGreatDoorVu922
import Derived.Test.YtdmmbnnejbmdpaaGreatDoorVu923
import Derived.Test.YtdmmbnnejbmdpaaGreatDoorVu924
import Derived.Test.YtdmmbnnejbmdpaaGreatDoorVu925
import Derived.Test.YtdmmbnnejbmdpaaGreatDoorVu93
import Derived.Test.YtdmmbnnejbmdpaaGreatDoorVu931
import Derived.Test.YtdmmbnnejbmdpaaGreatDoorVu94
import Derived.Test.YtdmmbnnejbmdpaaGreatDoorVu95
import Derived.Test.YtdmmbnnejbmdpaaGreatDoorVu96
import Derived.Test.YtdmmbnnejbmdpaaGreatDoorVu97
import Derived.Test.YtdmmbnnejbmdpaaGreatDoorVu98
import Derived.Test.YtdmmbnnejbmdpaaGreatDoorVu99
import Derived.Test.YtdmmbnnejbmdpaaGreatDoorRows
import Derived.BigQuiet
import Derived.Carry
import Derived.ChangeSlices
import Derived.Deep.QuietTactic
import Derived.Deep.RegionHeld3
import Derived.Deep.SlicePairs
import Derived.Handy
import Derived.Laws.BitsAllLaws
import Derived.Laws.CopyOwn
import Derived.Laws.EntriesVeiled
import Derived.Laws.ShiftsVarLaws
import Derived.Lib.AppendZerosOnto
import Derived.Lib.Hide
import Derived.Lib.SliceRun
import Derived.Maps.AppendAt
import Derived.OpenShut
import Derived.OwnWalk
import Derived.OwnWalkIn
import Derived.ProofKit
import Derived.StillTail
import Derived.WalkLawsBesides
import Derived.WalkSpells
import Derived.Laws.OwnMore
import Derived.LoopIn
import Derived.LoopNIn
import Derived.RangeFuncBound
import Derived.RangeFuncBox
import Derived.RangeFuncCalls
import Derived.RangeFuncFrom
import Derived.RangeFuncLeaves
import Derived.RangeFuncNested
import Derived.RangeFuncWrites
import Derived.Shelf.Abstract
import Derived.Shelf.RegionOpen
import Derived.TacticsInMore
import Derived.WalkKit
import Derived.ArgAppend
import Derived.ChangeKeysEq
import Derived.Laws.ResultCell
import Derived.Test.YtdmmbnnejbmdpaaGreatDoorVu90
set_option maxRecDepth 10000
set_option maxHeartbeats 400000
set_option linter.unusedVariables false
set_option linter.unusedSimpArgs false
section
namespace Go.Proofs.YtdmmbnnejbmdpaaGreatDoor
open Go.Lib Go.RowKit Go.ChangeShapes Go.WideShapes Go.Deep
theorem WL.setN {l : List Nat} (h : WL l) (i y : Nat) (hy : y < 18446744073709551616) : WL (l.set i y) := fun z hz => by
 rcases List.mem_or_eq_of_mem_set hz with h1 | h1
 ·exact h z h1
 ·rw [h1]; exact hy
theorem WL.getN {l : List Nat} (h : WL l) (i : Nat) : l.getD i 0 < 18446744073709551616 := by
 rw [List.getD_eq_getElem?_getD]
 cases hc : l[i]? with
 | none => decide
 | some x => exact h x (List.mem_of_getElem? hc)
end Go.Proofs.YtdmmbnnejbmdpaaGreatDoor
end
section
namespace Go.Proofs.YtdmmbnnejbmdpaaGreatDoor
open Go.Lib Go.RowKit Go.ChangeShapes Go.WideShapes Go.Deep
theorem OwnU_row {w : World} {base g n c : Nat} {l : List Nat} (h : OwnU w base (.slice (some ⟨g, 0, none⟩) n c) l) : base ≤ g ∧ ∃ cur, w.heap[g]? = some (.cells cur 33 (0, 0)) := by
 rcases h.2 with ⟨q, _⟩ | ⟨g', cap', cur, q, hb, hg, _⟩
 ·cases q
 ·cases q; exact ⟨hb, cur, hg⟩
theorem OwnU_cap {w : World} {base g n c : Nat} {l : List Nat} (h : OwnU w base (.slice (some ⟨g, 0, none⟩) n c) l) (hn : l.length = n) : n ≤ c := by
 rcases h.2 with ⟨q, _⟩ | ⟨g', cap', cur, q, hb, hg, h1, _⟩
 ·cases q
 ·cases q; omega
end Go.Proofs.YtdmmbnnejbmdpaaGreatDoor
end
section
namespace Go.Proofs.YtdmmbnnejbmdpaaGreatDoor
theorem nodup_len : ∀ (n : Nat) (l : List Nat), l.Nodup → (∀ x ∈ l, x < n) → l.length ≤ n
 | 0, l, _, h => by
   cases l with
   | nil => simp
   | cons a l => exact absurd (h a (by simp)) (by omega)
 | n + 1, l, hd, h => by
   by_cases hm : n ∈ l
   ·have h1 := nodup_len n (l.erase n) (hd.erase n) (fun x hx => by
     have h2 := (hd.mem_erase_iff).1 hx
     have := h x h2.2
     have := h2.1
     omega)
    rw [List.length_erase_of_mem hm] at h1
    omega
   ·have h1 := nodup_len n l hd (fun x hx => by
     have := h x hx
     have : x ≠ n := fun q => hm (q ▸ hx)
     omega)
    omega
theorem logs_few (t : List Nat) (ln : Int) : (logsT t ln).length ≤ t.length := by
 refine nodup_len _ _ ?_ logs_bd
 unfold logsT
 split
 ·exact (logsR_srt t ln t.length (Nat.le_refl _) 8).imp (fun h q => by rw [q] at h; exact Int.lt_irrefl _ h)
 ·exact List.nodup_nil
theorem logSp_len {I : List Nat} {L ln : Nat} (h : gOk (I.length : Nat) (L : Nat) = true) : (logSp I L ln).length ≤ 1 + gNat I.length L := by
 have h1 := logs_few (tabW I L) (ln : Nat)
 rw [tabW_len h] at h1
 unfold logSp
 rw [List.length_cons, List.length_map]
 omega
theorem logSp_in {I : List Nat} {L ln : Nat} (h : gOk (I.length : Nat) (L : Nat) = true) (hl : ln < L) : ∀ x ∈ logSp I L ln, 0 ≤ x.1 ∧ x.2 = 32 ∧ x.1 + 32 ≤ (I.length : Nat) := by
 obtain ⟨s1, s2, s3, s4, s5, s6, s7, s8⟩ := pool_size h
 intro x hx
 unfold logSp at hx
 rcases List.mem_cons.1 hx with rfl | hx
 ·exact ⟨by simp only []; omega, rfl, by simp only []; omega⟩
 ·obtain ⟨i, hi, rfl⟩ := List.mem_map.1 hx
  have := logs_bd i hi
  rw [tabW_len h] at this
  unfold chSp
  exact ⟨by simp only []; omega, rfl, by simp only []; omega⟩
theorem logSp_PB {I : List Nat} {L ln : Nat} (h : gOk (I.length : Nat) (L : Nat) = true) (hl : ln < L) : PBs (logSp I L ln) := fun x hx => by
 have h1 := logSp_in h hl x hx
 have := (pool_size h).2.2.1
 unfold PB
 omega
end Go.Proofs.YtdmmbnnejbmdpaaGreatDoor
end
section
namespace Go.Proofs.YtdmmbnnejbmdpaaGreatDoor
open Go.Lib Go.RowKit Go.ChangeShapes Go.WideShapes Go.Deep
theorem run_slice2 {P : Program} {ty el : TypeId} {i0 : TypeInfo} (hu : P.underlying ty = some (.slice el)) (hi : P.info? el = some i0) (h1 : i0.size = 1) (g off n cap f e m : Nat) (h : f ≤ e) (h2 : e ≤ cap) (hm : m = e - f) (hm0 : 0 < m) (w : World) :
 (Instr.slice ty (.slice (some ⟨g, off, none⟩) n cap) (some (.int .i64 (f : Int))) (some (.int .i64 (e : Int))) none).run P w = .ok (.slice (some ⟨g, off + f, none⟩) m (cap - f)) w := by
 have h3 : (e : Int) ≤ (cap : Int) := by omega
 have h4 : (0 : Int) ≤ (e : Int) := by omega
 have h5 : (f : Int) ≤ (e : Int) := by omega
 have h6 : (0 : Int) ≤ (f : Int) := by omega
 subst hm
 simp [Instr.slice, run_underlying hu, Instr.sliceBounds, Instr.sliceBound, asIntOf, sizeOf, typeInfo, hi, h1, h3, h4, h5, h6, go_sem]
 rw [if_pos h2, if_pos h, if_neg (by omega)]
theorem KL.partC {K : IntKind} {w : World} {g off n cap : Nat} {l : List Nat} (h : KL K w (.slice (some ⟨g, off, none⟩) n cap) l) (hn : l.length = n) (f m c : Nat) (hf : f + m ≤ n) (hc : m ≤ c) : KL K w (.slice (some ⟨g, off + f, none⟩) m c) ((l.drop f).take m) := by
 have h1 := h.part hn f m hf
 have hlen : ((l.drop f).take m).length = m := by rw [List.length_take, List.length_drop]; omega
 obtain ⟨A, c2, hv, h2⟩ := h1
 simp only [Value.slice.injEq] at hv
 obtain ⟨rfl, -, rfl⟩ := hv
 refine ⟨_, c, by rw [hlen], fun hp => ?_⟩
 obtain ⟨g2, o2, hA, hg, _, hi⟩ := h2 hp
 exact ⟨g2, o2, hA, hg, by rw [hlen]; exact hc, hi⟩
theorem part15_any (g off n cap f m : Nat) (w : World) (h1 : f + m ≤ n) (h2 : n ≤ cap) (h3 : 1 ≤ m) (hn : n ≤ 100000) :
 Calls Tryz.prog 24 #[.slice (some ⟨g, off, none⟩) n cap, .agg #[.int .i64 (f : Nat), .int .i64 (m : Nat)]] w fun e w' => e = .returned (.slice (some ⟨g, off + f, none⟩) m (cap - f)) ∧ Below w.heap.size w w' := by
 have hA := bZ w (.cells #[.int .i64 (f : Nat), .int .i64 (m : Nat)] 57)
 obtain ⟨e, he⟩ : ∃ e, f + m = e := ⟨_, rfl⟩
 have w1 : IntKind.i64.wrap ((f : Int) + (m : Int)) = (e : Int) := by rw [IntKind.wrap_i64]; omega
 have w2 : (f : Int) + (m : Int) = (e : Int) := by omega
 obtain ⟨i0, hi, hz0, hz1, hz2⟩ := info_parts infoU64
 have hS := fun w => run_slice2 (P := Tryz.prog) Tryz.underlying25 hi hz1 g off n cap f e m (by omega) (by omega) (by omega) (by omega) w
 replace he := lh he
 go_enter Tryz.func24, Tryz.ntmps24
 go_wp2_with fail
 go_ret
 exact ⟨rfl, hA⟩
end Go.Proofs.YtdmmbnnejbmdpaaGreatDoor
end
