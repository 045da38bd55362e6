/-
  Part of the proof of SoundPlaces.
-/
import Derived.Test.YtdmmbnnejbmdpaaGreatDoorVs1
import Derived.Test.YtdmmbnnejbmdpaaGreatDoorVs10
import Derived.Test.YtdmmbnnejbmdpaaGreatDoorVs11
import Derived.Test.YtdmmbnnejbmdpaaGreatDoorVs12
import Derived.Test.YtdmmbnnejbmdpaaGreatDoorVs13
import Derived.Test.YtdmmbnnejbmdpaaGreatDoorVs17
import Derived.Test.YtdmmbnnejbmdpaaGreatDoorVs2
import Derived.Test.YtdmmbnnejbmdpaaGreatDoorVs3
import Derived.Test.YtdmmbnnejbmdpaaGreatDoorVs4
import Derived.Test.YtdmmbnnejbmdpaaGreatDoorVs40
import Derived.Test.YtdmmbnnejbmdpaaGreatDoorVs45
import Derived.Test.YtdmmbnnejbmdpaaGreatDoorVs48
import Derived.Test.YtdmmbnnejbmdpaaGreatDoorVs49
import Derived.Test.YtdmmbnnejbmdpaaGreatDoorVs5
import Derived.Test.YtdmmbnnejbmdpaaGreatDoorVs6
import Derived.Test.YtdmmbnnejbmdpaaGreatDoorVs7
import Derived.Test.YtdmmbnnejbmdpaaGreatDoorVs8
import Derived.Test.YtdmmbnnejbmdpaaGreatDoorVs9
import Derived.Test.YtdmmbnnejbmdpaaGreatDoorRows
import Derived.BigQuiet
import Derived.Carry
import Derived.ChangeSlices
import Derived.Deep.QuietTactic
import Derived.Deep.RegionHeld3
import Derived.Deep.SlicePairs
import Derived.Handy
import Derived.Laws.BitsAllLaws
import Derived.Laws.CopyOwn
import Derived.Laws.EntriesVeiled
import Derived.Laws.OwnMore
import Derived.Laws.ShiftsVarLaws
import Derived.Lib.AppendZerosOnto
import Derived.Lib.Hide
import Derived.Lib.SliceRun
import Derived.Maps.AppendAt
import Derived.OpenShut
import Derived.OwnWalk
import Derived.OwnWalkIn
import Derived.ProofKit
import Derived.RangeFuncBound
import Derived.RangeFuncBox
import Derived.RangeFuncCalls
import Derived.RangeFuncFrom
import Derived.RangeFuncLeaves
import Derived.RangeFuncNested
import Derived.RangeFuncWrites
import Derived.Scope
import Derived.StillTail
import Derived.WalkLawsBesides
import Derived.WalkSpells
import Derived.Test.YtdmmbnnejbmdpaaGreatDoorVs0
set_option maxRecDepth 10000
set_option maxHeartbeats 4000000
set_option linter.unusedVariables false
set_option linter.unusedSimpArgs false
section
namespace Go.Proofs.YtdmmbnnejbmdpaaGreatDoor
open Go.Lib Go.RowKit Go.ChangeShapes Go.WideShapes Go.Deep Go.Shelf
theorem romJ_ge (s : Nat) (b : Nat) (h : romJ (s : Nat) = (b : Nat)) (hb : 1 ≤ b) : s + 2 ≤ b := by
 unfold romJ at h
 split at h
 ·omega
 split at h
 ·omega
 split at h
 ·omega
 split at h
 ·omega
 split at h
 ·omega
 ·omega
theorem right_end {t : List Nat} (h : rightT t = true) {i : Nat} (hi : i < t.length) (hk : kN (t.getD i 0) = 2) : i + mN (t.getD i 0) ≤ t.length := by
 rw [← right_same] at h
 unfold refRightB at h
 rw [Bool.and_eq_true] at h
 have h2 := List.all_eq_true.1 h.2 i (List.mem_range.2 hi)
 rw [Bool.and_eq_true] at h2
 have h3 := h2.2
 rw [decide_eq_true hk, Bool.true_and, Bool.not_eq_true'] at h3
 have := of_decide_eq_false h3
 omega
theorem obj_in {I : List Nat} {L : Nat} (hW : WL I) (hs : gOk (I.length : Nat) (L : Nat) = true) (hN8 : I.length ≤ 800) (hr : rightT (tabW I L) = true) {x : Ob} (h : x ∈ objsP I L) : x.1 + 2 + x.2.2.1 ≤ I.length ∧ x.2.2.1 ≤ 4096 := by
 obtain ⟨h1, h2, h3, b, hb, ho⟩ := objsP_mem hW hs hN8 h
 obtain ⟨s1, s2, s3, s4, s5, s6, s7, s8⟩ := pool_size hs
 obtain ⟨q1, q2⟩ := bl_bd hb
 have hl := tab_len hs
 unfold objH at ho
 split at ho
 ·rename_i t s n hd
  split at ho
  ·rename_i hrm
   cases ho
   have hge := romJ_ge s b.2.2 hrm (by omega)
   have hs4 := (decH_bd hd).2.2.1
   refine ⟨?_, hs4⟩
   show plc I.length L b + 2 + s ≤ I.length
   obtain ⟨c, j, m⟩ := b
   simp only [] at q1 q2 hge
   unfold plc
   simp only []
   rcases q2 with ⟨qa, qb, qc⟩ | ⟨qa, qb, qc, qd, qe⟩
   ·have : c * 32 + 32 ≤ gNat I.length L * 32 := by omega
    omega
   ·subst qa
    have he := right_end hr q1 qb
    rw [hl] at he
    have : c * 32 + m ≤ gNat I.length L * 32 := by omega
    simp
    omega
  ·cases ho
 ·cases ho
def ojOf (I : List Nat) (o : Ob) : Oj := ((o.1, o.2.1, o.2.2.2), (I.drop (o.1 + 2)).take o.2.2.1)
def objL (I : List Nat) : List Oj := if soundB I = true then (objsP I (I.getD 3 0)).map (ojOf I) else []
def rootL (I : List Nat) (l : List Ob) : Nat × Nat × Nat := ((l.find? fun o => decide (o.1 = I.getD 8 0)).map fun o => (o.1, o.2.1, o.2.2.2)).getD (0, 0, 0)
def rootO (I : List Nat) : Nat × Nat × Nat := if soundB I = true then rootL I (objsP I (I.getD 3 0)) else (0, 0, 0)
theorem sound_parts {I : List Nat} (h : soundB I = true) : sOk I = true ∧ rightT (tabW I (I.getD 3 0)) = true ∧ allO I (I.getD 3 0) (blI I (I.getD 3 0)) = true := by
 unfold soundB at h
 simp only [Bool.and_eq_true] at h
 exact ⟨h.1, h.2.2.1.1, h.2.2.2.1⟩
theorem run_slice3 {P : Program} {ty el : TypeId} {i0 : TypeInfo} (hu : P.underlying ty = some (.slice el)) (hi : P.info? el = some i0) (h1 : i0.size = 1) (g off n cap f e m : Nat) (h : f ≤ e) (h2 : e ≤ cap) (hm : m = e - f) (hf : f < cap) (w : World) :
 (Instr.slice ty (.slice (some ⟨g, off, none⟩) n cap) (some (.int .i64 (f : Int))) (some (.int .i64 (e : Int))) none).run P w = .ok (.slice (some ⟨g, off + f, none⟩) m (cap - f)) w := by
 have h3 : (e : Int) ≤ (cap : Int) := by omega
 have h4 : (0 : Int) ≤ (e : Int) := by omega
 have h5 : (f : Int) ≤ (e : Int) := by omega
 have h6 : (0 : Int) ≤ (f : Int) := by omega
 subst hm
 simp [Instr.slice, run_underlying hu, Instr.sliceBounds, Instr.sliceBound, asIntOf, sizeOf, typeInfo, hi, h1, h3, h4, h5, h6, go_sem]
 rw [if_pos h2, if_pos h, if_neg (by omega)]
theorem Objects_t (v : Value) (I : List Nat) (w : World) (hw : Lw w) (hW : WL I) (hv : KL .u64 w v I) (hN8 : I.length ≤ 800) (hsd : soundB I = true) :
 Calls Tryz.prog 16 #[v] w fun e w' => ∃ v', e = .returned v' ∧ OJO w' w.heap.size v' ((objsP I (I.getD 3 0)).map (ojOf I)) ∧ Below w.heap.size w w' := by
 obtain ⟨hs, hri, hal⟩ := sound_parts hsd
 have hSo := sound_any v I w hw hW hv hN8
 rw [if_pos hsd] at hSo
 have hR := lh (fun w1 (hb : Below w.heap.size w w1) => read_t v I w1 hW (hv.keep hb) hs)
 obtain ⟨g, off, cap, rfl, hp⟩ := pool_of hw hW hv hN8 hs
 have hcap := hp.cap
 obtain ⟨N, hN⟩ : ∃ N, I.length = N := ⟨_, rfl⟩
 have hgI := hp.hs
 have hin := fun x (hx : x ∈ objsP I (I.getD 3 0)) => obj_in hW hgI hN8 hri hx
 have hbx := fun x (hx : x ∈ objsP I (I.getD 3 0)) => (objsP_mem hW hgI hN8 hx)
 obtain ⟨L, hL⟩ : ∃ L, I.getD 3 0 = L := ⟨_, rfl⟩
 have hlen := objsP_len hp.hN hp.hN8 hp.hs
 rw [hN, hL] at hR hp
 rw [hL] at hal hin hbx hlen ⊢
 rw [hN] at hin hbx hcap hSo hv ⊢
 have hOb := lh (fun w1 (hb : Below w.heap.size w w1) => (hp.keep hb).objs)
 rw [hal] at hOb
 generalize objsP I L = l at *
 obtain ⟨n, hn⟩ : ∃ n, l.length = n := ⟨_, rfl⟩
 rw [hn] at hlen
 obtain ⟨i0, hi, hz0, hz1, hz2⟩ := info_parts infoU64
 have hSl := lh (fun p s (hp : p + 2 + s ≤ N) (hp4 : p + 4 ≤ N) w1 => run_slice3 (P := Tryz.prog) Tryz.underlying25 hi hz1 g off N cap (p + 2) (p + 2 + s) s (by omega) (by omega) (by omega) (by omega) w1)
 have hmt := lh (fun k (hk : k < n) => show (l.take (k + 1)).map (ojOf I) = (l.take k).map (ojOf I) ++ [ojOf I (l.getD k default)] from by
  rw [List.take_succ_eq_append_getElem (by omega), List.map_append, List.getD_eq_getElem?_getD, List.getElem?_eq_getElem (by omega)]; rfl)
 have hme := fun k (hk : k < n) => show l.getD k default ∈ l from by rw [List.getD_eq_getElem?_getD, List.getElem?_eq_getElem (by omega)]; exact List.getElem_mem _
 have hob := lh (fun k (hk : k < n) => show (l.getD k default).1 + 2 + (l.getD k default).2.2.1 ≤ N ∧ (l.getD k default).1 + 4 ≤ N from ⟨(hin _ (hme k hk)).1, (hbx _ (hme k hk)).1⟩)
 have hta := lh (show l.take n = l from List.take_of_length_le (by omega))
 have hCl := lh (fun p s w1 (hb : Below w.heap.size w w1) (hp : p + 2 + s ≤ N) => clone_any (.slice (some ⟨g, off + (p + 2), none⟩) s (cap - (p + 2))) ((I.drop (p + 2)).take s) w1 (by rw [List.length_take]; omega) (KL.partC (hv.keep hb) hN (p + 2) s (cap - (p + 2)) hp (by omega)))
 have hNm := lh (fun (p t s n9 : Nat) w1 => name_any (p : Nat) (t : Nat) (s : Nat) (n9 : Nat) w1)
 have hdl := lh (fun p s (hp : p + 2 + s ≤ N) => show ((I.drop (p + 2)).take s).length = s from by rw [List.length_take, List.length_drop]; omega)
 have hN800 : N ≤ 800 := by omega
 replace hn := lh hn
 replace hN := lh hN
 replace hL := lh hL
 obtain ⟨hcap1, h116⟩ := hcap
 clear hin hbx hme hp hal hri hs hsd hgI hv hW hw hN8
 go_enter Tryz.func16, Tryz.ntmps16
 go_wp2_with fail
 refine hSo.mono ?_
 rintro e w1 ⟨rfl, hb1⟩
 clear hSo
 have hR1 := hR.out _ hb1
 go_wp2_with fail
 refine hR1.mono ?_
 rintro e w2 ⟨rfl, hb2⟩
 have hB2 := hb1.trans (hb2.mono hb1.size)
 have hO2 := hOb.out _ hB2
 clear hR hR1 hb1 hb2 hOb
 go_wp2_with fail
 refine hO2.mono ?_
 rintro e w3 ⟨v3, rfl, ho3, hb3⟩
 have hB3 := hB2.trans (hb3.mono hB2.size)
 obtain ⟨A3, c3, rfl, -⟩ := OBO.formO ho3 hn.out
 clear hO2 hB2 hb3
 go_wp2_with fail
 go_loopw [21, 3] (fun i u wr => ∃ (j : Nat), j ≤ n ∧ i = .int .i64 (j : Nat) ∧ OJO wr w3.heap.size u ((l.take j).map (ojOf I)) ∧ Below w3.heap.size w3 wr) (fun i _ _ => n + 1 - (intOf i).toNat)
 case atStart => exact ⟨0, Nat.zero_le _, rfl, OJO.nil _ _, Below.refl _ _⟩
 case round =>
  obtain ⟨j, hj, rfl, hJr, hBr⟩ := hrel
  by_cases hlt : j < n
  ·have hlt' : (j : Int) < (n : Int) := by omega
   obtain ⟨A4, c4, hv4, hF⟩ := OBO.formO (ho3.keep hBr) hn.out
   cases hv4
   obtain ⟨g5, o5, rfl, hc5, hg5, k0, k1, k2, k3⟩ := hF j hlt
   have hob1 := hob.out j hlt
   have hmt1 := hmt.out j hlt
   generalize l.getD j default = b at *
   obtain ⟨p, t, s, n9⟩ := b
   simp only [] at k0 k1 k2 k3 hob1
   obtain ⟨hob2, hob3⟩ := hob1
   have hSl1 := hSl.out p s hob2 hob3
   have hCl1 := lh (fun w1 hb => hCl.out p s w1 hb hob2)
   have hdl1 := hdl.out p s hob2
   have hNm1 := lh (hNm.out p t s n9)
   have hoj : ojOf I (p, t, s, n9) = ((p, t, n9), (I.drop (p + 2)).take s) := rfl
   obtain ⟨f, hf⟩ : ∃ f, p + 2 = f := ⟨_, rfl⟩
   rw [hf] at hSl1 hCl1 hdl1 hoj hob2
   obtain ⟨e2, he2⟩ : ∃ e, f + s = e := ⟨_, rfl⟩
   rw [he2] at hSl1 hob2
   have z1 : (p : Int) + 2 = (f : Int) := by omega
   have z2 : IntKind.i64.wrap (f : Int) = (f : Int) := wrapQ _ (by omega) (by omega)
   have z3 : (f : Int) + (s : Int) = (e2 : Int) := by omega
   have z4 : IntKind.i64.wrap (e2 : Int) = (e2 : Int) := wrapQ _ (by omega) (by omega)
   rw [hoj] at hmt1
   generalize (I.drop f).take s = dd at *
   replace hmt1 := lh hmt1
   have e4 := bZ wr (.cells #[.int .i64 (p : Nat), .int .i64 (t : Nat), .int .i64 (s : Nat), .int .u64 (n9 : Nat)] 95)
   have gO := HB.new wr #[.int .i64 (p : Nat), .int .i64 (t : Nat), .int .i64 (s : Nat), .int .u64 (n9 : Nat)] 95
   obtain ⟨w4, hw4⟩ : ∃ x, wr.alloc (.cells #[.int .i64 (p : Nat), .int .i64 (t : Nat), .int .i64 (s : Nat), .int .u64 (n9 : Nat)] 95) = x := ⟨_, rfl⟩
   rw [hw4] at e4 gO
   obtain ⟨K, hK⟩ : ∃ K, wr.heap.size = K := ⟨_, rfl⟩
   rw [hK] at gO
   have hB4 := hBr.trans (e4.mono hBr.size)
   have hJ4 := hJr.keep e4
   have q0 := (row_cell gO 0).1
   have q1 := (row_cell gO 1).1
   have q2 := (row_cell gO 2).1
   have q3 := (row_cell gO 3).1
   have hC4 := hCl1.out w4 (hB3.trans (hB4.mono hB3.size))
   clear hF e4 hJr hBr hoj hob2 hob3 he2
   go_wp2_with fail
   refine hC4.mono ?_
   rintro e w5 ⟨v5, rfl, ho5, hb5⟩
   obtain ⟨A5, c5, rfl, -⟩ := (OwnU.kl ho5).form hdl1
   have hB5 := hB4.trans (hb5.mono hB4.size)
   have hJ5 := hJ4.keep hb5
   have gO5 := gO.keep hb5
   have ho5b : OwnU w5 w3.heap.size _ dd := ho5.mono hB4.size
   clear q0 q1 q2 q3 gO hJ4 hC4 hb5 ho5 hSl1
   have q0 := (row_cell gO5 0).1
   have q1 := (row_cell gO5 1).1
   have q2 := (row_cell gO5 2).1
   have q3 := (row_cell gO5 3).1
   have hNm5 := hNm1.out w5
   unfold nV at hNm5
   go_wp2_with fail
   refine hNm5.mono ?_
   rintro e w6 ⟨rfl, hb6⟩
   have hB6 := hB5.trans (hb6.mono hB5.size)
   have hJ6 := hJ5.keep hb6
   have ho6 := ho5b.keep hb6
   obtain ⟨v8, w8, hrun, hJ8, hb8⟩ := jRun hJ6 hB6.size (by rw [List.length_map, List.length_take]; omega) p t n9 _ dd ho6
   have hB8 := hB6.trans hb8
   rw [← hmt1.out] at hJ8
   clear q0 q1 q2 q3 gO5 hJ5 ho5b hb6 hB5 hB4 hJ6 ho6 hb8 hNm5
   go_wp2_with (at_builtin; refine wpList_append_run rfl _ _ 39 rfl _ _ _ rfl rfl hrun ?_)
   go_roundw
   case rel => exact ⟨j + 1, by omega, by go_num, hJ8, hB8⟩
   case measure => first | (simp [intOf]; done) | (simp [intOf]; omega)
  ·obtain rfl : n = j := by omega
   have hlt' : ¬ (n : Int) < (n : Int) := by omega
   rw [hta.out] at hJr
   have hBe := hB3.trans (hBr.mono hB3.size)
   go_wp2_with fail
   go_ret
   exact ⟨_, rfl, hJr.mono hB3.size, hBe⟩
theorem Objects_any (v : Value) (I : List Nat) (w : World) (hw : Lw w) (hW : WL I) (hv : KL .u64 w v I) (hN8 : I.length ≤ 800) :
 Calls Tryz.prog 16 #[v] w fun e w' => ∃ v', e = .returned v' ∧ OJO w' w.heap.size v' (objL I) ∧ Below w.heap.size w w' := by
 cases hsd : soundB I with
 | true => unfold objL; rw [if_pos hsd]; exact Objects_t v I w hw hW hv hN8 hsd
 | false =>
   have hSo := sound_any v I w hw hW hv hN8
   have hob : objL I = [] := by unfold objL; rw [hsd]; rfl
   rw [hsd] at hSo
   simp only [Bool.false_eq_true, if_false] at hSo
   rw [hob]
   obtain ⟨A, c, hve, -⟩ := hv.form rfl
   generalize I.length = N at hve
   subst hve
   clear hv hW hw hN8 hsd
   go_enter Tryz.func16, Tryz.ntmps16
   go_wp2_with fail
   refine hSo.mono ?_
   rintro e w1 ⟨rfl, hb1⟩
   go_wp2_with fail
   go_ret
   exact ⟨_, rfl, OJO.nil _ _, hb1⟩
end Go.Proofs.YtdmmbnnejbmdpaaGreatDoor
end
section
namespace Go.Proofs.YtdmmbnnejbmdpaaGreatDoor
open Go.Lib Go.RowKit Go.ChangeShapes Go.WideShapes Go.Deep Go.Shelf
def p1 : Gv := { a := 0, b := 0, tiles := [], fill := [], items := [(0, 2, 0, [], [(0, 8, 5)])], root := 0, epoch := 0, spoil := [] }
theorem EL.one {α : Type} [Inhabited α] {sz : Nat} {en : α → List Value} {w : World} {b : Nat} {x : α} (hb : b < w.heap.size) (h : ∀ j, j < sz → w.cell? ⟨b, j, none⟩ = (en x)[j]?) : EL sz en w (.slice (some ⟨b, 0, none⟩) 1 1) [x] :=
 ⟨some ⟨b, 0, none⟩, 1, rfl, fun _ => ⟨b, 0, rfl, hb, Nat.le_refl _, fun i hi j hj => by
   obtain rfl : i = 0 := by simp at hi; omega
   rw [Nat.zero_mul, Nat.zero_add]
   exact h j hj⟩⟩
end Go.Proofs.YtdmmbnnejbmdpaaGreatDoor
end
