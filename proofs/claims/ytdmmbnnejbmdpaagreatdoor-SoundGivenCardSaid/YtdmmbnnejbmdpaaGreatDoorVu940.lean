/-
  Part of the proof of SoundTells,SoundGiven.
-/
import Derived.Test.YtdmmbnnejbmdpaaGreatDoorVu919
import Derived.Test.YtdmmbnnejbmdpaaGreatDoorVu939
import Derived.Test.YtdmmbnnejbmdpaaGreatDoorVu90
set_option maxRecDepth 10000
set_option maxHeartbeats 4000000
set_option linter.unusedVariables false
set_option linter.unusedSimpArgs false
section
namespace Go.Proofs.YtdmmbnnejbmdpaaGreatDoor
open Go.Lib Go.RowKit Go.ChangeShapes Go.WideShapes Go.Deep Go.Shelf
theorem romJ_ge (s : Nat) (b : Nat) (h : romJ (s : Nat) = (b : Nat)) (hb : 1 ≤ b) : s + 2 ≤ b := by
 unfold romJ at h
 split at h
 ·omega
 split at h
 ·omega
 split at h
 ·omega
 split at h
 ·omega
 split at h
 ·omega
 ·omega
theorem right_end {t : List Nat} (h : rightT t = true) {i : Nat} (hi : i < t.length) (hk : kN (t.getD i 0) = 2) : i + mN (t.getD i 0) ≤ t.length := by
 rw [← right_same] at h
 unfold refRightB at h
 rw [Bool.and_eq_true] at h
 have h2 := List.all_eq_true.1 h.2 i (List.mem_range.2 hi)
 rw [Bool.and_eq_true] at h2
 have h3 := h2.2
 rw [decide_eq_true hk, Bool.true_and, Bool.not_eq_true'] at h3
 have := of_decide_eq_false h3
 omega
theorem obj_in {I : List Nat} {L : Nat} (hW : WL I) (hs : gOk (I.length : Nat) (L : Nat) = true) (hN8 : I.length ≤ 800) (hr : rightT (tabW I L) = true) {x : Ob} (h : x ∈ objsP I L) : x.1 + 2 + x.2.2.1 ≤ I.length ∧ x.2.2.1 ≤ 4096 := by
 obtain ⟨h1, h2, h3, b, hb, ho⟩ := objsP_mem hW hs hN8 h
 obtain ⟨s1, s2, s3, s4, s5, s6, s7, s8⟩ := pool_size hs
 obtain ⟨q1, q2⟩ := bl_bd hb
 have hl := tab_len hs
 unfold objH at ho
 split at ho
 ·rename_i t s n hd
  split at ho
  ·rename_i hrm
   cases ho
   have hge := romJ_ge s b.2.2 hrm (by omega)
   have hs4 := (decH_bd hd).2.2.1
   refine ⟨?_, hs4⟩
   show plc I.length L b + 2 + s ≤ I.length
   obtain ⟨c, j, m⟩ := b
   simp only [] at q1 q2 hge
   unfold plc
   simp only []
   rcases q2 with ⟨qa, qb, qc⟩ | ⟨qa, qb, qc, qd, qe⟩
   ·have : c * 32 + 32 ≤ gNat I.length L * 32 := by omega
    omega
   ·subst qa
    have he := right_end hr q1 qb
    rw [hl] at he
    have : c * 32 + m ≤ gNat I.length L * 32 := by omega
    simp
    omega
  ·cases ho
 ·cases ho
def ojOf (I : List Nat) (o : Ob) : Oj := ((o.1, o.2.1, o.2.2.2), (I.drop (o.1 + 2)).take o.2.2.1)
def objL (I : List Nat) : List Oj := if soundB I = true then (objsP I (I.getD 3 0)).map (ojOf I) else []
def rootL (I : List Nat) (l : List Ob) : Nat × Nat × Nat := ((l.find? fun o => decide (o.1 = I.getD 8 0)).map fun o => (o.1, o.2.1, o.2.2.2)).getD (0, 0, 0)
def rootO (I : List Nat) : Nat × Nat × Nat := if soundB I = true then rootL I (objsP I (I.getD 3 0)) else (0, 0, 0)
theorem sound_parts {I : List Nat} (h : soundB I = true) : sOk I = true ∧ rightT (tabW I (I.getD 3 0)) = true ∧ allO I (I.getD 3 0) (blI I (I.getD 3 0)) = true := by
 unfold soundB at h
 simp only [Bool.and_eq_true] at h
 exact ⟨h.1, h.2.2.1.1, h.2.2.2.1⟩
theorem run_slice3 {P : Program} {ty el : TypeId} {i0 : TypeInfo} (hu : P.underlying ty = some (.slice el)) (hi : P.info? el = some i0) (h1 : i0.size = 1) (g off n cap f e m : Nat) (h : f ≤ e) (h2 : e ≤ cap) (hm : m = e - f) (hf : f < cap) (w : World) :
 (Instr.slice ty (.slice (some ⟨g, off, none⟩) n cap) (some (.int .i64 (f : Int))) (some (.int .i64 (e : Int))) none).run P w = .ok (.slice (some ⟨g, off + f, none⟩) m (cap - f)) w := by
 have h3 : (e : Int) ≤ (cap : Int) := by omega
 have h4 : (0 : Int) ≤ (e : Int) := by omega
 have h5 : (f : Int) ≤ (e : Int) := by omega
 have h6 : (0 : Int) ≤ (f : Int) := by omega
 subst hm
 simp [Instr.slice, run_underlying hu, Instr.sliceBounds, Instr.sliceBound, asIntOf, sizeOf, typeInfo, hi, h1, h3, h4, h5, h6, go_sem]
 rw [if_pos h2, if_pos h, if_neg (by omega)]
theorem Objects_t (v : Value) (I : List Nat) (w : World) (hw : Lw w) (hW : WL I) (hv : KL .u64 w v I) (hN8 : I.length ≤ 800) (hsd : soundB I = true) :
 Calls Tryz.prog 16 #[v] w fun e w' => ∃ v', e = .returned v' ∧ OJO w' w.heap.size v' ((objsP I (I.getD 3 0)).map (ojOf I)) ∧ Below w.heap.size w w' := by
 obtain ⟨hs, hri, hal⟩ := sound_parts hsd
 have hSo := sound_any v I w hw hW hv hN8
 rw [if_pos hsd] at hSo
 have hR := lh (fun w1 (hb : Below w.heap.size w w1) => read_t v I w1 hW (hv.keep hb) hs)
 obtain ⟨g, off, cap, rfl, hp⟩ := pool_of hw hW hv hN8 hs
 have hcap := hp.cap
 obtain ⟨N, hN⟩ : ∃ N, I.length = N := ⟨_, rfl⟩
 have hgI := hp.hs
 have hin := fun x (hx : x ∈ objsP I (I.getD 3 0)) => obj_in hW hgI hN8 hri hx
 have hbx := fun x (hx : x ∈ objsP I (I.getD 3 0)) => (objsP_mem hW hgI hN8 hx)
 obtain ⟨L, hL⟩ : ∃ L, I.getD 3 0 = L := ⟨_, rfl⟩
 have hlen := objsP_len hp.hN hp.hN8 hp.hs
 rw [hN, hL] at hR hp
 rw [hL] at hal hin hbx hlen ⊢
 rw [hN] at hin hbx hcap hSo hv ⊢
 have hOb := lh (fun w1 (hb : Below w.heap.size w w1) => (hp.keep hb).objs)
 rw [hal] at hOb
 generalize objsP I L = l at *
 obtain ⟨n, hn⟩ : ∃ n, l.length = n := ⟨_, rfl⟩
 rw [hn] at hlen
 obtain ⟨i0, hi, hz0, hz1, hz2⟩ := info_parts infoU64
 have hSl := lh (fun p s (hp : p + 2 + s ≤ N) (hp4 : p + 4 ≤ N) w1 => run_slice3 (P := Tryz.prog) Tryz.underlying25 hi hz1 g off N cap (p + 2) (p + 2 + s) s (by omega) (by omega) (by omega) (by omega) w1)
 have hmt := lh (fun k (hk : k < n) => show (l.take (k + 1)).map (ojOf I) = (l.take k).map (ojOf I) ++ [ojOf I (l.getD k default)] from by
  rw [List.take_succ_eq_append_getElem (by omega), List.map_append, List.getD_eq_getElem?_getD, List.getElem?_eq_getElem (by omega)]; rfl)
 have hme := fun k (hk : k < n) => show l.getD k default ∈ l from by rw [List.getD_eq_getElem?_getD, List.getElem?_eq_getElem (by omega)]; exact List.getElem_mem _
 have hob := lh (fun k (hk : k < n) => show (l.getD k default).1 + 2 + (l.getD k default).2.2.1 ≤ N ∧ (l.getD k default).1 + 4 ≤ N from ⟨(hin _ (hme k hk)).1, (hbx _ (hme k hk)).1⟩)
 have hta := lh (show l.take n = l from List.take_of_length_le (by omega))
 have hCl := lh (fun p s w1 (hb : Below w.heap.size w w1) (hp : p + 2 + s ≤ N) => clone_any (.slice (some ⟨g, off + (p + 2), none⟩) s (cap - (p + 2))) ((I.drop (p + 2)).take s) w1 (by rw [List.length_take]; omega) (KL.partC (hv.keep hb) hN (p + 2) s (cap - (p + 2)) hp (by omega)))
 have hNm := lh (fun (p t s n9 : Nat) w1 => name_any (p : Nat) (t : Nat) (s : Nat) (n9 : Nat) w1)
 have hdl := lh (fun p s (hp : p + 2 + s ≤ N) => show ((I.drop (p + 2)).take s).length = s from by rw [List.length_take, List.length_drop]; omega)
 have hN800 : N ≤ 800 := by omega
 replace hn := lh hn
 replace hN := lh hN
 replace hL := lh hL
 obtain ⟨hcap1, h116⟩ := hcap
 clear hin hbx hme hp hal hri hs hsd hgI hv hW hw hN8
 go_enter Tryz.func16, Tryz.ntmps16
 go_wp2_with fail
 refine hSo.mono ?_
 rintro e w1 ⟨rfl, hb1⟩
 clear hSo
 have hR1 := hR.out _ hb1
 go_wp2_with fail
 refine hR1.mono ?_
 rintro e w2 ⟨rfl, hb2⟩
 have hB2 := hb1.trans (hb2.mono hb1.size)
 have hO2 := hOb.out _ hB2
 clear hR hR1 hb1 hb2 hOb
 go_wp2_with fail
 refine hO2.mono ?_
 rintro e w3 ⟨v3, rfl, ho3, hb3⟩
 have hB3 := hB2.trans (hb3.mono hB2.size)
 obtain ⟨A3, c3, rfl, -⟩ := OBO.formO ho3 hn.out
 clear hO2 hB2 hb3
 go_wp2_with fail
 go_loopw [21, 3] (fun i u wr => ∃ (j : Nat), j ≤ n ∧ i = .int .i64 (j : Nat) ∧ OJO wr w3.heap.size u ((l.take j).map (ojOf I)) ∧ Below w3.heap.size w3 wr) (fun i _ _ => n + 1 - (intOf i).toNat)
 case atStart => exact ⟨0, Nat.zero_le _, rfl, OJO.nil _ _, Below.refl _ _⟩
 case round =>
  obtain ⟨j, hj, rfl, hJr, hBr⟩ := hrel
  by_cases hlt : j < n
  ·have hlt' : (j : Int) < (n : Int) := by omega
   obtain ⟨A4, c4, hv4, hF⟩ := OBO.formO (ho3.keep hBr) hn.out
   cases hv4
   obtain ⟨g5, o5, rfl, hc5, hg5, k0, k1, k2, k3⟩ := hF j hlt
   have hob1 := hob.out j hlt
   have hmt1 := hmt.out j hlt
   generalize l.getD j default = b at *
   obtain ⟨p, t, s, n9⟩ := b
   simp only [] at k0 k1 k2 k3 hob1
   obtain ⟨hob2, hob3⟩ := hob1
   have hSl1 := hSl.out p s hob2 hob3
   have hCl1 := lh (fun w1 hb => hCl.out p s w1 hb hob2)
   have hdl1 := hdl.out p s hob2
   have hNm1 := lh (hNm.out p t s n9)
   have hoj : ojOf I (p, t, s, n9) = ((p, t, n9), (I.drop (p + 2)).take s) := rfl
   obtain ⟨f, hf⟩ : ∃ f, p + 2 = f := ⟨_, rfl⟩
   rw [hf] at hSl1 hCl1 hdl1 hoj hob2
   obtain ⟨e2, he2⟩ : ∃ e, f + s = e := ⟨_, rfl⟩
   rw [he2] at hSl1 hob2
   have z1 : (p : Int) + 2 = (f : Int) := by omega
   have z2 : IntKind.i64.wrap (f : Int) = (f : Int) := wrapQ _ (by omega) (by omega)
   have z3 : (f : Int) + (s : Int) = (e2 : Int) := by omega
   have z4 : IntKind.i64.wrap (e2 : Int) = (e2 : Int) := wrapQ _ (by omega) (by omega)
   rw [hoj] at hmt1
   generalize (I.drop f).take s = dd at *
   replace hmt1 := lh hmt1
   have e4 := bZ wr (.cells #[.int .i64 (p : Nat), .int .i64 (t : Nat), .int .i64 (s : Nat), .int .u64 (n9 : Nat)] 95)
   have gO := HB.new wr #[.int .i64 (p : Nat), .int .i64 (t : Nat), .int .i64 (s : Nat), .int .u64 (n9 : Nat)] 95
   obtain ⟨w4, hw4⟩ : ∃ x, wr.alloc (.cells #[.int .i64 (p : Nat), .int .i64 (t : Nat), .int .i64 (s : Nat), .int .u64 (n9 : Nat)] 95) = x := ⟨_, rfl⟩
   rw [hw4] at e4 gO
   obtain ⟨K, hK⟩ : ∃ K, wr.heap.size = K := ⟨_, rfl⟩
   rw [hK] at gO
   have hB4 := hBr.trans (e4.mono hBr.size)
   have hJ4 := hJr.keep e4
   have q0 := (row_cell gO 0).1
   have q1 := (row_cell gO 1).1
   have q2 := (row_cell gO 2).1
   have q3 := (row_cell gO 3).1
   have hC4 := hCl1.out w4 (hB3.trans (hB4.mono hB3.size))
   clear hF e4 hJr hBr hoj hob2 hob3 he2
   go_wp2_with fail
   refine hC4.mono ?_
   rintro e w5 ⟨v5, rfl, ho5, hb5⟩
   obtain ⟨A5, c5, rfl, -⟩ := (OwnU.kl ho5).form hdl1
   have hB5 := hB4.trans (hb5.mono hB4.size)
   have hJ5 := hJ4.keep hb5
   have gO5 := gO.keep hb5
   have ho5b : OwnU w5 w3.heap.size _ dd := ho5.mono hB4.size
   clear q0 q1 q2 q3 gO hJ4 hC4 hb5 ho5 hSl1
   have q0 := (row_cell gO5 0).1
   have q1 := (row_cell gO5 1).1
   have q2 := (row_cell gO5 2).1
   have q3 := (row_cell gO5 3).1
   have hNm5 := hNm1.out w5
   unfold nV at hNm5
   go_wp2_with fail
   refine hNm5.mono ?_
   rintro e w6 ⟨rfl, hb6⟩
   have hB6 := hB5.trans (hb6.mono hB5.size)
   have hJ6 := hJ5.keep hb6
   have ho6 := ho5b.keep hb6
   obtain ⟨v8, w8, hrun, hJ8, hb8⟩ := jRun hJ6 hB6.size (by rw [List.length_map, List.length_take]; omega) p t n9 _ dd ho6
   have hB8 := hB6.trans hb8
   rw [← hmt1.out] at hJ8
   clear q0 q1 q2 q3 gO5 hJ5 ho5b hb6 hB5 hB4 hJ6 ho6 hb8 hNm5
   go_wp2_with (at_builtin; refine wpList_append_run rfl _ _ 39 rfl _ _ _ rfl rfl hrun ?_)
   go_roundw
   case rel => exact ⟨j + 1, by omega, by go_num, hJ8, hB8⟩
   case measure => first | (simp [intOf]; done) | (simp [intOf]; omega)
  ·obtain rfl : n = j := by omega
   have hlt' : ¬ (n : Int) < (n : Int) := by omega
   rw [hta.out] at hJr
   have hBe := hB3.trans (hBr.mono hB3.size)
   go_wp2_with fail
   go_ret
   exact ⟨_, rfl, hJr.mono hB3.size, hBe⟩
theorem Objects_any (v : Value) (I : List Nat) (w : World) (hw : Lw w) (hW : WL I) (hv : KL .u64 w v I) (hN8 : I.length ≤ 800) :
 Calls Tryz.prog 16 #[v] w fun e w' => ∃ v', e = .returned v' ∧ OJO w' w.heap.size v' (objL I) ∧ Below w.heap.size w w' := by
 cases hsd : soundB I with
 | true => unfold objL; rw [if_pos hsd]; exact Objects_t v I w hw hW hv hN8 hsd
 | false =>
   have hSo := sound_any v I w hw hW hv hN8
   have hob : objL I = [] := by unfold objL; rw [hsd]; rfl
   rw [hsd] at hSo
   simp only [Bool.false_eq_true, if_false] at hSo
   rw [hob]
   obtain ⟨A, c, hve, -⟩ := hv.form rfl
   generalize I.length = N at hve
   subst hve
   clear hv hW hw hN8 hsd
   go_enter Tryz.func16, Tryz.ntmps16
   go_wp2_with fail
   refine hSo.mono ?_
   rintro e w1 ⟨rfl, hb1⟩
   go_wp2_with fail
   go_ret
   exact ⟨_, rfl, OJO.nil _ _, hb1⟩
end Go.Proofs.YtdmmbnnejbmdpaaGreatDoor
end
section
namespace Go.Proofs.YtdmmbnnejbmdpaaGreatDoor
open Go.Lib Go.RowKit Go.ChangeShapes Go.WideShapes Go.Deep Go.Shelf
theorem find_snoc {l : List Ob} {k : Nat} {P : Ob → Bool} (h : k < l.length) (hn : (l.take k).find? P = none) : (l.take (k + 1)).find? P = (if P (l.getD k default) = true then some (l.getD k default) else none) := by
 rw [List.take_succ_eq_append_getElem h, List.find?_append, hn, List.getD_eq_getElem?_getD, List.getElem?_eq_getElem h]
 show (List.find? P [l[k]]) = (if P l[k] = true then some l[k] else none)
 rw [List.find?_cons]
 cases P l[k] <;> rfl
theorem find_pre {l : List Ob} {k : Nat} {P : Ob → Bool} {x : Ob} (h : (l.take k).find? P = some x) : l.find? P = some x := by
 have e : l = l.take k ++ l.drop k := (List.take_append_drop k l).symm
 rw [e, List.find?_append, h]
 rfl
theorem st3_at {w : World} {b : Nat} {x y z x' y' z' : Value} {t : TypeId} (h : HB w b #[x, y, z] t) :
 (((w.setCell ⟨b, 0, none⟩ x').setCell ⟨b, 1, none⟩ y').setCell ⟨b, 2, none⟩ z').cell? ⟨b, 0, none⟩ = some x' ∧ (((w.setCell ⟨b, 0, none⟩ x').setCell ⟨b, 1, none⟩ y').setCell ⟨b, 2, none⟩ z').cell? ⟨b, 1, none⟩ = some y' ∧ (((w.setCell ⟨b, 0, none⟩ x').setCell ⟨b, 1, none⟩ y').setCell ⟨b, 2, none⟩ z').cell? ⟨b, 2, none⟩ = some z' := by
 have g : HB _ b #[x', y', z'] t := ((h.setC 0 x').setC 1 y').setC 2 z'
 exact ⟨(row_cell g 0).1, (row_cell g 1).1, (row_cell g 2).1⟩
theorem Root_f (v : Value) (I : List Nat) (w : World) (hw : Lw w) (hW : WL I) (hv : KL .u64 w v I) (hN8 : I.length ≤ 800) (hsd : soundB I = false) :
 Calls Tryz.prog 18 #[v] w fun e w' => e = .returned (.agg #[.int .i64 0, .int .i64 0, .int .u64 0]) ∧ Below w.heap.size w w' := by
 have e1 := bZ w (.cells #[.int .i64 0, .int .i64 0, .int .u64 0] 42)
 have gR := HB.new w #[.int .i64 0, .int .i64 0, .int .u64 0] 42
 obtain ⟨wa, hwa⟩ : ∃ x, w.alloc (.cells #[.int .i64 0, .int .i64 0, .int .u64 0] 42) = x := ⟨_, rfl⟩
 rw [hwa] at e1 gR
 have hSo := sound_any v I wa (hw.keep e1) hW (hv.keep e1) hN8
 rw [hsd] at hSo
 simp only [Bool.false_eq_true, if_false] at hSo
 obtain ⟨A, c, hve, -⟩ := hv.form rfl
 generalize I.length = N at hve
 subst hve
 clear hv hW hw hN8 hsd
 go_enter Tryz.func18, Tryz.ntmps18
 subst hwa
 go_wp2_with fail
 refine hSo.mono ?_
 rintro e w1 ⟨rfl, hb1⟩
 have hB1 := e1.trans (hb1.mono e1.size)
 have gR1 := gR.keep hb1
 obtain ⟨a0, b0⟩ := row_cell gR1 0
 obtain ⟨a1, b1⟩ := row_cell gR1 1
 obtain ⟨a2, b2⟩ := row_cell gR1 2
 obtain ⟨d0, d1, d2⟩ := st3_at (x' := .int .i64 0) (y' := .int .i64 0) (z' := .int .u64 0) gR1
 have hBe := ((hB1.setCell (p := ⟨w.heap.size, 0, none⟩) (Nat.le_refl _) (.int .i64 0)).setCell (p := ⟨w.heap.size, 1, none⟩) (Nat.le_refl _) (.int .i64 0)).setCell (p := ⟨w.heap.size, 2, none⟩) (Nat.le_refl _) (.int .u64 0)
 go_wp2_with fail
 refine bodyPost_ret (v := .agg #[.int .i64 0, .int .i64 0, .int .u64 0]) (by simp [results, Tryz.results18, go_sem, d0, d1, d2]) rfl ⟨rfl, hBe⟩
theorem Root_t (v : Value) (I : List Nat) (w : World) (hw : Lw w) (hW : WL I) (hv : KL .u64 w v I) (hN8 : I.length ≤ 800) (hsd : soundB I = true) :
 Calls Tryz.prog 18 #[v] w fun e w' => e = .returned (.agg #[.int .i64 ((rootO I).1 : Nat), .int .i64 ((rootO I).2.1 : Nat), .int .u64 ((rootO I).2.2 : Nat)]) ∧ Below w.heap.size w w' := by
 have hro : rootO I = rootL I (objsP I (I.getD 3 0)) := by unfold rootO; rw [if_pos hsd]
 rw [hro]
 obtain ⟨hs, hri, hal⟩ := sound_parts hsd
 have e1 := bZ w (.cells #[.int .i64 0, .int .i64 0, .int .u64 0] 42)
 have gR := HB.new w #[.int .i64 0, .int .i64 0, .int .u64 0] 42
 obtain ⟨wa, hwa⟩ : ∃ x, w.alloc (.cells #[.int .i64 0, .int .i64 0, .int .u64 0] 42) = x := ⟨_, rfl⟩
 rw [hwa] at e1 gR
 have hSo := sound_any v I wa (hw.keep e1) hW (hv.keep e1) hN8
 rw [if_pos hsd] at hSo
 have hR := lh (fun w1 (hb : Below w.heap.size w w1) => read_t v I w1 hW (hv.keep hb) hs)
 obtain ⟨g, off, cap, rfl, hp⟩ := pool_of hw hW hv hN8 hs
 have h116 := hp.cap.2
 obtain ⟨N, hN⟩ : ∃ N, I.length = N := ⟨_, rfl⟩
 have hgI := hp.hs
 have hbx := fun x (hx : x ∈ objsP I (I.getD 3 0)) => (objsP_mem hW hgI hN8 hx).2.1
 obtain ⟨L, hL⟩ : ∃ L, I.getD 3 0 = L := ⟨_, rfl⟩
 have hlen := objsP_len hp.hN hp.hN8 hp.hs
 rw [hN, hL] at hR hp
 rw [hL] at hal hbx hlen ⊢
 rw [hN] at h116 hSo ⊢
 have hOb := lh (fun w1 (hb : Below w.heap.size w w1) => (hp.keep hb).objs)
 have hcl := lh (fun w1 (hb : Below w.heap.size w w1) => (hp.keep hb).cell 8 (by omega))
 rw [hal] at hOb
 generalize objsP I L = l at *
 obtain ⟨n, hn⟩ : ∃ n, l.length = n := ⟨_, rfl⟩
 rw [hn] at hlen
 obtain ⟨rt, hrt⟩ : ∃ x, I.getD 8 0 = x := ⟨_, rfl⟩
 simp only [hrt] at hcl
 have hrl : rootL I l = ((l.find? fun o => decide (o.1 = rt)).map fun o => (o.1, o.2.1, o.2.2.2)).getD (0, 0, 0) := by unfold rootL; rw [hrt]
 obtain ⟨ans, hans⟩ : ∃ a, rootL I l = a := ⟨_, rfl⟩
 rw [hans]
 rw [hrl] at hans
 have hxb := lh (fun k (hk : k < n) => show (l.getD k default).1 < 1000000 from hbx _ (by rw [List.getD_eq_getElem?_getD, List.getElem?_eq_getElem (by omega)]; exact List.getElem_mem _))
 have hsn := lh (fun k (hk : k < n) (h : (l.take k).find? (fun o => decide (o.1 = rt)) = none) => find_snoc (l := l) (k := k) (by omega) h)
 have hta := lh (show l.take n = l from List.take_of_length_le (by omega))
 have hNm := lh (fun (p t s n9 : Nat) w1 => name_any (p : Nat) (t : Nat) (s : Nat) (n9 : Nat) w1)
 replace hans := lh hans
 replace hn := lh hn
 replace hN := lh hN
 replace hL := lh hL
 have h8 : (8 : Int) < (N : Int) := by omega
 clear hbx hp hal hri hs hsd hgI hv hW hw hN8 hro hrl hrt
 go_enter Tryz.func18, Tryz.ntmps18
 subst hwa
 go_wp2_with fail
 refine hSo.mono ?_
 rintro e w1 ⟨rfl, hb1⟩
 have hB1 := e1.trans (hb1.mono e1.size)
 have gR1 := gR.keep hb1
 have hR1 := hR.out _ hB1
 clear hSo gR hR hb1 e1
 go_wp2_with fail
 refine hR1.mono ?_
 rintro e w2 ⟨rfl, hb2⟩
 have hB2 := hB1.trans (hb2.mono hB1.size)
 have gR2 := gR1.keep hb2
 have hO2 := hOb.out _ hB2
 clear hR1 hB1 hb2 hOb gR1
 go_wp2_with fail
 refine hO2.mono ?_
 rintro e w3 ⟨v3, rfl, ho3, hb3⟩
 have hB3 := hB2.trans (hb3.mono hB2.size)
 have gR3 := gR2.keep hb3
 obtain ⟨A3, c3, rfl, -⟩ := OBO.formO ho3 hn.out
 clear hO2 hB2 hb3 gR2
 go_wp2_with fail
 go_loopw [19] (fun i wr => ∃ (j : Nat), j ≤ n ∧ i = .int .i64 (j : Nat) ∧ Hid ((l.take j).find? (fun o => decide (o.1 = rt)) = none) ∧ Below w3.heap.size w3 wr) (fun i _ => n + 1 - (intOf i).toNat)
 case atStart => exact ⟨0, Nat.zero_le _, rfl, lh (by simp), Below.refl _ _⟩
 case round =>
  obtain ⟨j, hj, rfl, hno, hBr⟩ := hrel
  have hBw := hB3.trans (hBr.mono hB3.size)
  have gRr := gR3.keep hBr
  by_cases hlt : j < n
  ·have hlt' : (j : Int) < (n : Int) := by omega
   obtain ⟨A4, c4, hv4, hF⟩ := OBO.formO (ho3.keep hBr) hn.out
   cases hv4
   obtain ⟨g5, o5, rfl, hc5, hg5, k0, k1, k2, k3⟩ := hF j hlt
   have hxb1 := hxb.out j hlt
   have hsn1 := hsn.out j hlt hno.out
   generalize l.getD j default = b at *
   obtain ⟨p, t, s, n9⟩ := b
   simp only [] at k0 k1 k2 k3 hxb1 hsn1
   have z1 : IntKind.u64.wrap (p : Int) = (p : Int) := by rw [IntKind.wrap_u64]; omega
   have hNm1 := lh (hNm.out p t s n9)
   have e4 := bZ wr (.cells #[.int .i64 (p : Nat), .int .i64 (t : Nat), .int .i64 (s : Nat), .int .u64 (n9 : Nat)] 95)
   have gO := HB.new wr #[.int .i64 (p : Nat), .int .i64 (t : Nat), .int .i64 (s : Nat), .int .u64 (n9 : Nat)] 95
   obtain ⟨w4, hw4⟩ : ∃ x, wr.alloc (.cells #[.int .i64 (p : Nat), .int .i64 (t : Nat), .int .i64 (s : Nat), .int .u64 (n9 : Nat)] 95) = x := ⟨_, rfl⟩
   rw [hw4] at e4 gO
   obtain ⟨K, hK⟩ : ∃ K, wr.heap.size = K := ⟨_, rfl⟩
   rw [hK] at gO
   have hB4 := hBr.trans (e4.mono hBr.size)
   have gR4 := gRr.keep e4
   have hCF := lh (fun w' (hb : Below w4.heap.size w4 w') => show w'.cell? ⟨K, 0, none⟩ = some (.int .i64 (p : Nat)) ∧ w'.cell? ⟨g, off + 8, none⟩ = some (.int .u64 (rt : Nat)) from
    ⟨(row_cell (gO.keep hb) 0).1, hcl.out w' ((hB3.trans (hB4.mono hB3.size)).trans (hb.mono (hB3.trans (hB4.mono hB3.size)).size))⟩)
   clear hF e4 hno gRr
   by_cases hpr : p = rt
   ·subst hpr
    have hf := lh (show ans = (p, t, n9) from by
     rw [← hans.out]
     rw [if_pos (by exact decide_eq_true rfl)] at hsn1
     rw [find_pre hsn1]
     rfl)
    clear hsn1
    go_wp2_with fail
    refine wp_region_held_drew (S := (fun w' => Below w4.heap.size w4 w')) (by kernel_rfl) (Below.refl _ _).drew (fun hHeld => ?_)
    refine takeH 0 ?_
    refine takeH 1 ?_
    refine takeH 2 ?_
    refine takeH 3 ?_
    refine takeH 4 ?_
    refine takeH 5 ?_
    refine takeH 6 ?_
    refine wpAnyH_done (by kernel_rfl) ?_ _
    have hB5 := hB4.trans (hHeld.mono hB4.size)
    have gO5 := gO.keep hHeld
    have gR5 := gR4.keep hHeld
    have q0 := (row_cell gO5 0).1
    have q1 := (row_cell gO5 1).1
    have q2 := (row_cell gO5 2).1
    have q3 := (row_cell gO5 3).1
    have hNm5 := fun w1 => hNm1.out w1
    unfold nV at hNm5
    replace hNm5 := lh hNm5
    clear hCF hHeld gO gR4
    go_wp2_with fail
    refine (hNm5.out _).mono ?_
    rintro e w6 ⟨rfl, hb6⟩
    have hB6 := hB5.trans (hb6.mono hB5.size)
    have gR6 := gR5.keep hb6
    obtain ⟨a0, b0⟩ := row_cell gR6 0
    obtain ⟨a1, b1⟩ := row_cell gR6 1
    obtain ⟨a2, b2⟩ := row_cell gR6 2
    obtain ⟨d0, d1, d2⟩ := st3_at (x' := .int .i64 (p : Nat)) (y' := .int .i64 (t : Nat)) (z' := .int .u64 (n9 : Nat)) gR6
    have hBw6 := hB3.trans (hB6.mono hB3.size)
    have hBe := ((hBw6.setCell (p := ⟨w.heap.size, 0, none⟩) (Nat.le_refl _) (.int .i64 (p : Nat))).setCell (p := ⟨w.heap.size, 1, none⟩) (Nat.le_refl _) (.int .i64 (t : Nat))).setCell (p := ⟨w.heap.size, 2, none⟩) (Nat.le_refl _) (.int .u64 (n9 : Nat))
    clear q0 q1 q2 q3 gO5 gR5 hb6
    go_wp2_with fail
    refine bodyPost_ret (v := .agg #[.int .i64 (p : Nat), .int .i64 (t : Nat), .int .u64 (n9 : Nat)]) (by simp [results, Tryz.results18, go_sem, d0, d1, d2]) rfl ⟨by rw [hf.out], hBe⟩
   ·have hpr' : ¬ (p : Int) = (rt : Int) := by omega
    have hpr2 : ((p : Int) == (rt : Int)) = false := beq_eq_false_iff_ne.2 hpr'
    have hs2 := lh (show (l.take (j + 1)).find? (fun o => decide (o.1 = rt)) = none from by
     rw [if_neg (by rw [decide_eq_false hpr]; decide)] at hsn1
     exact hsn1)
    clear hsn1
    go_wp2_with fail
    refine wp_region_held_drew (S := (fun w' => Below w4.heap.size w4 w')) (by kernel_rfl) (Below.refl _ _).drew (fun hHeld => ?_)
    refine takeH 0 ?_
    refine takeH 1 ?_
    refine takeH 2 ?_
    refine takeH 3 ?_
    refine takeH 4 ?_
    refine takeH 5 ?_
    refine takeH 6 ?_
    refine wpAnyH_done (by kernel_rfl) ?_ _
    have hB5 := hB4.trans (hHeld.mono hB4.size)
    clear hCF hHeld gO gR4
    go_wp2_with fail
    go_roundw
    case rel => exact ⟨j + 1, by omega, by go_num, hs2, hB5⟩
    case measure => first | (simp [intOf]; done) | (simp [intOf]; omega)
  ·obtain rfl : n = j := by omega
   have hlt' : ¬ (n : Int) < (n : Int) := by omega
   have hf := lh (show ans = (0, 0, 0) from by rw [← hans.out]; have h := hno.out; rw [hta.out] at h; rw [h]; rfl)
   obtain ⟨a0, b0⟩ := row_cell gRr 0
   obtain ⟨a1, b1⟩ := row_cell gRr 1
   obtain ⟨a2, b2⟩ := row_cell gRr 2
   obtain ⟨d0, d1, d2⟩ := st3_at (x' := .int .i64 0) (y' := .int .i64 0) (z' := .int .u64 0) gRr
   have hBe := ((hBw.setCell (p := ⟨w.heap.size, 0, none⟩) (Nat.le_refl _) (.int .i64 0)).setCell (p := ⟨w.heap.size, 1, none⟩) (Nat.le_refl _) (.int .i64 0)).setCell (p := ⟨w.heap.size, 2, none⟩) (Nat.le_refl _) (.int .u64 0)
   go_wp2_with fail
   refine bodyPost_ret (v := .agg #[.int .i64 0, .int .i64 0, .int .u64 0]) (by simp [results, Tryz.results18, go_sem, d0, d1, d2]) rfl ⟨by rw [hf.out]; rfl, hBe⟩
theorem Root_any (v : Value) (I : List Nat) (w : World) (hw : Lw w) (hW : WL I) (hv : KL .u64 w v I) (hN8 : I.length ≤ 800) :
 Calls Tryz.prog 18 #[v] w fun e w' => e = .returned (.agg #[.int .i64 ((rootO I).1 : Nat), .int .i64 ((rootO I).2.1 : Nat), .int .u64 ((rootO I).2.2 : Nat)]) ∧ Below w.heap.size w w' := by
 cases hsd : soundB I with
 | true => exact Root_t v I w hw hW hv hN8 hsd
 | false =>
   have e : rootO I = (0, 0, 0) := by unfold rootO; rw [hsd]; rfl
   rw [e]
   exact Root_f v I w hw hW hv hN8 hsd
end Go.Proofs.YtdmmbnnejbmdpaaGreatDoor
end
section
namespace Go.Proofs.YtdmmbnnejbmdpaaGreatDoor
open Go.Lib Go.RowKit Go.ChangeShapes Go.WideShapes Go.Deep Go.Shelf
def posB (b : Bl) : Nat := b.1 * 32 + b.2.1 * b.2.2
def runU : List Nat → Nat → Option Nat
 | [], r => some r
 | x :: u, r => (stepT x r).bind (runU u)
theorem runU_of (t : List Nat) : ∀ d k, k + d = t.length → (runT t k).bind (runU (t.drop k)) = runT t t.length
 | 0, k, h => by
   have e : k = t.length := by omega
   subst e
   rw [List.drop_length]
   cases runT t t.length <;> rfl
 | d + 1, k, h => by
   rw [← runU_of t d (k + 1) (by omega), List.drop_eq_getElem_cons (show k < t.length by omega)]
   rw [runT]
   have e : t.getD k 0 = t[k]'(by omega) := by rw [List.getD_eq_getElem?_getD, List.getElem?_eq_getElem (by omega)]; rfl
   rw [e]
   cases runT t k with
   | none => rfl
   | some r => rfl
theorem step_of {x r q : Nat} (h : stepT x r = some q) : (kN x = 3 ∧ 0 < r ∧ q = r - 1) ∨ (kN x = 2 ∧ r = 0 ∧ q = mN x - 1) ∨ (¬ kN x = 3 ∧ ¬ kN x = 2 ∧ r = 0 ∧ q = 0) := by
 unfold stepT at h
 split at h
 ·rename_i hd
  simp only [Option.some.injEq] at h
  by_cases h3 : kN x = 3
  ·rw [if_pos h3] at h
   rw [decide_eq_true h3] at hd
   exact .inl ⟨h3, of_decide_eq_true hd.symm, h.symm⟩
  ·rw [if_neg h3] at h
   rw [decide_eq_false h3] at hd
   have hr : ¬ 0 < r := of_decide_eq_false hd.symm
   by_cases h2 : kN x = 2
   ·rw [if_pos h2] at h; exact .inr (.inl ⟨h2, by omega, h.symm⟩)
   ·rw [if_neg h2] at h; exact .inr (.inr ⟨h3, h2, by omega, by omega⟩)
 ·cases h
theorem runU_len : ∀ (u : List Nat) (r : Nat), runU u r = some 0 → r ≤ u.length
 | [], r, h => by cases h; exact Nat.zero_le _
 | x :: u, r, h => by
   rw [runU] at h
   cases hs : stepT x r with
   | none => rw [hs] at h; cases h
   | some q =>
     rw [hs] at h
     have h1 := runU_len u q h
     have h2 := step_of hs
     simp only [List.length_cons]
     omega
theorem live_asc (b m : Nat) : (liveL b m).Pairwise (· < ·) := by unfold liveL; exact List.Pairwise.filter _ List.pairwise_lt_range
theorem live_in {b m j : Nat} (h : j ∈ liveL b m) : j < m := by unfold liveL at h; exact List.mem_range.1 (List.mem_filter.1 h).1
theorem cls16 (c : Nat) (h : c < 3) : 1 ≤ blN c ∧ ∀ j, j < mnN c → j * blN c + blN c ≤ 32 := by
 have h3 : c = 0 ∨ c = 1 ∨ c = 2 := by omega
 rcases h3 with rfl | rfl | rfl <;> refine ⟨by decide, fun j hj => ?_⟩
 ·have : mnN 0 = 8 := rfl
  show j * 4 + 4 ≤ 32
  omega
 ·have : mnN 1 = 4 := rfl
  show j * 8 + 8 ≤ 32
  omega
 ·have : mnN 2 = 2 := rfl
  show j * 16 + 16 ≤ 32
  omega
theorem at_pos {i x r q : Nat} (hr : RightN x) (hs : stepT x r = some q) {b : Bl} (hb : b ∈ blksAt i x) : (i + r) * 32 ≤ posB b ∧ posB b + b.2.2 ≤ (i + 1 + q) * 32 := by
 have h2 := step_of hs
 unfold blksAt at hb
 unfold RightN at hr
 split at hb
 ·rename_i hk
  obtain ⟨j, hj, rfl⟩ := List.mem_map.1 hb
  have hj2 := (cls16 (cN x) (by omega)).2 j (live_in hj)
  unfold posB
  simp only []
  omega
 ·split at hb
  ·rename_i hk
   rw [List.mem_singleton] at hb
   subst hb
   unfold posB
   simp only [Nat.zero_mul]
   omega
  ·cases hb
theorem at_asc {i x : Nat} (hr : RightN x) : (blksAt i x).Pairwise (fun a b => posB a + a.2.2 ≤ posB b) := by
 unfold blksAt
 split
 ·rename_i hk
  rw [List.pairwise_map]
  refine (live_asc _ _).imp (fun {j k} hjk => ?_)
  unfold posB
  simp only []
  have h1 : (j + 1) * blN (cN x) ≤ k * blN (cN x) := Nat.mul_le_mul_right _ hjk
  rw [Nat.succ_mul] at h1
  omega
 ·split
  ·exact List.pairwise_singleton _ _
  ·exact List.Pairwise.nil
theorem asc_from : ∀ (u : List Nat) (i r : Nat), (∀ x ∈ u, okN x = true) → runU u r = some 0 →
 (blksFrom i u).Pairwise (fun a b => posB a + a.2.2 ≤ posB b) ∧ ∀ b ∈ blksFrom i u, (i + r) * 32 ≤ posB b ∧ posB b + b.2.2 ≤ (i + u.length) * 32
 | [], i, r, ho, h => ⟨List.Pairwise.nil, fun b hb => by cases hb⟩
 | x :: u, i, r, ho, h => by
   have hr : RightN x := okN_t (ho x (List.mem_cons_self ..))
   rw [runU] at h
   cases hs : stepT x r with
   | none => rw [hs] at h; cases h
   | some q =>
     rw [hs] at h
     have h' : runU u q = some 0 := h
     obtain ⟨ih1, ih2⟩ := asc_from u (i + 1) q (fun y hy => ho y (List.mem_cons_of_mem _ hy)) h'
     have hlen := runU_len u q h'
     have hst := step_of hs
     rw [blksFrom, List.pairwise_append]
     simp only [List.length_cons]
     refine ⟨⟨at_asc hr, ih1, fun a ha b hb => ?_⟩, fun b hb => ?_⟩
     ·have h1 := (at_pos hr hs ha).2
      have h2 := (ih2 b hb).1
      omega
     ·rcases List.mem_append.1 hb with hb | hb
      ·have h1 := at_pos hr hs hb
       omega
      ·have h1 := ih2 b hb
       omega
theorem asc_T {t : List Nat} (h : rightT t = true) : (blksT t).Pairwise (fun a b => posB a + a.2.2 ≤ posB b) ∧ ∀ b ∈ blksT t, posB b + b.2.2 ≤ t.length * 32 := by
 obtain ⟨h1, h2⟩ := rightT_t h
 have h3 := runU_of t t.length 0 (by omega)
 rw [List.drop_zero, h2] at h3
 have h4 : runU t 0 = some 0 := h3
 obtain ⟨h5, h6⟩ := asc_from t 0 0 (fun x hx => List.all_eq_true.1 h1 x hx) h4
 unfold blksT
 rw [if_pos h1]
 exact ⟨h5, fun b hb => by have := (h6 b hb).2; omega⟩
theorem plc_pos (N L : Nat) (b : Bl) : plc N L b = 10 + 73 * L + gNat N L + posB b := by unfold plc posB; omega
theorem objE_bd {I : List Nat} {L : Nat} {b : Bl} (hb4 : 1 ≤ b.2.2) (h : (objH I L b).isSome = true) : (objE I L b).1 = plc I.length L b ∧ (objE I L b).2.2.1 + 2 ≤ b.2.2 ∧ 1 ≤ (objE I L b).2.1 ∧ (objE I L b).2.1 ≤ 65535 ∧ 1 ≤ (objE I L b).2.2.2 := by
 unfold objE objH at *
 rcases hd : hdAt I (plc I.length L b) with _ | ⟨t, s, n⟩
 ·rw [hd] at h; cases h
 ·rw [hd] at h
  simp only at h ⊢
  split at h
  ·rename_i hrm
   rw [if_pos hrm]
   have h1 := romJ_ge s b.2.2 hrm hb4
   have h2 := decH_bd hd
   show plc I.length L b = plc I.length L b ∧ s + 2 ≤ b.2.2 ∧ 1 ≤ t ∧ t ≤ 65535 ∧ 1 ≤ n
   omega
  ·cases h
theorem objs_asc {I : List Nat} (h : soundB I = true) (hN8 : I.length ≤ 800) : (objsP I (I.getD 3 0)).Pairwise (fun a b => a.1 + 2 + a.2.2.1 ≤ b.1) ∧ ∀ o ∈ objsP I (I.getD 3 0), 10 + 73 * I.getD 3 0 + gNat I.length (I.getD 3 0) ≤ o.1 ∧ o.1 + 2 + o.2.2.1 ≤ I.length ∧ 1 ≤ o.2.1 ∧ o.2.1 ≤ 65535 ∧ 1 ≤ o.2.2.2 := by
 obtain ⟨hs, hr, hal⟩ := sound_parts h
 have hg : gOk (I.length : Nat) (I.getD 3 0 : Nat) = true := by
  unfold sOk at hs
  simp only [Bool.and_eq_true] at hs
  exact hs.2.1
 generalize I.getD 3 0 = L at *
 obtain ⟨s1, s2, s3, s4, s5, s6, s7, s8⟩ := pool_size hg
 have htl := tab_len hg
 obtain ⟨h1, h2⟩ := asc_T hr
 rw [htl] at h2
 unfold objsP
 rw [if_pos hal]
 have hall : ∀ b ∈ blI I L, (objH I L b).isSome = true := fun b hb => List.all_eq_true.1 hal b hb
 have hge : ∀ b ∈ blI I L, 1 ≤ b.2.2 := fun b hb => by have := (plc_bd hg hb).2.2.2.1; omega
 refine ⟨?_, fun o ho => ?_⟩
 ·rw [List.pairwise_map]
  refine List.Pairwise.imp_of_mem (fun {a b} ha hb hab => ?_) h1
  obtain ⟨p1, p2, -⟩ := objE_bd (hge a ha) (hall a ha)
  obtain ⟨q1, -⟩ := objE_bd (hge b hb) (hall b hb)
  rw [p1, q1, plc_pos, plc_pos]
  omega
 ·obtain ⟨b, hb, rfl⟩ := List.mem_map.1 ho
  obtain ⟨p1, p2, p3, p4, p5⟩ := objE_bd (hge b hb) (hall b hb)
  have h3 := h2 b hb
  rw [p1, plc_pos]
  refine ⟨by omega, ?_, p3, p4, p5⟩
  omega
theorem distR_at {l : List Nat} {n : Nat} (h : distR l n = true) {i j : Nat} (hi : i < n) (hj : j < i) : ¬ l.getD j 0 = l.getD i 0 := by
 have h1 := List.all_eq_true.1 h i (List.mem_range.2 hi)
 have h2 := List.all_eq_true.1 h1 j (List.mem_range.2 hj)
 rw [Bool.not_eq_true'] at h2
 exact of_decide_eq_false h2
theorem sound_dist {I : List Nat} (h : soundB I = true) : distR (serO (objsP I (I.getD 3 0))) (objsP I (I.getD 3 0)).length = true := by
 unfold soundB at h
 simp only [Bool.and_eq_true] at h
 exact h.2.2.2.2.1
theorem apart_at {I : List Nat} (hN8 : I.length ≤ 800) {k : Nat} (hk : k < (objL I).length) :
 soundB I = true ∧ 10 + 73 * I.getD 3 0 + gNat I.length (I.getD 3 0) ≤ ((objL I).getD k default).1.1 ∧ ((objL I).getD k default).1.1 + 2 + ((objL I).getD k default).2.length ≤ I.length ∧
 1 ≤ ((objL I).getD k default).1.2.1 ∧ ((objL I).getD k default).1.2.1 ≤ 65535 ∧ 1 ≤ ((objL I).getD k default).1.2.2 ∧
 (∀ j, j < k → ((objL I).getD j default).1.1 + 2 + ((objL I).getD j default).2.length ≤ ((objL I).getD k default).1.1) ∧ ∀ j, j < k → ¬ ((objL I).getD j default).1.2.2 = ((objL I).getD k default).1.2.2 := by
 cases hs : soundB I with
 | false => unfold objL at hk; rw [hs] at hk; simp at hk
 | true =>
   obtain ⟨h1, h2⟩ := objs_asc hs hN8
   have h3 := sound_dist hs
   unfold objL at hk ⊢
   rw [if_pos hs] at hk ⊢
   generalize I.getD 3 0 = L at *
   generalize objsP I L = P at *
   rw [List.length_map] at hk
   have hget : ∀ j, j < P.length → (P.map (ojOf I)).getD j default = ojOf I (P.getD j default) := fun j hj => by
    rw [List.getD_eq_getElem?_getD, List.getD_eq_getElem?_getD, List.getElem?_map, List.getElem?_eq_getElem hj]; rfl
   have hmem : ∀ j, j < P.length → P.getD j default ∈ P := fun j hj => by
    rw [List.getD_eq_getElem?_getD, List.getElem?_eq_getElem hj]; exact List.getElem_mem hj
   have hser : ∀ j, j < P.length → (serO P).getD j 0 = (P.getD j default).2.2.2 := fun j hj => by
    unfold serO
    rw [List.getD_eq_getElem?_getD, List.getD_eq_getElem?_getD, List.getElem?_map, List.getElem?_eq_getElem hj]; rfl
   have hlen : ∀ j, j < P.length → (ojOf I (P.getD j default)).2.length = (P.getD j default).2.2.1 := fun j hj => by
    have q := (h2 _ (hmem j hj)).2.1
    unfold ojOf
    rw [List.length_take, List.length_drop]
    omega
   obtain ⟨q1, q2, q3, q4, q5⟩ := h2 _ (hmem k hk)
   refine ⟨rfl, ?_, ?_, ?_, ?_, ?_, fun j hj => ?_, fun j hj => ?_⟩
   ·rw [hget k hk]; exact q1
   ·rw [hget k hk, hlen k hk]; exact q2
   ·rw [hget k hk]; exact q3
   ·rw [hget k hk]; exact q4
   ·rw [hget k hk]; exact q5
   ·rw [hget k hk, hget j (by omega), hlen j (by omega)]
    have := List.pairwise_iff_getElem.1 h1 j k (by omega) hk hj
    have e1 : P.getD j default = P[j]'(by omega) := by rw [List.getD_eq_getElem?_getD, List.getElem?_eq_getElem (by omega)]; rfl
    have e2 : P.getD k default = P[k] := by rw [List.getD_eq_getElem?_getD, List.getElem?_eq_getElem hk]; rfl
    rw [e1, e2]
    exact this
   ·rw [hget k hk, hget j (by omega)]
    have := distR_at h3 hk hj
    rw [hser k hk, hser j (by omega)] at this
    exact this
end Go.Proofs.YtdmmbnnejbmdpaaGreatDoor
end
