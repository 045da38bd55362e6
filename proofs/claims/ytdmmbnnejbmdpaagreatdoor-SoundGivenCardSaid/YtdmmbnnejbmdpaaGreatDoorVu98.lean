/-
  Part of the proof of SoundTells,SoundGiven.
-/
import Derived.Test.YtdmmbnnejbmdpaaGreatDoorVu91
import Derived.Test.YtdmmbnnejbmdpaaGreatDoorVu919
import Derived.Test.YtdmmbnnejbmdpaaGreatDoorVu92
import Derived.Test.YtdmmbnnejbmdpaaGreatDoorVu920
import Derived.Test.YtdmmbnnejbmdpaaGreatDoorVu93
import Derived.Test.YtdmmbnnejbmdpaaGreatDoorVu94
import Derived.Test.YtdmmbnnejbmdpaaGreatDoorVu95
import Derived.Test.YtdmmbnnejbmdpaaGreatDoorVu97
import Derived.Carry
import Derived.ChangeSlices
import Derived.Deep.SlicePairs
import Derived.OwnWalk
import Derived.Test.YtdmmbnnejbmdpaaGreatDoorVu90
set_option maxRecDepth 10000
set_option maxHeartbeats 1000000
set_option linter.unusedVariables false
set_option linter.unusedSimpArgs false
section
namespace Go.Proofs.YtdmmbnnejbmdpaaGreatDoor
open Go.RowKit
theorem ret_g {a b c d : Int} (h : a = b) (h' : c = d) : Ending.returned (.agg #[.int .i64 a, .int .i64 c]) = .returned (.agg #[.int .i64 b, .int .i64 d]) := by rw [h, h']
theorem field1 (x y : Int) (w : World) : (Instr.field 57 (.agg #[.int .i64 x, .int .i64 y]) 1).run Tryz.prog w = .ok (.int .i64 y) w := by kernel_rfl
theorem field0 (x y : Int) (w : World) : (Instr.field 57 (.agg #[.int .i64 x, .int .i64 y]) 0).run Tryz.prog w = .ok (.int .i64 x) w := by kernel_rfl
theorem chunks_t (W L : Int) (w : World) (h : gOk W L = true) :
 Calls Tryz.prog 118 #[.agg #[.int .i64 W, .int .i64 L]] w fun e w' => e = .returned (.int .i64 (gN W L)) ∧ Below w.heap.size w w' := by
 have H := lh h
 clear h
 have hfd := field1
 go_enter Tryz.func118, Tryz.ntmps118
 go_wp2_with fail
 refine (table_t W L _ H.out).mono ?_
 rintro e w1 ⟨rfl, hb⟩
 go_wp2_with fail
 go_ret
 exact ⟨rfl, (bZ _ _).trans (hb.mono (by simp))⟩
def cFrom (W L i : Int) : Int := 10 + 73 * L + gN W L + i * 32
end Go.Proofs.YtdmmbnnejbmdpaaGreatDoor
end
section
namespace Go.Proofs.YtdmmbnnejbmdpaaGreatDoor
open Go.RowKit
theorem infoInt : (Tryz.prog.info? 3).map (fun i => (i.zero, i.size, i.bytes)) = some (some (.int .i64 0), 1, 8) := by kernel_rfl
def OwnI (w : World) (base : Nat) (v : Value) (l : List Int) : Prop := w.ownsRow base 3 1 v l.length (l.map fun x : Int => Value.int .i64 x)
theorem OwnI.keep {w w1 : World} {base : Nat} {v : Value} {l : List Int} (h : OwnI w base v l) (hb : Below w.heap.size w w1) : OwnI w1 base v l := by
 refine ⟨h.1, ?_⟩
 rcases h.2 with h2 | ⟨g, cap, cur, hv, hbg, hg, h1, h2, h3, h4⟩
 ·exact .inl h2
 ·exact .inr ⟨g, cap, cur, hv, hbg, by rw [hb.block g (Array.getElem?_eq_some_iff.1 hg).1]; exact hg, h1, h2, h3, h4⟩
theorem appI {w : World} {base g : Nat} {y : Int} {v : Value} {l : List Int} (hown : OwnI w base v l) (hx : w.cell? ⟨g, 0, none⟩ = some (.int .i64 y)) (hb : base ≤ w.heap.size) (hsm : l.length ≤ 2000000) :
 ∃ v' w', (Builtin.append_ #[86, 86] 86 #[v, .slice (some ⟨g, 0, none⟩) 1 1]).run Tryz.prog w = .ok v' w' ∧ OwnI w' base v' (l ++ [y]) ∧ Below base w w' := by
 obtain ⟨i0, hi, hz0, hz1, hz2⟩ := info_parts infoInt
 obtain ⟨v', w', hrun, h1, h2, _, h4⟩ := run_append_own_at (P := Tryz.prog) w base 86 86 3 i0 (.int .i64 0) 1 8 Tryz.underlying86 hi hz0 hz1 hz2 rfl (by decide) v l.length _ hown ⟨g, 0, none⟩ 1 1 [.int .i64 y] rfl
  (fun j u hj => by
    match j, hj with
    | 0, hj => simp only [List.getElem?_cons_zero] at hj; rw [← hj]; simpa [Addr.add] using hx
    | j + 1, hj => simp at hj) (by simp [Value.oneCell']) (by unfold maxLen; omega) (by omega) hb
 refine ⟨v', w', hrun, ?_, (Below.refl base w).grown h2 hb (fun j hj => (World.ownsRow.lt hown j hj).1)⟩
 unfold OwnI
 rw [List.length_append, List.map_append]
 exact h1
theorem placesL_tk (l : List Sp) (h : PBs l) (k : Nat) (hk : k ≤ l.length) : (placesL (l.take k)).length ≤ 1000 * k := by
 have hp : PBs (l.take k) := fun x hx => h x (List.mem_of_mem_take hx)
 have h1 := placesL_len (l.take k) hp
 have h2 := totS_le (l.take k) hp
 rw [List.length_take, Nat.min_eq_left hk] at h2
 omega
theorem refPlaces_any (v : Value) (l : List Sp) (w : World) (hl : PBs l) (hlen : l.length ≤ 1000) (hv : PL w v l) :
 Calls Tryz.prog 90 #[v] w fun e w' => ∃ v', e = .returned v' ∧ OwnI w' w.heap.size v' (placesL l) ∧ Below w.heap.size w w' := by
 obtain ⟨n, hn⟩ : ∃ n, l.length = n := ⟨_, rfl⟩
 obtain ⟨A, cap, rfl, hC⟩ := hv.form hn
 have hI := lh (fun i (hi : i < n) => hl.at i (by omega))
 have hT := lh (fun i (hi : i < n) => places_take l i (by omega))
 have hL := lh (fun i (hi : i ≤ n) => placesL_tk l hl i (by omega))
 have hE := lh (show placesL (l.take n) = placesL l from by rw [List.take_of_length_le (by omega)])
 replace hC := lh hC
 have hln : n ≤ 1000 := by omega
 clear hv hlen hl
 replace hn := lh hn
 go_enter Tryz.func90, Tryz.ntmps90
 go_wp2_with fail
 go_loopw [3, 4, 5] (fun o x z wr => ∃ (k : Nat) (L : List Int), k ≤ n ∧ x = .int .i64 k ∧ Hid (L = placesL (l.take k)) ∧ L.length ≤ 1000 * k ∧ OwnI wr w.heap.size o L ∧ Below w.heap.size w wr) (fun _ x _ _ => n + 1 - (intOf x).toNat)
 case atStart => exact ⟨0, [], Nat.zero_le _, rfl, rfl, by simp, World.ownsRow_nil _ _ _ _, Below.refl _ _⟩
 case round =>
  obtain ⟨k, L, hk, rfl, hLe, hLl, hown, hB⟩ := hrel
  by_cases hlt : k < n
  ·have hlt' : (k : Int) < (n : Int) := by omega
   have hxi := hI.out k hlt
   have hT1 := lh (hT.out k hlt)
   have hL1 := hL.out (k + 1) (by omega)
   rw [← hLe.out] at hT1
   have hCk := lh (fun w1 (hb : Below w.heap.size w w1) => hC.out w1 k hb hlt)
   generalize l.getD k (0, 0) = x at *
   obtain ⟨b1, b2, b3, b4⟩ := id hxi
   obtain ⟨m, hm⟩ : ∃ m, m = x.2.toNat := ⟨_, rfl⟩
   have hmx : (m : Int) = x.2 := by omega
   rw [← hm] at hT1
   have hm9 : m ≤ 1000 := by omega
   replace hmx := lh hmx
   replace hm := lh hm
   go_wp2_with fail
   go_loopw [3, 5] (fun o z wq => ∃ (j : Nat) (L' : List Int), j ≤ m ∧ z = .int .i64 j ∧ Hid (L' = L ++ pwL x j) ∧ L'.length = L.length + j ∧ OwnI wq w.heap.size o L' ∧ Below w.heap.size w wq) (fun _ z _ => m + 1 - (intOf z).toNat)
   case atStart => exact ⟨0, L, Nat.zero_le _, rfl, by show L = _; simp [pwL], rfl, hown, hB⟩
   case round =>
    clear hown hB
    obtain ⟨j, L', hj, rfl, hL2, hl2, hownq, hBq⟩ := hrel
    obtain ⟨g, off, rfl, hcap, hg, c0, c1⟩ := hCk.out wr hBq
    by_cases hjl : j < m
    ·have q1 : (j : Int) < x.2 := by have := hmx.out; omega
     have hLn := lh (show L' ++ [x.1 + (j : Int)] = L ++ pwL x (j + 1) from by rw [hL2.out, pwL_succ, List.append_assoc])
     obtain ⟨v', w1, hrun, hown', hgr⟩ := appI (w := wr.alloc (.cells #[.int .i64 (x.1 + (j : Int))] (3 : Nat))) (y := x.1 + (j : Int)) (base := w.heap.size) (hownq.keep (bZ _ _)) (cell_new1 wr _ _) (by have := hBq.size; simp; omega) (by omega)
     have hB1 := (hBq.alloc hBq.size (.cells #[.int .i64 (x.1 + (j : Int))] (3 : Nat))).trans hgr
     clear hgr hownq hBq
     go_wp2_with (at_builtin; refine wpList_append_run rfl _ _ 86 rfl _ _ _ rfl rfl hrun ?_)
     go_roundw
     case rel => exact ⟨j + 1, _, by omega, by go_num, hLn, by rw [List.length_append, hl2]; rfl, hown', hB1⟩
     case measure => simp [intOf]; omega
    ·obtain rfl : j = m := by omega
     have q1 : x.2 ≤ (j : Int) := by have := hmx.out; omega
     have hfin := lh (show L' = placesL (l.take (k + 1)) from by rw [hL2.out, hT1.out])
     have hfl : L'.length ≤ 1000 * (k + 1) := by rw [hfin.out]; exact hL1
     go_wp2_with fail
     exact ⟨⟨k + 1, _, by omega, by go_num, hfin, hfl, hownq, hBq⟩, by simp [intOf]; omega⟩
  ·obtain rfl : k = n := by omega
   have hR := lh (show L = placesL l from by rw [hLe.out, hE.out])
   go_wp2_with fail
   go_ret
   exact ⟨_, rfl, by rw [← hR.out]; exact hown, hB⟩
end Go.Proofs.YtdmmbnnejbmdpaaGreatDoor
end
section
namespace Go.Proofs.YtdmmbnnejbmdpaaGreatDoor
open Go.RowKit Go.ChangeShapes Go.WideShapes Go.Deep
theorem EN.form {w : World} {v : Value} {l : List Pe} {n : Nat} (h : EN w v l) (hn : l.length = n) : ∃ A cap, v = .slice A n cap ∧
 ∀ w1 i, Below w.heap.size w w1 → i < n → ∃ g off A2 c2, A = some ⟨g, off, none⟩ ∧ n ≤ cap ∧ g < w1.heap.size ∧ w1.cell? ⟨g, off + i * 2, none⟩ = some (.int .i64 (l.getD i default).1) ∧ w1.cell? ⟨g, off + i * 2 + 1, none⟩ = some (.slice A2 (l.getD i default).2.length c2) ∧ KL .u64 w1 (.slice A2 (l.getD i default).2.length c2) (l.getD i default).2 := by
 obtain ⟨xs, hE, hK, rfl⟩ := h
 rw [List.length_map] at hn
 obtain ⟨A, cap, hv, hC⟩ := EL.form hE hn
 refine ⟨A, cap, hv, fun w1 i hb hi => ?_⟩
 obtain ⟨g, off, hA, hc, _, hg, hcl⟩ := hC w1 i hb hi
 have hm : xs.getD i default ∈ xs := by rw [List.getD_eq_getElem?_getD, List.getElem?_eq_getElem (by omega)]; exact List.getElem_mem _
 have e : (xs.map px).getD i default = px (xs.getD i default) := by
  rw [List.getD_eq_getElem?_getD, List.getD_eq_getElem?_getD, List.getElem?_map, List.getElem?_eq_getElem (by omega)]
  rfl
 have hk := hK _ hm
 rw [e]
 have c0 := hcl 0 (by decide)
 have c1 := hcl 1 (by decide)
 generalize xs.getD i default = x at *
 obtain ⟨xa, xv, xl⟩ := x
 obtain ⟨A2, c2, hv2, _⟩ := id hk
 simp only [] at hv2
 subst hv2
 exact ⟨g, off, A2, c2, hA, hc, hg, c0, c1, hk.keep hb⟩
def inP (x : Pe) (n : Int) : Prop := 0 ≤ x.1 ∧ x.1 + (x.2.length : Int) ≤ n
instance (x : Pe) (n : Int) : Decidable (inP x n) := by unfold inP; infer_instance
end Go.Proofs.YtdmmbnnejbmdpaaGreatDoor
end
section
namespace Go.Proofs.YtdmmbnnejbmdpaaGreatDoor
open Go.RowKit Go.ChangeShapes Go.WideShapes Go.Deep
theorem refRight_any (a : Int) (A : Option Addr) (m cap : Nat) (w : World) : Calls Tryz.prog 89 #[.agg #[.int .i64 a, .slice A m cap]] w fun e w' => e = .returned (.bool (canB a m)) ∧ Below w.heap.size w w' := by
 unfold canB
 have hb0 : Below w.heap.size w (w.alloc (.cells #[.int .i64 a, .slice A m cap] (103 : Nat))) := bZ _ _
 by_cases k1 : 0 ≤ a
 ·by_cases k2 : a < 65536
  ·replace k2 : a ≤ 65535 := by omega
   by_cases k3 : 0 < m
   ·have k3' : (0 : Int) < (m : Int) := by omega
    by_cases k4 : m ≤ 4096
    ·have k4' : (m : Int) ≤ 4096 := by omega
     rw [decide_eq_true k1, decide_eq_true (show a < 65536 by omega), decide_eq_true (show (1 : Int) ≤ m by omega), decide_eq_true (show (m : Int) ≤ 4096 by omega)]
     go_enter Tryz.func89, Tryz.ntmps89
     go_wp2_with fail
     go_ret
     exact ⟨ret_b (by simp; try omega), hb0⟩
    ·have k4' : (4096 : Int) < (m : Int) := by omega
     rw [decide_eq_true k1, decide_eq_true (show a < 65536 by omega), decide_eq_true (show (1 : Int) ≤ m by omega), decide_eq_false (show ¬ (m : Int) ≤ 4096 by omega)]
     go_enter Tryz.func89, Tryz.ntmps89
     go_wp2_with fail
     go_ret
     exact ⟨ret_b (by simp; try omega), hb0⟩
   ·obtain rfl : m = 0 := by omega
    rw [decide_eq_true k1, decide_eq_true (show a < 65536 by omega), decide_eq_false (show ¬ (1 : Int) ≤ ((0 : Nat) : Int) by omega)]
    go_enter Tryz.func89, Tryz.ntmps89
    go_wp2_with fail
    go_ret
    exact ⟨ret_b (by simp; try omega), hb0⟩
  ·replace k2 : 65535 < a := by omega
   rw [decide_eq_true k1, decide_eq_false (show ¬ a < 65536 by omega)]
   go_enter Tryz.func89, Tryz.ntmps89
   go_wp2_with fail
   go_ret
   exact ⟨ret_b (by simp; try omega), hb0⟩
 ·rw [decide_eq_false k1]
  replace k1 : a < 0 := by omega
  go_enter Tryz.func89, Tryz.ntmps89
  go_wp2_with fail
  go_ret
  exact ⟨ret_b (by simp; try omega), hb0⟩
theorem refEncode_no (gn : Int) (a : Int) (A : Option Addr) (m cap : Nat) (w : World) (hr : canB a m = false) :
 Calls Tryz.prog 51 #[.int .u64 gn, .agg #[.int .i64 a, .slice A m cap]] w fun e w' => e = .returned (.tuple #[.slice none 0 0, .int .i64 1]) ∧ Below w.heap.size w w' := by
 have hb0 : Below w.heap.size w (w.alloc (.cells #[.int .i64 a, .slice A m cap] (103 : Nat))) := bZ _ _
 have hC := lh (fun w => refRight_any a A m cap w)
 rw [hr] at hC
 clear hr
 go_enter Tryz.func51, Tryz.ntmps51
 go_wp2_with (go_at_call 89; refine (hC.out _).mono ?_; rintro e w1 ⟨rfl, hb⟩)
 go_ret2
 exact ⟨rfl, hb0.trans (hb.mono (by simp))⟩
theorem refEncode_yes (gn : Nat) (x : Ex) (w : World) (hg : gn < 18446744073709551616) (hx : KL .u64 w x.2.1 x.2.2) (hl : WL x.2.2) (hlen : x.2.2.length ≤ 800) (hr : rightB x = true) :
 Calls Tryz.prog 51 #[.int .u64 (gn : Nat), eV x] w fun e w' => ∃ v, e = .returned (.tuple #[v, .int .i64 0]) ∧ KL .u64 w' v (encW gn x.1.toNat x.2.2) ∧ Below w.heap.size w w' := by
 obtain ⟨a, v, l⟩ := x
 obtain ⟨A, cap, hv, _⟩ := hx.form rfl
 simp only [] at hv
 subst hv
 have hrr := canB_iff.1 hr
 simp only [] at hrr hlen hl
 obtain ⟨a, rfl⟩ := Int.eq_ofNat_of_zero_le hrr.1
 obtain ⟨i0, hi, hz0, hz1, hz2⟩ := info_parts infoU64
 have hb0 : Below w.heap.size w (w.alloc (.cells #[.int .i64 (a : Nat), .slice A l.length cap] (103 : Nat))) := bZ _ _
 have hC := refRight_any (a : Int) A l.length cap (w.alloc (.cells #[.int .i64 (a : Nat), .slice A l.length cap] (103 : Nat)))
 rw [show canB (a : Int) (l.length : Nat) = true from hr] at hC
 have kk := World.alloc_heap_new w (.cells #[.int .i64 (a : Nat), .slice A l.length cap] (103 : Nat))
 obtain ⟨n, hn⟩ : ∃ n, l.length = n := ⟨_, rfl⟩
 obtain ⟨f, hf⟩ : ∃ f, firstW gn a n = f := ⟨_, rfl⟩
 obtain ⟨q, hq⟩ : ∃ q, gn % 65536 = q := ⟨_, rfl⟩
 have hq2 : q < 65536 := by rw [← hq]; exact Nat.mod_lt _ (by decide)
 have hfl := firstW_lt gn a n (by omega) (by omega)
 have hE := lh (show encW gn ((a : Nat) : Int).toNat l = (f :: l) ++ [moreN 0 (f :: l)] from by unfold encW; rw [Int.toNat_natCast, hn, hf])
 have hWL : Hid (WL (f :: l)) := fun y hy => by
  rcases List.mem_cons.1 hy with rfl | hy
  ·rw [← hf]; exact hfl
  ·exact hl y hy
 have fa : IntKind.u64.wrap (a : Int) = (a : Int) := by rw [IntKind.wrap_u64]; omega
 have fn : IntKind.u64.wrap (n : Int) = (n : Int) := by rw [IntKind.wrap_u64]; omega
 have f1 : IntKind.u64.wrap (1048576 * (n : Int)) = 1048576 * (n : Int) := by rw [IntKind.wrap_u64]; omega
 have f2 : IntKind.u64.wrap ((a : Int) + 1048576 * (n : Int)) = (a : Int) + 1048576 * (n : Int) := by rw [IntKind.wrap_u64]; omega
 have fg : IntKind.u64.wrap (gn : Int) = (gn : Int) := by rw [IntKind.wrap_u64]; omega
 have f3 : (gn : Int) % 65536 = (q : Int) := by omega
 have f3' : (gn : Int).tmod 65536 = (q : Int) := by rw [Int.tmod_eq_emod_of_nonneg (by omega)]; omega
 have f4 : IntKind.u64.wrap (281474976710656 * (q : Int)) = 281474976710656 * (q : Int) := by rw [IntKind.wrap_u64]; omega
 have f5 : IntKind.u64.wrap ((a : Int) + 1048576 * (n : Int) + 281474976710656 * (q : Int)) = (f : Int) := by
  rw [IntKind.wrap_u64, ← hf]
  unfold firstW
  rw [hq]
  omega
 simp only [hn, eV, eE] at hC kk hb0 ⊢
 have hn800 : n ≤ 800 := by omega
 have hnh := lh hn
 have hxh : Hid (KL .u64 w (.slice A n cap) l) := by
  have q : KL .u64 w (.slice A l.length cap) l := hx
  rw [hn] at q
  exact q
 have hmn := moreN_lt 0 (f :: l)
 have fm : IntKind.u64.wrap ((moreN 0 (f :: l) : Nat) : Int) = ((moreN 0 (f :: l) : Nat) : Int) := by rw [IntKind.wrap_u64]; omega
 clear hx hr hrr hlen hl hn hf hfl hq
 go_enter Tryz.func51, Tryz.ntmps51
 go_wp2_with (first
  | (go_at_call 89; refine hC.mono ?_; rintro e w1 ⟨rfl, hb⟩; clear hC
     have hb1 := hb0.trans (hb.mono (by simp))
     have k0 : w1.heap[w.heap.size]? = some (.cells #[.int .i64 (a : Nat), .slice A n cap] (103 : Nat) (0, 0)) := (hb.block _ (by simp)).trans kk
     have hs1 : w.heap.size < w1.heap.size := (Array.getElem?_eq_some_iff.1 k0).1
     obtain ⟨p1, z1⟩ := row_cell k0 1
     obtain ⟨p0, z0⟩ := row_cell k0 0
     have hb2 : Below w1.heap.size w1 (w1.alloc (.cells #[.int .u64 (f : Nat)] (33 : Nat))) := bZ _ _
     have hO2 : OwnU (w1.alloc (.cells #[.int .u64 (f : Nat)] (33 : Nat))) w1.heap.size (.slice (some ⟨w1.heap.size, 0, none⟩) 1 1) [f] := World.ownsRow_lit (base := w1.heap.size) (e := 33) (size := 1) w1 #[.int .u64 (f : Nat)] 1 (Nat.le_refl _) (by unfold maxLen; omega) rfl
     obtain ⟨v4, w4, hr4, hO4, hb4⟩ := appW hO2 ((hxh.out.keep hb1).keep hb2) hb2.size (by simp) (by show l.length ≤ 1000000; rw [hnh.out]; omega)
     have hs1w : w.heap.size ≤ w1.heap.size := hb1.size
     have hb4w := lh (hb1.trans ((hb2.trans hb4).mono hb1.size))
     have hOf := refOf_any v4 (f :: l) w4 hWL.out (by rw [List.length_cons, hnh.out]; omega) hO4.kl.sl
     have hO4h := lh hO4
     have hs4 : w1.heap.size ≤ w4.heap.size := (hb2.trans hb4).size
     obtain ⟨A4, c4, hv4, _⟩ := hO4.form
     rw [show ([f] ++ l).length = n + 1 from by rw [List.length_append, hnh.out]; simp; omega] at hv4
     subst hv4
     clear hb hb0 kk hb1 hb2 hO2 hO4 hb4)
  | (at_builtin; refine wpList_append_run rfl _ _ 25 rfl _ _ _ rfl rfl hr4 ?_; clear hr4)
  | (go_at_call 58; refine hOf.mono ?_; rintro e w5 ⟨rfl, hb5⟩; clear hOf
     have hb6 : Below w5.heap.size w5 (w5.alloc (.cells #[.int .u64 ((moreN 0 (f :: l) : Nat) : Int)] (33 : Nat))) := bZ _ _
     obtain ⟨v7, w7, hr7, hO7, hb7⟩ := appW ((hO4h.out.keep hb5).keep hb6) (KL.one w5 (moreN 0 (f :: l)) 33) (Nat.le_trans hs4 (Nat.le_trans hb5.size hb6.size)) (by show ([f] ++ l).length ≤ 1000000; rw [List.length_append, hnh.out]; simp; omega) (by simp)
     have hK7 := lh hO7.kl
     have hb7w := lh (hb4w.out.trans ((hb5.mono hb4w.out.size).trans ((hb6.mono (Nat.le_trans hb4w.out.size hb5.size)).trans (hb7.mono hs1w))))
     obtain ⟨A7, c7, hv7, _⟩ := hO7.form
     rw [show ([f] ++ l ++ [moreN 0 (f :: l)]).length = n + 2 from by simp only [List.length_append, hnh.out, List.length_singleton]; omega] at hv7
     subst hv7
     clear hb5 hb6 hO7 hb7)
  | (at_builtin; refine wpList_append_run rfl _ _ 25 rfl _ _ _ rfl rfl hr7 ?_; clear hr7))
 go_ret2
 exact ⟨_, rfl, by rw [hE.out]; exact hK7.out, hb7w.out⟩
end Go.Proofs.YtdmmbnnejbmdpaaGreatDoor
end
section
namespace Go.Proofs.YtdmmbnnejbmdpaaGreatDoor
open Go.RowKit Go.ChangeShapes Go.WideShapes Go.Deep
theorem wp_append_run {P : Program} {w w' : World} {o : Oper} {a : Act} {K : Act → World → Prop} {Q : Exit → Act → World → Prop} (s x : Operand) (t u : TypeId)
 (hop : o.op = Op.call { callee := Callee.builtin Builtin.append, args := #[s, x], argTypes := #[t, u] }) (vs vx v : Value) (hs : a.eval s = vs) (hx : a.eval x = vx)
 (hrun : (Builtin.append_ #[t, u] o.type #[vs, vx]).run P w = .ok v w') (h : K (a.put o.dst v) w') : Oper.wp P o a w K Q := by
 unfold Oper.wp
 simp [execOp, hop, resolve, invoke, builtin, hs, hx, hrun, Result.andThen]
 exact h
end Go.Proofs.YtdmmbnnejbmdpaaGreatDoor
end
section
namespace Go.Proofs.YtdmmbnnejbmdpaaGreatDoor
open Go.RowKit Go.ChangeShapes Go.WideShapes Go.Deep
def wN (o : Ox) : Nat := (wordOp o).toNat
def encW_rd (l : List Ox) : List Nat := l.flatMap fun o => [wN o, o.2.2]
def encS (l : List Ox) : List Nat := encW_rd l ++ [moreN 0 (encW_rd l)]
theorem wN_eq {o : Ox} (h : wrongB o = false) : wordOp o = ((wN o : Nat) : Int) := by
 have := wrongB_f h
 unfold wN wordOp
 omega
theorem wN_lt {o : Ox} (h : wrongB o = false) : wN o < 262144 := by
 have := wrongB_f h
 unfold wN wordOp
 omega
theorem encW_len (l : List Ox) : (encW_rd l).length = 2 * l.length := by
 induction l with
 | nil => rfl
 | cons o l ih => simp only [encW_rd, List.flatMap_cons, List.length_append, List.length_cons, List.length_nil] at *; omega
theorem encW_take (l : List Ox) (k : Nat) (h : k < l.length) : encW_rd (l.take (k + 1)) = encW_rd (l.take k) ++ [wN (l.getD k default), (l.getD k default).2.2] := by
 unfold encW_rd
 rw [List.take_succ_eq_append_getElem h, List.flatMap_append, List.getD_eq_getElem?_getD, List.getElem?_eq_getElem h]
 simp
theorem encW_WL {l : List Ox} (h : ∀ o ∈ l, wrongB o = false) (hv : OVs l) : WL (encW_rd l) := by
 intro x hx
 obtain ⟨o, ho, hx⟩ := List.mem_flatMap.1 hx
 simp only [List.mem_cons, List.not_mem_nil, or_false] at hx
 rcases hx with rfl | rfl
 ·have := wN_lt (h o ho); omega
 ·exact hv o ho
theorem KL.two (w : World) (a b : Nat) (t : TypeId) : KL .u64 (w.alloc (.cells #[.int .u64 (a : Nat), .int .u64 (b : Nat)] t)) (.slice (some ⟨w.heap.size, 0, none⟩) 2 2) [a, b] := by
 refine ⟨_, 2, rfl, fun _ => ⟨w.heap.size, 0, rfl, by simp, by simp, fun i hi => ?_⟩⟩
 match i, hi with
 | 0, _ => simp [go_sem]
 | 1, _ => simp [go_sem]
 | i + 2, hi => simp at hi; omega
theorem rightB_all {l : List Ox} (hk : l.length ≤ 19) (h : ∀ j, j < l.length → wrongB (l.getD j default) = false) : rightB_rd l = true := by
 unfold rightB_rd
 have : l.any wrongB = false := by
  rw [List.any_eq_false]
  intro x hx
  obtain ⟨i, hi, rfl⟩ := List.mem_iff_getElem.1 hx
  have := h i hi
  rw [List.getD_eq_getElem?_getD, List.getElem?_eq_getElem hi] at this
  simp at this; simp [this]
 rw [this]; simp [hk]
theorem refEnc_full (v : Value) (l : List Ox) (w : World) (hv : OPL w v l) (h : 19 < l.length) :
 Calls Tryz.prog 54 #[v] w fun e w' => e = .returned (.tuple #[.slice none 0 0, .int .i64 3]) ∧ Below w.heap.size w w' := by
 obtain ⟨A, cap, rfl, _⟩ := hv.form rfl
 have h' : (19 : Int) < (l.length : Int) := by omega
 clear hv
 go_enter Tryz.func54, Tryz.ntmps54
 go_wp2_with fail
 go_ret2
 exact ⟨rfl, Below.refl _ _⟩
end Go.Proofs.YtdmmbnnejbmdpaaGreatDoor
end
section
namespace Go.Proofs.YtdmmbnnejbmdpaaGreatDoor
open Go.RowKit
def IL (w : World) (v : Value) (l : List Int) : Prop :=
 ∃ A cap, v = .slice A l.length cap ∧ (0 < l.length → ∃ g off, A = some ⟨g, off, none⟩ ∧ g < w.heap.size ∧ l.length ≤ cap ∧ ∀ i, i < l.length → w.cell? ⟨g, off + i, none⟩ = some (.int .i64 (l.getD i 0)))
theorem IL.keep {w w1 : World} {v : Value} {l : List Int} (h : IL w v l) (hb : Below w.heap.size w w1) : IL w1 v l := by
 obtain ⟨A, cap, hv, h⟩ := h
 refine ⟨A, cap, hv, fun hl => ?_⟩
 obtain ⟨g, off, hA, hg, hc, hi⟩ := h hl
 exact ⟨g, off, hA, Nat.lt_of_lt_of_le hg hb.size, hc, fun i h => by rw [(bcell hb).1 _ _ hg]; exact hi i h⟩
theorem IL.form {w : World} {v : Value} {l : List Int} {n : Nat} (h : IL w v l) (hn : l.length = n) : ∃ A cap, v = .slice A n cap ∧
 ∀ w1 i, Below w.heap.size w w1 → i < n → ∃ g off, A = some ⟨g, off, none⟩ ∧ n ≤ cap ∧ g < w1.heap.size ∧ w1.cell? ⟨g, off + i, none⟩ = some (.int .i64 (l.getD i 0)) := by
 obtain ⟨A, cap, hv, h⟩ := h
 refine ⟨A, cap, by rw [hv, hn], fun w1 i hb hi => ?_⟩
 obtain ⟨g, off, hA, hg, hc, hcell⟩ := h (by omega)
 refine ⟨g, off, hA, by omega, Nat.lt_of_lt_of_le hg hb.size, ?_⟩
 rw [(bcell hb).1 _ _ hg]; exact hcell i (by omega)
theorem OwnI.il {w : World} {base : Nat} {v : Value} {l : List Int} (h : OwnI w base v l) : IL w v l := by
 have h' := h
 rcases h.2 with ⟨hv, hn⟩ | ⟨g, cap, cur, hv, hb, hg, h1, h2, h3, h4⟩
 ·have : l = [] := by simpa using hn
  subst this
  exact ⟨none, 0, hv, fun h => by simp at h⟩
 ·subst hv
  refine ⟨some ⟨g, 0, none⟩, cap, rfl, fun _ => ⟨g, 0, rfl, (Array.getElem?_eq_some_iff.1 hg).1, h1, fun i hi => ?_⟩⟩
  rw [Nat.zero_add]
  rw [World.ownsRow.cellAt h' i (by omega)]
  simp [List.getD_eq_getElem?_getD, List.getElem?_eq_getElem hi]
theorem places_nn {l : List Sp} (h : PBs l) : ∀ y ∈ placesL l, 0 ≤ y ∧ y ≤ 2199023255552 := fun y hy => by
 obtain ⟨x, hx, hy⟩ := List.mem_flatMap.1 hy
 obtain ⟨i, hi, rfl⟩ := List.mem_map.1 hy
 obtain ⟨h1, h2, h3, h4⟩ := h x hx
 have := List.mem_range.1 hi
 omega
end Go.Proofs.YtdmmbnnejbmdpaaGreatDoor
end
