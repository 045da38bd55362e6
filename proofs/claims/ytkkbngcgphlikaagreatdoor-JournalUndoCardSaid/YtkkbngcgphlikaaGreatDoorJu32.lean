/-
  Part of the proof of JournalUndo.
-/
import Derived.Test.YtkkbngcgphlikaaGreatDoorJu27
import Derived.Test.YtkkbngcgphlikaaGreatDoorRows
import Derived.Test.YtkkbngcgphlikaaGreatDoorJu0
set_option maxRecDepth 10000
set_option maxHeartbeats 1000000
set_option linter.unusedVariables false
set_option linter.unusedSimpArgs false
section
namespace Go.Proofs.YtkkbngcgphlikaaGreatDoor
open Go.Lib Go.RowKit Go.ChangeShapes Go.WideShapes Go.Deep
theorem readB_t {I : List Nat} {W L : Int} (h : readB I W L = true) : poolB I = true ∧ W = (I.length : Nat) ∧ L = (I.getD 3 0 : Nat) := by
 unfold readB at h
 rw [Bool.and_eq_true] at h
 exact ⟨h.1, of_decide_eq_true h.2⟩
def laneB (I : List Nat) (W L ln : Int) : Bool := readB I W L && decide (0 ≤ ln ∧ ln < L)
def logP (I : List Nat) (W L ln : Int) : List Sp := if laneB I W L ln = true then logSp I L.toNat ln.toNat else []
theorem log_any (v : Value) (I : List Nat) (W L ln : Int) (w : World) (hw : Lw w) (hW : WL I) (hv : KL .u64 w v I) (h40 : poolB I = true → LgN I (I.getD 3 0)) :
 Calls Tryz.prog 95 #[v, .agg #[.int .i64 W, .int .i64 L], .int .i64 ln] w fun e w' => ∃ v', e = .returned v' ∧ OwnSp w' w.heap.size v' (logP I W L ln) ∧ Below w.heap.size w w' := by
 have hA := bZ w (.cells #[.int .i64 W, .int .i64 L] 37)
 have hR := lh (fun w1 (hb : Below w.heap.size w w1) => readable_any v I W L w1 (hw.keep hb) hW (hv.keep hb))
 obtain ⟨nn, hnn⟩ : ∃ n, I.length = n := ⟨_, rfl⟩
 have gC := C2.new w (.int .i64 W) (.int .i64 L) 37
 obtain ⟨C, hC⟩ : ∃ C, w.heap.size = C := ⟨_, rfl⟩
 rw [hC] at gC
 cases hr : readB I W L with
 | false =>
   have hno := lh (show logP I W L ln = [] from if_neg (by unfold laneB; rw [hr]; simp))
   rw [hr] at hR
   obtain ⟨q0, q1⟩ := id gC
   clear hr h40
   go_enter Tryz.func95, Tryz.ntmps95
   go_wp2_with fail
   refine (hR.out _ hA).mono ?_
   rintro e w1 ⟨rfl, hb1⟩
   have hB1 := hA.trans (hb1.mono hA.size)
   clear hb1 hR
   go_wp2_with fail
   go_ret
   exact ⟨_, rfl, by rw [hno.out]; exact OwnSp.nil _ _, hB1⟩
 | true =>
   obtain ⟨hp, hW1, hL1⟩ := readB_t hr
   obtain ⟨L3, hL3⟩ : ∃ L3, I.getD 3 0 = L3 := ⟨_, rfl⟩
   have hgk := (gOk_pool (pool_t hp).1).2
   replace h40 := h40 hp
   rw [hL3] at hL1 hgk h40
   rw [hnn] at hW1
   subst hW1
   subst hL1
   rw [hr] at hR
   have hsz := (pool_size hgk).2.1
   by_cases h0 : ln < 0
   ·have hno := lh (show logP I (nn : Nat) (L3 : Nat) ln = [] from if_neg (by unfold laneB; rw [hr, decide_eq_false (by omega)]; decide))
    obtain ⟨q0, q1⟩ := id gC
    clear hr h40 hgk hp hL3
    go_enter Tryz.func95, Tryz.ntmps95
    go_wp2_with fail
    refine (hR.out _ hA).mono ?_
    rintro e w1 ⟨rfl, hb1⟩
    have hB1 := hA.trans (hb1.mono hA.size)
    clear hb1 hR
    go_wp2_with fail
    go_ret
    exact ⟨_, rfl, by rw [hno.out]; exact OwnSp.nil _ _, hB1⟩
   obtain ⟨n, rfl⟩ := Int.eq_ofNat_of_zero_le (show 0 ≤ ln by omega)
   by_cases h1 : L3 ≤ n
   ·have hno := lh (show logP I (nn : Nat) (L3 : Nat) (n : Nat) = [] from if_neg (by unfold laneB; rw [hr, decide_eq_false (by omega)]; decide))
    have h1' : ((L3 : Int)) ≤ (n : Int) := by omega
    clear hr h40 hgk hp hL3 h0
    go_enter Tryz.func95, Tryz.ntmps95
    obtain ⟨q0, q1⟩ := id gC
    go_wp2_with fail
    refine (hR.out _ hA).mono ?_
    rintro e w1 ⟨rfl, hb1⟩
    have hB1 := hA.trans (hb1.mono hA.size)
    obtain ⟨r0, r1⟩ := gC.keep hb1
    clear hb1 hR q0 q1
    go_wp2_with fail
    go_ret
    exact ⟨_, rfl, by rw [hno.out]; exact OwnSp.nil _ _, hB1⟩
   have hyes := lh (show logP I (nn : Nat) (L3 : Nat) (n : Nat) = logSp I L3 n from if_pos (by unfold laneB; rw [hr, decide_eq_true (by omega)]; decide))
   have hMl := lh (fun w1 (hb : Below w.heap.size w w1) => mlog_any v I L3 n w1 (hw.keep hb) hW (hv.keep hb) hgk (by omega) h40)
   rw [hnn] at hMl
   have h1' : ((n : Int)) < (L3 : Int) := by omega
   clear hr h40 hgk hp hL3 h0
   go_enter Tryz.func95, Tryz.ntmps95
   obtain ⟨q0, q1⟩ := id gC
   go_wp2_with fail
   refine (hR.out _ hA).mono ?_
   rintro e w1 ⟨rfl, hb1⟩
   have hB1 := hA.trans (hb1.mono hA.size)
   obtain ⟨r0, r1⟩ := gC.keep hb1
   clear hb1 hR q0 q1
   go_wp2_with fail
   refine (hMl.out _ hB1).mono ?_
   rintro e w2 ⟨v', rfl, ho2, hb2⟩
   have hB2 := hB1.trans (hb2.mono hB1.size)
   have ho3 := lh (ho2.mono hB1.size)
   clear ho2 hb2 hMl
   go_wp2_with fail
   go_ret
   exact ⟨_, rfl, by rw [hyes.out]; exact ho3.out, hB2⟩
end Go.Proofs.YtkkbngcgphlikaaGreatDoor
end
section
namespace Go.Proofs.YtkkbngcgphlikaaGreatDoor
open Go.Lib Go.RowKit Go.ChangeShapes Go.WideShapes Go.Deep
def mkE (x : Nat) : Nat := if mkOk x then mkG x else 0
theorem mkOk_i (x : Nat) : okB ((x : Int) % 4) ((x : Int) / 4 % 16384) ((x : Int) / 65536) = mkOk x := by
 unfold mkOk mkS mkC mkG
 rw [show ((x % 4 : Nat) : Int) = (x : Int) % 4 from by omega, show ((x / 4 % 16384 : Nat) : Int) = (x : Int) / 4 % 16384 from by omega, show ((x / 65536 : Nat) : Int) = (x : Int) / 65536 from by omega]
theorem mkE_lt {x : Nat} (hx : x < 18446744073709551616) : mkE x ≤ 281474976710655 := by
 unfold mkE mkG; split <;> omega
theorem mkE_end (x : Nat) : (0 : Int) + 0 * 4 + (mkE x : Nat) * 65536 = (endN x : Nat) := by
 unfold mkE endN
 split <;> omega
theorem mkdec (x : Nat) (w : World) (hx : x < 18446744073709551616) :
 Calls Tryz.prog 123 #[.int .u64 (x : Nat)] w fun e w' => (∃ a b : Int, e = .returned (.tuple #[.agg #[.int .i64 a, .int .i64 b, .int .u64 (mkE x : Nat)], .bool (mkOk x)])) ∧ Below w.heap.size w w' := by
 cases h : mkOk x with
 | true =>
   refine (decode_t (x : Nat) w (by omega) (by omega) (by rw [mkOk_i, h])).mono ?_
   rintro e w' ⟨rfl, hb⟩
   refine ⟨⟨(x : Int) % 4, (x : Int) / 4 % 16384, ?_⟩, hb⟩
   rw [show ((mkE x : Nat) : Int) = (x : Int) / 65536 from by unfold mkE mkG; rw [if_pos h]; omega]
 | false =>
   refine (decode_f (x : Nat) w (by omega) (by omega) (by rw [mkOk_i, h])).mono ?_
   rintro e w' ⟨rfl, hb⟩
   refine ⟨⟨0, 0, ?_⟩, hb⟩
   rw [show ((mkE x : Nat) : Int) = 0 from by unfold mkE; rw [h]; rfl]
theorem mkenc (x : Nat) (w : World) (hx : x < 18446744073709551616) :
 Calls Tryz.prog 124 #[.agg #[.int .i64 0, .int .i64 0, .int .u64 (mkE x : Nat)]] w fun e w' => e = .returned (.tuple #[.int .u64 (endN x : Nat), .int .i64 0]) ∧ Below w.heap.size w w' := by
 have hE := mkE_lt hx
 refine (encode_t 0 0 (mkE x : Nat) w (decide_eq_true (by omega)) (by omega)).mono ?_
 rintro e w' ⟨rfl, hb⟩
 exact ⟨by rw [mkE_end], hb⟩
theorem endN_lt {x : Nat} (hx : x < 18446744073709551616) : endN x < 18446744073709551616 := by
 unfold endN mkG; split <;> omega
theorem noLog_lt {x : Nat} (hx : x < 18446744073709551616) : noLog x < 18446744073709551616 := by
 unfold noLog; split <;> omega
theorem WL.setN {l : List Nat} (h : WL l) (i y : Nat) (hy : y < 18446744073709551616) : WL (l.set i y) := fun z hz => by
 rcases List.mem_or_eq_of_mem_set hz with h1 | h1
 ·exact h z h1
 ·rw [h1]; exact hy
theorem WL.getN {l : List Nat} (h : WL l) (i : Nat) : l.getD i 0 < 18446744073709551616 := by
 rw [List.getD_eq_getElem?_getD]
 cases hc : l[i]? with
 | none => decide
 | some x => exact h x (List.mem_of_getElem? hc)
theorem idlesL_WL {I : List Nat} (h : WL I) : ∀ k, WL (idlesL I k)
 | 0 => h
 | k + 1 => (idlesL_WL h k).setN _ _ (endN_lt ((idlesL_WL h k).getN _))
theorem clrL_WL {I : List Nat} {L : Nat} (h : WL I) : ∀ k, WL (clrL I L k)
 | 0 => h
 | k + 1 => (clrL_WL h k).setN _ _ (noLog_lt ((clrL_WL h k).getN _))
end Go.Proofs.YtkkbngcgphlikaaGreatDoor
end
section
namespace Go.Proofs.YtkkbngcgphlikaaGreatDoor
open Go.Lib Go.RowKit Go.ChangeShapes Go.WideShapes Go.Deep
theorem OwnU_row {w : World} {base g n c : Nat} {l : List Nat} (h : OwnU w base (.slice (some ⟨g, 0, none⟩) n c) l) : base ≤ g ∧ ∃ cur, w.heap[g]? = some (.cells cur 40 (0, 0)) := by
 rcases h.2 with ⟨q, _⟩ | ⟨g', cap', cur, q, hb, hg, _⟩
 ·cases q
 cases q; exact ⟨hb, cur, hg⟩
theorem OwnU_cap {w : World} {base g n c : Nat} {l : List Nat} (h : OwnU w base (.slice (some ⟨g, 0, none⟩) n c) l) (hn : l.length = n) : n ≤ c := by
 rcases h.2 with ⟨q, _⟩ | ⟨g', cap', cur, q, hb, hg, h1, _⟩
 ·cases q
 cases q; omega
theorem set_same (P : List Nat) (i : Nat) (h : i < P.length) : P.set i (P.getD i 0) = P := by
 rw [List.getD_eq_getElem?_getD, List.getElem?_eq_getElem h]
 exact List.set_getElem_self h
theorem rest_any (B n cap : Nat) (I : List Nat) (L : Nat) (w0 w : World) (hw : Lw w0) (hb0 : Below w0.heap.size w0 w) (hW : WL I) (hn : I.length = n) (ho : OwnU w w0.heap.size (.slice (some ⟨B, 0, none⟩) n cap) I) (hg : gOk (n : Nat) (L : Nat) = true) :
 Calls Tryz.prog 65 #[.slice (some ⟨B, 0, none⟩) n cap, .agg #[.int .i64 (n : Nat), .int .i64 (L : Nat)]] w fun e w' => e = .returned (.tuple #[]) ∧ OwnU w' w0.heap.size (.slice (some ⟨B, 0, none⟩) n cap) (restL I L) ∧ Chg (fun k => k = B) w w' := by
 obtain ⟨s1, s2, s3, s4, s5, s6, s7, s8⟩ := pool_size hg
 obtain ⟨G, hG⟩ : ∃ G, gNat n L = G := ⟨_, rfl⟩
 rw [hG] at s5 s6 s7 s8
 obtain ⟨F, hF⟩ : ∃ F, 10 + 73 * L = F := ⟨_, rfl⟩
 have hF' : (10 + 73 * (L : Int)) = (F : Int) := by omega
 have hTb := lh (fun w1 => table_t (n : Nat) (L : Nat) w1 hg)
 rw [hF', s5] at hTb
 obtain ⟨hoc, cur, hcur⟩ := OwnU_row ho
 have hBs : B < w.heap.size := (Array.getElem?_eq_some_iff.1 hcur).1
 have hcap : n ≤ cap := OwnU_cap ho hn
 have hWd := lh (fun w1 => by have h := mwords_any B 0 n cap F G w1 (by omega) hcap (by omega) (by omega); rw [Nat.zero_add] at h; exact h)
 have hMk := lh (fun k (hk : k < L) w1 => show Calls Tryz.prog 122 #[.agg #[.int .i64 (n : Nat), .int .i64 (L : Nat)], .int .i64 (k : Nat)] w1 (fun e w' => e = .returned (.int .i64 ((10 + k : Nat) : Int)) ∧ Below w1.heap.size w1 w') from by
  have h := mark_t (n : Nat) (L : Nat) (k : Nat) w1 (by unfold lOk; rw [hg, Bool.true_and]; exact decide_eq_true (by omega))
  rw [show ((10 + k : Nat) : Int) = 10 + (k : Int) from by omega]
  exact h)
 have hIl := lh (fun k => show (idlesL I k).length = n from by rw [idlesL_len, hn])
 have hIw := lh (fun k => idlesL_WL hW k)
 have hCl := lh (fun k => show (clrL (idlesL I L) L k).length = n from by rw [clrL_len, idlesL_len, hn])
 have hCw := lh (fun k => clrL_WL (L := L) (idlesL_WL hW L) k)
 have hre : restL I L = clrL (idlesL I L) L G := by unfold restL; rw [hn, hG]
 rw [hre]
 have hA := bZ w (.cells #[.int .i64 (n : Nat), .int .i64 (L : Nat)] 37)
 have gC := C2.new w (.int .i64 (n : Nat)) (.int .i64 (L : Nat)) 37
 obtain ⟨C, hC⟩ : ∃ C, w.heap.size = C := ⟨_, rfl⟩
 rw [hC] at gC
 have hCB : ¬ C = B := by omega
 have hoA := ho.keep hA
 have hcA := Chg.of_below (fun k => k = B) hA
 replace hG := lh hG
 replace hre := lh hre
 have hFb : F ≤ 5000 := by omega
 have hFn : F + G ≤ n := by omega
 have hLn : 10 + L ≤ n := by omega
 clear hW hn ho hg hF' hcur hA
 go_enter Tryz.func65, Tryz.ntmps65
 obtain ⟨q0, q1⟩ := id gC
 go_wp2_with fail
 clear q0 q1
 go_loopw [15] (fun i wr => ∃ (k : Nat), k ≤ L ∧ i = .int .i64 k ∧ C2 wr C (.int .i64 (n : Nat)) (.int .i64 (L : Nat)) ∧ OwnU wr w0.heap.size (.slice (some ⟨B, 0, none⟩) n cap) (idlesL I k) ∧ Chg (fun k => k = B) w wr) (fun i _ => L + 1 - (intOf i).toNat)
 case atStart => exact ⟨0, Nat.zero_le _, rfl, gC, hoA, hcA⟩
 obtain ⟨k, hk, rfl, gCr, hor, hcr⟩ := hrel
 by_cases hlt : k < L
 ·have hlt' : (k : Int) < (L : Int) := by omega
  have hMk1 := hMk.out k hlt wr
  obtain ⟨M, hM⟩ : ∃ M, 10 + k = M := ⟨_, rfl⟩
  rw [hM] at hMk1
  obtain ⟨q0, q1⟩ := id gCr
  have hil := hIl.out k
  have hst : (idlesL I k).set M (endN ((idlesL I k).getD M 0)) = idlesL I (k + 1) := by rw [← hM]; rfl
  have hxw := (hIw.out k).getN M
  obtain ⟨P, hP⟩ : ∃ P, idlesL I k = P := ⟨_, rfl⟩
  rw [hP] at hil hst hxw hor
  obtain ⟨x, hx⟩ : ∃ x, P.getD M 0 = x := ⟨_, rfl⟩
  rw [hx] at hst hxw
  have hMn : M < n := by omega
  replace hP := lh hP
  replace hst := lh hst
  clear hM
  go_wp2_with fail
  refine hMk1.mono ?_
  rintro e w1 ⟨rfl, hb1⟩
  have gC1 := gCr.keep hb1
  have ho1 := hor.keep hb1
  have hc1 := hcr.trans (Chg.of_below (fun k => k = B) hb1) (fun k h => .inl h)
  obtain ⟨c1, -⟩ := ho1.cell hil hMn
  rw [hx] at c1
  have hMn' : (M : Int) < (n : Int) := by omega
  clear q0 q1 hMk1 gCr hor hcr hb1
  go_wp2_with fail
  refine (mkdec x w1 hxw).mono ?_
  rintro e w2 ⟨⟨a, b, rfl⟩, hb2⟩
  have hA3 := bZ w2 (.cells #[.int .i64 a, .int .i64 b, .int .u64 (mkE x : Nat)] 123)
  have gC3 := (gC1.keep hb2).keep hA3
  have ho3 := (ho1.keep hb2).keep hA3
  have hc3 := (hc1.trans (Chg.of_below (fun k => k = B) hb2) (fun k h => .inl h)).trans (Chg.of_below (fun k => k = B) hA3) (fun k h => .inl h)
  clear gC1 ho1 hc1 c1 hb2 hA3
  go_wp2_with fail
  refine (end_any a b (mkE x : Nat) _).mono ?_
  rintro e w5 ⟨rfl, hb5⟩
  have gC5 := gC3.keep hb5
  have ho5 := ho3.keep hb5
  have hc5 := hc3.trans (Chg.of_below (fun k => k = B) hb5) (fun k h => .inl h)
  clear gC3 ho3 hc3 hb5
  go_wp2_with fail
  refine (mkenc x w5 hxw).mono ?_
  rintro e w6 ⟨rfl, hb6⟩
  have gC6 := gC5.keep hb6
  have ho6 := ho5.keep hb6
  have hc6 := hc5.trans (Chg.of_below (fun k => k = B) hb6) (fun k h => .inl h)
  obtain ⟨c6, f6⟩ := ho6.cell hil hMn
  have hS := Chg.setCell (S := fun k => k = B) w6 B M (.int .u64 (endN x : Nat)) rfl
  have gC7 := gC6.chg hS hCB
  have ho7 := ho6.set (y := endN x) hil hMn
  have hc7 := hc6.trans hS (fun k h => .inl h)
  clear gC5 ho5 hc5 hb6 gC6 ho6 hc6 hS
  go_wp2_with fail
  go_roundw
  case rel => exact ⟨k + 1, by omega, by go_num, gC7, by rw [← hst.out]; exact ho7, hc7⟩
  first | (simp [intOf]; done) | (simp [intOf]; omega)
 obtain rfl : k = L := by omega
 obtain ⟨Q, hQ⟩ : ∃ Q, idlesL I k = Q := ⟨_, rfl⟩
 rw [hQ] at hor hCl hCw hre
 replace hQ := lh hQ
 obtain ⟨q0, q1⟩ := id gCr
 clear gC hoA hcA hMk hlt hIl hIw
 go_wp2_with fail
 refine (hTb.out _).mono ?_
 rintro e w1 ⟨rfl, hb1⟩
 go_wp2_with fail
 refine (hWd.out _).mono ?_
 rintro e w2 ⟨rfl, hb2⟩
 have ho2 := (hor.keep hb1).keep hb2
 have hc2 := (hcr.trans (Chg.of_below (fun k => k = B) hb1) (fun k h => .inl h)).trans (Chg.of_below (fun k => k = B) hb2) (fun k h => .inl h)
 have hLw := lh (fun w3 (hc : Chg (fun k => k = B) w w3) => hw.keep (hb0.trans (hc.below (N := w0.heap.size) (fun k h => by rw [h]; exact hoc) hb0.size)))
 clear gCr hor hcr hb1 hb2 q0 q1 hTb hWd hre
 go_wp2_with fail
 go_loopw [45] (fun i wr => ∃ (j : Nat), j ≤ G ∧ i = .int .i64 j ∧ OwnU wr w0.heap.size (.slice (some ⟨B, 0, none⟩) n cap) (clrL Q k j) ∧ Chg (fun k => k = B) w wr) (fun i _ => G + 1 - (intOf i).toNat)
 case atStart => exact ⟨0, Nat.zero_le _, rfl, ho2, hc2⟩
 obtain ⟨j, hj, rfl, hor, hcr⟩ := hrel
 by_cases hlt : j < G
 rotate_left
 ·obtain rfl : j = G := by omega
  clear hlt
  go_wp2_with fail
  (first | go_end0 | go_ret)
  exact ⟨rfl, by rw [hQ.out]; exact hor, hcr⟩
 have hlt' : (j : Int) < (G : Int) := by omega
 have hil := hCl.out j
 have hxw := (hCw.out j).getN (F + j)
 have hst : (clrL Q k j).set (F + j) (noLog ((clrL Q k j).getD (F + j) 0)) = clrL Q k (j + 1) := by rw [← hF]; rfl
 have hsame := set_same (clrL Q k j) (F + j) (by omega)
 obtain ⟨P, hP⟩ : ∃ P, clrL Q k j = P := ⟨_, rfl⟩
 rw [hP] at hil hst hxw hor hsame
 obtain ⟨x, hx⟩ : ∃ x, P.getD (F + j) 0 = x := ⟨_, rfl⟩
 rw [hx] at hst hxw hsame
 have hMn : F + j < n := by omega
 obtain ⟨c1, -⟩ := hor.cell hil hMn
 rw [hx] at c1
 have hlw := hLw.out wr hcr
 replace hP := lh hP
 cases hok : okN x with
 | false =>
   have hno : noLog x = x := by unfold noLog; rw [if_neg (fun h => by rw [hok] at h; cases h.1)]
   have hD := dcN x wr hlw hxw hok
   clear hok hlw
   go_wp2_with fail
   refine hD.mono ?_
   rintro e w1 ⟨rfl, hb1⟩
   have hor1 := hor.keep hb1
   have hcr1 := hcr.trans (Chg.of_below (fun k => k = B) hb1) (fun k h => .inl h)
   have hA := bZ w1 (.cells #[.int .i64 0, .int .i64 0, .int .i64 0, .int .i64 0, .int .u64 0] 109)
   have HO := hor1.keep hA
   have HC := hcr1.trans (Chg.of_below (fun k => k = B) hA) (fun k h => .inl h)
   have hst2 : clrL Q k (j + 1) = P := by rw [← hst, hno]; exact hsame
   rw [← hst2] at HO
   clear hD hno hsame hst hst2 hor1 hcr1 hA hb1 hor hcr
   go_wp2_with fail
   go_roundw
   case rel => exact ⟨j + 1, by omega, by go_num, HO, HC⟩
   first | (simp [intOf]; done) | (simp [intOf]; omega)
 | true =>
   have hD := dcY x wr hlw hxw hok
   by_cases h4 : kN x = 4
   ·have hno : noLog x = 0 := by unfold noLog; rw [if_pos ⟨hok, h4⟩]
    rw [h4] at hD
    clear hok hlw h4
    go_wp2_with fail
    refine hD.mono ?_
    rintro e w1 ⟨rfl, hb1⟩
    have hor1 := hor.keep hb1
    have hcr1 := hcr.trans (Chg.of_below (fun k => k = B) hb1) (fun k h => .inl h)
    have hA := bZ w1 (.cells #[.int .i64 4, .int .i64 (cN x : Nat), .int .i64 (lnN x : Nat), .int .i64 (mN x : Nat), .int .u64 (bN x : Nat)] 109)
    have HO := hor1.keep hA
    have HC := hcr1.trans (Chg.of_below (fun k => k = B) hA) (fun k h => .inl h)
    obtain ⟨c6, f6⟩ := HO.cell hil hMn
    have hS := Chg.setCell (S := fun k => k = B) (w1.alloc (.cells #[.int .i64 4, .int .i64 (cN x : Nat), .int .i64 (lnN x : Nat), .int .i64 (mN x : Nat), .int .u64 (bN x : Nat)] 109)) B (F + j) (.int .u64 ((0 : Nat) : Int)) rfl
    have HO2 := HO.set (y := 0) hil hMn
    have HC2 := HC.trans hS (fun k h => .inl h)
    rw [hno] at hst
    rw [hst] at HO2
    clear hD hno hsame hst hor1 hcr1 hA hb1 hor hcr HO HC hS
    go_wp2_with fail
    go_roundw
    case rel => exact ⟨j + 1, by omega, by go_num, HO2, HC2⟩
    first | (simp [intOf]; done) | (simp [intOf]; omega)
   have hno : noLog x = x := by unfold noLog; rw [if_neg (fun h => h4 h.2)]
   have h4' : ¬ ((kN x : Nat) : Int) = 4 := by omega
   clear hok hlw
   go_wp2_with fail
   refine hD.mono ?_
   rintro e w1 ⟨rfl, hb1⟩
   have hor1 := hor.keep hb1
   have hcr1 := hcr.trans (Chg.of_below (fun k => k = B) hb1) (fun k h => .inl h)
   have hA := bZ w1 (.cells #[.int .i64 (kN x : Nat), .int .i64 (cN x : Nat), .int .i64 (lnN x : Nat), .int .i64 (mN x : Nat), .int .u64 (bN x : Nat)] 109)
   have HO := hor1.keep hA
   have HC := hcr1.trans (Chg.of_below (fun k => k = B) hA) (fun k h => .inl h)
   have hst2 : clrL Q k (j + 1) = P := by rw [← hst, hno]; exact hsame
   rw [← hst2] at HO
   clear hD hno hsame hst hst2 hor1 hcr1 hA hb1 hor hcr
   go_wp2_with fail
   go_roundw
   case rel => exact ⟨j + 1, by omega, by go_num, HO, HC⟩
   first | (simp [intOf]; done) | (simp [intOf]; omega)
end Go.Proofs.YtkkbngcgphlikaaGreatDoor
end
section
namespace Go.Proofs.YtkkbngcgphlikaaGreatDoor
theorem nodup_len : ∀ (n : Nat) (l : List Nat), l.Nodup → (∀ x ∈ l, x < n) → l.length ≤ n
 | 0, l, _, h => by
   cases l with
   | nil => simp
   | cons a l => exact absurd (h a (by simp)) (by omega)
 | n + 1, l, hd, h => by
   by_cases hm : n ∈ l
   ·have h1 := nodup_len n (l.erase n) (hd.erase n) (fun x hx => by
     have h2 := (hd.mem_erase_iff).1 hx
     have := h x h2.2
     have := h2.1
     omega)
    rw [List.length_erase_of_mem hm] at h1
    omega
   ·have h1 := nodup_len n l hd (fun x hx => by
     have := h x hx
     have : x ≠ n := fun q => hm (q ▸ hx)
     omega)
    omega
theorem logs_few (t : List Nat) (ln : Int) : (logsT t ln).length ≤ t.length := by
 refine nodup_len _ _ ?_ logs_bd
 unfold logsT
 split
 ·exact (logsR_srt t ln t.length (Nat.le_refl _) 8).imp (fun h q => by rw [q] at h; exact Int.lt_irrefl _ h)
 exact List.nodup_nil
theorem logSp_len {I : List Nat} {L ln : Nat} (h : gOk (I.length : Nat) (L : Nat) = true) : (logSp I L ln).length ≤ 1 + gNat I.length L := by
 have h1 := logs_few (tabW I L) (ln : Nat)
 rw [tabW_len h] at h1
 unfold logSp
 rw [List.length_cons, List.length_map]
 omega
theorem logSp_in {I : List Nat} {L ln : Nat} (h : gOk (I.length : Nat) (L : Nat) = true) (hl : ln < L) : ∀ x ∈ logSp I L ln, 0 ≤ x.1 ∧ x.2 = 32 ∧ x.1 + 32 ≤ (I.length : Nat) := by
 obtain ⟨s1, s2, s3, s4, s5, s6, s7, s8⟩ := pool_size h
 intro x hx
 unfold logSp at hx
 rcases List.mem_cons.1 hx with rfl | hx
 ·exact ⟨by simp only []; omega, rfl, by simp only []; omega⟩
 obtain ⟨i, hi, rfl⟩ := List.mem_map.1 hx
 have := logs_bd i hi
 rw [tabW_len h] at this
 unfold chSp
 exact ⟨by simp only []; omega, rfl, by simp only []; omega⟩
theorem logSp_PB {I : List Nat} {L ln : Nat} (h : gOk (I.length : Nat) (L : Nat) = true) (hl : ln < L) : PBs (logSp I L ln) := fun x hx => by
 have h1 := logSp_in h hl x hx
 have := (pool_size h).2.2.1
 unfold PB
 omega
theorem logSp_SB {I : List Nat} {L ln : Nat} (h : gOk (I.length : Nat) (L : Nat) = true) (hl : ln < L) : SBs (logSp I L ln) := fun x hx => by
 have h1 := logSp_in h hl x hx
 have := (pool_size h).2.2.1
 unfold SB
 omega
end Go.Proofs.YtkkbngcgphlikaaGreatDoor
end
section
namespace Go.Proofs.YtkkbngcgphlikaaGreatDoor
theorem pwL_min (x : Sp) (m k : Nat) : (pwL x m).take k = pwL x (min k m) := by
 unfold pwL
 rw [← List.map_take, List.take_range]
theorem pwL_len (x : Sp) (m : Nat) : (pwL x m).length = m := by unfold pwL; simp
theorem places_inter1 (x : Sp) (c n : Int) (hn : 0 ≤ n) : placesL (inter1 n (0, c) x) = (pwL x x.2.toNat).take (c - n).toNat := by
 rw [pwL_min]
 unfold inter1
 simp only []
 by_cases h : max (0 - n) 0 < min (0 + c - n) x.2
 ·rw [if_pos h]
  unfold placesL
  simp only [List.flatMap_cons, List.flatMap_nil, List.append_nil]
  have e1 : max (0 - n) 0 = 0 := by omega
  rw [e1] at h ⊢
  have e2 : (min (0 + c - n) x.2 - 0).toNat = min (c - n).toNat x.2.toNat := by omega
  rw [e2]
  unfold pwL
  simp only [Int.add_zero]
 rw [if_neg h]
 have e : min (c - n).toNat x.2.toNat = 0 := by omega
 rw [e]
 rfl
theorem places_inter (c : Int) : ∀ (l : List Sp) (n : Int), 0 ≤ n → Npos l → placesL (interL (0, c) n l) = (placesL l).take (c - n).toNat
 | [], n, _, _ => by simp [interL, placesL]
 | x :: l, n, hn, hl => by
   have hx := hl x (by simp)
   have ih := places_inter c l (n + x.2) (by omega) (fun y hy => hl y (List.mem_cons_of_mem _ hy))
   have e0 : placesL (x :: l) = pwL x x.2.toNat ++ placesL l := rfl
   have e1 : placesL (interL (0, c) n (x :: l)) = placesL (inter1 n (0, c) x) ++ placesL (interL (0, c) (n + x.2) l) := by
    rw [interL]; unfold placesL; rw [List.flatMap_append]
   rw [e1, ih, places_inter1 x c n hn, e0, List.take_append, pwL_len]
   rw [show (c - (n + x.2)).toNat = (c - n).toNat - x.2.toNat from by omega]
theorem gath_cut (I : List Nat) {l : List Sp} (hl : PBs l) (c : Nat) (h : (c : Int) ≤ totS l) : gathL I (cutL l (0, (c : Int))) = (gathL I l).take c := by
 unfold cutL gathL
 simp only []
 by_cases h0 : (c : Int) < 1
 ·rw [if_pos (.inr h0), show c = 0 from by omega]; rfl
 rw [if_neg (by omega), if_pos (by omega), places_inter (c : Int) l 0 (Int.le_refl _) hl.np, ← List.map_take, show ((c : Int) - 0).toNat = c from by omega]
theorem gath_len (I : List Nat) {l : List Sp} (hl : PBs l) : (gathL I l).length = (totS l).toNat := by
 unfold gathL; rw [List.length_map, (placesL_len l hl).1]
theorem gath_WL {I : List Nat} (h : WL I) (l : List Sp) : WL (gathL I l) := fun x hx => by
 obtain ⟨y, _, rfl⟩ := List.mem_map.1 hx
 unfold imgAt
 split
 ·exact h.getN _
 ·decide
theorem totS_32 : ∀ (l : List Sp), (∀ x ∈ l, x.2 = 32) → totS l = 32 * (l.length : Int)
 | [], _ => by rw [totS_nil]; rfl
 | x :: l, h => by
   rw [totS_cons, totS_32 l (fun y hy => h y (List.mem_cons_of_mem _ hy)), h x (by simp), List.length_cons]
   push_cast; omega
theorem logSp_tot {I : List Nat} {L ln : Nat} (h : gOk (I.length : Nat) (L : Nat) = true) (hl : ln < L) (hN : I.length ≤ 800) : 0 ≤ totS (logSp I L ln) ∧ totS (logSp I L ln) ≤ 800 := by
 have h1 := totS_32 (logSp I L ln) (fun x hx => (logSp_in h hl x hx).2.1)
 have h2 := logSp_len (ln := ln) h
 have h3 := pool_size h
 omega
end Go.Proofs.YtkkbngcgphlikaaGreatDoor
end
section
namespace Go.Proofs.YtkkbngcgphlikaaGreatDoor
open Go.Lib Go.RowKit Go.ChangeShapes Go.WideShapes Go.Deep
theorem run_slice2 {P : Program} {ty el : TypeId} {i0 : TypeInfo} (hu : P.underlying ty = some (.slice el)) (hi : P.info? el = some i0) (h1 : i0.size = 1) (g off n cap f e m : Nat) (h : f ≤ e) (h2 : e ≤ cap) (hm : m = e - f) (hm0 : 0 < m) (w : World) :
 (Instr.slice ty (.slice (some ⟨g, off, none⟩) n cap) (some (.int .i64 (f : Int))) (some (.int .i64 (e : Int))) none).run P w = .ok (.slice (some ⟨g, off + f, none⟩) m (cap - f)) w := by
 have h3 : (e : Int) ≤ (cap : Int) := by omega
 have h4 : (0 : Int) ≤ (e : Int) := by omega
 have h5 : (f : Int) ≤ (e : Int) := by omega
 have h6 : (0 : Int) ≤ (f : Int) := by omega
 subst hm
 simp [Instr.slice, run_underlying hu, Instr.sliceBounds, Instr.sliceBound, asIntOf, sizeOf, typeInfo, hi, h1, h3, h4, h5, h6, go_sem]
 rw [if_pos h2, if_pos h, if_neg (by omega)]
theorem KL.partC {K : IntKind} {w : World} {g off n cap : Nat} {l : List Nat} (h : KL K w (.slice (some ⟨g, off, none⟩) n cap) l) (hn : l.length = n) (f m c : Nat) (hf : f + m ≤ n) (hc : m ≤ c) : KL K w (.slice (some ⟨g, off + f, none⟩) m c) ((l.drop f).take m) := by
 have h1 := h.part hn f m hf
 have hlen : ((l.drop f).take m).length = m := by rw [List.length_take, List.length_drop]; omega
 obtain ⟨A, c2, hv, h2⟩ := h1
 simp only [Value.slice.injEq] at hv
 obtain ⟨rfl, -, rfl⟩ := hv
 refine ⟨_, c, by rw [hlen], fun hp => ?_⟩
 obtain ⟨g2, o2, hA, hg, _, hi⟩ := h2 hp
 exact ⟨g2, o2, hA, hg, by rw [hlen]; exact hc, hi⟩
theorem part15_any (g off n cap f m : Nat) (w : World) (h1 : f + m ≤ n) (h2 : n ≤ cap) (h3 : 1 ≤ m) (hn : n ≤ 100000) :
 Calls Tryz.prog 48 #[.slice (some ⟨g, off, none⟩) n cap, .agg #[.int .i64 (f : Nat), .int .i64 (m : Nat)]] w fun e w' => e = .returned (.slice (some ⟨g, off + f, none⟩) m (cap - f)) ∧ Below w.heap.size w w' := by
 have hA := bZ w (.cells #[.int .i64 (f : Nat), .int .i64 (m : Nat)] 70)
 obtain ⟨e, he⟩ : ∃ e, f + m = e := ⟨_, rfl⟩
 have w1 : IntKind.i64.wrap ((f : Int) + (m : Int)) = (e : Int) := by rw [IntKind.wrap_i64]; omega
 have w2 : (f : Int) + (m : Int) = (e : Int) := by omega
 obtain ⟨i0, hi, hz0, hz1, hz2⟩ := info_parts infoU64
 have hS := fun w => run_slice2 (P := Tryz.prog) Tryz.underlying25 hi hz1 g off n cap f e m (by omega) (by omega) (by omega) (by omega) w
 replace he := lh he
 go_enter Tryz.func48, Tryz.ntmps48
 go_wp2_with fail
 go_ret
 exact ⟨rfl, hA⟩
end Go.Proofs.YtkkbngcgphlikaaGreatDoor
end
section
namespace Go.Proofs.YtkkbngcgphlikaaGreatDoor
open Go.Lib Go.RowKit Go.ChangeShapes Go.WideShapes Go.Deep Go.Shelf
theorem evsF_bd (gn : Nat) : ∀ (f : Nat) (ws : List Nat), ∀ x ∈ (evsF gn f ws).filterMap id, 0 ≤ x.1 ∧ x.1 < 65536 ∧ 1 ≤ x.2.length ∧ x.2.length ≤ ws.length
 | _, [], x, h => by unfold evsF at h; simp at h
 | 0, _ :: _, x, h => by unfold evsF at h; simp at h
 | f + 1, w :: ws, x, h => by
   unfold evsF at h
   split at h
   ·rename_i ht
    obtain ⟨h1, h2, h3, h4⟩ := tkB_t ht
    obtain ⟨c1, c2, c3, c4⟩ := canB_iff.1 h1
    rw [List.filterMap_cons] at h
    simp only [id_eq, List.mem_cons] at h
    rcases h with rfl | h
    ·have hl : (((w :: ws).drop 1).take (manyN (w :: ws))).length = manyN (w :: ws) := by rw [List.length_take, List.length_drop]; omega
     unfold peN
     simp only []
     rw [hl]
     exact ⟨c1, c2, by omega, by omega⟩
    ·have := evsF_bd gn f _ x h
     rw [List.length_drop] at this
     exact ⟨this.1, this.2.1, this.2.2.1, by omega⟩
   ·simp at h
theorem decL_bd {gn : Nat} {ws : List Nat} {es : List Pe} (h : decL gn ws = some es) : es.length ≤ ws.length ∧ ∀ x ∈ es, 0 ≤ x.1 ∧ x.1 < 65536 ∧ 1 ≤ x.2.length ∧ x.2.length ≤ ws.length := by
 unfold decL at h
 split at h
 ·cases h
 cases h
 exact ⟨Nat.le_trans (List.length_filterMap_le _ _) (evs_len gn _ ws), evsF_bd gn _ ws⟩
def curO (pre : List Bv) : List Ox := pre.flatMap fun y => entOps (px y.2)
theorem curO_snoc (pre : List Bv) (y : Bv) : curO (pre ++ [y]) = curO pre ++ entOps (px y.2) := by unfold curO; rw [List.flatMap_append]; simp
theorem bk_snd2 (L : List Ex) : (bk L 0).map Prod.snd = L.reverse := by
 unfold bk
 rw [List.map_reverse, List.map_map]
 congr 1
 apply List.ext_getElem
 ·simp
 intro i h1 h2
 simp [List.getD_eq_getElem?_getD, List.getElem?_eq_getElem h2]
theorem curO_all (L : List Ex) : curO (bk L 0) = ((L.map px).reverse).flatMap entOps := by
 unfold curO
 rw [← List.map_reverse, ← bk_snd2, List.map_map, List.flatMap_map]
 rfl
theorem entOps_len (x : Pe) : (entOps x).length = x.2.length := by unfold entOps; simp
theorem entOps_take (x : Pe) (k : Nat) (h : k < x.2.length) : (entOps x).take (k + 1) = (entOps x).take k ++ [((0 : Int), x.1 + (k : Int), x.2.getD k 0)] := by
 unfold entOps
 rw [← List.map_take, ← List.map_take, List.take_range, List.take_range, Nat.min_eq_left (by omega), Nat.min_eq_left (by omega), List.range_succ, List.map_append]
 rfl
def HB (W : World) (b : Nat) (cs : Array Value) (t : TypeId) : Prop := W.heap[b]? = some (.cells cs t (0, 0))
theorem HB.lt {W : World} {b : Nat} {cs : Array Value} {t : TypeId} (h : HB W b cs t) : b < W.heap.size := (Array.getElem?_eq_some_iff.1 h).1
theorem HB.keep {w w1 : World} {b : Nat} {cs : Array Value} {t : TypeId} (h : HB w b cs t) (hb : Below w.heap.size w w1) : HB w1 b cs t := (hb.block b h.lt).trans h
theorem HB.new (w : World) (cs : Array Value) (t : TypeId) : HB (w.alloc (.cells cs t)) w.heap.size cs t := World.alloc_heap_new w _
theorem HB.walk {w w1 : World} {b : Nat} {cs : Array Value} {t : TypeId} {row : Option Nat} (h : HB w b cs t) (hg : w.grownBy w1 row) (hr : ∀ r, row = some r → ∃ o : Obj, w.heap[r]? = some o ∧ o.isCells = false) : HB w1 b cs t :=
 (hg.block b h.lt (fun e => by
   obtain ⟨o, ho, hc⟩ := hr b e.symm
   rw [show w.heap[b]? = _ from h] at ho; cases ho; cases hc)).trans h
theorem HB.c2 {w : World} {b : Nat} {x y : Value} {t : TypeId} (h : HB w b #[x, y] t) : C2 w b x y := ⟨(row_cell h 0).1, (row_cell h 1).1⟩
structure OI (n₀ Bo : Nat) (w0 : World) (ops : List Ox) (W : World) (v : Value) : Prop where
 b : Boxed W Bo 29 v
 o : OwnE 107 3 opE W n₀ v ops
 B : Below n₀ w0 W
theorem OI.walk {n₀ Bo : Nat} {w0 W Y : World} {ops : List Ox} {v : Value} {row : Option Nat} (h : OI n₀ Bo w0 ops W v) (hg : W.grownBy Y row) (hB : Below n₀ w0 Y) (hr : ∀ r, row = some r → ∃ o : Obj, W.heap[r]? = some o ∧ o.isCells = false) : OI n₀ Bo w0 ops Y v :=
 ⟨bx_walk h.b hg hr, h.o.walk hg hr, hB⟩
theorem OI.keep {n₀ Bo : Nat} {w0 W Y : World} {ops : List Ox} {v : Value} (h : OI n₀ Bo w0 ops W v) (hn : n₀ ≤ w0.heap.size) (hb : Below W.heap.size W Y) : OI n₀ Bo w0 ops Y v :=
 ⟨bx_keep h.b hb, h.o.keep hb, h.B.trans (hb.mono (Nat.le_trans hn h.B.size))⟩
theorem OI.add {n₀ Bo : Nat} {w0 W : World} {ops : List Ox} {v : Value} (h : OI n₀ Bo w0 ops W v) (hn : n₀ ≤ Bo) (hn0 : n₀ ≤ w0.heap.size) (hlen : ops.length ≤ 1000000) (k a : Int) (x : Nat) :
 ∃ g' m' c' w1, (Builtin.append_ #[29, 29] 29 #[v, .slice (some ⟨W.heap.size, 0, none⟩) 1 1]).run Tryz.prog (W.alloc (.cells #[.int .i64 k, .int .i64 a, .int .u64 (x : Nat)] (107 : Nat))) = .ok (.slice (some ⟨g', 0, none⟩) m' c') w1 ∧ Boxed w1 Bo 29 v ∧ OI n₀ Bo w0 (ops ++ [(k, a, x)]) (w1.setCell ⟨Bo, 0, none⟩ (.slice (some ⟨g', 0, none⟩) m' c')) (.slice (some ⟨g', 0, none⟩) m' c') ∧
   KeepsOthers W (w1.setCell ⟨Bo, 0, none⟩ (.slice (some ⟨g', 0, none⟩) m' c')) ∧ Kp n₀ Bo W (w1.setCell ⟨Bo, 0, none⟩ (.slice (some ⟨g', 0, none⟩) m' c')) ∧ (∀ b cs t, HB W b cs t → b ≠ Bo → t ≠ 107 → HB (w1.setCell ⟨Bo, 0, none⟩ (.slice (some ⟨g', 0, none⟩) m' c')) b cs t) := by
 have hne := h.b.not_row (e := 107) (by decide) h.o
 have hlit : EL 3 opE (W.alloc (.cells #[.int .i64 k, .int .i64 a, .int .u64 (x : Nat)] (107 : Nat))) (.slice (some ⟨W.heap.size, 0, none⟩) 1 1) [((k, a, x) : Ox)] := (OwnE.lit 107 opE_len W [((k, a, x) : Ox)] _ rfl (by simp)).el opE_len
 have hs : n₀ ≤ W.heap.size := Nat.le_trans hn0 h.B.size
 obtain ⟨v', w1, hrun, ho, hg, hl2, hnn⟩ := appE opT (h.o.alloc _) hlit (by simp; omega) (by omega) (by simp)
 obtain ⟨g', c', rfl, -⟩ := ho.form (by simp)
 have ho' := ho
 unfold OwnE at ho'
 obtain ⟨hv1, hv3, hr2, hk2, hb2⟩ := h.b.appended (by decide) h.o hs hn ho' hg
 have hkp := kp_body (n₀ := n₀) h.b hn (fun g q => (h.o.lt g q).1) hg hl2 hne (fun g q => (ho.lt g q).2)
 refine ⟨g', _, c', w1, hrun, hv1, ⟨hv3, hr2, h.B.trans hb2⟩, hk2, hkp, fun b cs t hb hbn ht => ?_⟩
 have hbl := hb.lt
 have e1 : (w1.setCell ⟨Bo, 0, none⟩ (.slice (some ⟨g', 0, none⟩) (ops ++ [((k, a, x) : Ox)]).length c')).heap[b]? = w1.heap[b]? := Below.heap_setCell w1 ⟨Bo, 0, none⟩ _ b (fun e => hbn e)
 have e2 : w1.heap[b]? = (W.alloc (.cells #[.int .i64 k, .int .i64 a, .int .u64 (x : Nat)] (107 : Nat))).heap[b]? := hg.block b (by simp; omega) (fun q => by
  rcases h.o.2 with ⟨e, _⟩ | ⟨g9, cap', cur, e, _, hgb, _⟩
  ·rw [e] at q; cases q
  rw [e] at q
  have q2 : b = g9 := by simpa [Value.ownBlock] using q
  subst q2
  have h3 := (show W.heap[b]? = _ from hb).symm.trans hgb
  simp at h3
  exact ht h3.2)
 exact (e1.trans (e2.trans (Below.heap_alloc W _ b hbl))).trans hb
theorem OwnE.sl3 {α : Type} {e : TypeId} {sz : Nat} {en : α → List Value} {w : World} {base : Nat} {v : Value} {l : List α} (h : OwnE e sz en w base v l) : ∃ A n c, v = .slice A n c := by
 rcases h.2 with ⟨q, _⟩ | ⟨g, cap, cur, q, _⟩
 ·exact ⟨_, _, _, q⟩
 exact ⟨_, _, _, q⟩
theorem OI.addL {n₀ Bo : Nat} {w0 W : World} {ops m : List Ox} {v u : Value} (h : OI n₀ Bo w0 ops W v) (hn : n₀ ≤ Bo) (hn0 : n₀ ≤ w0.heap.size) (hlen : ops.length ≤ 1000000) (hu : OPL W u m) (hm : m.length ≤ 1000000) :
 ∃ A' m' c' w1, (Builtin.append_ #[29, 29] 29 #[v, u]).run Tryz.prog W = .ok (.slice A' m' c') w1 ∧ Boxed w1 Bo 29 v ∧ OI n₀ Bo w0 (ops ++ m) (w1.setCell ⟨Bo, 0, none⟩ (.slice A' m' c')) (.slice A' m' c') ∧
   KeepsOthers W (w1.setCell ⟨Bo, 0, none⟩ (.slice A' m' c')) ∧ Kp n₀ Bo W (w1.setCell ⟨Bo, 0, none⟩ (.slice A' m' c')) ∧ (∀ b cs t, HB W b cs t → b ≠ Bo → t ≠ 107 → HB (w1.setCell ⟨Bo, 0, none⟩ (.slice A' m' c')) b cs t) := by
 have hne := h.b.not_row (e := 107) (by decide) h.o
 have hs : n₀ ≤ W.heap.size := Nat.le_trans hn0 h.B.size
 obtain ⟨v', w1, hrun, ho, hg, hl2, hnn⟩ := appE opT h.o hu (by omega) (by omega) (by omega)
 have hv1 := h.b.kept hg hne
 have hbl := h.b.lt
 have hnB : v'.ownBlock ≠ some Bo := fun q => by
  rcases hl2 with e | e
  ·rw [e] at q; exact hne q.symm
  rw [e] at q; simp at q; omega
 have hr2 := ho.kept (grownBy_setCell' w1 Bo v') (.inr hnB)
 have hrow : ∀ j o, v.ownBlock = some j → W.heap[j]? = some o → o.isCells = true := fun j o q ho2 => by
  rcases h.o.2 with ⟨e, _⟩ | ⟨g9, cap', cur, e, _, hgb, _⟩
  ·rw [e] at q; cases q
  rw [e] at q
  have q2 : g9 = j := by simpa [Value.ownBlock] using q
  subst q2
  rw [hgb] at ho2
  cases ho2
  rfl
 have hk := (KeepsOthers.of_grownBy hg hrow).trans (KeepsOthers.setCell w1 ⟨Bo, 0, none⟩ v')
 have hBl : Below n₀ W (w1.setCell ⟨Bo, 0, none⟩ v') := ((Below.refl n₀ W).grown hg hs (fun k q => (h.o.lt k q).1)).setCell hn _
 have hY : Boxed (w1.setCell ⟨Bo, 0, none⟩ v') Bo 29 v' := hv1.set v'
 have hkp : Kp n₀ Bo W (w1.setCell ⟨Bo, 0, none⟩ v') := by
  refine ⟨hBl, fun b cs tt f hbk hbn ho2 => ?_, fun b hb2 q => ?_, fun _ => ownLt_of hY (fun b q => by have := (ho.lt b q).2; simpa using this)⟩
  ·have hbl := (Array.getElem?_eq_some_iff.1 hbk).1
   rw [Below.heap_setCell w1 ⟨Bo, 0, none⟩ v' b hbn, hg.block b hbl (fun q => ho2 ((ownAt_iff h.b).2 q.symm))]
  have q1 := (ownAt_iff hY).1 q
  rcases hl2 with hl | hl
  ·exact (ownAt_iff h.b).2 (hl ▸ q1)
  rw [hl] at q1
  simp at q1; omega
 obtain ⟨A', m', c', rfl⟩ := ho.sl3
 refine ⟨A', m', c', w1, hrun, hv1, ⟨hY, hr2, h.B.trans hBl⟩, hk, hkp, fun b cs t hb hbn ht => ?_⟩
 have e1 : (w1.setCell ⟨Bo, 0, none⟩ (.slice A' m' c')).heap[b]? = w1.heap[b]? := Below.heap_setCell w1 ⟨Bo, 0, none⟩ _ b (fun e => hbn e)
 have e2 : w1.heap[b]? = W.heap[b]? := hg.block b hb.lt (fun q => by
  rcases h.o.2 with ⟨e, _⟩ | ⟨g9, cap', cur, e, _, hgb, _⟩
  ·rw [e] at q; cases q
  rw [e] at q
  have q2 : b = g9 := by simpa [Value.ownBlock] using q
  subst q2
  have h3 := (show W.heap[b]? = _ from hb).symm.trans hgb
  simp at h3
  exact ht h3.2)
 exact (e1.trans e2).trans hb
end Go.Proofs.YtkkbngcgphlikaaGreatDoor
end
