/-
  Part of the proof of SoundTells,SoundGiven.
-/
import Derived.Test.YtdmmbnnejbmdpaaGreatDoorVu910
import Derived.Test.YtdmmbnnejbmdpaaGreatDoorVu927
import Derived.Test.YtdmmbnnejbmdpaaGreatDoorVu932
import Derived.Test.YtdmmbnnejbmdpaaGreatDoorVu933
import Derived.Test.YtdmmbnnejbmdpaaGreatDoorVu90
set_option maxRecDepth 10000
set_option maxHeartbeats 4000000
set_option linter.unusedVariables false
set_option linter.unusedSimpArgs false
section
namespace Go.Proofs.YtdmmbnnejbmdpaaGreatDoor
open Go.Lib Go.RowKit Go.ChangeShapes Go.WideShapes Go.Deep Go.Shelf
def eO (o : Ob) : List Value := [.int .i64 (o.1 : Nat), .int .i64 (o.2.1 : Nat), .int .i64 (o.2.2.1 : Nat), .int .u64 (o.2.2.2 : Nat)]
theorem eO_len (x : Ob) : (eO x).length = 4 := rfl
theorem infoO : (Tryz.prog.info? 95).map (fun i => (i.zero, i.size, i.bytes)) = some (some (.agg #[.int .i64 0, .int .i64 0, .int .i64 0, .int .u64 0]), 4, 32) := by kernel_rfl
theorem oT : ElT Tryz.prog 91 95 4 32 eO :=
 ⟨Tryz.underlying91, by obtain ⟨i0, h1, h2, h3, h4⟩ := info_parts infoO; exact ⟨i0, _, h1, h2, h3, h4, rfl⟩, eO_len, fun x u hu => by simp only [eO, List.mem_cons, List.not_mem_nil, or_false] at hu; rcases hu with rfl | rfl | rfl | rfl <;> rfl, by decide, by decide⟩
abbrev OBO (w : World) (base : Nat) (v : Value) (l : List Ob) : Prop := OwnE 95 4 eO w base v l
theorem obRun {v : Value} {w : World} {base : Nat} {l : List Ob} (h : OBO w base v l) (hb : base ≤ w.heap.size) (hlen : l.length ≤ 1000000) (p t s n : Nat) :
 ∃ v' w', (Builtin.append_ #[91, 91] 91 #[v, .slice (some ⟨w.heap.size, 0, none⟩) 1 1]).run Tryz.prog (w.alloc (.cells #[.int .i64 (p : Nat), .int .i64 (t : Nat), .int .i64 (s : Nat), .int .u64 (n : Nat)] (95 : Nat))) = .ok v' w' ∧ OBO w' base v' (l ++ [(p, t, s, n)]) ∧ Below base w w' := by
 have hlit : EL 4 eO (w.alloc (.cells #[.int .i64 (p : Nat), .int .i64 (t : Nat), .int .i64 (s : Nat), .int .u64 (n : Nat)] (95 : Nat))) (.slice (some ⟨w.heap.size, 0, none⟩) 1 1) [((p, t, s, n) : Ob)] := (OwnE.lit 95 eO_len w [((p, t, s, n) : Ob)] _ rfl (by simp)).el eO_len
 obtain ⟨v', w1, hrun, ho, hg, hl2, hnn⟩ := appE oT (h.alloc _) hlit (by simp; omega) (by omega) (by simp)
 exact ⟨v', w1, hrun, ho, ((bZ w _).mono hb).trans (grown_below hg (by simp; omega) (fun k q => (h.lt k q).1))⟩
theorem BKO.formB {w : World} {base : Nat} {v : Value} {l : List Bl} {n : Nat} (h : BKO w base v l) (hn : l.length = n) : ∃ A cap, v = .slice A n cap ∧
 ∀ w1 i, Below w.heap.size w w1 → i < n → ∃ g off, A = some ⟨g, off, none⟩ ∧ n ≤ cap ∧ g < w.heap.size ∧ g < w1.heap.size ∧ w1.cell? ⟨g, off + i * 3, none⟩ = some (.int .i64 ((l.getD i default).1 : Nat)) ∧ w1.cell? ⟨g, off + i * 3 + 1, none⟩ = some (.int .i64 ((l.getD i default).2.1 : Nat)) ∧ w1.cell? ⟨g, off + i * 3 + 2, none⟩ = some (.int .i64 ((l.getD i default).2.2 : Nat)) := by
 obtain ⟨A, cap, hv, h⟩ := EL.form (h.el eB_len) hn
 refine ⟨A, cap, hv, fun w1 i hb hi => ?_⟩
 obtain ⟨g, off, hA, h1, h2, h3, hc⟩ := h w1 i hb hi
 exact ⟨g, off, hA, h1, h2, h3, hc 0 (by omega), hc 1 (by omega), hc 2 (by omega)⟩
theorem allO_take {I : List Nat} {L : Nat} {l : List Bl} {k : Nat} (h : k < l.length) : allO I L (l.take (k + 1)) = (allO I L (l.take k) && (objH I L (l.getD k default)).isSome) := by
 unfold allO
 rw [List.take_succ_eq_append_getElem h, List.all_append, List.getD_eq_getElem?_getD, List.getElem?_eq_getElem h]
 simp
theorem allO_no {I : List Nat} {L : Nat} {l : List Bl} {k : Nat} (h : k < l.length) (hn : (objH I L (l.getD k default)).isSome = false) : allO I L l = false := by
 refine List.all_eq_false.2 ⟨l.getD k default, by rw [List.getD_eq_getElem?_getD, List.getElem?_eq_getElem h]; exact List.getElem_mem h, ?_⟩
 rw [hn]; decide
theorem mapO_take {I : List Nat} {L : Nat} {l : List Bl} {k : Nat} (h : k < l.length) : (l.take (k + 1)).map (objE I L) = (l.take k).map (objE I L) ++ [objE I L (l.getD k default)] := by
 rw [List.take_succ_eq_append_getElem h, List.map_append, List.getD_eq_getElem?_getD, List.getElem?_eq_getElem h]; rfl
theorem bl_len {I : List Nat} {L : Nat} (hg : gOk (I.length : Nat) (L : Nat) = true) : (blI I L).length ≤ 8 * gNat I.length L := by
 unfold blI blksT
 split
 ·rw [← tab_len hg]
  have : ∀ (t : List Nat) (o : Nat), (blksFrom o t).length ≤ 8 * t.length := by
   intro t
   induction t with
   | nil => intro o; exact Nat.zero_le _
   | cons x t ih =>
     intro o
     show (blksAt o x ++ blksFrom (o + 1) t).length ≤ _
     rw [List.length_append, List.length_cons]
     have h1 := ih (o + 1)
     have h2 : (blksAt o x).length ≤ 8 := by
      unfold blksAt
      split
      ·rw [List.length_map]
       unfold liveL
       refine Nat.le_trans (List.length_filter_le _ _) ?_
       rw [List.length_range]
       unfold mnN
       split <;> (try split) <;> (try split) <;> omega
      ·split
       ·simp
       ·exact Nat.zero_le _
     omega
  exact this _ 0
 ·exact Nat.zero_le _
theorem objects_any (g off cap N L : Nat) (I : List Nat) (w : World) (hw : Lw w) (hW : WL I) (hv : KL .u64 w (.slice (some ⟨g, off, none⟩) N cap) I) (hN : I.length = N) (hN8 : N ≤ 800) (hL : I.getD 3 0 = L) (hs : gOk (N : Nat) (L : Nat) = true) :
 Calls Tryz.prog 45 #[.agg #[.slice (some ⟨g, off, none⟩) N cap, .int .i64 (N : Nat), .int .i64 (L : Nat)]] w fun e w' => ∃ v', e = .returned (.tuple #[v', .bool (allO I L (blI I L))]) ∧ OBO w' w.heap.size v' (objsP I L) ∧ Below w.heap.size w w' := by
 obtain ⟨s1, s2, s3, s4, s5, s6, s7, s8⟩ := pool_size hs
 have hcap : N ≤ cap := by
  obtain ⟨A, c2, hv2, h⟩ := hv.form hN
  cases hv2
  obtain ⟨_, _, _, h2, _⟩ := h w 0 (Below.refl _ _) (by omega)
  exact h2
 have hgI : gOk (I.length : Nat) (L : Nat) = true := by rw [hN]; exact hs
 obtain ⟨G, hG⟩ : ∃ G, gNat N L = G := ⟨_, rfl⟩
 have hTb := lh (fun w1 => table16 g off N cap L G w1 hs hG hcap)
 have htW : WL (tabW I L) := fun x hx => hW x (by unfold tabW at hx; exact List.mem_of_mem_drop (List.mem_of_mem_take hx))
 have htl : (tabW I L).length = G := by rw [tab_len hgI, hN, hG]
 have hBl := lh (fun w1 (hb : Below w.heap.size w w1) => blocksT_any (.slice (some ⟨g, off + (10 + 73 * L), none⟩) G (cap - (10 + 73 * L))) (tabW I L) w1 (hw.keep hb) (by
  have h := KL.partC (hv.keep hb) hN (10 + 73 * L) G (cap - (10 + 73 * L)) (by omega) (by omega)
  unfold tabW; rw [hN, hG]; exact h) htW (by omega))
 have hbd := lh (fun b (h : b ∈ blI I L) => plc_bd hgI h)
 have hbl := bl_len hgI
 have hPl := lh (fun (b : Bl) (hb : b ∈ blI I L) w1 => by
  have h := hbd.out b hb
  exact place_any N L b.1 b.2.1 b.2.2 w1 hs (by rw [← hN]; exact h.1) (by omega) (by omega) (by omega))
 obtain ⟨R, hR⟩ : ∃ R, blI I L = R := ⟨_, rfl⟩
 have hRb : blksT (tabW I L) = R := hR
 rw [hRb] at hBl
 have hob : objsP I L = if allO I L R = true then R.map (objE I L) else [] := by unfold objsP; rw [hR]
 rw [hR] at hbd hPl hbl ⊢
 obtain ⟨n, hn⟩ : ∃ n, R.length = n := ⟨_, rfl⟩
 have hn8 : n ≤ 8000 := by rw [hN, hG] at hbl; omega
 have hDc := lh (fun p w1 (hb : Below w.heap.size w w1) (hp : p + 2 ≤ N) => decode_any_oc (.slice (some ⟨g, off + p, none⟩) 2 (cap - p)) ((I.drop p).take 2) w1 (KL.partC (hv.keep hb) hN p 2 (cap - p) hp (by omega)) (fun x hx => hW x (List.mem_of_mem_drop (List.mem_of_mem_take hx))))
 obtain ⟨i0, hi, hz0, hz1, hz2⟩ := info_parts infoU64
 have hSl := lh (fun p (hp : p + 2 ≤ N) w1 => run_slice2 (P := Tryz.prog) Tryz.underlying25 hi hz1 g off N cap p (p + 2) 2 (by omega) (by omega) (by omega) (by omega) w1)
 have hRm := lh (fun (s : Nat) w1 (hb : Below w.heap.size w w1) => (rom_any (s : Nat) w1 (hw.keep hb).2.2.1).mono (fun e w' h => show e = .returned (.int .i64 (romJ (s : Nat))) ∧ Below w1.heap.size w1 w' from ⟨h.1, h.2 ▸ Below.refl _ _⟩))
 have hoH := lh (fun (b : Bl) => show objH I L b = (match hdAt I (plc N L b) with
  | some (t, s, n) => if romJ (s : Nat) = (b.2.2 : Nat) then some (plc N L b, t, s, n) else none
  | none => none) from by unfold objH; rw [hN]; rfl)
 have hat := lh (fun k (hk : k < n) => allO_take (I := I) (L := L) (l := R) (k := k) (by omega))
 have han := lh (fun k (hk : k < n) => allO_no (I := I) (L := L) (l := R) (k := k) (by omega))
 have hmt := lh (fun k (hk : k < n) => mapO_take (I := I) (L := L) (l := R) (k := k) (by omega))
 have hmem := lh (fun k (hk : k < n) => show R.getD k default ∈ R from by rw [List.getD_eq_getElem?_getD, List.getElem?_eq_getElem (by omega)]; exact List.getElem_mem _)
 have hRt : R.take n = R := List.take_of_length_le (by omega)
 replace hRt := lh hRt
 have hbN := lh (fun (b : Bl) (hb : b ∈ R) => show plc N L b + 4 ≤ N from by have h := hbd.out b hb; rw [hN] at h; exact h.2.2.2.2.2.1)
 replace hn := lh hn
 replace hR := lh hR
 replace hRb := lh hRb
 replace hob := lh hob
 replace hN := lh hN
 replace hL := lh hL
 replace hG := lh hG
 clear hbd hbl htW htl hgI s1 s2 s3 s4 s5 s6 s7 s8 hs hW
 have hb0 := bZ w (.cells #[.slice (some ⟨g, off, none⟩) N cap, .int .i64 (N : Nat), .int .i64 (L : Nat)] 73)
 have gP := HB.new w #[.slice (some ⟨g, off, none⟩) N cap, .int .i64 (N : Nat), .int .i64 (L : Nat)] 73
 obtain ⟨wb1, hwb1⟩ : ∃ x, w.alloc (.cells #[.slice (some ⟨g, off, none⟩) N cap, .int .i64 (N : Nat), .int .i64 (L : Nat)] 73) = x := ⟨_, rfl⟩
 have hswb1 : wb1.heap.size = w.heap.size + 1 := by rw [← hwb1]; simp
 rw [hwb1] at hb0 gP
 have hB : Below w.heap.size w wb1 := hb0
 clear hb0
 have p0 := (row_cell gP 0).1
 have p1 := (row_cell gP 1).1
 have p2 := (row_cell gP 2).1
 go_enter Tryz.func45, Tryz.ntmps45
 subst hwb1
 go_wp2_with fail
 refine (hTb.out _).mono ?_
 rintro e w1 ⟨rfl, hb1⟩
 have hB1 := hB.trans (hb1.mono hB.size)
 have gP1 := gP.keep hb1
 clear p0 p1 p2 hTb hB hb1 gP
 have hBl1 := hBl.out _ hB1
 clear hBl
 go_wp2_with fail
 refine hBl1.mono ?_
 rintro e w2 ⟨v2, rfl, ho2, hb2⟩
 obtain ⟨A2, c2, rfl, hF2⟩ := BKO.formB ho2 hn.out
 have hB2 := hB1.trans (hb2.mono hB1.size)
 have gP2 := gP1.keep hb2
 replace hF2 := lh hF2
 clear hBl1 hB1 hb2 gP1 ho2
 go_wp2_with fail
 go_loopw [14, 4] (fun i l wr => ∃ (j : Nat) (J : List Ob), j ≤ n ∧ i = .int .i64 (j : Nat) ∧ Hid (J = (R.take j).map (objE I L) ∧ J.length = j ∧ allO I L (R.take j) = true) ∧ OBO wr w2.heap.size l J ∧ Below w2.heap.size w2 wr) (fun i _ _ => n + 1 - (intOf i).toNat)
 case atStart => exact ⟨0, [], Nat.zero_le _, rfl, lh ⟨by simp, rfl, by simp [allO]⟩, World.ownsRow_nil _ _ _ _, Below.refl _ _⟩
 case round =>
  obtain ⟨j, J, hj, rfl, hJ, hown, hBr⟩ := hrel
  have gPr := gP2.keep hBr
  by_cases hlt : j < n
  ·have hlt' : (j : Int) < (n : Int) := by omega
   obtain ⟨g5, o5, rfl, hc5, hg5, hg6, k0, k1, k2⟩ := hF2.out wr j hBr hlt
   have hm := hmem.out j hlt
   have hPl1 := hPl.out _ hm
   have hbN1 := hbN.out _ hm
   have hoH1 := hoH.out (R.getD j default)
   have hat1 := hat.out j hlt
   have han1 := han.out j hlt
   have hmt1 := hmt.out j hlt
   have hoE : objE I L (R.getD j default) = (objH I L (R.getD j default)).getD default := rfl
   generalize R.getD j default = b at *
   obtain ⟨bc, bj, bm⟩ := b
   simp only [] at k0 k1 k2 hPl1 hbN1 hoH1
   obtain ⟨p, hp⟩ : ∃ p, plc N L (bc, bj, bm) = p := ⟨_, rfl⟩
   rw [hp] at hPl1 hbN1 hoH1
   replace hPl1 := lh hPl1
   have hp2 : p + 2 ≤ N := by omega
   have hSl1 := hSl.out p hp2
   obtain ⟨e2, he2⟩ : ∃ e, p + 2 = e := ⟨_, rfl⟩
   rw [he2] at hSl1
   have z1 : (p : Int) + 2 = (e2 : Int) := by omega
   have z2 : IntKind.i64.wrap (e2 : Int) = (e2 : Int) := wrapQ _ (by omega) (by omega)
   -- the block's own block
   have hA3 := bZ wr (.cells #[.int .i64 (bc : Nat), .int .i64 (bj : Nat), .int .i64 (bm : Nat)] 61)
   have gB3 := HB.new wr #[.int .i64 (bc : Nat), .int .i64 (bj : Nat), .int .i64 (bm : Nat)] 61
   have gP3 := gPr.keep hA3
   obtain ⟨w3, hw3⟩ : ∃ x, wr.alloc (.cells #[.int .i64 (bc : Nat), .int .i64 (bj : Nat), .int .i64 (bm : Nat)] 61) = x := ⟨_, rfl⟩
   rw [hw3] at hA3 gB3 gP3
   obtain ⟨K3, hK3⟩ : ∃ K, wr.heap.size = K := ⟨_, rfl⟩
   rw [hK3] at gB3
   have hB3 := hBr.trans (hA3.mono hBr.size)
   have ho3 := hown.keep hA3
   have p0 := (row_cell gP3 0).1
   have p1 := (row_cell gP3 1).1
   have p2 := (row_cell gP3 2).1
   have b0 := (row_cell gB3 0).1
   have b1 := (row_cell gB3 1).1
   have b2 := (row_cell gB3 2).1
   clear hA3 gPr hown hBr
   subst hw3
   go_wp2_with fail
   refine (hPl1.out _).mono ?_
   rintro e w4 ⟨rfl, hb4⟩
   have hB4 := hB3.trans (hb4.mono hB3.size)
   have gP4 := gP3.keep hb4
   have gB4 := gB3.keep hb4
   have ho4 := ho3.keep hb4
   clear p0 p1 p2 b0 b1 b2 k0 k1 k2 gP3 gB3 ho3 hB3 hb4 hPl1
   have p0 := (row_cell gP4 0).1
   have hD4 := hDc.out p w4 (hB2.trans (hB4.mono hB2.size)) hp2
   have hoH2 : objH I L (bc, bj, bm) = (match decH ((I.drop p).take 2) with
    | some (t, s, n) => if romJ (s : Nat) = (bm : Nat) then some (p, t, s, n) else none
    | none => none) := hoH1
   go_wp2_with fail
   refine hD4.mono ?_
   rintro e w5 ⟨rfl, hb5⟩
   have hB5 := hB4.trans (hb5.mono hB4.size)
   have gP5 := gP4.keep hb5
   have gB5 := gB4.keep hb5
   have ho5 := ho4.keep hb5
   clear p0 gP4 gB4 ho4 hB4 hb5 hD4
   rcases hdd : decH ((I.drop p).take 2) with _ | ⟨t, s, sn⟩
   ·have hno := lh (show allO I L R = false from han1 (by rw [hoH2, hdd]; rfl))
    simp only [hdd]
    clear hdd hoH2 hoH1 hat1 han1 hmt1 hoE
    unfold pV nV
    simp only [Option.isSome_none]
    have gH6 := HB.new w5 #[.int .i64 0, .int .i64 0, .int .u64 0] 71
    have e6 := bZ w5 (.cells #[.int .i64 0, .int .i64 0, .int .u64 0] 71)
    have gB6 := gB5.keep e6
    have gP6 := gP5.keep e6
    have ho6 := ho5.keep e6
    have hB6 := hB5.trans (e6.mono hB5.size)
    obtain ⟨w6, hw6⟩ : ∃ x, w5.alloc (.cells #[.int .i64 0, .int .i64 0, .int .u64 0] 71) = x := ⟨_, rfl⟩
    rw [hw6] at gH6 gB6 gP6 ho6 hB6 e6
    obtain ⟨H6, hH6⟩ : ∃ H, w5.heap.size = H := ⟨_, rfl⟩
    rw [hH6] at gH6
    have hCF := lh (fun w' (hb : Below w6.heap.size w6 w') => show w'.cell? ⟨H6, 1, none⟩ = some (.int .i64 0) ∧ w'.cell? ⟨K3, 2, none⟩ = some (.int .i64 (bm : Nat)) from ⟨(row_cell (gH6.keep hb) 1).1, (row_cell (gB6.keep hb) 2).1⟩)
    clear gB5 gP5 ho5 hB5 e6
    subst hw6
    go_wp2_with fail
    generalize w5.alloc (.cells #[.int .i64 0, .int .i64 0, .int .u64 0] 71) = w6 at *
    refine wp_region_held_drew (S := (fun w' => Below w6.heap.size w6 w')) (by kernel_rfl) (Below.refl _ _).drew (fun hHeld => ?_)
    refine takeH 0 ?_
    refine takeH 1 ?_
    refine takeH 2 ?_
    refine idleQ 3 ?_
    refine idleQ 4 ?_
    refine idleQ 5 ?_
    refine idleQ 6 ?_
    refine idleQ 7 ?_
    refine idleQ 8 ?_
    refine takeH 9 ?_
    refine wpAnyH_done (by kernel_rfl) ?_ _
    have hBe := hB2.trans ((hB6.trans (hHeld.mono hB6.size)).mono hB2.size)
    go_wp2_with fail
    go_ret2
    exact ⟨_, by rw [hno.out]; rfl, by rw [hob.out, hno.out]; exact World.ownsRow_nil _ _ _ _, hBe⟩
   ·simp only [hdd]
    obtain ⟨d1, d2, d3, d4⟩ := decH_bd hdd
    rw [hdd] at hoH2
    unfold pV nV
    simp only [Option.isSome_some] at hoH2 ⊢
    have gH6 := HB.new w5 #[.int .i64 (t : Nat), .int .i64 (s : Nat), .int .u64 (sn : Nat)] 71
    have e6 := bZ w5 (.cells #[.int .i64 (t : Nat), .int .i64 (s : Nat), .int .u64 (sn : Nat)] 71)
    have gB6 := gB5.keep e6
    have gP6 := gP5.keep e6
    have ho6 := ho5.keep e6
    have hB6 := hB5.trans (e6.mono hB5.size)
    obtain ⟨w6, hw6⟩ : ∃ x, w5.alloc (.cells #[.int .i64 (t : Nat), .int .i64 (s : Nat), .int .u64 (sn : Nat)] 71) = x := ⟨_, rfl⟩
    rw [hw6] at gH6 gB6 gP6 ho6 hB6 e6
    obtain ⟨H6, hH6⟩ : ∃ H, w5.heap.size = H := ⟨_, rfl⟩
    rw [hH6] at gH6
    have hCF := lh (fun w' (hb : Below w6.heap.size w6 w') => show w'.cell? ⟨H6, 1, none⟩ = some (.int .i64 (s : Nat)) ∧ w'.cell? ⟨K3, 2, none⟩ = some (.int .i64 (bm : Nat)) from ⟨(row_cell (gH6.keep hb) 1).1, (row_cell (gB6.keep hb) 2).1⟩)
    have hRm6 := lh (fun w1 (hb : Below w6.heap.size w6 w1) => hRm.out s w1 ((hB2.trans (hB6.mono hB2.size)).trans (hb.mono (hB2.trans (hB6.mono hB2.size)).size)))
    clear gB5 gP5 ho5 hB5 e6
    by_cases hr : romJ (s : Nat) = (bm : Nat)
    ·rw [if_pos hr] at hoH2
     rw [hr] at hRm6
     have hJ2 := lh (show J ++ [(p, t, s, sn)] = (R.take (j + 1)).map (objE I L) ∧ (J ++ [(p, t, s, sn)]).length = j + 1 ∧ allO I L (R.take (j + 1)) = true from by
      refine ⟨?_, ?_, ?_⟩
      ·rw [hmt1, ← hJ.out.1, hoE, hoH2]; rfl
      ·rw [List.length_append, hJ.out.2.1]; rfl
      ·rw [hat1, hJ.out.2.2, hoH2]; rfl)
     have hJl := hJ.out.2.1
     clear hdd hoH2 hoH1 hat1 han1 hmt1 hoE hr
     go_wp2_with fail
     refine wp_region_held_drew (S := (fun w' => Below w6.heap.size w6 w')) (by kernel_rfl) (Below.refl _ _).drew (fun hHeld => ?_)
     refine takeH 0 ?_
     refine takeH 1 ?_
     refine takeH 2 ?_
     refine takeH 3 ?_
     refine takeH 4 ?_
     refine takeH 6 ?_
     refine takeH 7 ?_
     refine oneL 5 rfl (by kernel_rfl) (fun K hK => ?_)
     go_simp
     refine (hRm6.out _ hHeld).mono ?_; rintro e w9 ⟨rfl, hb⟩
     refine hK.out _ _ (hHeld.trans (hb.mono hHeld.size)) (fun hHeld2 => ?_)
     clear hK K hHeld
     have hHeld := hHeld2
     clear hHeld2
     try simp only [Act.put,sA,sB,sC]
     refine takeH 8 ?_
     refine takeH 9 ?_
     refine wpAnyH_done (by kernel_rfl) ?_ _
     rename_i w7 _
     have hB7 := hB6.trans (hHeld.mono hB6.size)
     have ho7 := ho6.keep hHeld
     have gH7 := gH6.keep hHeld
     have h0 := (row_cell gH7 0).1
     have h1 := (row_cell gH7 1).1
     have h2 := (row_cell gH7 2).1
     obtain ⟨v8, w8, hrun, ho8, hb8⟩ := obRun ho7 hB7.size (by omega) p t s sn
     have hB8 := hB7.trans hb8
     clear hCF hRm6 ho6 gH6 gB6 gP6 hB6 ho7 hb8
     go_wp2_with (at_builtin; refine wpList_append_run rfl _ _ 91 rfl _ _ _ rfl rfl hrun ?_)
     go_roundw
     case rel => exact ⟨j + 1, J ++ [(p, t, s, sn)], by omega, by go_num, hJ2, ho8, hB8⟩
     case measure => first | (simp [intOf]; done) | (simp [intOf]; omega)
    ·rw [if_neg hr] at hoH2
     have hno := lh (show allO I L R = false from han1 (by rw [hoH2]; rfl))
     obtain ⟨rj, hrj⟩ : ∃ r, romJ (s : Nat) = r := ⟨_, rfl⟩
     rw [hrj] at hRm6 hr
     clear hdd hoH2 hoH1 hat1 han1 hmt1 hoE hrj
     go_wp2_with fail
     refine wp_region_held_drew (S := (fun w' => Below w6.heap.size w6 w')) (by kernel_rfl) (Below.refl _ _).drew (fun hHeld => ?_)
     refine takeH 0 ?_
     refine takeH 1 ?_
     refine takeH 2 ?_
     refine takeH 3 ?_
     refine takeH 4 ?_
     refine takeH 6 ?_
     refine takeH 7 ?_
     refine oneL 5 rfl (by kernel_rfl) (fun K hK => ?_)
     go_simp
     refine (hRm6.out _ hHeld).mono ?_; rintro e w9 ⟨rfl, hb⟩
     refine hK.out _ _ (hHeld.trans (hb.mono hHeld.size)) (fun hHeld2 => ?_)
     clear hK K hHeld
     have hHeld := hHeld2
     clear hHeld2
     try simp only [Act.put,sA,sB,sC]
     refine takeH 8 ?_
     refine takeH 9 ?_
     refine wpAnyH_done (by kernel_rfl) ?_ _
     have hBe := hB2.trans ((hB6.trans (hHeld.mono hB6.size)).mono hB2.size)
     go_wp2_with fail
     go_ret2
     exact ⟨_, by rw [hno.out]; rfl, by rw [hob.out, hno.out]; exact World.ownsRow_nil _ _ _ _, hBe⟩
  ·obtain rfl : n = j := by omega
   have hlt' : ¬ (n : Int) < (n : Int) := by omega
   have hal := lh (show allO I L R = true from by have h := hJ.out.2.2; rw [hRt.out] at h; exact h)
   have hJR := lh (show J = R.map (objE I L) from by have h := hJ.out.1; rw [hRt.out] at h; exact h)
   have hBe := hB2.trans (hBr.mono hB2.size)
   go_wp2_with fail
   go_ret2
   exact ⟨_, by rw [hal.out]; rfl, by rw [hob.out, hal.out, if_pos rfl, ← hJR.out]; exact hown.mono hB2.size, hBe⟩
end Go.Proofs.YtdmmbnnejbmdpaaGreatDoor
end
section
namespace Go.Proofs.YtdmmbnnejbmdpaaGreatDoor
open Go.Lib Go.RowKit Go.ChangeShapes Go.WideShapes Go.Deep Go.Shelf
abbrev Itm := Nat × Nat × Nat × List Pe × List Ox
abbrev ItV := Nat × Nat × Nat × (Value × List Pe) × (Value × List Ox)
def eIt (x : ItV) : List Value := [.int .u8 (x.1 : Nat), .int .u8 (x.2.1 : Nat), .int .u64 (x.2.2.1 : Nat), slV x.2.2.2.1.1, slV x.2.2.2.2.1]
def itm (x : ItV) : Itm := (x.1, x.2.1, x.2.2.1, x.2.2.2.1.2, x.2.2.2.2.2)
def eSl (s : Nat × Nat) : List Value := [.int .u16 (s.1 : Nat), .int .u64 (s.2 : Nat)]
structure Gv where
 a : Nat
 b : Nat
 tiles : List Nat
 fill : List Nat
 items : List Itm
 root : Nat
 epoch : Nat
 spoil : List (Nat × Nat)
structure GvM (w : World) (vT vF vI vS : Value) (xs : List ItV) (p : Gv) : Prop where
 t : KL .u16 w vT p.tiles
 f : KL .u64 w vF p.fill
 i : EL 5 eIt w vI xs
 e : ∀ x ∈ xs, EN w x.2.2.2.1.1 x.2.2.2.1.2
 o : ∀ x ∈ xs, OPL w x.2.2.2.2.1 x.2.2.2.2.2
 x : xs.map itm = p.items
 s : EL 2 eSl w vS p.spoil
theorem GvM.keep {w w1 : World} {vT vF vI vS : Value} {xs : List ItV} {p : Gv} (h : GvM w vT vF vI vS xs p) (hb : Below w.heap.size w w1) : GvM w1 vT vF vI vS xs p :=
 ⟨h.t.keep hb, h.f.keep hb, h.i.keep hb, fun x hx => (h.e x hx).keep hb, fun x hx => (h.o x hx).keep hb, h.x, h.s.keep hb⟩
structure GvB (p : Gv) : Prop where
 a : p.a < 256
 b : p.b < 256
 t : HL p.tiles
 f : WL p.fill
 i : ∀ x ∈ p.items, x.1 < 256 ∧ x.2.1 < 256 ∧ x.2.2.1 < 18446744073709551616 ∧ (∀ e ∈ x.2.2.2.1, WL e.2) ∧ OVs x.2.2.2.2
 r : p.root < 18446744073709551616
 e : p.epoch < 18446744073709551616
 s : ∀ x ∈ p.spoil, x.1 < 65536 ∧ x.2 < 18446744073709551616
def gvV (p : Gv) (vT vF vI vS : Value) : Value := .agg #[.int .u8 (p.a : Nat), .int .u8 (p.b : Nat), vT, vF, vI, .int .u64 (p.root : Nat), .int .u64 (p.epoch : Nat), vS]
def gvC (p : Gv) (vT vF vI vS : Value) : Array Value := #[.int .u8 (p.a : Nat), .int .u8 (p.b : Nat), vT, vF, vI, .int .u64 (p.root : Nat), .int .u64 (p.epoch : Nat), vS]
theorem EN.sl {w : World} {v : Value} {l : List Pe} (h : EN w v l) : ∃ A c, v = .slice A l.length c := by
 obtain ⟨xs, h1, h2, h3⟩ := h
 obtain ⟨A, c, hv, _⟩ := h1
 exact ⟨A, c, by rw [hv, ← h3, List.length_map]⟩
theorem EL.sl {α : Type} [Inhabited α] {sz : Nat} {en : α → List Value} {w : World} {v : Value} {l : List α} (h : EL sz en w v l) : ∃ A c, v = .slice A l.length c := by
 obtain ⟨A, c, hv, _⟩ := h
 exact ⟨A, c, hv⟩
theorem GvM.item {w : World} {vT vF vS : Value} {AI : Option Addr} {n cI : Nat} {xs : List ItV} {p : Gv} (h : GvM w vT vF (.slice AI n cI) vS xs p) (hn : p.items.length = n) (w1 : World) (hb : Below w.heap.size w w1) (j : Nat) (hj : j < n) :
 ∃ g off ln st gn Ae ce Ao co es ops, AI = some ⟨g, off, none⟩ ∧ n ≤ cI ∧ g < w.heap.size ∧ p.items.getD j default = (ln, st, gn, es, ops) ∧ (ln, st, gn, es, ops) ∈ p.items ∧ EN w1 (.slice Ae es.length ce) es ∧ OPL w1 (.slice Ao ops.length co) ops ∧
   (w1.cell? ⟨g, off + j * 5, none⟩ = some (.int .u8 (ln : Nat)) ∧ w1.cell? ⟨g, off + j * 5 + 1, none⟩ = some (.int .u8 (st : Nat)) ∧ w1.cell? ⟨g, off + j * 5 + 2, none⟩ = some (.int .u64 (gn : Nat)) ∧ w1.cell? ⟨g, off + j * 5 + 3, none⟩ = some (.slice Ae es.length ce) ∧ w1.cell? ⟨g, off + j * 5 + 4, none⟩ = some (.slice Ao ops.length co)) := by
 have hl : xs.length = n := by rw [← hn, ← h.x, List.length_map]
 obtain ⟨A, c, hv, hc⟩ := EL.form h.i hl
 cases hv
 obtain ⟨g, off, rfl, h1, h2, h3, h4⟩ := hc w1 j hb hj
 have hm : xs.getD j default ∈ xs := by rw [List.getD_eq_getElem?_getD, List.getElem?_eq_getElem (by omega)]; exact List.getElem_mem _
 have hit : p.items.getD j default = itm (xs.getD j default) := by
  rw [← h.x, List.getD_eq_getElem?_getD, List.getD_eq_getElem?_getD, List.getElem?_map, List.getElem?_eq_getElem (by omega)]
  rfl
 have hE := (h.e _ hm).keep hb
 have hO := (h.o _ hm).keep hb
 have hmi : itm (xs.getD j default) ∈ p.items := by rw [← h.x]; exact List.mem_map_of_mem hm
 obtain ⟨q, hq⟩ : ∃ q, xs.getD j default = q := ⟨_, rfl⟩
 rw [hq] at hE hO hit hmi h4
 obtain ⟨ln, st, gn, ⟨ve, es⟩, ⟨vo, ops⟩⟩ := q
 simp only [] at hE hO
 obtain ⟨Ae, ce, rfl⟩ := hE.sl
 obtain ⟨Ao, co, rfl⟩ := EL.sl hO
 exact ⟨g, off, ln, st, gn, Ae, ce, Ao, co, es, ops, rfl, h1, h2, hit, hmi, hE, hO, h4 0 (by omega), h4 1 (by omega), h4 2 (by omega), h4 3 (by omega), h4 4 (by omega)⟩
def gvL (p : Gv) : Nat := 1 + p.a % 3
def gvG (p : Gv) : Nat := 1 + p.b % 8
def gvN (p : Gv) : Nat := 10 + 73 * gvL p + 33 * gvG p
theorem geom_any (p : Gv) (AT AF AI AS : Option Addr) (nT cT nF cF nI cI nS cS : Nat) (w : World) (hB : GvB p) :
 Calls Tryz.prog 22 #[gvV p (.slice AT nT cT) (.slice AF nF cF) (.slice AI nI cI) (.slice AS nS cS)] w fun e w' => e = .returned (.agg #[.int .i64 (gvN p : Nat), .int .i64 (gvL p : Nat)]) ∧ Below w.heap.size w w' := by
 have ha := hB.a
 have hb := hB.b
 unfold gvV gvN gvL gvG
 obtain ⟨a, hpa⟩ : ∃ a, p.a = a := ⟨_, rfl⟩
 obtain ⟨b, hpb⟩ : ∃ b, p.b = b := ⟨_, rfl⟩
 rw [hpa] at ha
 rw [hpb] at hb
 rw [hpa, hpb]
 generalize p.root = r
 generalize p.epoch = ep
 obtain ⟨a3, ha3⟩ : ∃ a3, a % 3 = a3 := ⟨_, rfl⟩
 obtain ⟨b8, hb8⟩ : ∃ b8, b % 8 = b8 := ⟨_, rfl⟩
 have m1 : (a : Int) % 3 = (a3 : Int) := by omega
 have m2 : (b : Int) % 8 = (b8 : Int) := by omega
 have m3 : (a : Int).tmod 3 = (a3 : Int) := by rw [Int.tmod_eq_emod_of_nonneg (by omega)]; exact m1
 have m4 : (b : Int).tmod 8 = (b8 : Int) := by rw [Int.tmod_eq_emod_of_nonneg (by omega)]; exact m2
 have hS := lh (fun w1 => show Calls Tryz.prog 59 #[.int .u8 (a3 : Nat), .int .u8 (b8 : Nat), .int .u8 0] w1 (fun e w' => e = .returned (.agg #[.int .i64 ((10 + 73 * (1 + a3) + 33 * (1 + b8) : Nat) : Int), .int .i64 ((1 + a3 : Nat) : Int)]) ∧ Below w1.heap.size w1 w') from by
  have h := small_any (a3 : Nat) (b8 : Nat) 0 w1 (by omega) (by omega) (by omega) (by omega) (by omega) (by omega)
  rw [show ((10 + 73 * (1 + a3) + 33 * (1 + b8) : Nat) : Int) = smW (a3 : Nat) (b8 : Nat) 0 from by unfold smW; omega, show ((1 + a3 : Nat) : Int) = smL (a3 : Nat) from by unfold smL; omega]
  exact h)
 rw [ha3, hb8]
 generalize 10 + 73 * (1 + a3) + 33 * (1 + b8) = N at *
 generalize 1 + a3 = L at *
 have hB1 := bZ w (.cells #[.int .u8 (a : Nat), .int .u8 (b : Nat), .slice AT nT cT, .slice AF nF cF, .slice AI nI cI, .int .u64 (r : Nat), .int .u64 (ep : Nat), .slice AS nS cS] 47)
 have gP := HB.new w #[.int .u8 (a : Nat), .int .u8 (b : Nat), .slice AT nT cT, .slice AF nF cF, .slice AI nI cI, .int .u64 (r : Nat), .int .u64 (ep : Nat), .slice AS nS cS] 47
 obtain ⟨wa, hwa⟩ : ∃ x, w.alloc (.cells #[.int .u8 (a : Nat), .int .u8 (b : Nat), .slice AT nT cT, .slice AF nF cF, .slice AI nI cI, .int .u64 (r : Nat), .int .u64 (ep : Nat), .slice AS nS cS] 47) = x := ⟨_, rfl⟩
 have hsa : wa.heap.size = w.heap.size + 1 := by rw [← hwa]; simp
 rw [hwa] at hB1 gP
 have gR := HB.new wa #[.int .i64 0, .int .i64 0] 51
 have e2 := bZ wa (.cells #[.int .i64 0, .int .i64 0] 51)
 have gP2 := gP.keep e2
 have hB2 := hB1.trans (e2.mono hB1.size)
 obtain ⟨wb, hwb⟩ : ∃ x, wa.alloc (.cells #[.int .i64 0, .int .i64 0] 51) = x := ⟨_, rfl⟩
 rw [hwb] at gP2 gR hB2
 rw [hsa] at gR
 obtain ⟨C, hC⟩ : ∃ C, w.heap.size = C := ⟨_, rfl⟩
 rw [hC] at gP2 gR hsa
 have p0 := (row_cell gP2 0).1
 have p1 := (row_cell gP2 1).1
 clear hB1 gP e2 m1 m2 ha3 hb8
 have m1 : (a : Int) % 3 = (a3 : Int) := by rw [← m3, Int.tmod_eq_emod_of_nonneg (by omega)]
 have m2 : (b : Int) % 8 = (b8 : Int) := by rw [← m4, Int.tmod_eq_emod_of_nonneg (by omega)]
 go_enter Tryz.func22, Tryz.ntmps22
 subst hwb hwa
 go_wp2_with fail
 refine (hS.out _).mono ?_
 rintro e w1 ⟨rfl, hb1⟩
 have gR1 := gR.keep hb1
 have hB3 := hB2.trans (hb1.mono hB2.size)
 obtain ⟨r0, f0⟩ := row_cell gR1 0
 obtain ⟨r1, f1⟩ := row_cell gR1 1
 obtain ⟨w9, h9, ⟨c0, c1⟩, hb9⟩ := st2_ex (HB.c2 gR1) (.int .i64 (N : Nat)) (.int .i64 (L : Nat))
 have hB9 := hB3.trans (hb9.mono (by omega))
 clear gP2 gR gR1 hb1 hb9 hB2 hB3 p0 p1 hS
 subst h9
 go_wp2_with fail
 refine bodyPost_ret (v := .agg #[.int .i64 (N : Nat), .int .i64 (L : Nat)]) (by simp [results, Tryz.results22, go_sem, c0, c1]) rfl ⟨rfl, hB9⟩
def fewI (x : Itm) : Bool := decide (x.2.2.2.1.length ≤ 12) && decide (x.2.2.2.2.length ≤ 22) && x.2.2.2.1.all fun e => decide (e.2.length ≤ 20)
def fewB (p : Gv) : Bool := decide (p.tiles.length ≤ 20 ∧ p.fill.length ≤ 40 ∧ p.items.length ≤ 4 ∧ p.spoil.length ≤ 4) && p.items.all fewI
theorem all_take_succ {α : Type} [Inhabited α] {l : List α} {P : α → Bool} {k : Nat} (h : k < l.length) (h1 : (l.take k).all P = true) (h2 : P (l.getD k default) = true) : (l.take (k + 1)).all P = true := by
 rw [List.take_succ_eq_append_getElem h, List.all_append, h1, Bool.true_and]
 rw [List.getD_eq_getElem?_getD, List.getElem?_eq_getElem h] at h2
 simp only [Option.getD_some] at h2
 simp [h2]
theorem all_bad {α : Type} [Inhabited α] {l : List α} {P : α → Bool} {k : Nat} (h : k < l.length) (h2 : P (l.getD k default) = false) : l.all P = false := by
 rw [List.getD_eq_getElem?_getD, List.getElem?_eq_getElem h] at h2
 simp only [Option.getD_some] at h2
 rw [Bool.eq_false_iff]
 intro q
 have := List.all_eq_true.1 q _ (List.getElem_mem h)
 rw [h2] at this
 cases this
end Go.Proofs.YtdmmbnnejbmdpaaGreatDoor
end
