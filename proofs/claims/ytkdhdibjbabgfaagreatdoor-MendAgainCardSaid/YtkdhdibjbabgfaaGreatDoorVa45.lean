/-
  Part of the proof of MendAgain.
-/
import Derived.Test.YtkdhdibjbabgfaaGreatDoorVa44
import Derived.Lib.SmallJoins
section
set_option linter.unusedVariables false
set_option linter.unusedSimpArgs false
namespace Go.Proofs.YtkdhdibjbabgfaaGreatDoor
open Go.Lib Go.RowKit Go.ChangeShapes Go.WideShapes Go.Deep Go.Shelf
theorem EN.at {w : World} {Ae : Option Addr} {ne ce : Nat} {es : List Pe} (h : EN w (.slice Ae ne ce) es) (hl : es.length = ne) (w1 : World) (hb : Below w.heap.size w w1) (k : Nat) (hk : k < ne) :
 ∃ g off a A l c, Ae = some ⟨g, off, none⟩ ∧ ne ≤ ce ∧ g < w.heap.size ∧ es.getD k default = (a, l) ∧ (a, l) ∈ es ∧ KL .u64 w1 (.slice A l.length c) l ∧ (w1.cell? ⟨g, off + k * 2, none⟩ = some (.int .i64 a) ∧ w1.cell? ⟨g, off + k * 2 + 1, none⟩ = some (.slice A l.length c)) := by
 obtain ⟨xs, h1, h2, h3⟩ := h
 have hx : xs.length = ne := by rw [← hl, ← h3, List.length_map]
 obtain ⟨A, c, hv, hc⟩ := EL.form h1 hx
 cases hv
 obtain ⟨g, off, rfl, q1, q2, q3, q4⟩ := hc w1 k hb hk
 have hm : xs.getD k default ∈ xs := by rw [List.getD_eq_getElem?_getD, List.getElem?_eq_getElem (by omega)]; exact List.getElem_mem _
 have hit : es.getD k default = px (xs.getD k default) := by
  rw [← h3, List.getD_eq_getElem?_getD, List.getD_eq_getElem?_getD, List.getElem?_map, List.getElem?_eq_getElem (by omega)]
  rfl
 have hmi : px (xs.getD k default) ∈ es := by rw [← h3]; exact List.mem_map_of_mem hm
 have hK := (h2 _ hm).keep hb
 obtain ⟨q, hq⟩ : ∃ q, xs.getD k default = q := ⟨_, rfl⟩
 rw [hq] at hK hit hmi q4
 obtain ⟨a, v, l⟩ := q
 simp only [] at hK
 obtain ⟨A2, c2, hv2, _⟩ := hK.form rfl
 subst hv2
 exact ⟨g, off, a, A2, l, c2, rfl, q1, q2, hit, hmi, hK, q4 0 (by omega), q4 1 (by omega)⟩
set_option maxRecDepth 10000 in
set_option maxHeartbeats 1000000 in
theorem few_any15 (p : Gv) (vT vF vI vS : Value) (xs : List ItV) (w : World) (hM : GvM w vT vF vI vS xs p) :
 Calls Tryz.prog 10 #[gvV p vT vF vI vS] w fun e w' => e = .returned (.bool (fewB p)) ∧ Below w.heap.size w w' := by
 obtain ⟨nT, hnT⟩ : ∃ n, p.tiles.length = n := ⟨_, rfl⟩
 obtain ⟨nF, hnF⟩ : ∃ n, p.fill.length = n := ⟨_, rfl⟩
 obtain ⟨nI, hnI⟩ : ∃ n, p.items.length = n := ⟨_, rfl⟩
 obtain ⟨nS, hnS⟩ : ∃ n, p.spoil.length = n := ⟨_, rfl⟩
 obtain ⟨AT, cT, rfl, -⟩ := hM.t.form hnT
 obtain ⟨AF, cF, rfl, -⟩ := hM.f.form hnF
 obtain ⟨AI, cI, rfl⟩ : ∃ A c, vI = .slice A nI c := by
  obtain ⟨A, c, h⟩ := EL.sl hM.i
  exact ⟨A, c, by rw [h, ← hnI, ← hM.x, List.length_map]⟩
 obtain ⟨AS, cS, rfl, -⟩ := EL.form hM.s hnS
 have hfe : fewB p = (decide (nT ≤ 20 ∧ nF ≤ 40 ∧ nI ≤ 4 ∧ nS ≤ 4) && p.items.all fewI) := by unfold fewB; rw [hnT, hnF, hnI, hnS]
 have hB1 := (Below.refl w.heap.size w).alloc (Nat.le_refl _) (.cells (gvC p (.slice AT nT cT) (.slice AF nF cF) (.slice AI nI cI) (.slice AS nS cS)) 28)
 have gP := HB.new w (gvC p (.slice AT nT cT) (.slice AF nF cF) (.slice AI nI cI) (.slice AS nS cS)) 28
 have hIt := Lib.hid (fun w1 (hb : Below w.heap.size w w1) j (hj : j < nI) => hM.item hnI w1 hb j hj)
 have hstep := Lib.hid (fun j (hj : j < nI) (h1 : (p.items.take j).all fewI = true) (h2 : fewI (p.items.getD j default) = true) => all_take_succ (l := p.items) (P := fewI) (k := j) (by omega) h1 h2)
 have hbad := Lib.hid (fun j (hj : j < nI) (h2 : fewI (p.items.getD j default) = false) => show fewB p = false from by rw [hfe, all_bad (l := p.items) (P := fewI) (k := j) (by omega) h2, Bool.and_false])
 have hall := Lib.hid (fun (h1 : nT ≤ 20 ∧ nF ≤ 40 ∧ nI ≤ 4 ∧ nS ≤ 4) (h : (p.items.take nI).all fewI = true) => show fewB p = true from by
  rw [hfe, decide_eq_true h1, Bool.true_and, ← h, List.take_of_length_le (by omega)])
 have hbig := Lib.hid (fun (h1 : ¬ (nT ≤ 20 ∧ nF ≤ 40 ∧ nI ≤ 4 ∧ nS ≤ 4)) => show fewB p = false from by rw [hfe, decide_eq_false h1, Bool.false_and])
 unfold gvC at hB1 gP
 unfold gvV
 generalize fewB p = R at *
 generalize p.a = a at *
 generalize p.b = b at *
 generalize p.root = r at *
 generalize p.epoch = ep at *
 have p2 := (row_cell gP 2).1
 have p3 := (row_cell gP 3).1
 have p4 := (row_cell gP 4).1
 have p7 := (row_cell gP 7).1
 obtain ⟨W1, hW1⟩ : ∃ W1, w.alloc (.cells #[.int .u8 (a : Nat), .int .u8 (b : Nat), .slice AT nT cT, .slice AF nF cF, .slice AI nI cI, .int .u64 (r : Nat), .int .u64 (ep : Nat), .slice AS nS cS] 28) = W1 := ⟨_, rfl⟩
 rw [hW1] at p2 p3 p4 p7 hB1
 obtain ⟨C, hC⟩ : ∃ C, w.heap.size = C := ⟨_, rfl⟩
 rw [hC] at p2 p3 p4 p7
 replace hnT := Lib.hid hnT
 replace hnF := Lib.hid hnF
 replace hnI := Lib.hid hnI
 replace hnS := Lib.hid hnS
 clear hfe gP hM
 by_cases h1' : 20 < nT
 ·have hno := Lib.hid (hbig.out (fun q => by omega))
  have d1 : (20 : Int) < (nT : Int) := by omega
  subst hW1
  go_enter Tryz.func10, Tryz.ntmps10
  go_wp2_with fail
  go_ret
  exact ⟨by rw [hno.out]; rfl, hB1⟩
 have e1 : decide ((20 : Int) < (nT : Int)) = false := decide_eq_false (by omega)
 by_cases h2' : 40 < nF
 ·have hno := Lib.hid (hbig.out (fun q => by omega))
  have d1 : (40 : Int) < (nF : Int) := by omega
  subst hW1
  go_enter Tryz.func10, Tryz.ntmps10
  go_wp2_with fail
  go_ret
  exact ⟨by rw [hno.out]; rfl, hB1⟩
 have e2 : decide ((40 : Int) < (nF : Int)) = false := decide_eq_false (by omega)
 by_cases h3' : 4 < nI
 ·have hno := Lib.hid (hbig.out (fun q => by omega))
  have d1 : (4 : Int) < (nI : Int) := by omega
  subst hW1
  go_enter Tryz.func10, Tryz.ntmps10
  go_wp2_with fail
  go_ret
  exact ⟨by rw [hno.out]; rfl, hB1⟩
 have e3 : decide ((4 : Int) < (nI : Int)) = false := decide_eq_false (by omega)
 by_cases h4' : 4 < nS
 ·have hno := Lib.hid (hbig.out (fun q => by omega))
  have d1 : (4 : Int) < (nS : Int) := by omega
  subst hW1
  go_enter Tryz.func10, Tryz.ntmps10
  go_wp2_with fail
  go_ret
  exact ⟨by rw [hno.out]; rfl, hB1⟩
 have e4 : decide ((4 : Int) < (nS : Int)) = false := decide_eq_false (by omega)
 replace hall := Lib.hid (hall.out (by omega))
 clear hbig
 have h0 : Hid ((p.items.take 0).all fewI = true) := Lib.hid (by simp)
 go_enter Tryz.func10, Tryz.ntmps10
 rw [hC]
 subst hW1
 go_wp2_with fail
 obtain ⟨W1, hW1⟩ : ∃ W1, w.alloc (.cells #[.int .u8 (a : Nat), .int .u8 (b : Nat), .slice AT nT cT, .slice AF nF cF, .slice AI nI cI, .int .u64 (r : Nat), .int .u64 (ep : Nat), .slice AS nS cS] 28) = W1 := ⟨_, rfl⟩
 rw [hW1] at p2 p3 p4 p7 hB1 ⊢
 clear hW1
 go_loopw [3] (fun i wr => ∃ (j : Nat), j ≤ nI ∧ i = .int .i64 j ∧ Hid ((p.items.take j).all fewI = true) ∧ wr = W1) (fun i _ => nI + 1 - (intOf i).toNat)
 case atStart => exact ⟨0, Nat.zero_le _, rfl, h0, rfl⟩
 case round =>
  obtain ⟨j, hj, rfl, hA, rfl⟩ := hrel
  by_cases hlt : j < nI
  ·have hlt' : (j : Int) < (nI : Int) := by omega
   obtain ⟨g, off, ln, st, gn, Ae, ce, Ao, co, es, ops, rfl, hcI, hg, hit, hmem, hE, hO, c0, c1, c2, c3, c4⟩ := hIt.out wr hB1 j hlt
   obtain ⟨ne, hne⟩ : ∃ n, es.length = n := ⟨_, rfl⟩
   obtain ⟨no, hno⟩ : ∃ n, ops.length = n := ⟨_, rfl⟩
   have hfi : fewI (ln, st, gn, es, ops) = (decide (ne ≤ 12) && decide (no ≤ 22) && es.all fun e => decide (e.2.length ≤ 20)) := by unfold fewI; simp only []; rw [hne, hno]
   rw [hne] at hE c3
   rw [hno] at hO c4
   have hsj := hstep.out j hlt hA.out
   have hbj := hbad.out j hlt
   rw [hit] at hsj hbj
   replace hne := Lib.hid hne
   replace hno := Lib.hid hno
   by_cases f1 : 12 < ne
   ·have hR := Lib.hid (hbj (by rw [hfi, decide_eq_false (by omega)]; rfl))
    have f1' : (12 : Int) < (ne : Int) := by omega
    clear hsj hbj hfi hit
    go_wp2_with fail
    go_ret
    exact ⟨by rw [hR.out]; rfl, by first | exact hB1 | (rw [← hC]; exact hB1)⟩
   by_cases f2 : 22 < no
   ·have hR := Lib.hid (hbj (by rw [hfi, decide_eq_false (p := no ≤ 22) (by omega), Bool.and_false]; rfl))
    have f1' : decide ((12 : Int) < (ne : Int)) = false := decide_eq_false (by omega)
    have f2' : (22 : Int) < (no : Int) := by omega
    clear hsj hbj hfi hit
    go_wp2_with fail
    go_ret
    exact ⟨by rw [hR.out]; rfl, by first | exact hB1 | (rw [← hC]; exact hB1)⟩
   have f1' : decide ((12 : Int) < (ne : Int)) = false := decide_eq_false (by omega)
   have f2' : decide ((22 : Int) < (no : Int)) = false := decide_eq_false (by omega)
   have hfi2 : fewI (ln, st, gn, es, ops) = es.all fun e => decide (e.2.length ≤ 20) := by rw [hfi, decide_eq_true (p := no ≤ 22) (by omega), decide_eq_true (p := ne ≤ 12) (by omega)]; rfl
   have hEa := Lib.hid (fun k (hk : k < ne) => hE.at hne.out wr (Below.refl _ _) k hk)
   have hst2 := Lib.hid (fun k (hk : k < ne) (q1 : (es.take k).all (fun e => decide (e.2.length ≤ 20)) = true) (q2 : decide ((es.getD k default).2.length ≤ 20) = true) => all_take_succ (l := es) (P := fun e => decide (e.2.length ≤ 20)) (k := k) (by have := hne.out; omega) q1 q2)
   have hbd2 := Lib.hid (fun k (hk : k < ne) (q2 : decide ((es.getD k default).2.length ≤ 20) = false) => hbj (by rw [hfi2]; exact all_bad (l := es) (P := fun e => decide (e.2.length ≤ 20)) (k := k) (by have := hne.out; omega) q2))
   have hdn := Lib.hid (fun (q : (es.take ne).all (fun e => decide (e.2.length ≤ 20)) = true) => hsj (by rw [hfi2, ← q, List.take_of_length_le (by have := hne.out; omega)]))
   have h02 : Hid ((es.take 0).all (fun e => decide (e.2.length ≤ 20)) = true) := Lib.hid (by simp)
   have hn12 : ne ≤ 12 := by omega
   clear hsj hbj hfi hfi2 hit hE hO
   go_wp2_with fail
   go_loopw [4] (fun i wq => ∃ (k : Nat), k ≤ ne ∧ i = .int .i64 k ∧ Hid ((es.take k).all (fun e => decide (e.2.length ≤ 20)) = true) ∧ wq = wr) (fun i _ => ne + 1 - (intOf i).toNat)
   case atStart => exact ⟨0, Nat.zero_le _, rfl, h02, rfl⟩
   case round =>
    obtain ⟨k, hk, rfl, hAk, rfl⟩ := hrel
    by_cases hltk : k < ne
    ·have hltk' : (k : Int) < (ne : Int) := by omega
     obtain ⟨ge, oe, ea, eA, el, ec, rfl, q1, q2, q3, q4, q5, d0, d1⟩ := hEa.out k hltk
     obtain ⟨el9, hel⟩ : ∃ n, el.length = n := ⟨_, rfl⟩
     have hs2 := hst2.out k hltk hAk.out
     have hb2 := hbd2.out k hltk
     rw [q3] at hs2 hb2
     simp only [] at hs2 hb2
     rw [hel] at d1 hs2 hb2
     replace hel := Lib.hid hel
     by_cases f3 : 20 < el9
     ·have hR := Lib.hid (hb2 (decide_eq_false (by omega)))
      have f3' : (20 : Int) < (el9 : Int) := by omega
      clear hs2 hb2 q3
      go_wp2_with fail
      go_ret
      exact ⟨by rw [hR.out]; rfl, by first | exact hB1 | (rw [← hC]; exact hB1)⟩
     ·have hR := Lib.hid (hs2 (decide_eq_true (by omega)))
      have f3' : decide ((20 : Int) < (el9 : Int)) = false := decide_eq_false (by omega)
      clear hs2 hb2 q3
      go_wp2_with fail
      go_roundw
      case rel => exact ⟨k + 1, by omega, by go_num, hR, by trivial⟩
      case measure => first | (simp [intOf]; done) | (simp [intOf]; omega)
    ·obtain rfl : k = ne := by omega
     have hR := Lib.hid (hdn.out hAk.out)
     have hltk' : decide ((k : Int) < (k : Int)) = false := decide_eq_false (by omega)
     go_wp2_with fail
     go_roundw
     case rel => exact ⟨j + 1, by omega, by go_num, hR, by trivial⟩
     case measure => first | (simp [intOf]; done) | (simp [intOf]; omega)
  ·obtain rfl : j = nI := by omega
   have hR := Lib.hid (hall.out hA.out)
   have hlt' : decide ((j : Int) < (j : Int)) = false := decide_eq_false (by omega)
   go_wp2_with fail
   go_ret
   exact ⟨by rw [hR.out]; rfl, by first | exact hB1 | (rw [← hC]; exact hB1)⟩
end Go.Proofs.YtkdhdibjbabgfaaGreatDoor
end
section
set_option linter.unusedVariables false
set_option linter.unusedSimpArgs false
namespace Go.Proofs.YtkdhdibjbabgfaaGreatDoor
open Go.RowKit Go.ChangeShapes Go.WideShapes Go.Deep
theorem halves_open {H : Type} {enc : TypeId × Value → H} {P : Program} {W : World} {t e : TypeId} (ht : P.underlying t = some (.slice e)) (he : P.underlying e = some (.int .u16)) (hc : P.cellsOf e = 1) {ad : Option Addr} {len cap : Nat} {d : DataW H} {p : List MemPlace}
 (h : DataW.Trod enc P W 0 (fun _ => true) true t (.slice ad len cap) d p) : ∃ l : List Nat, HL l ∧ KL .u16 W (.slice ad len cap) l := by
 obtain ⟨fuel, hf⟩ := h
 rcases open_ints ht he hc hf with ⟨hcs, _⟩ | ⟨a, len', cap', zs, hcs, _, hl, hm, hz, _, hcell, hwz⟩
 ·simp [Value.cells] at hcs
  obtain ⟨rfl, rfl, rfl⟩ := hcs
  exact ⟨[], fun x hx => by simp at hx, none, 0, rfl, fun h => by simp at h⟩
 ·simp [Value.cells] at hcs
  obtain ⟨rfl, rfl, rfl⟩ := hcs
  simp only [if_true] at hz
  have hb : ∀ z ∈ zs, 0 ≤ z ∧ z ≤ 65535 := fun z hz => bounds_u16 (hwz z hz)
  have hlen : ((zs.take len).map Int.toNat).length = len := by simp; omega
  refine ⟨(zs.take len).map Int.toNat, fun x hx => ?_, some a, cap, by rw [hlen], fun h0 => ?_⟩
  ·obtain ⟨z, hz1, rfl⟩ := List.mem_map.1 hx
   have := hb z (List.mem_of_mem_take hz1)
   omega
  ·rw [hlen] at h0 ⊢
   have hc0 := hcell 0 (by omega)
   have hsp : a.spot = none := by
    have := spot_none hc0
    unfold Addr.add at this
    simpa using this
   obtain ⟨g, off, sp⟩ := a
   simp only at hsp
   subst hsp
   refine ⟨g, off, rfl, ?_, by omega, fun i hil => ?_⟩
   ·have := World.block_lt_of_cell? _ _ hc0
    simpa [add_plain] using this
   ·have := hcell i (by omega)
    rw [add_plain] at this
    rw [this]
    have hzi : i < zs.length := by omega
    have e1 : ((zs.take len).map Int.toNat).getD i 0 = (zs[i]).toNat := by
     rw [List.getD_eq_getElem?_getD, List.getElem?_map, List.getElem?_take, if_pos hil, List.getElem?_eq_getElem hzi]
     rfl
    have e2 : zs.getD i 0 = zs[i] := by rw [List.getD_eq_getElem?_getD, List.getElem?_eq_getElem hzi]; rfl
    rw [e1, e2, Int.toNat_of_nonneg (hb _ (List.getElem_mem hzi)).1]
def XOk (W : World) (x : Ex) : Prop := WL x.2.2 ∧ KL .u64 W x.2.1 x.2.2
def XL (W : World) (l : List Ex) : Prop := l.length ≤ 9223372036854775807 ∧ ∀ x ∈ l, XOk W x
def XPL (w : World) (v : Value) (l : List Ex) : Prop := EL 2 eS w v l
theorem XL.en {W : World} {v : Value} {l : List Ex} (h : XL W l) (hv : XPL W v l) : EN W v (l.map px) := ⟨l, hv, fun x hx => (h.2 x hx).2, rfl⟩
theorem XL.len {W : World} {l : List Ex} (h : XL W l) : (l.map px).length ≤ 9223372036854775807 := by rw [List.length_map]; exact h.1
theorem XL.wl {W : World} {l : List Ex} (h : XL W l) : ∀ x ∈ l.map px, WL x.2 := fun x hx => by
 obtain ⟨y, hy, rfl⟩ := List.mem_map.1 hx
 exact (h.2 y hy).1
theorem ci : Tryz.prog.cellsOf 3 = 1 := by kernel_rfl
theorem cl64 : Tryz.prog.cellsOf 23 = 1 := by kernel_rfl
theorem cEn : Tryz.prog.cellsOf 64 = 2 := by kernel_rfl
set_option maxRecDepth 10000 in
theorem entry_read {H : Type} {enc : TypeId × Value → H} {W : World} {fuel : Nat} {cs : List Value} {x : DataW H × List MemPlace} (hl : cs.length = 2) (h : DataW.trod enc Tryz.prog W 0 (fun _ => true) true fuel 64 cs = some x) :
 ∃ o : Ex, XOk W o ∧ cs = eS o := by
 obtain ⟨xs, n, _, rfl, _, hxl, hf⟩ := DataW.trod_struct Tryz.underlying64 h
 match xs, hxl, cs, hl with
 | [y0, y1], _, [u0, u1], _ =>
   have g0 : DataW.trod enc Tryz.prog W 0 (fun _ => true) true n 3 ((([u0, u1] : List Value).drop 0).take (Tryz.prog.cellsOf 3)) = some y0 := hf 0 _ rfl
   have g1 : DataW.trod enc Tryz.prog W 0 (fun _ => true) true n 23 ((([u0, u1] : List Value).drop 1).take (Tryz.prog.cellsOf 23)) = some y1 := hf 1 _ rfl
   rw [ci] at g0
   rw [cl64] at g1
   obtain ⟨a0, e0, rfl, w0⟩ := DataW.trod_int Tryz.underlying3 g0
   simp at e0
   subst e0
   have hs : ∃ ad len cap, u1 = .slice ad len cap := by
    rcases open_slice Tryz.underlying23 g1 with ⟨hcs, _⟩ | ⟨a, len', cap', m, n', D, Pl, hcs, _⟩
    ·simp at hcs; exact ⟨none, 0, 0, hcs⟩
    ·simp at hcs; exact ⟨some a, len', cap', hcs⟩
   obtain ⟨ad, len, cap, rfl⟩ := hs
   obtain ⟨d1, p1⟩ := y1
   have hT : DataW.Trod enc Tryz.prog W 0 (fun _ => true) true 23 (.slice ad len cap) d1 p1 := ⟨n, by simpa [Value.cells] using g1⟩
   obtain ⟨l, hl, hk⟩ := wordsK_open Tryz.underlying23 Tryz.underlying25 (by kernel_rfl) hT
   exact ⟨(a0, .slice ad len cap, l), ⟨hl, hk⟩, rfl⟩
theorem ents_open {H : Type} {enc : TypeId × Value → H} {W : World} {ad : Option Addr} {len cap : Nat} {d : DataW H} {p : List MemPlace}
 (h : DataW.Trod enc Tryz.prog W 0 (fun _ => true) true 60 (.slice ad len cap) d p) : ∃ l : List Ex, XL W l ∧ XPL W (.slice ad len cap) l :=
 els_open (Ok := XOk W) Tryz.underlying60 cEn (by decide) (fun fuel cs x hl hx => entry_read hl hx) h
def OB (o : Ox) : Prop := -9223372036854775808 ≤ o.1 ∧ o.1 ≤ 9223372036854775807 ∧ -9223372036854775808 ≤ o.2.1 ∧ o.2.1 ≤ 9223372036854775807 ∧ o.2.2 < 18446744073709551616
def OL (l : List Ox) : Prop := l.length ≤ 9223372036854775807 ∧ ∀ o ∈ l, OB o
theorem OL.ov {l : List Ox} (h : OL l) : ∀ o ∈ l, o.2.2 < 18446744073709551616 := fun o ho => (h.2 o ho).2.2.2.2
set_option maxRecDepth 10000 in
theorem ops_open {H : Type} {enc : TypeId × Value → H} {W : World} {ad : Option Addr} {len cap : Nat} {d : DataW H} {p : List MemPlace}
 (h : DataW.Trod enc Tryz.prog W 0 (fun _ => true) true 35 (.slice ad len cap) d p) : ∃ l : List Ox, OL l ∧ OPL W (.slice ad len cap) l := by
 refine els_open (Ok := OB) Tryz.underlying35 (by kernel_rfl) (by decide) (fun fuel cs x hl hx => ?_) h
 obtain ⟨xs, n, _, _, _, hxl, hf⟩ := DataW.trod_struct Tryz.underlying53 hx
 match xs, hxl, cs, hl with
 | [y0, y1, y2], _, [v0, v1, v2], _ =>
   have ci : Tryz.prog.cellsOf 3 = 1 := by kernel_rfl
   have cu : Tryz.prog.cellsOf 25 = 1 := by kernel_rfl
   have g0 : DataW.trod enc Tryz.prog W 0 (fun _ => true) true n 3 ((([v0, v1, v2] : List Value).drop 0).take (Tryz.prog.cellsOf 3)) = some y0 := hf 0 _ rfl
   have g1 : DataW.trod enc Tryz.prog W 0 (fun _ => true) true n 3 ((([v0, v1, v2] : List Value).drop 1).take (Tryz.prog.cellsOf 3)) = some y1 := hf 1 _ rfl
   have g2 : DataW.trod enc Tryz.prog W 0 (fun _ => true) true n 25 ((([v0, v1, v2] : List Value).drop 2).take (Tryz.prog.cellsOf 25)) = some y2 := hf 2 _ rfl
   rw [ci] at g0 g1
   rw [cu] at g2
   obtain ⟨a0, e0, _, w0⟩ := DataW.trod_int Tryz.underlying3 g0
   obtain ⟨a1, e1, _, w1⟩ := DataW.trod_int Tryz.underlying3 g1
   obtain ⟨a2, e2, _, w2⟩ := DataW.trod_int Tryz.underlying25 g2
   simp at e0 e1 e2
   subst e0 e1 e2
   have b0 := bounds_i64 w0
   have b1 := bounds_i64 w1
   have b2 := bounds_u64 w2
   obtain ⟨n2, rfl⟩ := Int.eq_ofNat_of_zero_le (show 0 ≤ a2 by omega)
   exact ⟨(a0, a1, n2), ⟨by simp only []; omega, by simp only []; omega, by simp only []; omega, by simp only []; omega, by simp only []; omega⟩, rfl⟩
theorem sl_cell {H : Type} {enc : TypeId × Value → H} {P : Program} {W : World} {n : Nat} {t e : TypeId} {u : Value} {y : DataW H × List MemPlace} (ht : P.underlying t = some (.slice e)) (h : DataW.trod enc P W 0 (fun _ => true) true n t [u] = some y) :
 ∃ ad len cap, u = .slice ad len cap ∧ DataW.Trod enc P W 0 (fun _ => true) true t (.slice ad len cap) y.1 y.2 := by
 have hs : ∃ ad len cap, u = .slice ad len cap := by
  obtain ⟨d, p⟩ := y
  rcases open_slice ht h with ⟨hcs, _⟩ | ⟨a, len', cap', m, n', D, Pl, hcs, _⟩
  ·simp at hcs; exact ⟨none, 0, 0, hcs⟩
  ·simp at hcs; exact ⟨some a, len', cap', hcs⟩
 obtain ⟨ad, len, cap, rfl⟩ := hs
 exact ⟨ad, len, cap, rfl, ⟨n, by obtain ⟨d, p⟩ := y; simpa [Value.cells] using h⟩⟩
def ItOk (W : World) (x : ItV) : Prop := x.1 < 256 ∧ x.2.1 < 256 ∧ x.2.2.1 < 18446744073709551616 ∧ EN W x.2.2.2.1.1 x.2.2.2.1.2 ∧ (∀ e ∈ x.2.2.2.1.2, WL e.2) ∧ OPL W x.2.2.2.2.1 x.2.2.2.2.2 ∧ OVs x.2.2.2.2.2
def SlOk (x : Nat × Nat) : Prop := x.1 < 65536 ∧ x.2 < 18446744073709551616
theorem c8 : Tryz.prog.cellsOf 5 = 1 := by kernel_rfl
theorem c16 : Tryz.prog.cellsOf 48 = 1 := by kernel_rfl
theorem c64 : Tryz.prog.cellsOf 25 = 1 := by kernel_rfl
theorem cls : Tryz.prog.cellsOf 60 = 1 ∧ Tryz.prog.cellsOf 35 = 1 ∧ Tryz.prog.cellsOf 22 = 1 ∧ Tryz.prog.cellsOf 24 = 1 ∧ Tryz.prog.cellsOf 26 = 1 := by refine ⟨?_, ?_, ?_, ?_, ?_⟩ <;> kernel_rfl
set_option maxRecDepth 10000 in
theorem item_read {H : Type} {enc : TypeId × Value → H} {W : World} {fuel : Nat} {cs : List Value} {x : DataW H × List MemPlace} (hl : cs.length = 5) (h : DataW.trod enc Tryz.prog W 0 (fun _ => true) true fuel 62 cs = some x) :
 ∃ o : ItV, ItOk W o ∧ cs = eIt o := by
 obtain ⟨xs, n, _, rfl, _, hxl, hf⟩ := DataW.trod_struct Tryz.underlying62 h
 match xs, hxl, cs, hl with
 | [y0, y1, y2, y3, y4], _, [u0, u1, u2, u3, u4], _ =>
   have g0 : DataW.trod enc Tryz.prog W 0 (fun _ => true) true n 5 ((([u0, u1, u2, u3, u4] : List Value).drop 0).take (Tryz.prog.cellsOf 5)) = some y0 := hf 0 _ rfl
   have g1 : DataW.trod enc Tryz.prog W 0 (fun _ => true) true n 5 ((([u0, u1, u2, u3, u4] : List Value).drop 1).take (Tryz.prog.cellsOf 5)) = some y1 := hf 1 _ rfl
   have g2 : DataW.trod enc Tryz.prog W 0 (fun _ => true) true n 25 ((([u0, u1, u2, u3, u4] : List Value).drop 2).take (Tryz.prog.cellsOf 25)) = some y2 := hf 2 _ rfl
   have g3 : DataW.trod enc Tryz.prog W 0 (fun _ => true) true n 60 ((([u0, u1, u2, u3, u4] : List Value).drop 3).take (Tryz.prog.cellsOf 60)) = some y3 := hf 3 _ rfl
   have g4 : DataW.trod enc Tryz.prog W 0 (fun _ => true) true n 35 ((([u0, u1, u2, u3, u4] : List Value).drop 4).take (Tryz.prog.cellsOf 35)) = some y4 := hf 4 _ rfl
   rw [c8] at g0 g1
   rw [c64] at g2
   rw [cls.1] at g3
   rw [cls.2.1] at g4
   obtain ⟨a0, e0, _, w0⟩ := DataW.trod_int Tryz.underlying5 g0
   obtain ⟨a1, e1, _, w1⟩ := DataW.trod_int Tryz.underlying5 g1
   obtain ⟨a2, e2, _, w2⟩ := DataW.trod_int Tryz.underlying25 g2
   simp at e0 e1 e2
   subst e0 e1 e2
   have b0 := bounds_u8 w0
   have b1 := bounds_u8 w1
   have b2 := bounds_u64 w2
   obtain ⟨n0, rfl⟩ := Int.eq_ofNat_of_zero_le (show 0 ≤ a0 by omega)
   obtain ⟨n1, rfl⟩ := Int.eq_ofNat_of_zero_le (show 0 ≤ a1 by omega)
   obtain ⟨n2, rfl⟩ := Int.eq_ofNat_of_zero_le (show 0 ≤ a2 by omega)
   obtain ⟨A3, l3, c3, rfl, T3⟩ := sl_cell Tryz.underlying60 g3
   obtain ⟨A4, l4, c4, rfl, T4⟩ := sl_cell Tryz.underlying35 g4
   obtain ⟨es, h3, k3⟩ := ents_open T3
   obtain ⟨os, h4, k4⟩ := ops_open T4
   exact ⟨(n0, n1, n2, (.slice A3 l3 c3, es.map px), (.slice A4 l4 c4, os)), ⟨by simp only []; omega, by simp only []; omega, by simp only []; omega, h3.en k3, h3.wl, k4, h4.ov⟩, rfl⟩
set_option maxRecDepth 10000 in
theorem spoil_read {H : Type} {enc : TypeId × Value → H} {W : World} {fuel : Nat} {cs : List Value} {x : DataW H × List MemPlace} (hl : cs.length = 2) (h : DataW.trod enc Tryz.prog W 0 (fun _ => true) true fuel 79 cs = some x) :
 ∃ o : Nat × Nat, SlOk o ∧ cs = eSl o := by
 obtain ⟨xs, n, _, rfl, _, hxl, hf⟩ := DataW.trod_struct Tryz.underlying79 h
 match xs, hxl, cs, hl with
 | [y0, y1], _, [u0, u1], _ =>
   have g0 : DataW.trod enc Tryz.prog W 0 (fun _ => true) true n 48 ((([u0, u1] : List Value).drop 0).take (Tryz.prog.cellsOf 48)) = some y0 := hf 0 _ rfl
   have g1 : DataW.trod enc Tryz.prog W 0 (fun _ => true) true n 25 ((([u0, u1] : List Value).drop 1).take (Tryz.prog.cellsOf 25)) = some y1 := hf 1 _ rfl
   rw [c16] at g0
   rw [c64] at g1
   obtain ⟨a0, e0, _, w0⟩ := DataW.trod_int Tryz.underlying48 g0
   obtain ⟨a1, e1, _, w1⟩ := DataW.trod_int Tryz.underlying25 g1
   simp at e0 e1
   subst e0 e1
   have b0 := bounds_u16 w0
   have b1 := bounds_u64 w1
   obtain ⟨n0, rfl⟩ := Int.eq_ofNat_of_zero_le (show 0 ≤ a0 by omega)
   obtain ⟨n1, rfl⟩ := Int.eq_ofNat_of_zero_le (show 0 ≤ a1 by omega)
   exact ⟨(n0, n1), ⟨by simp only []; omega, by simp only []; omega⟩, rfl⟩
abbrev Gx := (Value × Value × Value × Value) × List ItV × Gv
def GOk (W : World) (g : Gx) : Prop := GvM W g.1.1 g.1.2.1 g.1.2.2.1 g.1.2.2.2 g.2.1 g.2.2 ∧ GvB g.2.2
def gxV (g : Gx) : Value := gvV g.2.2 g.1.1 g.1.2.1 g.1.2.2.1 g.1.2.2.2
set_option maxRecDepth 10000 in
set_option maxHeartbeats 1000000 in
theorem given_open {H : Type} {enc : TypeId × Value → H} {W : World} {r : Reach} {b1 : Nat} {v : Value} {d : DataW H} {p : List MemPlace} (hv : Value.okWide Tryz.prog W r b1 28 v) (h : DataW.Trod enc Tryz.prog W 0 (fun _ => true) true 28 v d p) :
 ∃ g : Gx, GOk W g ∧ v = gxV g := by
 obtain ⟨cs, rfl, hsz⟩ := okWide_struct Tryz.underlying28 hv
 obtain ⟨fuel, h⟩ := h
 rw [show Tryz.prog.cellsOf 28 = 8 by kernel_rfl] at hsz
 obtain ⟨xs, n, _, _, _, hxl, hf⟩ := DataW.trod_struct Tryz.underlying28 h
 have hl : (Value.agg cs).cells.toList.length = 8 := by simpa [Value.cells] using hsz
 have hcs : (Value.agg cs).cells.toList = cs.toList := rfl
 rw [hcs] at hf hl
 obtain ⟨ls, hls⟩ : ∃ ls, cs.toList = ls := ⟨_, rfl⟩
 rw [hls] at hf hl
 match xs, hxl, ls, hl, hls with
 | [y0, y1, y2, y3, y4, y5, y6, y7], _, [u0, u1, u2, u3, u4, u5, u6, u7], _, hls =>
   have g0 : DataW.trod enc Tryz.prog W 0 (fun _ => true) true n 5 ((([u0, u1, u2, u3, u4, u5, u6, u7] : List Value).drop 0).take (Tryz.prog.cellsOf 5)) = some y0 := hf 0 _ rfl
   have g1 : DataW.trod enc Tryz.prog W 0 (fun _ => true) true n 5 ((([u0, u1, u2, u3, u4, u5, u6, u7] : List Value).drop 1).take (Tryz.prog.cellsOf 5)) = some y1 := hf 1 _ rfl
   have g2 : DataW.trod enc Tryz.prog W 0 (fun _ => true) true n 22 ((([u0, u1, u2, u3, u4, u5, u6, u7] : List Value).drop 2).take (Tryz.prog.cellsOf 22)) = some y2 := hf 2 _ rfl
   have g3 : DataW.trod enc Tryz.prog W 0 (fun _ => true) true n 23 ((([u0, u1, u2, u3, u4, u5, u6, u7] : List Value).drop 3).take (Tryz.prog.cellsOf 23)) = some y3 := hf 3 _ rfl
   have g4 : DataW.trod enc Tryz.prog W 0 (fun _ => true) true n 24 ((([u0, u1, u2, u3, u4, u5, u6, u7] : List Value).drop 4).take (Tryz.prog.cellsOf 24)) = some y4 := hf 4 _ rfl
   have g5 : DataW.trod enc Tryz.prog W 0 (fun _ => true) true n 25 ((([u0, u1, u2, u3, u4, u5, u6, u7] : List Value).drop 5).take (Tryz.prog.cellsOf 25)) = some y5 := hf 5 _ rfl
   have g6 : DataW.trod enc Tryz.prog W 0 (fun _ => true) true n 25 ((([u0, u1, u2, u3, u4, u5, u6, u7] : List Value).drop 6).take (Tryz.prog.cellsOf 25)) = some y6 := hf 6 _ rfl
   have g7 : DataW.trod enc Tryz.prog W 0 (fun _ => true) true n 26 ((([u0, u1, u2, u3, u4, u5, u6, u7] : List Value).drop 7).take (Tryz.prog.cellsOf 26)) = some y7 := hf 7 _ rfl
   rw [c8] at g0 g1
   rw [cls.2.2.1] at g2
   rw [cl64] at g3
   rw [cls.2.2.2.1] at g4
   rw [c64] at g5 g6
   rw [cls.2.2.2.2] at g7
   obtain ⟨a0, e0, _, w0⟩ := DataW.trod_int Tryz.underlying5 g0
   simp at e0
   subst e0
   have b0 := bounds_u8 w0
   obtain ⟨n0, rfl⟩ := Int.eq_ofNat_of_zero_le (show 0 ≤ a0 by omega)
   obtain ⟨a1, e1, _, w1⟩ := DataW.trod_int Tryz.underlying5 g1
   simp at e1
   subst e1
   have b1 := bounds_u8 w1
   obtain ⟨n1, rfl⟩ := Int.eq_ofNat_of_zero_le (show 0 ≤ a1 by omega)
   obtain ⟨a5, e5, _, w5⟩ := DataW.trod_int Tryz.underlying25 g5
   simp at e5
   subst e5
   have b5 := bounds_u64 w5
   obtain ⟨n5, rfl⟩ := Int.eq_ofNat_of_zero_le (show 0 ≤ a5 by omega)
   obtain ⟨a6, e6, _, w6⟩ := DataW.trod_int Tryz.underlying25 g6
   simp at e6
   subst e6
   have b6 := bounds_u64 w6
   obtain ⟨n6, rfl⟩ := Int.eq_ofNat_of_zero_le (show 0 ≤ a6 by omega)
   obtain ⟨A2, l2, c2, rfl, T2⟩ := sl_cell Tryz.underlying22 g2
   obtain ⟨A3, l3, c3, rfl, T3⟩ := sl_cell Tryz.underlying23 g3
   obtain ⟨A4, l4, c4, rfl, T4⟩ := sl_cell Tryz.underlying24 g4
   obtain ⟨A7, l7, c7, rfl, T7⟩ := sl_cell Tryz.underlying26 g7
   obtain ⟨lt, ht, kt⟩ := halves_open Tryz.underlying22 Tryz.underlying48 (by kernel_rfl) T2
   obtain ⟨lf, hf2, kf⟩ := wordsK_open Tryz.underlying23 Tryz.underlying25 (by kernel_rfl) T3
   obtain ⟨li, hi, ki⟩ := els_open (Ok := ItOk W) Tryz.underlying24 (show Tryz.prog.cellsOf 62 = 5 by kernel_rfl) (by decide) (fun fuel cs x hl hx => item_read hl hx) T4
   obtain ⟨ls7, hs, ks⟩ := els_open (Ok := SlOk) Tryz.underlying26 (show Tryz.prog.cellsOf 79 = 2 by kernel_rfl) (by decide) (fun fuel cs x hl hx => spoil_read hl hx) T7
   refine ⟨((.slice A2 l2 c2, .slice A3 l3 c3, .slice A4 l4 c4, .slice A7 l7 c7), li, ⟨n0, n1, lt, lf, li.map itm, n5, n6, ls7⟩), ⟨⟨kt, kf, ki, fun x hx => (hi.2 x hx).2.2.2.1, fun x hx => (hi.2 x hx).2.2.2.2.2.1, rfl, ks⟩, ⟨by simp only []; omega, by simp only []; omega, ht, hf2, fun x hx => ?_, by simp only []; omega, by simp only []; omega, fun x hx => hs.2 x hx⟩⟩, ?_⟩
   ·obtain ⟨y, hy, rfl⟩ := List.mem_map.1 hx
    obtain ⟨h1, h2, h3, h4, h5, h6, h7⟩ := hi.2 y hy
    exact ⟨h1, h2, h3, h5, h7⟩
   ·show Value.agg cs = Value.agg _
    congr 1
    rw [← Array.toList_inj, hls]
end Go.Proofs.YtkdhdibjbabgfaaGreatDoor
end
