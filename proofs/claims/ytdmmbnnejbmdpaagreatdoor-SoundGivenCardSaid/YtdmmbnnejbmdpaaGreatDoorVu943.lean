/-
  Part of the proof of SoundTells,SoundGiven.
-/
import Derived.Test.YtdmmbnnejbmdpaaGreatDoorVu925
import Derived.Test.YtdmmbnnejbmdpaaGreatDoorVu934
import Derived.Test.YtdmmbnnejbmdpaaGreatDoorVu95
import Derived.Lib.SmallJoins
import Derived.Test.YtdmmbnnejbmdpaaGreatDoorVu90
set_option maxRecDepth 10000
set_option maxHeartbeats 1000000
set_option linter.unusedVariables false
set_option linter.unusedSimpArgs false
section
namespace Go.Proofs.YtdmmbnnejbmdpaaGreatDoor
open Go.Lib Go.RowKit Go.ChangeShapes Go.WideShapes Go.Deep Go.Shelf
theorem EN.at {w : World} {Ae : Option Addr} {ne ce : Nat} {es : List Pe} (h : EN w (.slice Ae ne ce) es) (hl : es.length = ne) (w1 : World) (hb : Below w.heap.size w w1) (k : Nat) (hk : k < ne) :
 ∃ g off a A l c, Ae = some ⟨g, off, none⟩ ∧ ne ≤ ce ∧ g < w.heap.size ∧ es.getD k default = (a, l) ∧ (a, l) ∈ es ∧ KL .u64 w1 (.slice A l.length c) l ∧ (w1.cell? ⟨g, off + k * 2, none⟩ = some (.int .i64 a) ∧ w1.cell? ⟨g, off + k * 2 + 1, none⟩ = some (.slice A l.length c)) := by
 obtain ⟨xs, h1, h2, h3⟩ := h
 have hx : xs.length = ne := by rw [← hl, ← h3, List.length_map]
 obtain ⟨A, c, hv, hc⟩ := EL.form h1 hx
 cases hv
 obtain ⟨g, off, rfl, q1, q2, q3, q4⟩ := hc w1 k hb hk
 have hm : xs.getD k default ∈ xs := by rw [List.getD_eq_getElem?_getD, List.getElem?_eq_getElem (by omega)]; exact List.getElem_mem _
 have hit : es.getD k default = px (xs.getD k default) := by
  rw [← h3, List.getD_eq_getElem?_getD, List.getD_eq_getElem?_getD, List.getElem?_map, List.getElem?_eq_getElem (by omega)]
  rfl
 have hmi : px (xs.getD k default) ∈ es := by rw [← h3]; exact List.mem_map_of_mem hm
 have hK := (h2 _ hm).keep hb
 obtain ⟨q, hq⟩ : ∃ q, xs.getD k default = q := ⟨_, rfl⟩
 rw [hq] at hK hit hmi q4
 obtain ⟨a, v, l⟩ := q
 simp only [] at hK
 obtain ⟨A2, c2, hv2, _⟩ := hK.form rfl
 subst hv2
 exact ⟨g, off, a, A2, l, c2, rfl, q1, q2, hit, hmi, hK, q4 0 (by omega), q4 1 (by omega)⟩
theorem few_any15 (p : Gv) (vT vF vI vS : Value) (xs : List ItV) (w : World) (hM : GvM w vT vF vI vS xs p) :
 Calls Tryz.prog 20 #[gvV p vT vF vI vS] w fun e w' => e = .returned (.bool (fewB p)) ∧ Below w.heap.size w w' := by
 obtain ⟨nT, hnT⟩ : ∃ n, p.tiles.length = n := ⟨_, rfl⟩
 obtain ⟨nF, hnF⟩ : ∃ n, p.fill.length = n := ⟨_, rfl⟩
 obtain ⟨nI, hnI⟩ : ∃ n, p.items.length = n := ⟨_, rfl⟩
 obtain ⟨nS, hnS⟩ : ∃ n, p.spoil.length = n := ⟨_, rfl⟩
 obtain ⟨AT, cT, rfl, -⟩ := hM.t.form hnT
 obtain ⟨AF, cF, rfl, -⟩ := hM.f.form hnF
 obtain ⟨AI, cI, rfl⟩ : ∃ A c, vI = .slice A nI c := by
  obtain ⟨A, c, h⟩ := EL.sl hM.i
  exact ⟨A, c, by rw [h, ← hnI, ← hM.x, List.length_map]⟩
 obtain ⟨AS, cS, rfl, -⟩ := EL.form hM.s hnS
 have hfe : fewB p = (decide (nT ≤ 20 ∧ nF ≤ 40 ∧ nI ≤ 4 ∧ nS ≤ 4) && p.items.all fewI) := by unfold fewB; rw [hnT, hnF, hnI, hnS]
 have hB1 := bZ w (.cells (gvC p (.slice AT nT cT) (.slice AF nF cF) (.slice AI nI cI) (.slice AS nS cS)) 47)
 have gP := HB.new w (gvC p (.slice AT nT cT) (.slice AF nF cF) (.slice AI nI cI) (.slice AS nS cS)) 47
 have hIt := lh (fun w1 (hb : Below w.heap.size w w1) j (hj : j < nI) => hM.item hnI w1 hb j hj)
 have hstep := lh (fun j (hj : j < nI) (h1 : (p.items.take j).all fewI = true) (h2 : fewI (p.items.getD j default) = true) => all_take_succ (l := p.items) (P := fewI) (k := j) (by omega) h1 h2)
 have hbad := lh (fun j (hj : j < nI) (h2 : fewI (p.items.getD j default) = false) => show fewB p = false from by rw [hfe, all_bad (l := p.items) (P := fewI) (k := j) (by omega) h2, Bool.and_false])
 have hall := lh (fun (h1 : nT ≤ 20 ∧ nF ≤ 40 ∧ nI ≤ 4 ∧ nS ≤ 4) (h : (p.items.take nI).all fewI = true) => show fewB p = true from by
  rw [hfe, decide_eq_true h1, Bool.true_and, ← h, List.take_of_length_le (by omega)])
 have hbig := lh (fun (h1 : ¬ (nT ≤ 20 ∧ nF ≤ 40 ∧ nI ≤ 4 ∧ nS ≤ 4)) => show fewB p = false from by rw [hfe, decide_eq_false h1, Bool.false_and])
 unfold gvC at hB1 gP
 unfold gvV
 generalize fewB p = R at *
 generalize p.a = a at *
 generalize p.b = b at *
 generalize p.root = r at *
 generalize p.epoch = ep at *
 have p2 := (row_cell gP 2).1
 have p3 := (row_cell gP 3).1
 have p4 := (row_cell gP 4).1
 have p7 := (row_cell gP 7).1
 obtain ⟨W1, hW1⟩ : ∃ W1, w.alloc (.cells #[.int .u8 (a : Nat), .int .u8 (b : Nat), .slice AT nT cT, .slice AF nF cF, .slice AI nI cI, .int .u64 (r : Nat), .int .u64 (ep : Nat), .slice AS nS cS] 47) = W1 := ⟨_, rfl⟩
 rw [hW1] at p2 p3 p4 p7 hB1
 obtain ⟨C, hC⟩ : ∃ C, w.heap.size = C := ⟨_, rfl⟩
 rw [hC] at p2 p3 p4 p7
 replace hnT := lh hnT
 replace hnF := lh hnF
 replace hnI := lh hnI
 replace hnS := lh hnS
 clear hfe gP hM
 by_cases h1' : 20 < nT
 ·have hno := lh (hbig.out (fun q => by omega))
  have d1 : (20 : Int) < (nT : Int) := by omega
  subst hW1
  go_enter Tryz.func20, Tryz.ntmps20
  go_wp2_with fail
  go_ret
  exact ⟨by rw [hno.out]; rfl, hB1⟩
 have e1 : decide ((20 : Int) < (nT : Int)) = false := decide_eq_false (by omega)
 by_cases h2' : 40 < nF
 ·have hno := lh (hbig.out (fun q => by omega))
  have d1 : (40 : Int) < (nF : Int) := by omega
  subst hW1
  go_enter Tryz.func20, Tryz.ntmps20
  go_wp2_with fail
  go_ret
  exact ⟨by rw [hno.out]; rfl, hB1⟩
 have e2 : decide ((40 : Int) < (nF : Int)) = false := decide_eq_false (by omega)
 by_cases h3' : 4 < nI
 ·have hno := lh (hbig.out (fun q => by omega))
  have d1 : (4 : Int) < (nI : Int) := by omega
  subst hW1
  go_enter Tryz.func20, Tryz.ntmps20
  go_wp2_with fail
  go_ret
  exact ⟨by rw [hno.out]; rfl, hB1⟩
 have e3 : decide ((4 : Int) < (nI : Int)) = false := decide_eq_false (by omega)
 by_cases h4' : 4 < nS
 ·have hno := lh (hbig.out (fun q => by omega))
  have d1 : (4 : Int) < (nS : Int) := by omega
  subst hW1
  go_enter Tryz.func20, Tryz.ntmps20
  go_wp2_with fail
  go_ret
  exact ⟨by rw [hno.out]; rfl, hB1⟩
 have e4 : decide ((4 : Int) < (nS : Int)) = false := decide_eq_false (by omega)
 replace hall := lh (hall.out (by omega))
 clear hbig
 have h0 : Hid ((p.items.take 0).all fewI = true) := lh (by simp)
 go_enter Tryz.func20, Tryz.ntmps20
 rw [hC]
 subst hW1
 go_wp2_with fail
 obtain ⟨W1, hW1⟩ : ∃ W1, w.alloc (.cells #[.int .u8 (a : Nat), .int .u8 (b : Nat), .slice AT nT cT, .slice AF nF cF, .slice AI nI cI, .int .u64 (r : Nat), .int .u64 (ep : Nat), .slice AS nS cS] 47) = W1 := ⟨_, rfl⟩
 rw [hW1] at p2 p3 p4 p7 hB1 ⊢
 clear hW1
 go_loopw [3] (fun i wr => ∃ (j : Nat), j ≤ nI ∧ i = .int .i64 j ∧ Hid ((p.items.take j).all fewI = true) ∧ wr = W1) (fun i _ => nI + 1 - (intOf i).toNat)
 case atStart => exact ⟨0, Nat.zero_le _, rfl, h0, rfl⟩
 case round =>
  obtain ⟨j, hj, rfl, hA, rfl⟩ := hrel
  by_cases hlt : j < nI
  ·have hlt' : (j : Int) < (nI : Int) := by omega
   obtain ⟨g, off, ln, st, gn, Ae, ce, Ao, co, es, ops, rfl, hcI, hg, hit, hmem, hE, hO, c0, c1, c2, c3, c4⟩ := hIt.out wr hB1 j hlt
   obtain ⟨ne, hne⟩ : ∃ n, es.length = n := ⟨_, rfl⟩
   obtain ⟨no, hno⟩ : ∃ n, ops.length = n := ⟨_, rfl⟩
   have hfi : fewI (ln, st, gn, es, ops) = (decide (ne ≤ 12) && decide (no ≤ 22) && es.all fun e => decide (e.2.length ≤ 20)) := by unfold fewI; simp only []; rw [hne, hno]
   rw [hne] at hE c3
   rw [hno] at hO c4
   have hsj := hstep.out j hlt hA.out
   have hbj := hbad.out j hlt
   rw [hit] at hsj hbj
   replace hne := lh hne
   replace hno := lh hno
   by_cases f1 : 12 < ne
   ·have hR := lh (hbj (by rw [hfi, decide_eq_false (by omega)]; rfl))
    have f1' : (12 : Int) < (ne : Int) := by omega
    clear hsj hbj hfi hit
    go_wp2_with fail
    go_ret
    exact ⟨by rw [hR.out]; rfl, by first | exact hB1 | (rw [← hC]; exact hB1)⟩
   by_cases f2 : 22 < no
   ·have hR := lh (hbj (by rw [hfi, decide_eq_false (p := no ≤ 22) (by omega), Bool.and_false]; rfl))
    have f1' : decide ((12 : Int) < (ne : Int)) = false := decide_eq_false (by omega)
    have f2' : (22 : Int) < (no : Int) := by omega
    clear hsj hbj hfi hit
    go_wp2_with fail
    go_ret
    exact ⟨by rw [hR.out]; rfl, by first | exact hB1 | (rw [← hC]; exact hB1)⟩
   have f1' : decide ((12 : Int) < (ne : Int)) = false := decide_eq_false (by omega)
   have f2' : decide ((22 : Int) < (no : Int)) = false := decide_eq_false (by omega)
   have hfi2 : fewI (ln, st, gn, es, ops) = es.all fun e => decide (e.2.length ≤ 20) := by rw [hfi, decide_eq_true (p := no ≤ 22) (by omega), decide_eq_true (p := ne ≤ 12) (by omega)]; rfl
   have hEa := lh (fun k (hk : k < ne) => hE.at hne.out wr (Below.refl _ _) k hk)
   have hst2 := lh (fun k (hk : k < ne) (q1 : (es.take k).all (fun e => decide (e.2.length ≤ 20)) = true) (q2 : decide ((es.getD k default).2.length ≤ 20) = true) => all_take_succ (l := es) (P := fun e => decide (e.2.length ≤ 20)) (k := k) (by have := hne.out; omega) q1 q2)
   have hbd2 := lh (fun k (hk : k < ne) (q2 : decide ((es.getD k default).2.length ≤ 20) = false) => hbj (by rw [hfi2]; exact all_bad (l := es) (P := fun e => decide (e.2.length ≤ 20)) (k := k) (by have := hne.out; omega) q2))
   have hdn := lh (fun (q : (es.take ne).all (fun e => decide (e.2.length ≤ 20)) = true) => hsj (by rw [hfi2, ← q, List.take_of_length_le (by have := hne.out; omega)]))
   have h02 : Hid ((es.take 0).all (fun e => decide (e.2.length ≤ 20)) = true) := lh (by simp)
   have hn12 : ne ≤ 12 := by omega
   clear hsj hbj hfi hfi2 hit hE hO
   go_wp2_with fail
   go_loopw [4] (fun i wq => ∃ (k : Nat), k ≤ ne ∧ i = .int .i64 k ∧ Hid ((es.take k).all (fun e => decide (e.2.length ≤ 20)) = true) ∧ wq = wr) (fun i _ => ne + 1 - (intOf i).toNat)
   case atStart => exact ⟨0, Nat.zero_le _, rfl, h02, rfl⟩
   case round =>
    obtain ⟨k, hk, rfl, hAk, rfl⟩ := hrel
    by_cases hltk : k < ne
    ·have hltk' : (k : Int) < (ne : Int) := by omega
     obtain ⟨ge, oe, ea, eA, el, ec, rfl, q1, q2, q3, q4, q5, d0, d1⟩ := hEa.out k hltk
     obtain ⟨el9, hel⟩ : ∃ n, el.length = n := ⟨_, rfl⟩
     have hs2 := hst2.out k hltk hAk.out
     have hb2 := hbd2.out k hltk
     rw [q3] at hs2 hb2
     simp only [] at hs2 hb2
     rw [hel] at d1 hs2 hb2
     replace hel := lh hel
     by_cases f3 : 20 < el9
     ·have hR := lh (hb2 (decide_eq_false (by omega)))
      have f3' : (20 : Int) < (el9 : Int) := by omega
      clear hs2 hb2 q3
      go_wp2_with fail
      go_ret
      exact ⟨by rw [hR.out]; rfl, by first | exact hB1 | (rw [← hC]; exact hB1)⟩
     ·have hR := lh (hs2 (decide_eq_true (by omega)))
      have f3' : decide ((20 : Int) < (el9 : Int)) = false := decide_eq_false (by omega)
      clear hs2 hb2 q3
      go_wp2_with fail
      go_roundw
      case rel => exact ⟨k + 1, by omega, by go_num, hR, by trivial⟩
      case measure => first | (simp [intOf]; done) | (simp [intOf]; omega)
    ·obtain rfl : k = ne := by omega
     have hR := lh (hdn.out hAk.out)
     have hltk' : decide ((k : Int) < (k : Int)) = false := decide_eq_false (by omega)
     go_wp2_with fail
     go_roundw
     case rel => exact ⟨j + 1, by omega, by go_num, hR, by trivial⟩
     case measure => first | (simp [intOf]; done) | (simp [intOf]; omega)
  ·obtain rfl : j = nI := by omega
   have hR := lh (hall.out hA.out)
   have hlt' : decide ((j : Int) < (j : Int)) = false := decide_eq_false (by omega)
   go_wp2_with fail
   go_ret
   exact ⟨by rw [hR.out]; rfl, by first | exact hB1 | (rw [← hC]; exact hB1)⟩
end Go.Proofs.YtdmmbnnejbmdpaaGreatDoor
end
section
namespace Go.Proofs.YtdmmbnnejbmdpaaGreatDoor
open Go.RowKit Go.ChangeShapes Go.WideShapes Go.Deep
def XOk (W : World) (x : Ex) : Prop := WL x.2.2 ∧ KL .u64 W x.2.1 x.2.2
def XL (W : World) (l : List Ex) : Prop := l.length ≤ 9223372036854775807 ∧ ∀ x ∈ l, XOk W x
def XPL (w : World) (v : Value) (l : List Ex) : Prop := EL 2 eS w v l
theorem XL.en {W : World} {v : Value} {l : List Ex} (h : XL W l) (hv : XPL W v l) : EN W v (l.map px) := ⟨l, hv, fun x hx => (h.2 x hx).2, rfl⟩
theorem XL.len {W : World} {l : List Ex} (h : XL W l) : (l.map px).length ≤ 9223372036854775807 := by rw [List.length_map]; exact h.1
theorem XL.wl {W : World} {l : List Ex} (h : XL W l) : ∀ x ∈ l.map px, WL x.2 := fun x hx => by
 obtain ⟨y, hy, rfl⟩ := List.mem_map.1 hx
 exact (h.2 y hy).1
theorem ci : Tryz.prog.cellsOf 3 = 1 := by kernel_rfl
theorem cl64 : Tryz.prog.cellsOf 25 = 1 := by kernel_rfl
theorem cEn : Tryz.prog.cellsOf 103 = 2 := by kernel_rfl
theorem entry_read {H : Type} {enc : TypeId × Value → H} {W : World} {fuel : Nat} {cs : List Value} {x : DataW H × List MemPlace} (hl : cs.length = 2) (h : DataW.trod enc Tryz.prog W 0 (fun _ => true) true fuel 103 cs = some x) :
 ∃ o : Ex, XOk W o ∧ cs = eS o := by
 obtain ⟨xs, n, _, rfl, _, hxl, hf⟩ := DataW.trod_struct Tryz.underlying103 h
 match xs, hxl, cs, hl with
 | [y0, y1], _, [u0, u1], _ =>
   have g0 : DataW.trod enc Tryz.prog W 0 (fun _ => true) true n 3 ((([u0, u1] : List Value).drop 0).take (Tryz.prog.cellsOf 3)) = some y0 := hf 0 _ rfl
   have g1 : DataW.trod enc Tryz.prog W 0 (fun _ => true) true n 25 ((([u0, u1] : List Value).drop 1).take (Tryz.prog.cellsOf 25)) = some y1 := hf 1 _ rfl
   rw [ci] at g0
   rw [cl64] at g1
   obtain ⟨a0, e0, rfl, w0⟩ := DataW.trod_int Tryz.underlying3 g0
   simp at e0
   subst e0
   have hs : ∃ ad len cap, u1 = .slice ad len cap := by
    rcases open_slice Tryz.underlying25 g1 with ⟨hcs, _⟩ | ⟨a, len', cap', m, n', D, Pl, hcs, _⟩
    ·simp at hcs; exact ⟨none, 0, 0, hcs⟩
    ·simp at hcs; exact ⟨some a, len', cap', hcs⟩
   obtain ⟨ad, len, cap, rfl⟩ := hs
   obtain ⟨d1, p1⟩ := y1
   have hT : DataW.Trod enc Tryz.prog W 0 (fun _ => true) true 25 (.slice ad len cap) d1 p1 := ⟨n, by simpa [Value.cells] using g1⟩
   obtain ⟨l, hl, hk⟩ := wordsK_open Tryz.underlying25 Tryz.underlying33 (by kernel_rfl) hT
   exact ⟨(a0, .slice ad len cap, l), ⟨hl, hk⟩, rfl⟩
theorem ents_open {H : Type} {enc : TypeId × Value → H} {W : World} {ad : Option Addr} {len cap : Nat} {d : DataW H} {p : List MemPlace}
 (h : DataW.Trod enc Tryz.prog W 0 (fun _ => true) true 98 (.slice ad len cap) d p) : ∃ l : List Ex, XL W l ∧ XPL W (.slice ad len cap) l :=
 els_open (Ok := XOk W) Tryz.underlying98 cEn (by decide) (fun fuel cs x hl hx => entry_read hl hx) h
def OL (l : List Ox) : Prop := l.length ≤ 9223372036854775807 ∧ ∀ o ∈ l, OB o
theorem OL.ov {l : List Ox} (h : OL l) : ∀ o ∈ l, o.2.2 < 18446744073709551616 := fun o ho => (h.2 o ho).2.2.2.2
theorem ops_open {H : Type} {enc : TypeId × Value → H} {W : World} {ad : Option Addr} {len cap : Nat} {d : DataW H} {p : List MemPlace}
 (h : DataW.Trod enc Tryz.prog W 0 (fun _ => true) true 99 (.slice ad len cap) d p) : ∃ l : List Ox, OL l ∧ OPL W (.slice ad len cap) l := by
 refine els_open (Ok := OB) Tryz.underlying99 (by kernel_rfl) (by decide) (fun fuel cs x hl hx => ?_) h
 obtain ⟨xs, n, _, _, _, hxl, hf⟩ := DataW.trod_struct Tryz.underlying144 hx
 match xs, hxl, cs, hl with
 | [y0, y1, y2], _, [v0, v1, v2], _ =>
   have ci : Tryz.prog.cellsOf 3 = 1 := by kernel_rfl
   have cu : Tryz.prog.cellsOf 33 = 1 := by kernel_rfl
   have g0 : DataW.trod enc Tryz.prog W 0 (fun _ => true) true n 3 ((([v0, v1, v2] : List Value).drop 0).take (Tryz.prog.cellsOf 3)) = some y0 := hf 0 _ rfl
   have g1 : DataW.trod enc Tryz.prog W 0 (fun _ => true) true n 3 ((([v0, v1, v2] : List Value).drop 1).take (Tryz.prog.cellsOf 3)) = some y1 := hf 1 _ rfl
   have g2 : DataW.trod enc Tryz.prog W 0 (fun _ => true) true n 33 ((([v0, v1, v2] : List Value).drop 2).take (Tryz.prog.cellsOf 33)) = some y2 := hf 2 _ rfl
   rw [ci] at g0 g1
   rw [cu] at g2
   obtain ⟨a0, e0, _, w0⟩ := DataW.trod_int Tryz.underlying3 g0
   obtain ⟨a1, e1, _, w1⟩ := DataW.trod_int Tryz.underlying3 g1
   obtain ⟨a2, e2, _, w2⟩ := DataW.trod_int Tryz.underlying33 g2
   simp at e0 e1 e2
   subst e0 e1 e2
   have b0 := bounds_i64 w0
   have b1 := bounds_i64 w1
   have b2 := bounds_u64 w2
   obtain ⟨n2, rfl⟩ := Int.eq_ofNat_of_zero_le (show 0 ≤ a2 by omega)
   exact ⟨(a0, a1, n2), ⟨by simp only []; omega, by simp only []; omega, by simp only []; omega, by simp only []; omega, by simp only []; omega⟩, rfl⟩
theorem sl_cell {H : Type} {enc : TypeId × Value → H} {P : Program} {W : World} {n : Nat} {t e : TypeId} {u : Value} {y : DataW H × List MemPlace} (ht : P.underlying t = some (.slice e)) (h : DataW.trod enc P W 0 (fun _ => true) true n t [u] = some y) :
 ∃ ad len cap, u = .slice ad len cap ∧ DataW.Trod enc P W 0 (fun _ => true) true t (.slice ad len cap) y.1 y.2 := by
 have hs : ∃ ad len cap, u = .slice ad len cap := by
  obtain ⟨d, p⟩ := y
  rcases open_slice ht h with ⟨hcs, _⟩ | ⟨a, len', cap', m, n', D, Pl, hcs, _⟩
  ·simp at hcs; exact ⟨none, 0, 0, hcs⟩
  ·simp at hcs; exact ⟨some a, len', cap', hcs⟩
 obtain ⟨ad, len, cap, rfl⟩ := hs
 exact ⟨ad, len, cap, rfl, ⟨n, by obtain ⟨d, p⟩ := y; simpa [Value.cells] using h⟩⟩
def ItOk (W : World) (x : ItV) : Prop := x.1 < 256 ∧ x.2.1 < 256 ∧ x.2.2.1 < 18446744073709551616 ∧ EN W x.2.2.2.1.1 x.2.2.2.1.2 ∧ (∀ e ∈ x.2.2.2.1.2, WL e.2) ∧ OPL W x.2.2.2.2.1 x.2.2.2.2.2 ∧ OVs x.2.2.2.2.2
def SlOk (x : Nat × Nat) : Prop := x.1 < 65536 ∧ x.2 < 18446744073709551616
theorem c8 : Tryz.prog.cellsOf 5 = 1 := by kernel_rfl
theorem c16 : Tryz.prog.cellsOf 32 = 1 := by kernel_rfl
theorem c64 : Tryz.prog.cellsOf 33 = 1 := by kernel_rfl
theorem cls_md : Tryz.prog.cellsOf 98 = 1 ∧ Tryz.prog.cellsOf 99 = 1 ∧ Tryz.prog.cellsOf 22 = 1 ∧ Tryz.prog.cellsOf 45 = 1 ∧ Tryz.prog.cellsOf 28 = 1 := by refine ⟨?_, ?_, ?_, ?_, ?_⟩ <;> kernel_rfl
theorem item_read {H : Type} {enc : TypeId × Value → H} {W : World} {fuel : Nat} {cs : List Value} {x : DataW H × List MemPlace} (hl : cs.length = 5) (h : DataW.trod enc Tryz.prog W 0 (fun _ => true) true fuel 101 cs = some x) :
 ∃ o : ItV, ItOk W o ∧ cs = eIt o := by
 obtain ⟨xs, n, _, rfl, _, hxl, hf⟩ := DataW.trod_struct Tryz.underlying101 h
 match xs, hxl, cs, hl with
 | [y0, y1, y2, y3, y4], _, [u0, u1, u2, u3, u4], _ =>
   have g0 : DataW.trod enc Tryz.prog W 0 (fun _ => true) true n 5 ((([u0, u1, u2, u3, u4] : List Value).drop 0).take (Tryz.prog.cellsOf 5)) = some y0 := hf 0 _ rfl
   have g1 : DataW.trod enc Tryz.prog W 0 (fun _ => true) true n 5 ((([u0, u1, u2, u3, u4] : List Value).drop 1).take (Tryz.prog.cellsOf 5)) = some y1 := hf 1 _ rfl
   have g2 : DataW.trod enc Tryz.prog W 0 (fun _ => true) true n 33 ((([u0, u1, u2, u3, u4] : List Value).drop 2).take (Tryz.prog.cellsOf 33)) = some y2 := hf 2 _ rfl
   have g3 : DataW.trod enc Tryz.prog W 0 (fun _ => true) true n 98 ((([u0, u1, u2, u3, u4] : List Value).drop 3).take (Tryz.prog.cellsOf 98)) = some y3 := hf 3 _ rfl
   have g4 : DataW.trod enc Tryz.prog W 0 (fun _ => true) true n 99 ((([u0, u1, u2, u3, u4] : List Value).drop 4).take (Tryz.prog.cellsOf 99)) = some y4 := hf 4 _ rfl
   rw [c8] at g0 g1
   rw [c64] at g2
   rw [cls_md.1] at g3
   rw [cls_md.2.1] at g4
   obtain ⟨a0, e0, _, w0⟩ := DataW.trod_int Tryz.underlying5 g0
   obtain ⟨a1, e1, _, w1⟩ := DataW.trod_int Tryz.underlying5 g1
   obtain ⟨a2, e2, _, w2⟩ := DataW.trod_int Tryz.underlying33 g2
   simp at e0 e1 e2
   subst e0 e1 e2
   have b0 := bounds_u8 w0
   have b1 := bounds_u8 w1
   have b2 := bounds_u64 w2
   obtain ⟨n0, rfl⟩ := Int.eq_ofNat_of_zero_le (show 0 ≤ a0 by omega)
   obtain ⟨n1, rfl⟩ := Int.eq_ofNat_of_zero_le (show 0 ≤ a1 by omega)
   obtain ⟨n2, rfl⟩ := Int.eq_ofNat_of_zero_le (show 0 ≤ a2 by omega)
   obtain ⟨A3, l3, c3, rfl, T3⟩ := sl_cell Tryz.underlying98 g3
   obtain ⟨A4, l4, c4, rfl, T4⟩ := sl_cell Tryz.underlying99 g4
   obtain ⟨es, h3, k3⟩ := ents_open T3
   obtain ⟨os, h4, k4⟩ := ops_open T4
   exact ⟨(n0, n1, n2, (.slice A3 l3 c3, es.map px), (.slice A4 l4 c4, os)), ⟨by simp only []; omega, by simp only []; omega, by simp only []; omega, h3.en k3, h3.wl, k4, h4.ov⟩, rfl⟩
theorem spoil_read {H : Type} {enc : TypeId × Value → H} {W : World} {fuel : Nat} {cs : List Value} {x : DataW H × List MemPlace} (hl : cs.length = 2) (h : DataW.trod enc Tryz.prog W 0 (fun _ => true) true fuel 35 cs = some x) :
 ∃ o : Nat × Nat, SlOk o ∧ cs = eSl o := by
 obtain ⟨xs, n, _, rfl, _, hxl, hf⟩ := DataW.trod_struct Tryz.underlying35 h
 match xs, hxl, cs, hl with
 | [y0, y1], _, [u0, u1], _ =>
   have g0 : DataW.trod enc Tryz.prog W 0 (fun _ => true) true n 32 ((([u0, u1] : List Value).drop 0).take (Tryz.prog.cellsOf 32)) = some y0 := hf 0 _ rfl
   have g1 : DataW.trod enc Tryz.prog W 0 (fun _ => true) true n 33 ((([u0, u1] : List Value).drop 1).take (Tryz.prog.cellsOf 33)) = some y1 := hf 1 _ rfl
   rw [c16] at g0
   rw [c64] at g1
   obtain ⟨a0, e0, _, w0⟩ := DataW.trod_int Tryz.underlying32 g0
   obtain ⟨a1, e1, _, w1⟩ := DataW.trod_int Tryz.underlying33 g1
   simp at e0 e1
   subst e0 e1
   have b0 := bounds_u16 w0
   have b1 := bounds_u64 w1
   obtain ⟨n0, rfl⟩ := Int.eq_ofNat_of_zero_le (show 0 ≤ a0 by omega)
   obtain ⟨n1, rfl⟩ := Int.eq_ofNat_of_zero_le (show 0 ≤ a1 by omega)
   exact ⟨(n0, n1), ⟨by simp only []; omega, by simp only []; omega⟩, rfl⟩
abbrev Gx := (Value × Value × Value × Value) × List ItV × Gv
def GOk (W : World) (g : Gx) : Prop := GvM W g.1.1 g.1.2.1 g.1.2.2.1 g.1.2.2.2 g.2.1 g.2.2 ∧ GvB g.2.2
def gxV (g : Gx) : Value := gvV g.2.2 g.1.1 g.1.2.1 g.1.2.2.1 g.1.2.2.2
theorem given_open {H : Type} {enc : TypeId × Value → H} {W : World} {r : Reach} {b1 : Nat} {v : Value} {d : DataW H} {p : List MemPlace} (hv : Value.okWide Tryz.prog W r b1 47 v) (h : DataW.Trod enc Tryz.prog W 0 (fun _ => true) true 47 v d p) :
 ∃ g : Gx, GOk W g ∧ v = gxV g := by
 obtain ⟨cs, rfl, hsz⟩ := okWide_struct Tryz.underlying47 hv
 obtain ⟨fuel, h⟩ := h
 rw [show Tryz.prog.cellsOf 47 = 8 by kernel_rfl] at hsz
 obtain ⟨xs, n, _, _, _, hxl, hf⟩ := DataW.trod_struct Tryz.underlying47 h
 have hl : (Value.agg cs).cells.toList.length = 8 := by simpa [Value.cells] using hsz
 have hcs : (Value.agg cs).cells.toList = cs.toList := rfl
 rw [hcs] at hf hl
 obtain ⟨ls, hls⟩ : ∃ ls, cs.toList = ls := ⟨_, rfl⟩
 rw [hls] at hf hl
 match xs, hxl, ls, hl, hls with
 | [y0, y1, y2, y3, y4, y5, y6, y7], _, [u0, u1, u2, u3, u4, u5, u6, u7], _, hls =>
   have g0 : DataW.trod enc Tryz.prog W 0 (fun _ => true) true n 5 ((([u0, u1, u2, u3, u4, u5, u6, u7] : List Value).drop 0).take (Tryz.prog.cellsOf 5)) = some y0 := hf 0 _ rfl
   have g1 : DataW.trod enc Tryz.prog W 0 (fun _ => true) true n 5 ((([u0, u1, u2, u3, u4, u5, u6, u7] : List Value).drop 1).take (Tryz.prog.cellsOf 5)) = some y1 := hf 1 _ rfl
   have g2 : DataW.trod enc Tryz.prog W 0 (fun _ => true) true n 22 ((([u0, u1, u2, u3, u4, u5, u6, u7] : List Value).drop 2).take (Tryz.prog.cellsOf 22)) = some y2 := hf 2 _ rfl
   have g3 : DataW.trod enc Tryz.prog W 0 (fun _ => true) true n 25 ((([u0, u1, u2, u3, u4, u5, u6, u7] : List Value).drop 3).take (Tryz.prog.cellsOf 25)) = some y3 := hf 3 _ rfl
   have g4 : DataW.trod enc Tryz.prog W 0 (fun _ => true) true n 45 ((([u0, u1, u2, u3, u4, u5, u6, u7] : List Value).drop 4).take (Tryz.prog.cellsOf 45)) = some y4 := hf 4 _ rfl
   have g5 : DataW.trod enc Tryz.prog W 0 (fun _ => true) true n 33 ((([u0, u1, u2, u3, u4, u5, u6, u7] : List Value).drop 5).take (Tryz.prog.cellsOf 33)) = some y5 := hf 5 _ rfl
   have g6 : DataW.trod enc Tryz.prog W 0 (fun _ => true) true n 33 ((([u0, u1, u2, u3, u4, u5, u6, u7] : List Value).drop 6).take (Tryz.prog.cellsOf 33)) = some y6 := hf 6 _ rfl
   have g7 : DataW.trod enc Tryz.prog W 0 (fun _ => true) true n 28 ((([u0, u1, u2, u3, u4, u5, u6, u7] : List Value).drop 7).take (Tryz.prog.cellsOf 28)) = some y7 := hf 7 _ rfl
   rw [c8] at g0 g1
   rw [cls_md.2.2.1] at g2
   rw [cl64] at g3
   rw [cls_md.2.2.2.1] at g4
   rw [c64] at g5 g6
   rw [cls_md.2.2.2.2] at g7
   obtain ⟨a0, e0, _, w0⟩ := DataW.trod_int Tryz.underlying5 g0
   simp at e0
   subst e0
   have b0 := bounds_u8 w0
   obtain ⟨n0, rfl⟩ := Int.eq_ofNat_of_zero_le (show 0 ≤ a0 by omega)
   obtain ⟨a1, e1, _, w1⟩ := DataW.trod_int Tryz.underlying5 g1
   simp at e1
   subst e1
   have b1 := bounds_u8 w1
   obtain ⟨n1, rfl⟩ := Int.eq_ofNat_of_zero_le (show 0 ≤ a1 by omega)
   obtain ⟨a5, e5, _, w5⟩ := DataW.trod_int Tryz.underlying33 g5
   simp at e5
   subst e5
   have b5 := bounds_u64 w5
   obtain ⟨n5, rfl⟩ := Int.eq_ofNat_of_zero_le (show 0 ≤ a5 by omega)
   obtain ⟨a6, e6, _, w6⟩ := DataW.trod_int Tryz.underlying33 g6
   simp at e6
   subst e6
   have b6 := bounds_u64 w6
   obtain ⟨n6, rfl⟩ := Int.eq_ofNat_of_zero_le (show 0 ≤ a6 by omega)
   obtain ⟨A2, l2, c2, rfl, T2⟩ := sl_cell Tryz.underlying22 g2
   obtain ⟨A3, l3, c3, rfl, T3⟩ := sl_cell Tryz.underlying25 g3
   obtain ⟨A4, l4, c4, rfl, T4⟩ := sl_cell Tryz.underlying45 g4
   obtain ⟨A7, l7, c7, rfl, T7⟩ := sl_cell Tryz.underlying28 g7
   obtain ⟨lt, ht, kt⟩ := halves_open Tryz.underlying22 Tryz.underlying32 (by kernel_rfl) T2
   obtain ⟨lf, hf2, kf⟩ := wordsK_open Tryz.underlying25 Tryz.underlying33 (by kernel_rfl) T3
   obtain ⟨li, hi, ki⟩ := els_open (Ok := ItOk W) Tryz.underlying45 (show Tryz.prog.cellsOf 101 = 5 by kernel_rfl) (by decide) (fun fuel cs x hl hx => item_read hl hx) T4
   obtain ⟨ls7, hs, ks⟩ := els_open (Ok := SlOk) Tryz.underlying28 (show Tryz.prog.cellsOf 35 = 2 by kernel_rfl) (by decide) (fun fuel cs x hl hx => spoil_read hl hx) T7
   refine ⟨((.slice A2 l2 c2, .slice A3 l3 c3, .slice A4 l4 c4, .slice A7 l7 c7), li, ⟨n0, n1, lt, lf, li.map itm, n5, n6, ls7⟩), ⟨⟨kt, kf, ki, fun x hx => (hi.2 x hx).2.2.2.1, fun x hx => (hi.2 x hx).2.2.2.2.2.1, rfl, ks⟩, ⟨by simp only []; omega, by simp only []; omega, ht, hf2, fun x hx => ?_, by simp only []; omega, by simp only []; omega, fun x hx => hs.2 x hx⟩⟩, ?_⟩
   ·obtain ⟨y, hy, rfl⟩ := List.mem_map.1 hx
    obtain ⟨h1, h2, h3, h4, h5, h6, h7⟩ := hi.2 y hy
    exact ⟨h1, h2, h3, h5, h7⟩
   ·show Value.agg cs = Value.agg _
    congr 1
    rw [← Array.toList_inj, hls]
end Go.Proofs.YtdmmbnnejbmdpaaGreatDoor
end
