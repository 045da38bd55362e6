/-
  Part of the proof of JournalUndo.
-/
import Derived.Test.YtkkbngcgphlikaaGreatDoorJu45
import Derived.Test.YtkkbngcgphlikaaGreatDoorJu0
set_option maxRecDepth 10000
set_option maxHeartbeats 2000000
set_option linter.unusedVariables false
set_option linter.unusedSimpArgs false
namespace Go.Proofs.YtkkbngcgphlikaaGreatDoor
open Go.Lib Go.RowKit Go.ChangeShapes Go.WideShapes Go.Deep Go.Shelf
theorem refBit_yes (i : Nat) (w : World) (h1 : i ≤ 7) :
 Calls Tryz.prog 59 #[.int .i64 i] w fun e w' => e = .returned (.int .u64 (16777216 * pwI i)) ∧ w = w' := by
 have hbd := pwI_bd i h1
 obtain ⟨hq0, hq1⟩ := hbd
 have g4 : IntKind.u64.wrap (16777216 * pwI i) = 16777216 * pwI i := by rw [IntKind.wrap_u64]; omega
 have h7 : ¬ 7 < (i : Int) := by omega
 have h8 : ¬ (i : Int) < 0 := by omega
 have hR := lh (fun w => refPower10 i w (by omega))
 go_enter Tryz.func59, Tryz.ntmps59
 go_wp2_with fail
 refine (hR.out _).mono ?_
 rintro e w' ⟨rfl, rfl⟩
 go_wp2_with fail
 go_ret
 exact ⟨by first | rfl | (rw [g4]), rfl⟩
theorem opRun {v : Value} {w : World} {base : Nat} {ops : List Ox} (h : OwnE 107 3 opE w base v ops) (hb : base ≤ w.heap.size) (hlen : ops.length ≤ 1000000) (k a : Int) (x : Nat) :
 ∃ v' w', (Builtin.append_ #[29, 29] 29 #[v, .slice (some ⟨w.heap.size, 0, none⟩) 1 1]).run Tryz.prog (w.alloc (.cells #[.int .i64 k, .int .i64 a, .int .u64 (x : Nat)] (107 : Nat))) = .ok v' w' ∧ OwnE 107 3 opE w' base v' (ops ++ [(k, a, x)]) ∧ Below base w w' := by
 have hlit : EL 3 opE (w.alloc (.cells #[.int .i64 k, .int .i64 a, .int .u64 (x : Nat)] (107 : Nat))) (.slice (some ⟨w.heap.size, 0, none⟩) 1 1) [((k, a, x) : Ox)] := (OwnE.lit 107 opE_len w [((k, a, x) : Ox)] _ rfl (by simp)).el opE_len
 obtain ⟨v', w1, hrun, ho, hg, hl2, hnn⟩ := appE opT (h.alloc _) hlit (by simp; omega) (by omega) (by simp)
 exact ⟨v', w1, hrun, ho, ((bZ w _).mono hb).trans (grown_below hg (by simp; omega) (fun k q => (h.lt k q).1))⟩
theorem i64_and64k (n : Int) : bits .and .i64 n 65535 = n % 65536 := by
 have h127 : (BitVec.ofInt 64 65535).toNat = 2 ^ 16 - 1 := by decide
 have key : (BitVec.ofInt 64 n &&& BitVec.ofInt 64 65535).toNat = (n % ((2 ^ 64 : Nat) : Int)).toNat % 2 ^ 16 := by
  rw [BitVec.toNat_and, BitVec.toNat_ofInt, h127, Nat.and_two_pow_sub_one_eq_mod]
 show IntKind.i64.wrap ((BitVec.ofInt 64 n &&& BitVec.ofInt 64 65535).toNat : Nat) = n % 65536
 rw [key, IntKind.wrap_i64]
 omega
theorem tmod2 (a : Int) : a.tmod 2 = 0 ∨ a.tmod 2 = 1 ∨ a.tmod 2 = -1 := by
 rw [Int.tmod_eq_emod]
 split <;> omega
theorem box3_there {w : World} {b : Nat} {x y z : Value} {t : TypeId} (h : HB w b #[x, y, z] t) : w.there b 0 3 := fun j hj => by
 rw [Nat.zero_add]
 refine ⟨?_, (row_cell h j).2⟩
 rw [(row_cell h j).1]
 have h5 : j = 0 ∨ j = 1 ∨ j = 2 := by omega
 rcases h5 with rfl | rfl | rfl <;> rfl
theorem infoOp3 : (Tryz.prog.info? 107).map (·.size) = some 3 := by kernel_rfl
theorem one3 (a b : Int) (c : Int) : (#[.int .i64 a, .int .i64 b, .int .u64 c] : Array Value).all (·.oneCell') = true :=
 all_oneCell_toArray (cs := [.int .i64 a, .int .i64 b, .int .u64 c]) (fun u hu => by
  simp only [List.mem_cons, List.not_mem_nil, or_false] at hu
  rcases hu with rfl | rfl | rfl <;> rfl)
theorem chg3 (w : World) (C : Nat) (x y z : Value) : Chg (fun j => j = C) w (((w.setCell ⟨C, 0, none⟩ x).setCell ⟨C, 1, none⟩ y).setCell ⟨C, 2, none⟩ z) :=
 ((Chg.setCell (S := fun j => j = C) w C 0 x rfl).trans (Chg.setCell (S := fun j => j = C) _ C 1 y rfl) (fun j q => .inl q)).trans (Chg.setCell (S := fun j => j = C) _ C 2 z rfl) (fun j q => .inl q)
theorem not_u64 {b : Nat} (h : b < 18446744073709551616) : bits .xor .u64 18446744073709551615 (b : Int) = 18446744073709551615 - (b : Int) := by
 have e : (BitVec.ofInt 64 18446744073709551615 ^^^ BitVec.ofInt 64 (b : Int)) = ~~~ (BitVec.ofInt 64 (b : Int)) := by
  rw [show BitVec.ofInt 64 18446744073709551615 = BitVec.allOnes 64 from by decide, BitVec.allOnes_xor]
 show IntKind.u64.wrap ((BitVec.ofInt 64 18446744073709551615 ^^^ BitVec.ofInt 64 (b : Int)).toNat : Nat) = _
 rw [e, BitVec.toNat_not, BitVec.toNat_ofInt, IntKind.wrap_u64]
 omega
def opPl (L G : Nat) (o : Ox) : Nat := 10 + 73 * L + (o.2.1 % 65536).toNat % G
def opBit (x : List Nat) (L G : Nat) (o : Ox) : Nat := 16777216 * 2 ^ (o.2.2 % mnN (cN (x.getD (opPl L G o) 0)))
def opOne (x : List Nat) (L G : Nat) (o : Ox) : Ox :=
 if kN (x.getD (opPl L G o) 0) = 1 then
  (if o.1.tmod 2 = 0 then ((2 : Int), ((opPl L G o : Nat) : Int), 18446744073709551615 - opBit x L G o) else ((1 : Int), ((opPl L G o : Nat) : Int), opBit x L G o))
 else ((0 : Int), (8 : Int), o.2.2)
def opsW (x : List Nat) (L G : Nat) (k : Wk) : List Ox := k.o.map (opOne x L G)
theorem map_take {α β : Type} [Inhabited α] (f : α → β) (l : List α) (t : Nat) (h : t < l.length) : (l.take (t + 1)).map f = (l.take t).map f ++ [f (l.getD t default)] := by
 rw [List.take_succ_eq_append_getElem h, List.map_append, List.getD_eq_getElem?_getD, List.getElem?_eq_getElem h]
 rfl
theorem mnN_pos {x : Nat} (h : okN x = true) (hk : kN x = 1) : 2 ≤ mnN (cN x) ∧ mnN (cN x) ≤ 8 := by
 have h1 := okN_t h
 unfold RightN at h1
 unfold mnN
 have : cN x = 0 ∨ cN x = 1 ∨ cN x = 2 := by omega
 rcases this with q | q | q <;> rw [q] <;> decide
theorem ops_any (x : List Nat) (N L G : Nat) (k : Wk) (vx vA vM vV vG vO : Value) (w : World) (hw : Lw w) (hv : KL .u64 w vx x) (hx : PoolX x N L G) (hM : WkM w vA vM vV vG vO k) (hB : WkB k) (hfw : fewW k = true) :
 Calls Tryz.prog 19 #[vx, .agg #[.int .i64 (N : Nat), .int .i64 (L : Nat)], .agg #[vA, vM, vV, vG, vO]] w fun e w' => ∃ v', e = .returned v' ∧ OwnE 107 3 opE w' w.heap.size v' (opsW x L G k) ∧ Below w.heap.size w w' := by
 obtain ⟨AA, cA, AM, cM, AV, cV, AG, cG, AO, cO, rfl, rfl, rfl, rfl, rfl⟩ := hM.sl
 have hO8 : k.o.length ≤ 8 := by
  unfold fewW at hfw
  simp only [Bool.and_eq_true, decide_eq_true_eq] at hfw
  omega
 obtain ⟨nA, hnA⟩ : ∃ n, k.a.length = n := ⟨_, rfl⟩
 obtain ⟨nM, hnM⟩ : ∃ n, k.m.length = n := ⟨_, rfl⟩
 obtain ⟨nV, hnV⟩ : ∃ n, k.v.length = n := ⟨_, rfl⟩
 obtain ⟨nG, hnG⟩ : ∃ n, k.e.length = n := ⟨_, rfl⟩
 obtain ⟨nO, hnO⟩ : ∃ n, k.o.length = n := ⟨_, rfl⟩
 rw [hnA, hnM, hnV, hnG, hnO] at hM
 rw [hnA, hnM, hnV, hnG, hnO]
 rw [hnO] at hO8
 obtain ⟨z1, z2, z3, z4, z5, z6, z7, z8⟩ := pool_size hx.g
 rw [hx.gn] at z5 z6 z7 z8
 have hN8 := hx.n8
 have hxl := hx.len
 obtain ⟨T, hT⟩ : ∃ T, 10 + 73 * L = T := ⟨_, rfl⟩
 have hTb := lh (fun w1 => show Calls Tryz.prog 37 #[.agg #[.int .i64 (N : Nat), .int .i64 (L : Nat)]] w1 (fun e w' => e = .returned (.agg #[.int .i64 (T : Nat), .int .i64 (G : Nat)]) ∧ Below w1.heap.size w1 w') from by
  have h := refTable_t (N : Nat) (L : Nat) w1 hx.g
  rw [z5, show (10 + 73 * (L : Int)) = ((T : Nat) : Int) from by omega] at h
  exact h)
 obtain ⟨X4, c4, rfl, -⟩ := hv.form hxl
 have hXk := lh (fun w1 (hb : Below w.heap.size w w1) => hv.keep hb)
 have hOk := lh (fun w1 (hb : Below w.heap.size w w1) => EL.form (hM.keep hb).o hnO)
 have hOb := lh (fun t (ht : t < nO) => show (k.o.getD t default).2.2 < 18446744073709551616 from hB.o.at t (by rw [hnO]; exact ht))
 have hOi := lh (fun t (ht : t < nO) => show (-9223372036854775808 ≤ (k.o.getD t default).1 ∧ (k.o.getD t default).1 < 9223372036854775808) ∧ -9223372036854775808 ≤ (k.o.getD t default).2.1 ∧ (k.o.getD t default).2.1 < 9223372036854775808 from hB.oi _ (by rw [List.getD_eq_getElem?_getD, List.getElem?_eq_getElem (by rw [hnO]; exact ht)]; exact List.getElem_mem _))
 have hXb := lh (fun p (hp : p < G) => show x.getD (T + p) 0 < 18446744073709551616 ∧ okN (x.getD (T + p) 0) = true from ⟨hx.W.at _ (by rw [hxl]; omega), by rw [← hT]; exact (hx.tab p hp).1⟩)
 have hmt := lh (fun t (ht : t < nO) => map_take (opOne x L G) k.o t (by rw [hnO]; exact ht))
 have hot := lh (show (k.o.take nO).map (opOne x L G) = opsW x L G k from by unfold opsW; rw [List.take_of_length_le (by rw [hnO]; exact Nat.le_refl _)])
 have hwk := lh (fun w1 (hb : Below w.heap.size w w1) => hw.keep hb)
 have hTN : T + G ≤ N := by omega
 have hN1 : 1 ≤ N := by omega
 replace hxl := lh hxl
 replace hT := lh hT
 replace hnO := lh hnO
 clear hv hM hB hfw hx hw hnA hnM hnV hnG
 have hb0 := bZ w (.cells #[.int .i64 (N : Nat), .int .i64 (L : Nat)] (37 : Nat))
 have gG := HB.new w #[.int .i64 (N : Nat), .int .i64 (L : Nat)] (37 : Nat)
 obtain ⟨wb1, hwb1⟩ : ∃ y, w.alloc (.cells #[.int .i64 (N : Nat), .int .i64 (L : Nat)] (37 : Nat)) = y := ⟨_, rfl⟩
 have hswb1 : wb1.heap.size = w.heap.size + 1 := by rw [← hwb1]; simp
 rw [hwb1] at hb0 gG
 have hb1 := bZ wb1 (.cells #[.slice AA nA cA, .slice AM nM cM, .slice AV nV cV, .slice AG nG cG, .slice AO nO cO] (31 : Nat))
 have gW := HB.new wb1 #[.slice AA nA cA, .slice AM nM cM, .slice AV nV cV, .slice AG nG cG, .slice AO nO cO] (31 : Nat)
 obtain ⟨wb2, hwb2⟩ : ∃ y, wb1.alloc (.cells #[.slice AA nA cA, .slice AM nM cM, .slice AV nV cV, .slice AG nG cG, .slice AO nO cO] (31 : Nat)) = y := ⟨_, rfl⟩
 rw [hwb2] at hb1 gW
 rw [hswb1] at gW
 have gG1 := gG.keep hb1
 have hB2 : Below w.heap.size w wb2 := hb0.trans (hb1.mono (by omega))
 obtain ⟨C0, hC0⟩ : ∃ C, w.heap.size = C := ⟨_, rfl⟩
 rw [hC0] at gG1 gW
 obtain ⟨q0, q1⟩ := gG1.c2
 clear hb0 hb1 gG
 go_enter Tryz.func19, Tryz.ntmps19
 subst hwb2
 subst hwb1
 go_wp2_with fail
 refine (hTb.out _).mono ?_
 rintro e w1 ⟨rfl, hb1⟩
 have hB3 := hB2.trans (hb1.mono hB2.size)
 have gW3 := gW.keep hb1
 have e4 := bZ w1 (.cells #[.int .i64 (T : Nat), .int .i64 (G : Nat)] (70 : Nat))
 have gT := HB.new w1 #[.int .i64 (T : Nat), .int .i64 (G : Nat)] (70 : Nat)
 obtain ⟨w2, hw2⟩ : ∃ y, w1.alloc (.cells #[.int .i64 (T : Nat), .int .i64 (G : Nat)] (70 : Nat)) = y := ⟨_, rfl⟩
 obtain ⟨Ct, hCt⟩ : ∃ C, w1.heap.size = C := ⟨_, rfl⟩
 rw [hw2] at e4 gT
 rw [hCt] at gT
 have hB4 := hB3.trans (e4.mono hB3.size)
 have gW4 := gW3.keep e4
 obtain ⟨zo, hzo⟩ : ∃ z, w2.heap.size = z := ⟨_, rfl⟩
 have hzw : w.heap.size ≤ zo := by have := hB4.size; omega
 have ho0 : OwnE 107 3 opE w2 zo (.slice none 0 0) ((k.o.take 0).map (opOne x L G)) := OwnE.nil _ _ _ _ _
 have hgw := lh (fun w' (hb : Below zo w2 w') => gW4.keep (by rw [hzo]; exact hb))
 have hgt := lh (fun w' (hb : Below zo w2 w') => gT.keep (by rw [hzo]; exact hb))
 have hbw := lh (fun w' (hb : Below zo w2 w') => hB4.trans (hb.mono hzw))
 have hco : Below zo w2 w2 := Below.refl _ _
 have hzs := lh (fun w' (hb : Below zo w2 w') => show zo ≤ w'.heap.size from by rw [← hzo]; exact hb.size)
 clear hTb hb1 hB2 hB3 gW gG1 q0 q1 gW3 e4 hswb1 gW4 gT hB4
 go_wp2_with fail
 try rw [hw2]
 clear hw2 hzo
 go_loopw [9, 8] (fun i pl wr => ∃ (t : Nat), t ≤ nO ∧ i = .int .i64 (t : Nat) ∧ OwnE 107 3 opE wr zo pl ((k.o.take t).map (opOne x L G)) ∧ Below zo w2 wr) (fun i _ _ => nO + 1 - (intOf i).toNat)
 case atStart => exact ⟨0, Nat.zero_le _, rfl, ho0, hco⟩
 obtain ⟨t, ht, rfl, hor, hbr⟩ := hrel
 clear ho0 hco
 have gWr := hgw.out _ hbr
 have gTr := hgt.out _ hbr
 have q0 := (row_cell gWr 0).1
 have q1 := (row_cell gWr 1).1
 have q2 := (row_cell gWr 2).1
 have q3 := (row_cell gWr 3).1
 have q4 := (row_cell gWr 4).1
 by_cases htn : t < nO
 rotate_left
 ·obtain rfl : nO = t := by omega
  have htn' : ¬ (nO : Int) < (nO : Int) := by omega
  rw [hot.out] at hor
  have hbo := hbw.out _ hbr
  have hoz := OwnE.mono hor hzw
  go_wp2_with fail
  go_ret
  first | exact ⟨_, rfl, hoz, hbo⟩ | exact ⟨_, rfl, by rw [← hC0]; exact hoz, by rw [← hC0]; exact hbo⟩
 have htn' : (t : Int) < (nO : Int) := by omega
 have hbo := hbw.out _ hbr
 obtain ⟨O9, d9, hv9, hOf⟩ := hOk.out _ hbo
 cases hv9
 obtain ⟨go_, oo, rfl, hco, -, hgo, hoc⟩ := hOf wr t (Below.refl _ _) htn
 have k0 : wr.cell? ⟨go_, oo + t * 3, none⟩ = some (.int .i64 (k.o.getD t default).1) := hoc 0 (by decide)
 have k1 : wr.cell? ⟨go_, oo + t * 3 + 1, none⟩ = some (.int .i64 (k.o.getD t default).2.1) := hoc 1 (by decide)
 have k2 : wr.cell? ⟨go_, oo + t * 3 + 2, none⟩ = some (.int .u64 ((k.o.getD t default).2.2 : Nat)) := hoc 2 (by decide)
 have hvb := hOb.out t htn
 obtain ⟨⟨i1, i2⟩, i3, i4⟩ := hOi.out t htn
 have hmt1 := hmt.out t htn
 generalize k.o.getD t default = o at *
 obtain ⟨ok, oa, ov⟩ := o
 simp only [] at k0 k1 k2 hvb i1 i2 i3 i4
 obtain ⟨m, hm⟩ : ∃ m : Nat, oa % 65536 = (m : Int) := ⟨(oa % 65536).toNat, by omega⟩
 have hm9 : m < 65536 := by omega
 obtain ⟨p, hp⟩ : ∃ p, m % G = p := ⟨_, rfl⟩
 have hpG : p < G := by rw [← hp]; exact Nat.mod_lt _ (by omega)
 have hAt : opPl L G (ok, oa, ov) = T + p := by unfold opPl; simp only []; rw [hm, Int.toNat_natCast, hp, hT.out]
 have y1 : bits .and .i64 oa 65535 = (m : Int) := by rw [i64_and64k, hm]
 have y2 : (m : Int) % (G : Int) = (p : Int) := by rw [← hp]; rfl
 have y3 : (m : Int).tmod (G : Int) = (p : Int) := by rw [Int.tmod_eq_emod_of_nonneg (by omega)]; exact y2
 have y4 : ¬ (G : Int) = 0 := by omega
 have y5 : ¬ G = 0 := by omega
 obtain ⟨at', hat⟩ : ∃ a, T + p = a := ⟨_, rfl⟩
 have y6 : IntKind.i64.wrap ((T : Int) + (p : Int)) = (at' : Int) := (by rw [IntKind.wrap_i64]; omega)
 have hatN : at' < N := by omega
 have hatI : (at' : Int) < (N : Int) := by omega
 obtain ⟨hx64, hxok⟩ := hXb.out p hpG
 rw [hat] at hx64 hxok hAt
 have kX := (hXk.out _ hbo).form hxl.out
 obtain ⟨V9, d9, hv9, hf9⟩ := kX
 cases hv9
 obtain ⟨gX, oX, rfl, -, hgX, x0⟩ := hf9 wr at' (Below.refl _ _) hatN
 obtain ⟨xv, hxv⟩ : ∃ y, x.getD at' 0 = y := ⟨_, rfl⟩
 rw [hxv] at x0 hx64 hxok
 replace hm := lh hm
 replace hp := lh hp
 replace hat := lh hat
 replace hxv := lh hxv
 replace hAt := lh hAt
 replace hmt1 := lh hmt1
 replace hxok := lh hxok
 have hCF := lh (fun w' (hb : Below wr.heap.size wr w') => show (w'.cell? ⟨Ct, 0, none⟩ = some (.int .i64 (T : Nat)) ∧ w'.cell? ⟨Ct, 1, none⟩ = some (.int .i64 (G : Nat))) ∧ w'.cell? ⟨C0 + 1, 4, none⟩ = some (.slice (some ⟨go_, oo, none⟩) nO cO) ∧ w'.cell? ⟨go_, oo + t * 3 + 1, none⟩ = some (.int .i64 oa) from
  ⟨(gTr.keep hb).c2, (row_cell (gWr.keep hb) 4).1, by rw [(bcell hb).1 _ _ hgo]; exact k1⟩)
 clear hOf hoc hf9
 go_wp2_with fail
 refine wp_region_held_drew (S := (fun w' => Below wr.heap.size wr w')) (by kernel_rfl) (Below.refl _ _).drew (fun hHeld => ?_)
 refine takeH 0 ?_
 refine takeH 1 ?_
 refine takeH 2 ?_
 refine takeH 3 ?_
 refine takeH 4 ?_
 refine takeH 5 ?_
 refine takeH 6 ?_
 refine takeH 7 ?_
 refine takeH 8 ?_
 refine takeH 9 ?_
 refine takeH 10 ?_
 refine takeH 11 ?_
 refine takeH 12 ?_
 refine takeH 13 ?_
 refine wpAnyH_done (by kernel_rfl) ?_ _
 have gWq := gWr.keep hHeld
 have hoq := hor.keep hHeld
 have hbq := hbr.trans (hHeld.mono (hzs.out _ hbr))
 have kq0 : wr.drew.cell? ⟨go_, oo + t * 3, none⟩ = some (.int .i64 ok) := by rw [(bcell hHeld).1 _ _ hgo]; exact k0
 have kq2 : wr.drew.cell? ⟨go_, oo + t * 3 + 2, none⟩ = some (.int .u64 (ov : Nat)) := by rw [(bcell hHeld).1 _ _ hgo]; exact k2
 have xq : wr.drew.cell? ⟨gX, oX + at', none⟩ = some (.int .u64 (xv : Nat)) := by rw [(bcell hHeld).1 _ _ hgX]; exact x0
 have hgoq : go_ < wr.drew.heap.size := Nat.lt_of_lt_of_le hgo hHeld.size
 clear hCF hHeld gWr gTr hor hbr k0 k1 k2 x0 q0 q1 q2 q3 q4 hgX hbo
 obtain ⟨wq, hwq⟩ : ∃ z, wr.drew = z := ⟨_, rfl⟩
 rw [hwq] at gWq hoq hbq kq0 kq2 xq hgoq ⊢
 clear hwq
 have hDc := rdcY xv wq (hwk.out _ (hbw.out _ hbq)) hx64 hxok.out
 obtain ⟨kx, hkx⟩ : ∃ z, kN xv = z := ⟨_, rfl⟩
 obtain ⟨cx, hcx⟩ : ∃ z, cN xv = z := ⟨_, rfl⟩
 rw [hkx, hcx] at hDc
 generalize lnN xv = lx at hDc
 generalize mN xv = mx at hDc
 generalize bN xv = bx at hDc
 have hmn := lh (fun (h : kx = 1) => mnN_pos hxok.out (hkx.trans h))
 rw [hcx] at hmn
 have hop : opOne x L G (ok, oa, ov) = if kx = 1 then (if ok.tmod 2 = 0 then ((2 : Int), ((at' : Nat) : Int), 18446744073709551615 - 16777216 * 2 ^ (ov % mnN cx)) else ((1 : Int), ((at' : Nat) : Int), 16777216 * 2 ^ (ov % mnN cx))) else ((0 : Int), (8 : Int), ov) := by
  unfold opOne opBit
  rw [hAt.out, hxv.out, hkx, hcx]
 by_cases hk1 : kx = 1
 case neg =>
  replace hop := lh hop
  replace hkx := lh hkx
  replace hcx := lh hcx
  go_wp2_with fail
  refine hDc.mono ?_
  rintro e w6 ⟨rfl, hb6⟩
  have ho6 := hoq.keep hb6
  have hb6' := hbq.trans (hb6.mono (hzs.out _ hbq))
  have gW6 := hgw.out _ hb6'
  have kr0 : w6.cell? ⟨go_, oo + t * 3, none⟩ = some (.int .i64 ok) := by rw [(bcell hb6).1 _ _ hgoq]; exact kq0
  have kr2 : w6.cell? ⟨go_, oo + t * 3 + 2, none⟩ = some (.int .u64 (ov : Nat)) := by rw [(bcell hb6).1 _ _ hgoq]; exact kq2
  have hgo6 : go_ < w6.heap.size := Nat.lt_of_lt_of_le hgoq hb6.size
  have e7 := bZ w6 (.cells #[.int .i64 (kx : Nat), .int .i64 (cx : Nat), .int .i64 (lx : Nat), .int .i64 (mx : Nat), .int .u64 (bx : Nat)] (109 : Nat))
  have gC7 := HB.new w6 #[.int .i64 (kx : Nat), .int .i64 (cx : Nat), .int .i64 (lx : Nat), .int .i64 (mx : Nat), .int .u64 (bx : Nat)] (109 : Nat)
  obtain ⟨w7, hw7⟩ : ∃ z, w6.alloc (.cells #[.int .i64 (kx : Nat), .int .i64 (cx : Nat), .int .i64 (lx : Nat), .int .i64 (mx : Nat), .int .u64 (bx : Nat)] (109 : Nat)) = z := ⟨_, rfl⟩
  obtain ⟨Cc, hCc⟩ : ∃ C, w6.heap.size = C := ⟨_, rfl⟩
  have hs7 : w7.heap.size = Cc + 1 := by rw [← hw7]; simp; omega
  rw [hw7] at e7 gC7
  rw [hCc] at gC7
  have e8 := bZ w7 (.cells #[.int .i64 0, .int .i64 8, .int .u64 (ov : Nat)] (107 : Nat))
  have gP8 := HB.new w7 #[.int .i64 0, .int .i64 8, .int .u64 (ov : Nat)] (107 : Nat)
  obtain ⟨w8, hw8⟩ : ∃ z, w7.alloc (.cells #[.int .i64 0, .int .i64 8, .int .u64 (ov : Nat)] (107 : Nat)) = z := ⟨_, rfl⟩
  rw [hw8] at e8 gP8
  rw [hs7] at gP8
  have gW7 := gW6.keep e7
  have q4 := (row_cell gW7 4).1
  have kt2 : w7.cell? ⟨go_, oo + t * 3 + 2, none⟩ = some (.int .u64 (ov : Nat)) := by rw [(bcell e7).1 _ _ hgo6]; exact kr2
  have e68 : Below w6.heap.size w6 w8 := e7.trans (e8.mono (by omega))
  have gC8 := gC7.keep e8
  have c0 := (row_cell gC8 0).1
  have hol := OwnE.lt ho6
  rw [hCc] at hol
  have hgc : go_ < Cc := by omega
  have hcw := gW6.lt
  rw [hCc] at hcw
  have hz6 := hzs.out _ hb6'
  rw [hCc] at hz6
  have ho8 := ho6.keep e68
  have hb8 := hb6'.trans (e68.mono (hzs.out _ hb6'))
  have gW8 := hgw.out _ hb8
  have kv0 : w8.cell? ⟨go_, oo + t * 3, none⟩ = some (.int .i64 ok) := by rw [(bcell e68).1 _ _ hgo6]; exact kr0
  have kv2 : w8.cell? ⟨go_, oo + t * 3 + 2, none⟩ = some (.int .u64 (ov : Nat)) := by rw [(bcell e68).1 _ _ hgo6]; exact kr2
  have hgo8 : go_ < w8.heap.size := Nat.lt_of_lt_of_le hgo6 e68.size
  have hs8 := hzs.out _ hb8
  have hlen8 : ((k.o.take t).map (opOne x L G)).length ≤ 1000000 := by rw [List.length_map, List.length_take]; omega
  clear hDc gWq hoq hbq kq0 kq2 xq hgoq hb6 e7 e8 gW6 gW7 ho6 hb6' kr0 kr2 hgo6 gC7 e68
  have hk1I : ¬ (kx : Int) = 1 := by omega
  have hk1D : decide ((kx : Int) = 1) = false := decide_eq_false hk1I
  obtain ⟨v9, w9, hrun, ho9, hb9⟩ := opRun ho8 hs8 hlen8 0 8 ov
  have hop2 : opOne x L G (ok, oa, ov) = ((0 : Int), (8 : Int), ov) := by rw [hop.out, if_neg hk1]
  rw [← hop2, ← hmt1.out] at ho9
  have hbz := hb8.trans hb9
  have p0 := (row_cell gP8 0).1
  have p1 := (row_cell gP8 1).1
  have p2 := (row_cell gP8 2).1
  clear ho8 hb8 hb9 hop2 hop hmt1 gC8 kv0 kv2 gW8
  subst hw8
  subst hw7
  simp only [World.size_alloc, hCc] at hrun
  go_wp2_with (at_builtin; refine wpList_append_run rfl _ _ 29 rfl _ _ _ rfl rfl hrun ?_)
  clear hrun
  go_roundw
  case rel => exact ⟨t + 1, by omega, by go_num, ho9, hbz⟩
  first | (simp [intOf]; done) | (simp [intOf]; omega)
 have hDc1 : Calls Tryz.prog 58 #[.int .u64 (xv : Nat)] wq fun e w' => e = .returned (.tuple #[.agg #[.int .i64 1, .int .i64 (cx : Nat), .int .i64 (lx : Nat), .int .i64 (mx : Nat), .int .u64 (bx : Nat)], .bool true]) ∧ Below wq.heap.size wq w' := by
  rw [show ((1 : Int)) = ((kx : Nat) : Int) from by omega]
  exact hDc
 clear hDc
 have hDc := hDc1
 clear hDc1
 replace hkx := lh hkx
 replace hcx := lh hcx
 go_wp2_with fail
 refine hDc.mono ?_
 rintro e w6 ⟨rfl, hb6⟩
 have ho6 := hoq.keep hb6
 have hb6' := hbq.trans (hb6.mono (hzs.out _ hbq))
 have gW6 := hgw.out _ hb6'
 have kr0 : w6.cell? ⟨go_, oo + t * 3, none⟩ = some (.int .i64 ok) := by rw [(bcell hb6).1 _ _ hgoq]; exact kq0
 have kr2 : w6.cell? ⟨go_, oo + t * 3 + 2, none⟩ = some (.int .u64 (ov : Nat)) := by rw [(bcell hb6).1 _ _ hgoq]; exact kq2
 have hgo6 : go_ < w6.heap.size := Nat.lt_of_lt_of_le hgoq hb6.size
 have e7 := bZ w6 (.cells #[.int .i64 1, .int .i64 (cx : Nat), .int .i64 (lx : Nat), .int .i64 (mx : Nat), .int .u64 (bx : Nat)] (109 : Nat))
 have gC7 := HB.new w6 #[.int .i64 1, .int .i64 (cx : Nat), .int .i64 (lx : Nat), .int .i64 (mx : Nat), .int .u64 (bx : Nat)] (109 : Nat)
 obtain ⟨w7, hw7⟩ : ∃ z, w6.alloc (.cells #[.int .i64 1, .int .i64 (cx : Nat), .int .i64 (lx : Nat), .int .i64 (mx : Nat), .int .u64 (bx : Nat)] (109 : Nat)) = z := ⟨_, rfl⟩
 obtain ⟨Cc, hCc⟩ : ∃ C, w6.heap.size = C := ⟨_, rfl⟩
 have hs7 : w7.heap.size = Cc + 1 := by rw [← hw7]; simp; omega
 rw [hw7] at e7 gC7
 rw [hCc] at gC7
 have e8 := bZ w7 (.cells #[.int .i64 0, .int .i64 8, .int .u64 (ov : Nat)] (107 : Nat))
 have gP8 := HB.new w7 #[.int .i64 0, .int .i64 8, .int .u64 (ov : Nat)] (107 : Nat)
 obtain ⟨w8, hw8⟩ : ∃ z, w7.alloc (.cells #[.int .i64 0, .int .i64 8, .int .u64 (ov : Nat)] (107 : Nat)) = z := ⟨_, rfl⟩
 rw [hw8] at e8 gP8
 rw [hs7] at gP8
 have gW7 := gW6.keep e7
 have q4 := (row_cell gW7 4).1
 have kt2 : w7.cell? ⟨go_, oo + t * 3 + 2, none⟩ = some (.int .u64 (ov : Nat)) := by rw [(bcell e7).1 _ _ hgo6]; exact kr2
 have e68 : Below w6.heap.size w6 w8 := e7.trans (e8.mono (by omega))
 have gC8 := gC7.keep e8
 have c0 := (row_cell gC8 0).1
 have hol := OwnE.lt ho6
 rw [hCc] at hol
 have hgc : go_ < Cc := by omega
 have hcw := gW6.lt
 rw [hCc] at hcw
 have hz6 := hzs.out _ hb6'
 rw [hCc] at hz6
 have ho8 := ho6.keep e68
 have hb8 := hb6'.trans (e68.mono (hzs.out _ hb6'))
 have gW8 := hgw.out _ hb8
 have kv0 : w8.cell? ⟨go_, oo + t * 3, none⟩ = some (.int .i64 ok) := by rw [(bcell e68).1 _ _ hgo6]; exact kr0
 have kv2 : w8.cell? ⟨go_, oo + t * 3 + 2, none⟩ = some (.int .u64 (ov : Nat)) := by rw [(bcell e68).1 _ _ hgo6]; exact kr2
 have hgo8 : go_ < w8.heap.size := Nat.lt_of_lt_of_le hgo6 e68.size
 have hs8 := hzs.out _ hb8
 have hlen8 : ((k.o.take t).map (opOne x L G)).length ≤ 1000000 := by rw [List.length_map, List.length_take]; omega
 clear hDc gWq hoq hbq kq0 kq2 xq hgoq hb6 e7 e8 gW6 gW7 ho6 hb6' kr0 kr2 hgo6 gC7 e68
 obtain ⟨mn2, mn8⟩ := hmn.out hk1
 rw [if_pos hk1] at hop
 obtain ⟨M, hM⟩ : ∃ M, mnN cx = M := ⟨_, rfl⟩
 obtain ⟨rb, hrb⟩ : ∃ r, ov % M = r := ⟨_, rfl⟩
 rw [hM, hrb] at hop
 rw [hM] at mn2 mn8
 have rb8 : rb < 8 := by have : rb < M := by rw [← hrb]; exact Nat.mod_lt _ (by omega)
                         omega
 obtain ⟨bt, hbt⟩ : ∃ b, 16777216 * 2 ^ rb = b := ⟨_, rfl⟩
 rw [hbt] at hop
 have hbt9 : bt ≤ 2147483648 := by
  have : rb = 0 ∨ rb = 1 ∨ rb = 2 ∨ rb = 3 ∨ rb = 4 ∨ rb = 5 ∨ rb = 6 ∨ rb = 7 := by omega
  rw [← hbt]
  rcases this with q | q | q | q | q | q | q | q <;> rw [q] <;> decide
 have hMy := lh (fun w1 => show Calls Tryz.prog 60 #[.int .i64 (cx : Nat)] w1 (fun e w' => e = .returned (.int .i64 (M : Nat)) ∧ Below w1.heap.size w1 w') from by
  have h := refMny_any (cx : Nat) w1
  rw [mny_N, hM] at h
  refine h.mono ?_
  rintro e w' ⟨rfl, rfl⟩
  exact ⟨rfl, Below.refl _ _⟩)
 have hBi := lh (fun w1 => show Calls Tryz.prog 59 #[.int .i64 (rb : Nat)] w1 (fun e w' => e = .returned (.int .u64 (bt : Nat)) ∧ Below w1.heap.size w1 w') from by
  have h := refBit_yes rb w1 (by omega)
  rw [show 16777216 * pwI rb = ((bt : Nat) : Int) from by unfold pwI; rw [← hbt, Int.natCast_mul]; rfl] at h
  refine h.mono ?_
  rintro e w' ⟨rfl, rfl⟩
  exact ⟨rfl, Below.refl _ _⟩)
 have s1 : (ov : Int) % (M : Int) = (rb : Int) := by rw [← hrb]; rfl
 have s2 : (ov : Int).tmod (M : Int) = (rb : Int) := by rw [Int.tmod_eq_emod_of_nonneg (by omega)]; exact s1
 have s3 : ¬ (M : Int) = 0 := by omega
 have s4 : ¬ M = 0 := by omega
 have s5 : IntKind.u64.wrap (M : Int) = (M : Int) := (by rw [IntKind.wrap_u64]; omega)
 have s6 : IntKind.i64.wrap (rb : Int) = (rb : Int) := (by rw [IntKind.wrap_i64]; omega)
 replace hM := lh hM
 replace hrb := lh hrb
 replace hbt := lh hbt
 obtain ⟨z2, hz2⟩ : ∃ z, ok.tmod 2 = z := ⟨_, rfl⟩
 have hz2b := tmod2 ok
 rw [hz2] at hz2b
 rw [hz2] at hop
 replace hop := lh hop
 have c1 := (row_cell gC8 1).1
 have gP8w := gP8
 subst hw8
 subst hw7
 go_wp2_with fail
 obtain ⟨w8, hw8⟩ : ∃ z, ((w6.alloc (.cells #[.int .i64 1, .int .i64 (cx : Nat), .int .i64 (lx : Nat), .int .i64 (mx : Nat), .int .u64 (bx : Nat)] (109 : Nat))).alloc (.cells #[.int .i64 0, .int .i64 8, .int .u64 (ov : Nat)] (107 : Nat))) = z := ⟨_, rfl⟩
 rw [hw8] at gC8 gP8 ho8 hb8 gW8 kv0 kv2 hgo8 hs8 ⊢
 clear hw8 gP8w c0 q4 kt2 c1
 have hCF := lh (fun w' (hb : Below w8.heap.size w8 w') => show w'.cell? ⟨C0 + 1, 4, none⟩ = some (.slice (some ⟨go_, oo, none⟩) nO cO) ∧ w'.cell? ⟨go_, oo + t * 3 + 2, none⟩ = some (.int .u64 (ov : Nat)) ∧ w'.cell? ⟨Cc, 1, none⟩ = some (.int .i64 (cx : Nat)) from
  ⟨(row_cell (gW8.keep hb) 4).1, by rw [(bcell hb).1 _ _ hgo8]; exact kv2, (row_cell (gC8.keep hb) 1).1⟩)
 refine wp_region_held_drew (S := (fun w' => Below w8.heap.size w8 w')) (by kernel_rfl) (Below.refl _ _).drew (fun hHeld => ?_)
 refine takeH 0 ?_
 refine takeH 1 ?_
 refine takeH 2 ?_
 refine takeH 3 ?_
 refine takeH 4 ?_
 refine takeH 5 ?_
 refine takeH 6 ?_
 refine takeH 7 ?_
 refine oneL 8 rfl (by kernel_rfl) (fun K hK => ?_)
 go_simp
 refine (hMy.out _).mono ?_
 rintro e w9 ⟨rfl, hb⟩
 refine hK.out _ _ (hHeld.trans (hb.mono hHeld.size)) (fun hHeld2 => ?_)
 clear hK K hHeld
 have hHeld := hHeld2
 clear hHeld2
 try simp only [Act.put,sA,sB,sC]
 refine takeH 9 ?_
 refine takeH 10 ?_
 refine takeH 11 ?_
 refine oneL 12 rfl (by kernel_rfl) (fun K hK => ?_)
 go_simp
 refine (hBi.out _).mono ?_
 rintro e w10 ⟨rfl, hb⟩
 refine hK.out _ _ (hHeld.trans (hb.mono hHeld.size)) (fun hHeld2 => ?_)
 clear hK K hHeld
 have hHeld := hHeld2
 clear hHeld2
 try simp only [Act.put,sA,sB,sC]
 refine takeH 13 ?_
 refine wpAnyH_done (by kernel_rfl) ?_ _
 have gP10 := gP8.keep hHeld
 have ho10 := ho8.keep hHeld
 have hb10 := hb8.trans (hHeld.mono hs8)
 have gW10 := gW8.keep hHeld
 have kw0 : w10.cell? ⟨go_, oo + t * 3, none⟩ = some (.int .i64 ok) := by rw [(bcell hHeld).1 _ _ hgo8]; exact kv0
 have hgo10 : go_ < w10.heap.size := Nat.lt_of_lt_of_le hgo8 hHeld.size
 clear hCF hHeld gP8 ho8 hb8 gW8 kv0 kv2 hgo8 hs8 gC8 hMy hBi
 have hT10 := box3_there gP10
 have hcS : Chg (fun j => j = Cc + 1) w10 (((w10.setCell ⟨Cc + 1, 0, none⟩ (.int .i64 1)).setCell ⟨Cc + 1, 1, none⟩ (.int .i64 (at' : Nat))).setCell ⟨Cc + 1, 2, none⟩ (.int .u64 (bt : Nat))) := chg3 _ _ _ _ _
 have gPR : HB (((w10.setCell ⟨Cc + 1, 0, none⟩ (.int .i64 1)).setCell ⟨Cc + 1, 1, none⟩ (.int .i64 (at' : Nat))).setCell ⟨Cc + 1, 2, none⟩ (.int .u64 (bt : Nat))) (Cc + 1) #[.int .i64 1, .int .i64 (at' : Nat), .int .u64 (bt : Nat)] 107 := ((gP10.setC 0 (.int .i64 1)).setC 1 (.int .i64 (at' : Nat))).setC 2 (.int .u64 (bt : Nat))
 obtain ⟨W, hW⟩ : ∃ z, ((w10.setCell ⟨Cc + 1, 0, none⟩ (.int .i64 1)).setCell ⟨Cc + 1, 1, none⟩ (.int .i64 (at' : Nat))).setCell ⟨Cc + 1, 2, none⟩ (.int .u64 (bt : Nat)) = z := ⟨_, rfl⟩
 rw [hW] at hcS gPR
 have hs10 := hzs.out _ hb10
 have hzC : zo ≤ Cc + 1 := by omega
 have ho1 := OwnE.chg ho10 hcS (fun k' e q => by have h1 := (hol k' e).2; have h2 : k' = Cc + 1 := q; omega)
 have hb1 := hb10.trans (hcS.below (N := zo) (fun j e => by have h2 : j = Cc + 1 := e; omega) hs10)
 have hs1 := hzs.out _ hb1
 have gW1 := gW10.chgJ hcS (show ¬ C0 + 1 = Cc + 1 by omega)
 have hgoN : ¬ go_ = Cc + 1 := by omega
 have hgo1 : go_ < W.heap.size := Nat.lt_of_lt_of_le hgo10 hcS.size
 have kz0 := (World.cell?_of_block (a := ⟨go_, oo + t * 3, none⟩) (hcS.block _ hgo10 hgoN)).trans kw0
 replace hW := lh hW
 clear gP10 gW10 ho10 hb10 hs10 kw0 hgo10 hcS
 go_upto_region 12 with (refine wpList_store_mid rfl _ _ _ rfl (Cc + 1) 0 #[.int .i64 1, .int .i64 (at' : Nat), .int .u64 (bt : Nat)] rfl rfl hT10 infoOp3 (one3 _ _ _) ?_; rw [show w10.setCells (Cc + 1) 0 (#[.int .i64 1, .int .i64 (at' : Nat), .int .u64 (bt : Nat)] : Array Value).toList = W from hW.out])
 have q4 := (row_cell gW1 4).1
 clear hT10 hW
 rcases hz2b with rfl | rfl | rfl
 ·have hT1 := box3_there gPR
  obtain ⟨nb, hnb⟩ : ∃ nb : Nat, 18446744073709551615 - bt = nb := ⟨_, rfl⟩
  have hxo : bits .xor .u64 IntKind.u64.max (bt : Int) = (nb : Int) := by rw [show IntKind.u64.max = 18446744073709551615 from rfl, not_u64 (by omega)]; omega
  rw [hnb] at hop
  replace hnb := lh hnb
  have hcS : Chg (fun j => j = Cc + 1) W (((W.setCell ⟨Cc + 1, 0, none⟩ (.int .i64 2)).setCell ⟨Cc + 1, 1, none⟩ (.int .i64 (at' : Nat))).setCell ⟨Cc + 1, 2, none⟩ (.int .u64 (nb : Nat))) := chg3 _ _ _ _ _
  have gPS : HB (((W.setCell ⟨Cc + 1, 0, none⟩ (.int .i64 2)).setCell ⟨Cc + 1, 1, none⟩ (.int .i64 (at' : Nat))).setCell ⟨Cc + 1, 2, none⟩ (.int .u64 (nb : Nat))) (Cc + 1) #[.int .i64 2, .int .i64 (at' : Nat), .int .u64 (nb : Nat)] 107 := ((gPR.setC 0 (.int .i64 2)).setC 1 (.int .i64 (at' : Nat))).setC 2 (.int .u64 (nb : Nat))
  obtain ⟨W2, hW2⟩ : ∃ z, ((W.setCell ⟨Cc + 1, 0, none⟩ (.int .i64 2)).setCell ⟨Cc + 1, 1, none⟩ (.int .i64 (at' : Nat))).setCell ⟨Cc + 1, 2, none⟩ (.int .u64 (nb : Nat)) = z := ⟨_, rfl⟩
  rw [hW2] at hcS gPS
  have ho2 := OwnE.chg ho1 hcS (fun k' e q => by have h1 := (hol k' e).2; have h2 : k' = Cc + 1 := q; omega)
  have hb2 := hb1.trans (hcS.below (N := zo) (fun j e => by have h2 : j = Cc + 1 := e; omega) hs1)
  have hs2 := hzs.out _ hb2
  replace hW2 := lh hW2
  clear ho1 hb1 hs1 hcS gW1
  replace hxo := lh hxo
  go_upto_region 14 with (first | (refine wpList_store_mid rfl _ _ _ rfl (Cc + 1) 0 #[.int .i64 2, .int .i64 (at' : Nat), .int .u64 (bits .xor .u64 IntKind.u64.max (bt : Nat))] rfl rfl hT1 infoOp3 (one3 _ _ _) ?_; rw [show W.setCells (Cc + 1) 0 (#[.int .i64 2, .int .i64 (at' : Nat), .int .u64 (bits .xor .u64 IntKind.u64.max (bt : Nat))] : Array Value).toList = W2 from by rw [hxo.out]; exact hW2.out]) | (refine wpList_store_mid rfl _ _ _ rfl (Cc + 1) 0 #[.int .i64 2, .int .i64 (at' : Nat), .int .u64 (nb : Nat)] rfl rfl hT1 infoOp3 (one3 _ _ _) ?_; rw [show W.setCells (Cc + 1) 0 (#[.int .i64 2, .int .i64 (at' : Nat), .int .u64 (nb : Nat)] : Array Value).toList = W2 from hW2.out]))
  obtain ⟨v9, w11, hrun, ho9, hb9⟩ := opRun ho2 hs2 hlen8 2 (at' : Nat) nb
  have hop2 : opOne x L G (ok, oa, ov) = ((2 : Int), ((at' : Nat) : Int), nb) := by rw [hop.out, if_pos rfl]
  rw [← hop2, ← hmt1.out] at ho9
  have hbz := hb2.trans hb9
  obtain ⟨d0, -⟩ := row_cell gPS 0
  obtain ⟨d1, -⟩ := row_cell gPS 1
  obtain ⟨d2, -⟩ := row_cell gPS 2
  clear ho2 hb2 hb9 hop2 hop hmt1 hs2 gPS gPR
  go_wp2_with (at_builtin; refine wpList_append_run rfl _ _ 29 rfl _ _ _ rfl rfl hrun ?_)
  clear hrun
  go_roundw
  case rel => exact ⟨t + 1, by omega, by go_num, ho9, hbz⟩
  first | (simp [intOf]; done) | (simp [intOf]; omega)
 all_goals
  obtain ⟨v9, w11, hrun, ho9, hb9⟩ := opRun ho1 hs1 hlen8 1 (at' : Nat) bt
  have hop2 : opOne x L G (ok, oa, ov) = ((1 : Int), ((at' : Nat) : Int), bt) := by rw [hop.out, if_neg (by decide)]
  rw [← hop2, ← hmt1.out] at ho9
  have hbz := hb1.trans hb9
  obtain ⟨d0, -⟩ := row_cell gPR 0
  obtain ⟨d1, -⟩ := row_cell gPR 1
  obtain ⟨d2, -⟩ := row_cell gPR 2
  clear ho1 hb1 hb9 hop2 hop hmt1 hs1 gW1 gPR
  go_wp2_with (at_builtin; refine wpList_append_run rfl _ _ 29 rfl _ _ _ rfl rfl hrun ?_)
  clear hrun
  go_roundw
  case rel => exact ⟨t + 1, by omega, by go_num, ho9, hbz⟩
  case measure => first | (simp [intOf]; done) | (simp [intOf]; omega)
end Go.Proofs.YtkkbngcgphlikaaGreatDoor
