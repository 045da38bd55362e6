/-
  Part of the proof of JournalSaves.
-/
import Derived.Test.YtkkbngcgphlikaaGreatDoorJv32
import Derived.Test.YtkkbngcgphlikaaGreatDoorJv47
import Derived.Test.YtkkbngcgphlikaaGreatDoorJv49
import Derived.Test.YtkkbngcgphlikaaGreatDoorJv50
import Derived.Test.YtkkbngcgphlikaaGreatDoorJv0
set_option maxRecDepth 10000
set_option maxHeartbeats 4000000
set_option linter.unusedVariables false
set_option linter.unusedSimpArgs false
namespace Go.Proofs.YtkkbngcgphlikaaGreatDoor
open Go.Lib Go.RowKit Go.ChangeShapes Go.WideShapes Go.Deep Go.Shelf
def inQ (s : Sp) (x : Int) : Bool := decide (s.1 ≤ x ∧ x < s.1 + s.2)
theorem in15 (a b x : Int) (w : World) (h : SB (a, b)) (hx : 0 ≤ x) (hx2 : x ≤ 100000) :
 Calls Tryz.prog 46 #[.agg #[.int .i64 a, .int .i64 b], .int .i64 x] w fun e w' => e = .returned (.bool (inQ (a, b) x)) ∧ Below w.heap.size w w' := by
 obtain ⟨h1, h2, h3, h4⟩ := h
 simp only [] at h1 h2 h3 h4
 by_cases k1 : a ≤ x
 ·by_cases k2 : x - a < b
  ·rw [show inQ (a, b) x = true from decide_eq_true ⟨k1, by simp only []; omega⟩]
   go_enter Tryz.func46, Tryz.ntmps46
   go_wp2_with fail
   go_ret
   exact ⟨rfl, bZ _ _⟩
  ·rw [show inQ (a, b) x = false from decide_eq_false (fun q => by simp only [] at q; omega)]
   have k3 : b ≤ x - a := by omega
   go_enter Tryz.func46, Tryz.ntmps46
   go_wp2_with fail
   go_ret
   exact ⟨rfl, bZ _ _⟩
 ·rw [show inQ (a, b) x = false from decide_eq_false (fun q => by simp only [] at q; omega)]
  have k3 : x < a := by omega
  go_enter Tryz.func46, Tryz.ntmps46
  go_wp2_with fail
  go_ret
  exact ⟨rfl, bZ _ _⟩
theorem KL.cellq {K : IntKind} {w : World} {g o n c : Nat} {l : List Nat} (h : KL K w (.slice (some ⟨g, o, none⟩) n c) l) {i : Nat} (hi : i < l.length) : w.cell? ⟨g, o + i, none⟩ = some (.int K (l.getD i 0 : Nat)) ∧ g < w.heap.size := by
 obtain ⟨A, c', hv, hf⟩ := h.form rfl
 cases hv
 obtain ⟨g', o', e, h1, h2, h3⟩ := hf w i (Below.refl _ _) hi
 cases e
 exact ⟨h3, h2⟩
theorem boL_cell {w : World} {g o n c : Nat} {l : List Bool} (h : EL 1 boE w (.slice (some ⟨g, o, none⟩) n c) l) {i : Nat} (hi : i < l.length) : w.cell? ⟨g, o + i, none⟩ = some (.bool (l.getD i false)) ∧ g < w.heap.size := by
 obtain ⟨A, c', hv, hf⟩ := EL.form h rfl
 cases hv
 obtain ⟨g', o', e, h1, h2, h3, h4⟩ := hf w i (Below.refl _ _) hi
 cases e
 have h5 := h4 0 (by decide)
 rw [Nat.mul_one, Nat.add_zero] at h5
 exact ⟨h5, h2⟩
def stoV (s : Dv) (A v : Nat) : Nat → Dv
 | 0 => s
 | j + 1 => storeD (stoV s A v j) ((A + j : Nat) : Int) ((v + j) % 18446744073709551616)
def spl (k : Wk) (L G f : Nat) : Nat → List Sp
 | 0 => []
 | i + 1 => if k.e.getD i false = true then spl k L G f i ++ [(((spA k L G f i : Nat) : Int), ((spM k i : Nat) : Int))] else spl k L G f i
def stA (s : Dv) (k : Wk) (L G f : Nat) : Nat → Dv
 | 0 => s
 | i + 1 => stoV (stA s k L G f i) (spA k L G f i) (k.v.getD i 0) (spM k i)
theorem GoodJ.stoV {s : Dv} {N m : Nat} (h : GoodJ s N m) (A v : Nat) : ∀ j, GoodJ (stoV s A v j) N (m + j)
 | 0 => h
 | j + 1 => (GoodJ.stoV h A v j).store _ _
theorem GoodJ.stA {s : Dv} {N m : Nat} (h : GoodJ s N m) (k : Wk) (L G f : Nat) : ∀ i, GoodJ (stA s k L G f i) N (m + 6 * i)
 | 0 => h
 | i + 1 => ((GoodJ.stA h k L G f i).stoV _ _ _).mono (by have := spM_bd k i; omega)
theorem spl_len (k : Wk) (L G f : Nat) : ∀ i, (spl k L G f i).length ≤ i
 | 0 => Nat.le_refl _
 | i + 1 => by
   have := spl_len k L G f i
   unfold spl
   split
   ·rw [List.length_append]; simp; omega
   ·omega
theorem spl_at (k : Wk) (L G f : Nat) : ∀ i, ∀ x ∈ spl k L G f i, ∃ j, j < i ∧ x = (((spA k L G f j : Nat) : Int), ((spM k j : Nat) : Int))
 | 0, x, hx => by cases hx
 | i + 1, x, hx => by
   unfold spl at hx
   split at hx
   ·rcases List.mem_append.1 hx with q | q
    ·obtain ⟨j, hj, e⟩ := spl_at k L G f i x q
     exact ⟨j, by omega, e⟩
    ·rw [List.mem_singleton] at q
     exact ⟨i, by omega, q⟩
   ·obtain ⟨j, hj, e⟩ := spl_at k L G f i x hx
    exact ⟨j, by omega, e⟩
theorem spl_PBs (k : Wk) {L G f : Nat} (hf : f < G) (h : 10 + 73 * L + G + 32 * G ≤ 1000) (i : Nat) : PBs (spl k L G f i) := fun x hx => by
 obtain ⟨j, _, rfl⟩ := spl_at k L G f i x hx
 have h1 := spA_bd k (L := L) (i := j) hf
 have h2 := spM_bd k j
 unfold PB
 simp only []
 omega
theorem spl_PS (k : Wk) {L G f : Nat} (hf : f < G) (h : 10 + 73 * L + G + 32 * G ≤ 1000) (i : Nat) : PS (spl k L G f i) := fun x hx => by
 obtain ⟨j, _, rfl⟩ := spl_at k L G f i x hx
 have h1 := spA_bd k (L := L) (i := j) hf
 have h2 := spM_bd k j
 simp only []
 omega
theorem any_take {l : List Sp} {t : Nat} (h : t < l.length) (f : Sp → Bool) : (l.take (t + 1)).any f = ((l.take t).any f || f (l.getD t (0, 0))) := by
 rw [List.take_succ_eq_append_getElem h, List.any_append, List.getD_eq_getElem?_getD, List.getElem?_eq_getElem h]
 simp
structure StoS (x : List Nat) (s : Dv) : Prop where
 L : s.L = x
 f : ∀ y, s.f y = none
 d : s.dead = false
 u : s.fuse = 0
theorem StoS.store {x : List Nat} {s : Dv} (h : StoS x s) (y : Int) (v : Nat) : StoS x (storeD s y v) := by
 obtain ⟨q1, q2, q3⟩ := store_L s y v
 cases hh : hasD s y with
 | true =>
   obtain ⟨-, d, u⟩ := steps_store h.d h.u hh v
   exact ⟨q1.trans h.L, fun z => by rw [q2]; exact h.f z, d, u⟩
 | false =>
   have e : storeD s y v = s := by unfold storeD; rw [hh]; rfl
   rw [e]
   exact h
theorem StoS.stoV {x : List Nat} {s : Dv} (h : StoS x s) (A v : Nat) : ∀ j, StoS x (stoV s A v j)
 | 0 => h
 | j + 1 => (StoS.stoV h A v j).store _ _
theorem StoS.stA {x : List Nat} {s : Dv} (h : StoS x s) (k : Wk) (L G f : Nat) : ∀ i, StoS x (stA s k L G f i)
 | 0 => h
 | i + 1 => (StoS.stA h k L G f i).stoV _ _ _
theorem StoS.al {x : List Nat} {s : Dv} (h : StoS x s) : Al (fun i v => v = x.getD i 0 ∨ v = loadD s (i : Int)) s := fun i hi v hv => by
 rcases hv with q | q | q
 ·left; rw [q, h.L]
 ·rw [h.f] at q; cases q
 ·right; exact (load_c hi q).symm
theorem saves_end {x : List Nat} {s : Dv} {N m : Nat} (hg : GoodJ s N m) (h : StoS x s) (l : List Sp) (keep : List Nat) : ∀ i, i < N →
 (((crashD (fenceL s l) keep).L.getD i 0 = x.getD i 0 ∨ (crashD (fenceL s l) keep).L.getD i 0 = (viewD s).getD i 0) ∧ ((l.any fun q => inQ q (i : Nat)) = true → (crashD (fenceL s l) keep).L.getD i 0 = (viewD s).getD i 0)) := fun i hi => by
 have hg2 := GoodJ.fences (by omega) l hg
 have hA : Al (fun i v => (v = x.getD i 0 ∨ v = (viewD s).getD i 0) ∧ ((l.any fun q => inQ q (i : Nat)) = true → v = (viewD s).getD i 0)) (fenceL s l) := fun j hj v hv => by
  have hjN : j < N := by rw [hg2.len] at hj; exact hj
  have hjL : j < s.L.length := by rw [hg.len]; exact hjN
  show (v = x.getD j 0 ∨ v = (viewD s).getD j 0) ∧ ((l.any fun q => inQ q (j : Nat)) = true → v = (viewD s).getD j 0)
  rw [view_at s hjL]
  refine ⟨(Al.fenceL l h.al) j hj v hv, fun ha => ?_⟩
  obtain ⟨q, hq, r⟩ := List.any_eq_true.1 ha
  exact save_cl hg h.d h.u l hjN ⟨q, hq, of_decide_eq_true r⟩ v hv
 exact hg2.crashed hA keep i hi
theorem journalSaves (s : Sk) (vT vY vE vF : Value) (vA vM vV vG vO : Value) (k : Wk) (vK : Value) (keep : List Nat) (w : World) (hw : Lw w) (hM : SkM w vT vY vE vF s) (hB : SkB s) (hKM : WkM w vA vM vV vG vO k) (hKB : WkB k) (hkk : KL .u8 w vK keep) (hkb : BL keep) :
 Calls Tryz.prog 8 #[skV s vT vY vE vF, .agg #[vA, vM, vV, vG, vO], vK] w fun e w' => e = .returned (.bool true) ∧ Below w.heap.size w w' := by
 obtain ⟨AT, cT, AY, cY, AE, cE, AF, cF, rfl, rfl, rfl, rfl⟩ := hM.sl
 have hAw := lh (fun w1 (hb : Below w.heap.size w w1) => awake19 w1 (hw.keep hb))
 have hFe := lh (fun w1 => few16 s AT AY AE AF s.tiles.length cT s.types.length cY s.less.length cE s.fill.length cF w1 rfl rfl rfl rfl)
 have hSt := lh (fun w1 (hb : Below w.heap.size w w1) (hf : fewS s = true) => Stocked_any s _ _ _ _ w1 (hw.keep hb) (hM.keep hb) hB hf)
 obtain ⟨hg, hgN, hgat, hL1, hL3, hG1, hG8⟩ := gv_geo (gvS s)
 have hslen := stockL_len s
 have hNN : gvN (gvS s) = 10 + 73 * gvL (gvS s) + 33 * gvG (gvS s) := rfl
 have hGe := lh (fun w1 => show Calls Tryz.prog 13 #[.agg #[.int .u8 (s.a : Nat), .int .u8 (s.b : Nat), .slice none 0 0, .slice none 0 0, .slice none 0 0, .int .u64 0, .int .u64 0, .slice none 0 0]] w1 (fun e w' => e = .returned (.agg #[.int .i64 (gvN (gvS s) : Nat), .int .i64 (gvL (gvS s) : Nat)]) ∧ Below w1.heap.size w1 w') from
  geom_any { a := s.a, b := s.b, tiles := [], fill := [], items := [], root := 0, epoch := 0, spoil := [] } none none none none 0 0 0 0 0 0 0 0 w1 ⟨hB.a, hB.b, fun x hx => (by cases hx), fun x hx => (by cases hx), fun x hx => (by cases hx), (by show 0 < 18446744073709551616; decide), (by show 0 < 18446744073709551616; decide), fun x hx => (by cases hx)⟩)
 obtain ⟨AA, cA, AM, cM, AV, cV, AG, cG, AO, cO, rfl, rfl, rfl, rfl, rfl⟩ := hKM.sl
 have hFk := lh (fun w1 => few19 k AA AM AV AG AO k.a.length cA k.m.length cM k.v.length cV k.e.length cG k.o.length cO w1 rfl rfl rfl rfl rfl)
 obtain ⟨AK, cK, rfl, -⟩ := hkk.form rfl
 have hwk := lh (fun w1 (hb : Below w.heap.size w w1) => hw.keep hb)
 obtain ⟨X, hX⟩ : ∃ X, stockL s = X := ⟨_, rfl⟩
 obtain ⟨N, hN⟩ : ∃ N, gvN (gvS s) = N := ⟨_, rfl⟩
 obtain ⟨L, hL⟩ : ∃ L, gvL (gvS s) = L := ⟨_, rfl⟩
 obtain ⟨G, hG⟩ : ∃ G, gvG (gvS s) = G := ⟨_, rfl⟩
 rw [hX] at hSt hslen
 rw [hN] at hslen
 rw [hN, hL] at hGe hg hgat hgN
 rw [hN, hL, hG] at hNN
 rw [hG] at hgat hG1 hG8 hgN
 rw [hL] at hL1 hL3
 obtain ⟨nT, hnT⟩ : ∃ n, s.tiles.length = n := ⟨_, rfl⟩
 obtain ⟨nY, hnY⟩ : ∃ n, s.types.length = n := ⟨_, rfl⟩
 obtain ⟨nE, hnE⟩ : ∃ n, s.less.length = n := ⟨_, rfl⟩
 obtain ⟨nF, hnF⟩ : ∃ n, s.fill.length = n := ⟨_, rfl⟩
 rw [hnT, hnY, hnE, hnF] at hFe hSt
 rw [hnT, hnY, hnE, hnF]
 unfold skV at hFe hSt ⊢
 have hN9 : N ≤ 493 := by omega
 have hN1 : 44 ≤ N := by omega
 obtain ⟨nA, hnA⟩ : ∃ n, k.a.length = n := ⟨_, rfl⟩
 obtain ⟨nM, hnM⟩ : ∃ n, k.m.length = n := ⟨_, rfl⟩
 obtain ⟨nV, hnV⟩ : ∃ n, k.v.length = n := ⟨_, rfl⟩
 obtain ⟨nG, hnG⟩ : ∃ n, k.e.length = n := ⟨_, rfl⟩
 obtain ⟨nO, hnO⟩ : ∃ n, k.o.length = n := ⟨_, rfl⟩
 rw [hnA, hnM, hnV, hnG, hnO] at hFk hKM
 rw [hnA, hnM, hnV, hnG, hnO]
 obtain ⟨nK, hnK⟩ : ∃ n, keep.length = n := ⟨_, rfl⟩
 rw [hnK] at hkk ⊢
 have hSpn := lh (fun (hm : nM = nA) i (hi : i < nA) w1 (hb : Below w.heap.size w w1) => show Calls Tryz.prog 33 #[.agg #[.slice AA nA cA, .slice AM nM cM, .slice AV nV cV, .slice AG nG cG, .slice AO nO cO], .agg #[.int .i64 (N : Nat), .int .i64 (L : Nat)], .int .i64 0, .int .i64 (i : Nat)] w1 (fun e w' => e = .returned (.agg #[.int .i64 (spA k L G 0 i : Nat), .int .i64 (spM k i : Nat)]) ∧ Below w1.heap.size w1 w') from span19 k AA AM AV AG AO nA cA nM cM nV cV nG cG nO cO N L G 0 i w1 (hKM.keep hb) hKB hg hgat (by omega) (by omega) (by omega) (by omega))
 have hsb := lh (fun i => spA_bd k (L := L) (G := G) (f := 0) (i := i) (by omega))
 have hsm := lh (fun i => spM_bd k i)
 have hvW := lh (fun i (hi : i < nV) => show k.v.getD i 0 < 18446744073709551616 from hKB.v.at i (by omega))
 have hVc := lh (fun w1 (hb : Below w.heap.size w w1) => (hKM.keep hb).v.form hnV)
 have hEc := lh (fun w1 (hb : Below w.heap.size w w1) => EL.form (hKM.keep hb).e hnG)
 have hKk := lh (fun w1 (hb : Below w.heap.size w w1) => hkk.keep hb)
 have hfw2 := lh (show fewW k = true → nA ≤ 8 ∧ nA = nM ∧ nA = nV ∧ nA = nG from fun h => by
  unfold fewW at h
  simp only [Bool.and_eq_true, decide_eq_true_eq] at h
  omega)
 have hkb' := lh hkb
 have hKMk := lh (fun w1 (hb : Below w.heap.size w w1) => hKM.keep hb)
 have hgl := lh (show GoodJ (dv0 X) N 0 from by have h := GoodJ.zero X; rw [hslen] at h; exact h)
 have hs0 := lh (show StoS X (dv0 X) from ⟨rfl, fun _ => rfl, rfl, rfl⟩)
 have hss := lh (fun i => show stA (dv0 X) k L G 0 (i + 1) = stoV (stA (dv0 X) k L G 0 i) (spA k L G 0 i) (k.v.getD i 0) (spM k i) from rfl)
 have hsl1 := lh (fun i (h : k.e.getD i false = true) => show spl k L G 0 (i + 1) = spl k L G 0 i ++ [(((spA k L G 0 i : Nat) : Int), ((spM k i : Nat) : Int))] from by rw [spl, if_pos h])
 have hsl0 := lh (fun i (h : k.e.getD i false = false) => show spl k L G 0 (i + 1) = spl k L G 0 i from by rw [spl, h]; rfl)
 have hsll := lh (fun i => spl_len k L G 0 i)
 have hsps := lh (fun i => spl_PS k (L := L) (G := G) (f := 0) (by omega) (by omega) i)
 have hspb := lh (fun i => spl_PBs k (L := L) (G := G) (f := 0) (by omega) (by omega) i)
 clear hNN hgN hM hKM hKB hkb hB hw hkk
 replace hnV := lh hnV
 replace hnG := lh hnG
 replace hnA := lh hnA
 replace hnM := lh hnM
 replace hnK := lh hnK
 replace hX := lh hX
 replace hN := lh hN
 replace hL := lh hL
 replace hG := lh hG
 have hb0 := bZ w (.cells #[.int .u8 (s.a : Nat), .int .u8 (s.b : Nat), .slice AT nT cT, .slice AY nY cY, .slice AE nE cE, .int .u32 (s.ep : Nat), .int .u8 (s.root : Nat), .slice AF nF cF] 27)
 have gS := HB.new w #[.int .u8 (s.a : Nat), .int .u8 (s.b : Nat), .slice AT nT cT, .slice AY nY cY, .slice AE nE cE, .int .u32 (s.ep : Nat), .int .u8 (s.root : Nat), .slice AF nF cF] 27
 obtain ⟨wb1, hwb1⟩ : ∃ x, w.alloc (.cells #[.int .u8 (s.a : Nat), .int .u8 (s.b : Nat), .slice AT nT cT, .slice AY nY cY, .slice AE nE cE, .int .u32 (s.ep : Nat), .int .u8 (s.root : Nat), .slice AF nF cF] 27) = x := ⟨_, rfl⟩
 have hswb1 : wb1.heap.size = w.heap.size + 1 := by rw [← hwb1]; simp
 rw [hwb1] at hb0 gS
 obtain ⟨C0, hC0⟩ : ∃ C, w.heap.size = C := ⟨_, rfl⟩
 have hB' : Below w.heap.size w wb1 := hb0
 rw [hC0] at gS
 clear hb0
 have hb0 := bZ wb1 (.cells #[.slice AA nA cA, .slice AM nM cM, .slice AV nV cV, .slice AG nG cG, .slice AO nO cO] 31)
 have gW := HB.new wb1 #[.slice AA nA cA, .slice AM nM cM, .slice AV nV cV, .slice AG nG cG, .slice AO nO cO] 31
 obtain ⟨wb2, hwb2⟩ : ∃ x, wb1.alloc (.cells #[.slice AA nA cA, .slice AM nM cM, .slice AV nV cV, .slice AG nG cG, .slice AO nO cO] 31) = x := ⟨_, rfl⟩
 have hswb2 : wb2.heap.size = C0 + 2 := by rw [← hwb2]; simp; omega
 rw [hwb2] at hb0 gW
 rw [hswb1, hC0] at gW
 have gS' := gS.keep hb0
 have hB0 := hB'.trans (hb0.mono hB'.size)
 clear hb0 gS hB'
 go_enter Tryz.func8, Tryz.ntmps8
 subst hwb2
 subst hwb1
 go_wp2_with fail
 refine (hAw.out _ hB0).mono ?_
 rintro e w1 ⟨rfl, hb1⟩
 have hB1 := hB0.trans (hb1.mono hB0.size)
 have gS1 := gS'.keep hb1
 have gW1 := gW.keep hb1
 clear hAw hb1 hB0 gS' gW
 have p0 := (row_cell gS1 0).1
 have p1 := (row_cell gS1 1).1
 have p2 := (row_cell gS1 2).1
 have p3 := (row_cell gS1 3).1
 have p4 := (row_cell gS1 4).1
 have p5 := (row_cell gS1 5).1
 have p6 := (row_cell gS1 6).1
 have p7 := (row_cell gS1 7).1
 go_wp2_with fail
 refine (hFe.out _).mono ?_
 rintro e w2 ⟨rfl, hb2⟩
 have hB2 := hB1.trans (hb2.mono hB1.size)
 have gS2 := gS1.keep hb2
 have gW2 := gW1.keep hb2
 clear p0 p1 p2 p3 p4 p5 p6 p7 hb2 hB1 gS1 hFe gW1
 have q0 := (row_cell gW2 0).1
 have q1 := (row_cell gW2 1).1
 have q2 := (row_cell gW2 2).1
 have q3 := (row_cell gW2 3).1
 have q4 := (row_cell gW2 4).1
 go_wp2_with fail
 refine (hFk.out _).mono ?_
 rintro e w3 ⟨rfl, hb3⟩
 have hB3 := hB2.trans (hb3.mono hB2.size)
 have gS3 := gS2.keep hb3
 have gW3 := gW2.keep hb3
 clear q0 q1 q2 q3 q4 hb3 hB2 gS2 gW2 hFk
 cases hfew : fewS s with
 | false =>
   go_wp2_with fail
   go_ret
   exact ⟨rfl, hB3⟩
 | true =>
   cases hfw : fewW k with
   | false =>
     go_wp2_with fail
     go_ret
     exact ⟨rfl, hB3⟩
   | true =>
     by_cases hk100 : 100 < nK
     ·have hk100I : (100 : Int) < (nK : Int) := by omega
      go_wp2_with fail
      go_ret
      exact ⟨rfl, hB3⟩
     have hk100I : ¬ (100 : Int) < (nK : Int) := by omega
     have hSt2 := hSt.out _ hB3 hfew
     clear hSt
     have p0 := (row_cell gS3 0).1
     have p1 := (row_cell gS3 1).1
     have p2 := (row_cell gS3 2).1
     have p3 := (row_cell gS3 3).1
     have p4 := (row_cell gS3 4).1
     have p5 := (row_cell gS3 5).1
     have p6 := (row_cell gS3 6).1
     have p7 := (row_cell gS3 7).1
     go_wp2_with fail
     refine hSt2.mono ?_
     rintro e w4 ⟨v4, rfl, hO4, hW, hb4⟩
     have hB4 := hB3.trans (hb4.mono hB3.size)
     have gS4 := gS3.keep hb4
     have gW4 := gW3.keep hb4
     clear p0 p1 p2 p3 p4 p5 p6 p7 hSt2 hb4 gS3 gW3 hB3
     obtain ⟨X4, c4, hv4, -⟩ := OwnU.form hO4
     rw [hslen] at hv4
     cases hv4
     have hk4 := hO4.kl
     have hl4 := World.ownsRow.lt hO4
     clear hO4
     have p0 := (row_cell gS4 0).1
     have p1 := (row_cell gS4 1).1
     go_wp2_with fail
     refine (hGe.out _).mono ?_
     rintro e w5 ⟨rfl, hb5⟩
     have hB5 := hB4.trans (hb5.mono hB4.size)
     have hk5 := hk4.keep hb5
     have gW5 := gW4.keep hb5
     have e6 := bZ w5 (.cells #[.int .i64 (N : Nat), .int .i64 (L : Nat)] (37 : Nat))
     have gG := HB.new w5 #[.int .i64 (N : Nat), .int .i64 (L : Nat)] (37 : Nat)
     obtain ⟨w6, hw6⟩ : ∃ x, w5.alloc (.cells #[.int .i64 (N : Nat), .int .i64 (L : Nat)] (37 : Nat)) = x := ⟨_, rfl⟩
     obtain ⟨Cg, hCg⟩ : ∃ C, w5.heap.size = C := ⟨_, rfl⟩
     rw [hw6] at e6 gG
     rw [hCg] at gG
     have hB6 := hB5.trans (e6.mono hB5.size)
     have hk6 := hk5.keep e6
     have hz6 : w4.heap.size ≤ w6.heap.size := by have h1 := hb5.size; have h2 := e6.size; omega
     have gW6 := gW5.keep e6
     have hOp := dOpen _ X w6 (by rw [hslen]; omega) (by rw [hslen]; omega) hk6
     clear p0 p1 gS4 hb5 hk4 hk5 e6 hB4 hB5 hGe gW4 gW5
     subst hw6
     go_wp2_with fail
     refine hOp.mono ?_
     rintro e wo ⟨B, F, rfl, hD, hF, hbo⟩
     have hBo := hB6.trans (hbo.mono hB6.size)
     have hF0 := lh (fun k (q : F k) => Nat.le_trans hB6.size (hF k q))
     have hFl := lh hD.lt
     have gGo := gG.keep hbo
     have hnCg : ¬ F Cg := fun q => by have h1 := hF Cg q; have h2 := gG.lt; omega
     have hgg := lh (fun w' (hc : Chg F wo w') => (gGo.chgJ hc hnCg).c2)
     have gWo := gW6.keep hbo
     have hnCw : ¬ F (C0 + 1) := fun q => by have h1 := hF (C0 + 1) q; have h2 := gW6.lt; omega
     have hgw := lh (fun w' (hc : Chg F wo w') => gWo.chgJ hc hnCw)
     have hkx := lh (fun w' (hc : Chg F wo w') => (hk6.keep hbo).far hc (fun k e q => by
      have h1 := hF k q
      have h2 := (hl4 k e).2
      have h3 := hz6
      omega))
     have hbw := lh (fun w' (hc : Chg F wo w') => hBo.trans (hc.below hF0.out hBo.size))
     have hco := Chg.refl F wo
     clear hOp hbo hF gG gGo hB6 hk6 hnCg hl4 hz6 gW6 gWo hnCw
     obtain ⟨hA8, rfl, rfl, rfl⟩ := hfw2.out hfw
     clear hfw2
     obtain ⟨zo, hzo⟩ : ∃ z, wo.heap.size = z := ⟨_, rfl⟩
     have hzF := lh (fun k (q : F k) => show k < zo from by rw [← hzo]; exact hFl.out k q)
     have hzc := lh (fun w' (hc : Chg F wo w') => show zo ≤ w'.heap.size from by rw [← hzo]; exact hc.size)
     clear hFl
     have hGa := lh (fun i => (hgl.out.stA k L G 0 i))
     have hd0 : DvAt wo B F (stA (dv0 X) k L G 0 0) := hD
     have hp0 : OwnSp wo zo (.slice none 0 0) (spl k L G 0 0) := OwnSp.nil _ _
     clear hD
     go_wp2_with fail
     go_loopw [15, 14] (fun i pl wr => ∃ (t : Nat), t ≤ nA ∧ i = .int .i64 (t : Nat) ∧ DvAt wr B F (stA (dv0 X) k L G 0 t) ∧ OwnSp wr zo pl (spl k L G 0 t) ∧ Chg F wo wr) (fun i _ _ => nA + 1 - (intOf i).toNat)
     case atStart => exact ⟨0, Nat.zero_le _, rfl, hd0, hp0, hco⟩
     case round =>
      obtain ⟨t, ht, rfl, hDr, hPr, hcr⟩ := hrel
      clear hd0 hp0 hco
      have gWr := hgw.out _ hcr
      have q0 := (row_cell gWr 0).1
      have q1 := (row_cell gWr 1).1
      have q2 := (row_cell gWr 2).1
      have q3 := (row_cell gWr 3).1
      have q4 := (row_cell gWr 4).1
      by_cases htn : t < nA
      ·have htn' : (t : Int) < (nA : Int) := by omega
       obtain ⟨g0, g1⟩ := hgg.out _ hcr
       have hSp1 := hSpn.out trivial t htn _ (hbw.out _ hcr)
       obtain ⟨b1, b2⟩ := hsb.out t
       obtain ⟨b3, b4⟩ := hsm.out t
       have hvt := hvW.out t (by omega)
       have hst := hss.out t
       have hs1 := hsl1.out t
       have hs2 := hsl0.out t
       have hlen0 := hsll.out t
       have hGt := hGa.out t
       obtain ⟨V9, d9, hv9, hVf⟩ := hVc.out _ (hbw.out _ hcr)
       cases hv9
       obtain ⟨gv, ov, rfl, -, -, -⟩ := hVf wr t (Below.refl _ _) (by omega)
       obtain ⟨E9, d9, hv9, hEf⟩ := hEc.out _ (hbw.out _ hcr)
       cases hv9
       obtain ⟨ge, oe, rfl, -, -, -, -⟩ := hEf wr t (Below.refl _ _) (by omega)
       have hKV := lh (fun w' (hc : Chg F wo w') => (hKMk.out w' (hbw.out _ hc)).v)
       have hKE := lh (fun w' (hc : Chg F wo w') => (hKMk.out w' (hbw.out _ hc)).e)
       have htV : t < k.v.length := by rw [hnV.out]; omega
       have htE : t < k.e.length := by rw [hnG.out]; omega
       obtain ⟨bt, hbt⟩ : ∃ b, k.e.getD t false = b := ⟨_, rfl⟩
       obtain ⟨pv, hpv⟩ : ∃ b, k.v.getD t 0 = b := ⟨_, rfl⟩
       rw [hpv] at hst hvt
       rw [hbt] at hs1 hs2
       replace hpv := lh hpv
       replace hbt := lh hbt
       clear hVf hEf
       generalize spA k L G 0 t = pa at *
       generalize spM k t = pm at *
       generalize stA (dv0 X) k L G 0 t = S0 at *
       generalize spl k L G 0 t = sp0 at *
       replace hst := lh hst
       replace hs1 := lh hs1
       replace hs2 := lh hs2
       replace hSp1 := lh hSp1
       go_wp2_with fail
       refine hSp1.out.mono ?_
       rintro e w7 ⟨rfl, hb7⟩
       have hD7a := hDr.keep hb7
       have hP7a := hPr.keep hb7
       have hc7a := hcr.trans (Chg.of_below F hb7) (fun j q => .inl q)
       have e8 := bZ w7 (.cells #[.int .i64 (pa : Nat), .int .i64 (pm : Nat)] (70 : Nat))
       have gP7 := HB.new w7 #[.int .i64 (pa : Nat), .int .i64 (pm : Nat)] (70 : Nat)
       obtain ⟨w8, hw8⟩ : ∃ x, w7.alloc (.cells #[.int .i64 (pa : Nat), .int .i64 (pm : Nat)] (70 : Nat)) = x := ⟨_, rfl⟩
       obtain ⟨Cs, hCs⟩ : ∃ C, w7.heap.size = C := ⟨_, rfl⟩
       rw [hw8] at e8 gP7
       rw [hCs] at gP7
       have hD7 := hD7a.keep e8
       have hP7 := hP7a.keep e8
       have hc7 := hc7a.trans (Chg.of_below F e8) (fun j q => .inl q)
       have hnCs : ¬ F Cs := fun q => by have h1 := hzF.out _ q; have h2 := hzc.out _ hc7a; omega
       clear hDr hPr hcr hb7 e8 hD7a hP7a hc7a g0 g1 hSp1 q0 q1 q2 q3 q4 gWr
       subst hw8
       go_wp2_with fail
       go_loopw [17] (fun j wr => ∃ (t2 : Nat), t2 ≤ pm ∧ j = .int .i64 (t2 : Nat) ∧ DvAt wr B F (stoV S0 pa pv t2) ∧ OwnSp wr zo u14 sp0 ∧ Chg F wo wr ∧ HB wr Cs #[.int .i64 (pa : Nat), .int .i64 (pm : Nat)] (70 : Nat)) (fun j _ => pm + 1 - (intOf j).toNat)
       case atStart => exact ⟨0, Nat.zero_le _, rfl, hD7, hP7, hc7, gP7⟩
       case round =>
        obtain ⟨t2, ht2, rfl, hD, hP, hc, gP⟩ := hrel
        clear hD7 hP7 hc7 gP7
        have gWq := hgw.out _ hc
        have q0 := (row_cell gWq 0).1
        have q1 := (row_cell gWq 1).1
        have q2 := (row_cell gWq 2).1
        have q3 := (row_cell gWq 3).1
        have q4 := (row_cell gWq 4).1
        obtain ⟨u0, u1⟩ := gP.c2
        by_cases h2 : t2 < pm
        ·have h2I : (t2 : Int) < (pm : Int) := by omega
         have hGk := (hGt.stoV pa pv t2).good (by omega) (by omega) (by omega)
         obtain ⟨v0, hgv⟩ := (hKV.out _ hc).cellq (i := t) htV
         rw [hpv.out] at v0
         obtain ⟨ap, hap⟩ : ∃ a, pa + t2 = a := ⟨_, rfl⟩
         obtain ⟨yv, hyv⟩ : ∃ a, (pv + t2) % 18446744073709551616 = a := ⟨_, rfl⟩
         have hSt := lh (fun w2 (q : Below wr.heap.size wr w2) => show Calls Tryz.prog 35 #[.pointer (some ⟨B, 0, none⟩), .int .i64 (ap : Nat), .int .u64 (yv : Nat)] w2 (fun e w' => e = .returned (.tuple #[]) ∧ DvAt w' B F (stoV S0 pa pv (t2 + 1)) ∧ Chg F w2 w') from by
          have h := dStore B F (stoV S0 pa pv t2) (ap : Nat) yv w2 (hD.keep q) hGk
          rw [← hap, ← hyv] at h ⊢
          exact h)
         have x1 : IntKind.i64.wrap ((pa : Int) + (t2 : Int)) = (ap : Int) := (by rw [IntKind.wrap_i64]; omega)
         have x2 : IntKind.u64.wrap (t2 : Int) = (t2 : Int) := (by rw [IntKind.wrap_u64]; omega)
         have x3 : IntKind.u64.wrap ((pv : Int) + (t2 : Int)) = (yv : Int) := (by rw [IntKind.wrap_u64, ← hyv]; omega)
         replace hap := lh hap
         replace hyv := lh hyv
         have hCF := lh (fun w' (hb : Below wr.heap.size wr w') => show (w'.cell? ⟨Cs, 0, none⟩ = some (.int .i64 (pa : Nat)) ∧ w'.cell? ⟨Cs, 1, none⟩ = some (.int .i64 (pm : Nat))) ∧ w'.cell? ⟨C0 + 1, 2, none⟩ = some (.slice (some ⟨gv, ov, none⟩) nA cV) ∧ w'.cell? ⟨gv, ov + t, none⟩ = some (.int .u64 (pv : Nat)) from
          ⟨(gP.keep hb).c2, (row_cell (gWq.keep hb) 2).1, by rw [(bcell hb).1 _ _ hgv]; exact v0⟩)
         clear hGk
         go_wp2_with fail
         refine wp_region_tail (S := (fun w' => Below wr.heap.size wr w')) (n := 13) (by kernel_rfl) (Below.refl _ _).drew (fun hHeld hInv => ?_) (by decide)
         refine takeHS 0 hInv ?_; clear hInv; intro hInv
         refine takeHS 1 hInv ?_; clear hInv; intro hInv
         refine takeHS 2 hInv ?_; clear hInv; intro hInv
         refine takeHS 3 hInv ?_; clear hInv; intro hInv
         refine takeHS 4 hInv ?_; clear hInv; intro hInv
         refine takeHS 5 hInv ?_; clear hInv; intro hInv
         refine takeHS 6 hInv ?_; clear hInv; intro hInv
         refine takeHS 7 hInv ?_; clear hInv; intro hInv
         refine takeHS 8 hInv ?_; clear hInv; intro hInv
         refine takeHS 9 hInv ?_; clear hInv; intro hInv
         refine takeHS 10 hInv ?_; clear hInv; intro hInv
         refine takeHS 11 hInv ?_; clear hInv; intro hInv
         refine takeHS 12 hInv ?_; clear hInv; intro hInv
         refine lastS 13 rfl (by decide) (by kernel_rfl) (fun K hK => ?_)
         go_simp
         refine (hSt.out _ hHeld).mono ?_
         rintro e w14 ⟨rfl, hD4, hc4⟩
         refine hK.out _ _ ?_
         clear hK K
         try simp only [Act.put,sA,sB,sC]
         refine wpAnyS_done (by kernel_rfl) ?_ _
         have hc5 := hc.trans ((Chg.of_below F hHeld).trans hc4 (fun j q => .inl q)) (fun j q => .inl q)
         have hP5 := (hP.keep hHeld).chg hc4 (fun j q z => by have h1 := (hP.lt j q).1; have h2 := hzF.out j z; omega)
         have gP5 := (gP.keep hHeld).chgJ hc4 hnCs
         clear hCF hInv hHeld hc4 hSt hc v0 hD hP gP gWq u0 u1 q0 q1 q2 q3 q4 x1 x2 x3 hap hyv
         go_wp2_with fail
         go_roundw
         case rel => exact ⟨t2 + 1, by omega, by go_num, hD4, hP5, hc5, gP5⟩
         case measure => first | (simp [intOf]; done) | (simp [intOf]; omega)
        ·obtain rfl : pm = t2 := by omega
         have h2I : ¬ (pm : Int) < (pm : Int) := by omega
         obtain ⟨e0, hge⟩ := boL_cell (hKE.out _ hc) htE
         rw [hbt.out] at e0
         cases bt with
         | true =>
           have eA4 := bZ wr (.cells #[.int .i64 (pa : Nat), .int .i64 (pm : Nat)] (70 : Nat))
           obtain ⟨v8, w9, hrun, ho8, hg8, hor⟩ := app1 (s := ((pa : Int), (pm : Int))) (hP.keep eA4) (HB.new wr #[.int .i64 (pa : Nat), .int .i64 (pm : Nat)] 70).c2 (by have := hzc.out _ hc; simp; omega) (by omega)
           have hS8 := Chg.of_grown (S := fun j => zo ≤ j) hg8 (fun j q => .inl (hP.lt j q).1)
           have hD8 := (hD.keep eA4).chg hS8 (fun j z q => by have := hzF.out j z; omega)
           have hc8 := (hc.trans (Chg.of_below F eA4) (fun j q => .inl q)).trans hS8 (fun j q => .inr (by rw [hzo]; exact q))
           rw [← hs1.out rfl] at ho8
           rw [← hst.out] at hD8
           clear hS8 eA4 hg8 hor hP hD hc gP
           go_wp2_with (at_builtin; refine wpList_append_run rfl _ _ 49 rfl _ _ _ rfl rfl hrun ?_)
           clear hrun
           go_roundw
           case rel => exact ⟨t + 1, by omega, by go_num, hD8, ho8, hc8⟩
           case measure => first | (simp [intOf]; done) | (simp [intOf]; omega)
         | false =>
           rw [← hs2.out rfl] at hP
           rw [← hst.out] at hD
           go_wp2_with fail
           go_roundw
           case rel => exact ⟨t + 1, by omega, by go_num, hD, hP, hc⟩
           case measure => first | (simp [intOf]; done) | (simp [intOf]; omega)
      ·obtain rfl : nA = t := by omega
       have htn' : ¬ (nA : Int) < (nA : Int) := by omega
       clear hss hsl1 hsl0 hVc hEc hSpn
       have hGE := hGa.out nA
       have hSE := (hs0.out.stA k L G 0 nA)
       have hlE := hsll.out nA
       have hPB := hspb.out nA
       have hPS := hsps.out nA
       clear hGa hs0 hsll hspb hsps
       generalize stA (dv0 X) k L G 0 nA = SE at *
       generalize spl k L G 0 nA = spE at *
       obtain ⟨nl, hnl⟩ : ∃ n, spE.length = n := ⟨_, rfl⟩
       obtain ⟨AP, cP, rfl⟩ := hPr.sl hnl
       have hmul : nl * N ≤ 3944 := Nat.mul_le_mul (show nl ≤ 8 by omega) (show N ≤ 493 by omega)
       have hfin := lh (saves_end hGE hSE spE keep)
       have hvl : (viewD SE).length = N := by rw [view_len, hGE.len]
       have hVw := jView B F SE wr hDr (hGE.good (by omega) (by omega) (by omega))
       have hGF := GoodJ.fences (by omega) spE hGE
       rw [hnl] at hGF
       have hyl : (crashD (fenceL SE spE) keep).L.length = N := (hGF.crash keep).len
       have hSv := lh (fun v w1 (q : DvAt w1 B F SE) (hP : ∀ w', Chg F w1 w' → PL w' v spE) => jSave B F SE N (0 + 6 * nA) v spE w1 q hGE (by omega) (by omega) (by rw [hnl]; omega) hP hPS (by omega))
       have hCr := lh (fun w1 (q : DvAt w1 B F (fenceL SE spE)) (hK : ∀ w', Chg F w1 w' → KL .u8 w' (.slice AK nK cK) keep) => dCrash B F (fenceL SE spE) (.slice AK nK cK) keep w1 q (hGF.good (by omega) (by omega) (by omega)) hkb'.out (by rw [hnK.out]; omega) hK)
       have hIm := lh (fun w1 (q : DvAt w1 B F (crashD (fenceL SE spE) keep)) => dImage B F _ w1 q (by rw [hyl]; omega))
       have hSB := lh (fun t (ht : t < nl) => show SB (spE.getD t (0, 0)) from hPB.sbs _ (by rw [List.getD_eq_getElem?_getD, List.getElem?_eq_getElem (by omega)]; exact List.getElem_mem _))
       have hta := lh (show spE.take nl = spE from List.take_of_length_le (by omega))
       have hat := lh (fun t (ht : t < nl) (f : Sp → Bool) => any_take (l := spE) (t := t) (by omega) f)
       have hcl : (∀ j, F j → j < zo) := hzF.out
       have hzr := hzc.out _ hcr
       have hl8 : nl ≤ 8 := by omega
       replace hnl := lh hnl
       replace hcl := lh hcl
       clear hGE hSE hGF hPS hPB hmul
       go_wp2_with fail
       refine hVw.mono ?_
       rintro e w9 ⟨v9, rfl, hO9, hb9⟩
       obtain ⟨A9, c9, hv9, -⟩ := OwnU.form hO9
       rw [hvl] at hv9
       cases hv9
       have hD9 := hDr.keep hb9
       have hP9 := hPr.keep hb9
       have hc9 := hcr.trans (Chg.of_below F hb9) (fun j q => .inl q)
       have hn9 := lh (fun k' (e : (Value.slice A9 N c9).ownBlock = some k') (q : F k') => show False from by have h1 := (World.ownsRow.lt hO9 k' e).1; have h2 := hcl.out k' q; omega)
       have hnP := lh (fun k' (e : (Value.slice AP nl cP).ownBlock = some k') (q : F k') => show False from by have h1 := (hP9.lt k' e).1; have h2 := hcl.out k' q; omega)
       have hSv1 := hSv.out _ _ hD9 (fun w' hc' => (hP9.chg hc' hnP.out).pl)
       have hk9 := hO9.kl
       clear hVw hDr hPr hcr hb9 hO9 hSv q0 q1 q2 q3 q4 gWr
       go_wp2_with fail
       refine hSv1.mono ?_
       rintro e w10 ⟨rfl, hD10, hc10⟩
       have hc10' := hc9.trans hc10 (fun j q => .inl q)
       have hCr1 := hCr.out _ hD10 (fun w' hc' => hKk.out w' (hbw.out _ (hc10'.trans hc' (fun j q => .inl q))))
       have hk10 := hk9.far hc10 hn9.out
       have hP10 := hP9.chg hc10 hnP.out
       clear hSv1 hD9 hP9 hc9 hk9 hc10 hCr
       go_wp2_with fail
       refine hCr1.mono ?_
       rintro e w11 ⟨rfl, hD11, hc11⟩
       have hc11' := hc10'.trans hc11 (fun j q => .inl q)
       have hk11 := hk10.far hc11 hn9.out
       have hP11 := hP10.chg hc11 hnP.out
       have hIm1 := hIm.out _ hD11
       clear hCr1 hD10 hP10 hc10' hk10 hc11 hIm
       go_wp2_with fail
       refine hIm1.mono ?_
       rintro e w12 ⟨v12, rfl, hO12, hb12⟩
       obtain ⟨A12, c12, hv12, -⟩ := OwnU.form hO12
       rw [hyl] at hv12
       cases hv12
       have hc12 := hc11'.trans (Chg.of_below F hb12) (fun j q => .inl q)
       have hkV := hk11.keep hb12
       have hkY := hO12.kl
       have hkX := hkx.out _ hc12
       have hP12 := (hP11.keep hb12).pl
       have hBe := hbw.out _ hc12
       clear hIm1 hD11 hP11 hc11' hk11 hb12 hO12 hkx hbw hc12 hgg hgw hKk hKMk
       generalize viewD SE = V at *
       generalize (crashD (fenceL SE spE) keep).L = Y at *
       obtain ⟨V9, d9, hv9, hf9⟩ := hkV.form hvl
       cases hv9
       obtain ⟨gV, oV, rfl, -⟩ := hf9 w12 0 (Below.refl _ _) (by omega)
       obtain ⟨V9, d9, hv9, hf9⟩ := hkY.form hyl
       cases hv9
       obtain ⟨gY, oY, rfl, -⟩ := hf9 w12 0 (Below.refl _ _) (by omega)
       obtain ⟨V9, d9, hv9, hf9⟩ := hkX.form hslen
       cases hv9
       obtain ⟨gX, oX, rfl, -⟩ := hf9 w12 0 (Below.refl _ _) (by omega)
       clear hf9
       replace hvl := lh hvl
       replace hyl := lh hyl
       replace hslen := lh hslen
       go_wp2_with fail
       go_loopw [20] (fun i wr => ∃ (j : Nat), j ≤ N ∧ i = .int .i64 (j : Nat) ∧ Below w12.heap.size w12 wr) (fun i _ => N + 1 - (intOf i).toNat)
       case atStart => exact ⟨0, Nat.zero_le _, rfl, Below.refl _ _⟩
       case round =>
        obtain ⟨j, hj, rfl, hb⟩ := hrel
        by_cases hjN : j < N
        ·have hjI : (j : Int) < (N : Int) := by omega
         have hfj := lh (hfin.out j hjN)
         go_wp2_with fail
         go_loopw [22, 21] (fun i sv wr => ∃ (t : Nat), t ≤ nl ∧ i = .int .i64 (t : Nat) ∧ sv = .bool ((spE.take t).any fun q => inQ q (j : Nat)) ∧ Below w12.heap.size w12 wr) (fun i _ _ => nl + 1 - (intOf i).toNat)
         case atStart => exact ⟨0, Nat.zero_le _, rfl, rfl, hb⟩
         case round =>
          obtain ⟨t, ht, rfl, rfl, hb2⟩ := hrel
          clear hb
          by_cases htl : t < nl
          ·have htI : (t : Int) < (nl : Int) := by omega
           obtain ⟨A7, c7, hv7, hPf⟩ := (hP12.keep hb2).form hnl.out
           cases hv7
           obtain ⟨g, off, rfl, hcap, hgs, k0, k1⟩ := hPf wr t (Below.refl _ _) htl
           have hsb := hSB.out t htl
           have hany := hat.out t htl (fun q => inQ q (j : Nat))
           generalize spE.getD t (0, 0) = x at *
           obtain ⟨xa, xm⟩ := x
           simp only [] at k0 k1
           have hIn := in15 xa xm (j : Nat) wr hsb (by omega) (by omega)
           generalize ((spE.take t).any fun q => inQ q (j : Nat)) = b at *
           generalize inQ (xa, xm) (j : Nat) = c at *
           replace hany := lh hany
           clear hPf hsb
           go_wp2_with fail
           refine hIn.mono ?_
           rintro e w13 ⟨rfl, hb3⟩
           have hb4 := hb2.trans (hb3.mono hb2.size)
           clear hIn hb3 k0 k1 hb2
           cases b with
           | true =>
             go_wp2_with fail
             go_roundw
             case rel => exact ⟨t + 1, by omega, by go_num, by rw [hany.out]; rfl, hb4⟩
             case measure => first | (simp [intOf]; done) | (simp [intOf]; omega)
           | false =>
             go_wp2_with fail
             go_roundw
             case rel => exact ⟨t + 1, by omega, by go_num, by rw [hany.out]; rfl, hb4⟩
             case measure => first | (simp [intOf]; done) | (simp [intOf]; omega)
          ·obtain rfl : nl = t := by omega
           have htI : ¬ (nl : Int) < (nl : Int) := by omega
           rw [hta.out]
           obtain ⟨f1, f2⟩ := hfj.out
           have kY := (hkY.keep hb2).cellq (i := j) (by rw [hyl.out]; exact hjN)
           have kV := (hkV.keep hb2).cellq (i := j) (by rw [hvl.out]; exact hjN)
           have kX := (hkX.keep hb2).cellq (i := j) (by rw [hslen.out]; exact hjN)
           generalize Y.getD j 0 = y at *
           generalize V.getD j 0 = v at *
           generalize X.getD j 0 = x at *
           generalize (spE.any fun q => inQ q (j : Nat)) = sv at *
           have hCF := lh (fun w' (hb : Below wr.heap.size wr w') => show w'.cell? ⟨gY, oY + j, none⟩ = some (.int .u64 (y : Nat)) ∧ w'.cell? ⟨gV, oV + j, none⟩ = some (.int .u64 (v : Nat)) ∧ w'.cell? ⟨gX, oX + j, none⟩ = some (.int .u64 (x : Nat)) from
            ⟨by rw [(bcell hb).1 _ _ kY.2]; exact kY.1, by rw [(bcell hb).1 _ _ kV.2]; exact kV.1, by rw [(bcell hb).1 _ _ kX.2]; exact kX.1⟩)
           clear kY kV kX
           cases sv with
           | true =>
             obtain rfl : y = v := f2 rfl
             clear f1 f2
             go_wp2_with fail
             refine wp_region_held_drew (S := (fun w' => Below wr.heap.size wr w')) (by kernel_rfl) (Below.refl _ _).drew (fun hHeld => ?_)
             refine takeH 0 ?_
             refine takeH 1 ?_
             refine takeH 2 ?_
             refine takeH 3 ?_
             refine takeH 4 ?_
             refine takeH 5 ?_
             refine takeH 6 ?_
             refine takeH 7 ?_
             refine takeH 8 ?_
             refine takeH 9 ?_
             refine takeH 10 ?_
             refine takeH 11 ?_
             refine takeH 12 ?_
             refine takeH 13 ?_
             refine takeH 14 ?_
             refine takeH 15 ?_
             refine takeH 16 ?_
             refine takeH 17 ?_
             refine takeH 18 ?_
             refine takeH 19 ?_
             refine takeH 20 ?_
             refine takeH 21 ?_
             refine takeH 22 ?_
             refine idleQ 23 ?_
             refine idleQ 24 ?_
             refine idleQ 25 ?_
             refine idleQ 26 ?_
             refine idleQ 27 ?_
             refine idleQ 28 ?_
             refine idleQ 29 ?_
             refine idleQ 30 ?_
             refine idleQ 31 ?_
             refine takeH 32 ?_
             refine takeH 33 ?_
             refine wpAnyH_done (by kernel_rfl) ?_ _
             have hb4 := hb2.trans (hHeld.mono hb2.size)
             clear hCF hHeld hb2
             go_wp2_with fail
             go_roundw
             case rel => exact ⟨j + 1, by omega, by go_num, hb4⟩
             case measure => first | (simp [intOf]; done) | (simp [intOf]; omega)
           | false =>
             by_cases hyv : y = v
             ·subst hyv
              clear f1 f2
              go_wp2_with fail
              refine wp_region_held_drew (S := (fun w' => Below wr.heap.size wr w')) (by kernel_rfl) (Below.refl _ _).drew (fun hHeld => ?_)
              refine takeH 0 ?_
              refine takeH 1 ?_
              refine idleQ 2 ?_
              refine idleQ 3 ?_
              refine idleQ 4 ?_
              refine idleQ 5 ?_
              refine idleQ 6 ?_
              refine idleQ 7 ?_
              refine idleQ 8 ?_
              refine idleQ 9 ?_
              refine idleQ 10 ?_
              refine takeH 11 ?_
              refine takeH 12 ?_
              refine takeH 13 ?_
              refine takeH 14 ?_
              refine takeH 15 ?_
              refine takeH 16 ?_
              refine takeH 17 ?_
              refine takeH 18 ?_
              refine takeH 19 ?_
              refine takeH 20 ?_
              refine takeH 21 ?_
              refine takeH 22 ?_
              refine idleQ 23 ?_
              refine idleQ 24 ?_
              refine idleQ 25 ?_
              refine idleQ 26 ?_
              refine idleQ 27 ?_
              refine idleQ 28 ?_
              refine idleQ 29 ?_
              refine idleQ 30 ?_
              refine idleQ 31 ?_
              refine takeH 32 ?_
              refine takeH 33 ?_
              refine wpAnyH_done (by kernel_rfl) ?_ _
              have hb4 := hb2.trans (hHeld.mono hb2.size)
              clear hCF hHeld hb2
              go_wp2_with fail
              go_roundw
              case rel => exact ⟨j + 1, by omega, by go_num, hb4⟩
              case measure => first | (simp [intOf]; done) | (simp [intOf]; omega)
             ·obtain rfl : y = x := by
               rcases f1 with q | q
               ·exact q
               ·exact absurd q hyv
              have hyv1 : ¬ (y : Int) = (v : Int) := by omega
              have hyv2 : ¬ (v : Int) = (y : Int) := by omega
              have hyv3 : ((y : Int) != (v : Int)) = true := bne_iff_ne.2 hyv1
              clear f1 f2
              go_wp2_with fail
              refine wp_region_held_drew (S := (fun w' => Below wr.heap.size wr w')) (by kernel_rfl) (Below.refl _ _).drew (fun hHeld => ?_)
              refine takeH 0 ?_
              refine takeH 1 ?_
              refine idleQ 2 ?_
              refine idleQ 3 ?_
              refine idleQ 4 ?_
              refine idleQ 5 ?_
              refine idleQ 6 ?_
              refine idleQ 7 ?_
              refine idleQ 8 ?_
              refine idleQ 9 ?_
              refine idleQ 10 ?_
              refine takeH 11 ?_
              refine takeH 12 ?_
              refine takeH 13 ?_
              refine takeH 14 ?_
              refine takeH 15 ?_
              refine takeH 16 ?_
              refine takeH 17 ?_
              refine takeH 18 ?_
              refine takeH 19 ?_
              refine takeH 20 ?_
              refine takeH 21 ?_
              refine takeH 22 ?_
              refine takeH 23 ?_
              refine takeH 24 ?_
              refine takeH 25 ?_
              refine takeH 26 ?_
              refine takeH 27 ?_
              refine takeH 28 ?_
              refine takeH 29 ?_
              refine takeH 30 ?_
              refine takeH 31 ?_
              refine takeH 32 ?_
              refine takeH 33 ?_
              refine wpAnyH_done (by kernel_rfl) ?_ _
              have hb4 := hb2.trans (hHeld.mono hb2.size)
              clear hCF hHeld hb2
              go_wp2_with fail
              go_roundw
              case rel => exact ⟨j + 1, by omega, by go_num, hb4⟩
              case measure => first | (simp [intOf]; done) | (simp [intOf]; omega)
        ·obtain rfl : N = j := by omega
         have hjI : ¬ (N : Int) < (N : Int) := by omega
         have hBz := hBe.trans (hb.mono hBe.size)
         go_wp2_with fail
         go_ret
         first | exact ⟨rfl, hBz⟩ | exact ⟨rfl, by rw [← hC0]; exact hBz⟩
end Go.Proofs.YtkkbngcgphlikaaGreatDoor
