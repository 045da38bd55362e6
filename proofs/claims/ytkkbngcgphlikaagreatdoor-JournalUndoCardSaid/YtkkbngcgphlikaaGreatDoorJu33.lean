/-
  Part of the proof of JournalUndo.
-/
import Derived.Test.YtkkbngcgphlikaaGreatDoorJu31
import Derived.Test.YtkkbngcgphlikaaGreatDoorJu0
set_option maxRecDepth 10000
set_option maxHeartbeats 3000000
set_option linter.unusedVariables false
set_option linter.unusedSimpArgs false
section
namespace Go.Proofs.YtkkbngcgphlikaaGreatDoor
open Go.Lib Go.RowKit Go.ChangeShapes Go.WideShapes Go.Deep Go.Shelf
def nextN (g : Nat) : Nat := if g = 281474976710655 then 0 else g + 1
theorem nextN_eq (g : Nat) : nextG (g : Int) = ((nextN g : Nat) : Int) := by
 unfold nextG nextN
 by_cases h : g = 281474976710655
 ·subst h; rfl
 rw [if_neg (by omega), if_neg h]; rfl
theorem nextN_le {g : Nat} (h : g ≤ 281474976710655) : nextN g ≤ 281474976710655 := by
 unfold nextN; split <;> omega
theorem curG_le {x : Nat} (h : x < 18446744073709551616) : curG x ≤ 281474976710655 := by
 unfold curG
 split
 ·unfold mkG; omega
 omega
theorem okB_1 {g : Nat} (h : g ≤ 281474976710655) : okB ((1 : Nat) : Int) ((0 : Nat) : Int) ((g : Nat) : Int) = true := by
 unfold okB; simp; omega
def begW (x : Nat) : Nat := 1 + 0 * 4 + nextN (curG x) * 65536
theorem jSave (B : Nat) (F : Nat → Prop) (s : Dv) (N m : Nat) (v : Value) (l : List Sp) (w : World) (h : DvAt w B F s) (hg : GoodJ s N m) (hN : 1 ≤ N) (hN2 : N ≤ 1000) (hm : m + l.length * N ≤ 100000) (hP : ∀ w', Chg F w w' → PL w' v l) (hb : PS l) (hl : l.length ≤ 100000) :
 Calls Tryz.prog 17 #[.pointer (some ⟨B, 0, none⟩), v] w fun e w' => e = .returned (.tuple #[]) ∧ DvAt w' B F (fenceL s l) ∧ Chg F w w' := by
 have hF := jFence B F s N m v l w h hg hN hN2 hm hP hb hl
 obtain ⟨A, c, rfl, -⟩ := hP w (Chg.refl F w)
 clear h hg hP hb
 go_enter Tryz.func17, Tryz.ntmps17
 go_wp2_with fail
 refine hF.mono ?_
 rintro e w1 ⟨rfl, hD, hc⟩
 go_wp2_with fail
 go_end0
 exact ⟨rfl, hD, hc⟩
theorem jBegin (B : Nat) (F : Nat → Prop) (s : Dv) (N L ln m : Nat) (w : World) (h : DvAt w B F s) (hg : GoodJ s N m) (hN : 1 ≤ N) (hN2 : N ≤ 1000) (hm : m + N + 2 ≤ 100000) (hlk : lOk (N : Nat) (L : Nat) (ln : Nat) = true) (hln : ln ≤ 1000) (hxb : loadD s (10 + (ln : Int)) < 18446744073709551616) :
 Calls Tryz.prog 42 #[.pointer (some ⟨B, 0, none⟩), .agg #[.int .i64 (N : Nat), .int .i64 (L : Nat)], .int .i64 (ln : Nat)] w fun e w' => e = .returned (.tuple #[]) ∧ DvAt w' B F (layD s (10 + (ln : Int)) (begW (loadD s (10 + (ln : Int))))) ∧ Chg F w w' := by
 have hG1 := curG_le hxb
 obtain ⟨x, hx⟩ : ∃ x, loadD s (10 + (ln : Int)) = x := ⟨_, rfl⟩
 have hCu := lh (fun w1 (q : Below w.heap.size w w1) => jCurrent B F s N L ln w1 (h.keep q) (hg.good hN hN2 (by omega)) hlk hxb)
 rw [hx] at hCu hG1 ⊢
 unfold begW
 obtain ⟨sx, hsx⟩ : ∃ a, curS x = a := ⟨_, rfl⟩
 obtain ⟨cx, hcx⟩ : ∃ a, curC x = a := ⟨_, rfl⟩
 obtain ⟨gx, hgx⟩ : ∃ a, curG x = a := ⟨_, rfl⟩
 rw [hsx, hcx, hgx] at hCu
 rw [hgx] at hG1 ⊢
 have hBe := lh (fun w1 => begin_any (sx : Nat) (cx : Nat) (gx : Nat) w1 (by omega) (by omega))
 rw [nextN_eq] at hBe
 have hn1 := nextN_le hG1
 have hLm := lh (fun w1 (q : DvAt w1 B F s) => jLayMark B F s N L ln m 1 0 (nextN gx) w1 q hg hN hN2 hm hlk hln (okB_1 hn1) (by omega))
 generalize nextN gx = gn at *
 have hDv := lh (fun w1 (q : Below w.heap.size w w1) => h.keep q)
 clear hx hsx hcx hgx h hg hlk hxb
 have hb0 := bZ w (.cells #[.int .i64 (N : Nat), .int .i64 (L : Nat)] 37)
 have gG := HB.new w #[.int .i64 (N : Nat), .int .i64 (L : Nat)] 37
 obtain ⟨wb1, hwb1⟩ : ∃ x, w.alloc (.cells #[.int .i64 (N : Nat), .int .i64 (L : Nat)] 37) = x := ⟨_, rfl⟩
 have hswb1 : wb1.heap.size = w.heap.size + 1 := by rw [← hwb1]; simp
 rw [hwb1] at hb0 gG
 have hB : Below w.heap.size w wb1 := hb0
 obtain ⟨C, hC⟩ : ∃ C, w.heap.size = C := ⟨_, rfl⟩
 rw [hC] at gG hswb1
 clear hb0
 have hCF := lh (fun w' (hb : Below wb1.heap.size wb1 w') => show w'.cell? ⟨C, 0, none⟩ = some (.int .i64 (N : Nat)) ∧ w'.cell? ⟨C, 1, none⟩ = some (.int .i64 (L : Nat)) from (gG.keep hb).c2)
 clear gG
 go_enter Tryz.func42, Tryz.ntmps42
 go_wp2_with fail
 refine wp_region_tail (S := (fun w' => Below wb1.heap.size wb1 w')) (n := 8) (by kernel_rfl) (Below.refl _ _).drew (fun hHeld hInv => ?_) (by decide)
 refine takeHS 0 hInv ?_; clear hInv; intro hInv
 refine takeHS 1 hInv ?_; clear hInv; intro hInv
 refine takeHS 2 hInv ?_; clear hInv; intro hInv
 refine takeHS 3 hInv ?_; clear hInv; intro hInv
 refine takeHS 4 hInv ?_; clear hInv; intro hInv
 refine takeHS 5 hInv ?_; clear hInv; intro hInv
 refine oneS 6 hInv (by decide) rfl (by kernel_rfl) (fun K hK => ?_)
 go_simp
 refine (hCu.out _ (hB.trans (hHeld.mono hB.size))).mono ?_
 rintro e w2 ⟨rfl, hb⟩
 refine hK.out _ _ (hHeld.trans (hb.mono hHeld.size)) (fun hHeld2 hInv2 => ?_)
 clear hK K hHeld hInv
 have hHeld := hHeld2
 have hInv := hInv2
 clear hHeld2 hInv2
 try simp only [Act.put,sA,sB,sC] at hInv ⊢
 refine oneS 7 hInv (by decide) rfl (by kernel_rfl) (fun K hK => ?_)
 go_simp
 refine (hBe.out _).mono ?_
 rintro e w3 ⟨rfl, hb⟩
 refine hK.out _ _ (hHeld.trans (hb.mono hHeld.size)) (fun hHeld2 hInv2 => ?_)
 clear hK K hHeld hInv
 have hHeld := hHeld2
 have hInv := hInv2
 clear hHeld2 hInv2
 try simp only [Act.put,sA,sB,sC] at hInv ⊢
 refine lastS 8 rfl (by decide) (by kernel_rfl) (fun K hK => ?_)
 have hB3 := hB.trans (hHeld.mono hB.size)
 go_simp
 refine (hLm.out _ (hDv.out _ hB3)).mono ?_
 rintro e w4 ⟨rfl, hD4, hc4⟩
 refine hK.out _ _ ?_
 clear hK K
 try simp only [Act.put,sA,sB,sC]
 refine wpAnyS_done (by kernel_rfl) ?_ _
 have hc5 := (Chg.of_below F hB3).trans hc4 (fun j q => .inl q)
 clear hCF hInv hHeld hCu hDv hLm
 go_wp2_with fail
 go_end0
 exact ⟨rfl, hD4, hc5⟩
end Go.Proofs.YtkkbngcgphlikaaGreatDoor
end
section
namespace Go.Proofs.YtkkbngcgphlikaaGreatDoor
open Go.Lib Go.RowKit Go.ChangeShapes Go.WideShapes Go.Deep Go.Shelf
theorem KL.far {K : IntKind} {S : Nat → Prop} {w w1 : World} {v : Value} {l : List Nat} (h : KL K w v l) (hc : Chg S w w1) (hn : ∀ k, v.ownBlock = some k → ¬ S k) : KL K w1 v l := by
 obtain ⟨A, c, rfl, hk⟩ := h
 refine ⟨A, c, rfl, fun hp => ?_⟩
 obtain ⟨g, off, rfl, hg, hcap, hi⟩ := hk hp
 exact ⟨g, off, rfl, Nat.lt_of_lt_of_le hg hc.size, hcap, fun i hil => by rw [World.cell?_of_block (hc.block _ hg (hn g rfl))]; exact hi i hil⟩
theorem lit1 {F : Nat → Prop} (w1 : World) (a b : Int) (hF : ∀ k, F k → k < w1.heap.size) : ∀ w', Chg F (w1.alloc (.cells #[.int .i64 a, .int .i64 b] (70 : Nat))) w' → PL w' (.slice (some ⟨w1.heap.size, 0, none⟩) 1 1) [(a, b)] := fun w' hc => by
 have hl := PL.lit w1 [(a, b)] (by simp)
 have hl2 : PL (w1.alloc (.cells #[.int .i64 a, .int .i64 b] (70 : Nat))) (.slice (some ⟨w1.heap.size, 0, none⟩) 1 1) [(a, b)] := hl
 obtain ⟨A, c, hv, hk⟩ := hl2
 refine ⟨A, c, hv, fun hp => ?_⟩
 obtain ⟨g, off, hA, hgs, hcp, hi⟩ := hk hp
 rw [hA] at hv
 cases hv
 have hnF : ¬ F w1.heap.size := fun z => by have := hF _ z; omega
 refine ⟨_, _, hA, Nat.lt_of_lt_of_le hgs hc.size, hcp, fun i hil => ?_⟩
 rw [World.cell?_of_block (hc.block _ hgs hnF), World.cell?_of_block (hc.block _ hgs hnF)]
 exact hi i hil
def stoL : Dv → Int → List Nat → Dv
 | s, _, [] => s
 | s, a, x :: ws => stoL (storeD s a x) (a + 1) ws
theorem stoL_take : ∀ (ws : List Nat) (s : Dv) (a : Int) (k : Nat), k < ws.length → stoL s a (ws.take (k + 1)) = storeD (stoL s a (ws.take k)) (a + (k : Int)) (ws.getD k 0)
 | [], _, _, k, h => by simp at h
 | x :: ws, s, a, 0, _ => by simp [stoL]
 | x :: ws, s, a, k + 1, h => by
   have := stoL_take ws (storeD s a x) (a + 1) k (by simpa using h)
   rw [List.take_succ_cons, List.take_succ_cons, stoL, stoL, this]
   congr 1
   push_cast
   omega
theorem GoodJ.stos {N : Nat} : ∀ (ws : List Nat) {s : Dv} {m : Nat} (a : Int), GoodJ s N m → GoodJ (stoL s a ws) N (m + ws.length)
 | [], s, m, a, h => h
 | x :: ws, s, m, a, h => by
   have := GoodJ.stos ws (a + 1) (h.store a x)
   rw [stoL, List.length_cons, show m + (ws.length + 1) = m + 1 + ws.length from by omega]
   exact this
def readyD (s : Dv) (a : Int) (ws : List Nat) : Dv := fenceL (stoL s a ws) [(a, (ws.length : Int))]
theorem encS_len (l : List Ox) : (encS l).length = 2 * l.length + 1 := by unfold encS; rw [List.length_append, encW_len]; rfl
def WD (s : Dv) : Prop := Al (fun _ v => v < 18446744073709551616) s
theorem WD.load {s : Dv} (h : WD s) (x : Int) : loadD s x < 18446744073709551616 := by
 by_cases hx : hasD s x = true
 ·have hx2 := hx
  unfold hasD at hx2
  rw [Bool.and_eq_true, decide_eq_true_iff, decide_eq_true_iff] at hx2
  obtain ⟨i, rfl⟩ := Int.eq_ofNat_of_zero_le hx2.1
  exact load_al h (by omega)
 unfold loadD
 rw [if_neg hx]
 decide
theorem fieldS (x y : Value) (w : World) : (Instr.field 70 (.agg #[x, y]) 0).run Tryz.prog w = .ok x w := by kernel_rfl
theorem jReady (B : Nat) (F : Nat → Prop) (s : Dv) (N L ln m : Nat) (v : Value) (l : List Ox) (w : World) (h : DvAt w B F s) (hg : GoodJ s N m) (hN : 1 ≤ N) (hN2 : N ≤ 1000) (hm : m + 39 + N + 2 ≤ 100000) (hlk : lOk (N : Nat) (L : Nat) (ln : Nat) = true) (hln : ln ≤ 1000) (hL : L ≤ 1000) (hv : OPL w v l) (ho : OVs l) (hr : rightB_rd l = true) :
 Calls Tryz.prog 18 #[.pointer (some ⟨B, 0, none⟩), .agg #[.int .i64 (N : Nat), .int .i64 (L : Nat)], .int .i64 (ln : Nat), v] w fun e w' => e = .returned (.int .i64 0) ∧ DvAt w' B F (readyD s (10 + (L : Int) + (ln : Int) * 72 + 32) (encS l)) ∧ Chg F w w' := by
 have hl19 := (rightB_t hr).1
 have hRe := lh (fun w1 => redo_t (N : Nat) (L : Nat) (ln : Nat) w1 hlk)
 obtain ⟨a, ha⟩ : ∃ a : Nat, 10 + L + ln * 72 + 32 = a := ⟨_, rfl⟩
 have haI : 10 + (L : Int) + (ln : Int) * 72 + 32 = (a : Int) := by omega
 rw [haI] at hRe ⊢
 have ha2 : a ≤ 100000 := by omega
 have hEn := lh (fun w1 (q : Below w.heap.size w w1) => enc_new v l w1 (hv.keep q) ho hr)
 have hwl := encS_len l
 obtain ⟨ws, hws⟩ : ∃ ws, encS l = ws := ⟨_, rfl⟩
 rw [hws] at hEn hwl ⊢
 obtain ⟨n, hn⟩ : ∃ n, ws.length = n := ⟨_, rfl⟩
 have hn39 : n ≤ 39 := by omega
 have hGs := lh (fun k => show GoodD (stoL s a (ws.take k)) from ((GoodJ.stos (ws.take k) (a : Int) hg).mono (show _ ≤ m + 39 from by have := List.length_take_le' k ws; omega)).good hN hN2 (by omega))
 have hGe := lh (show GoodJ (stoL s a ws) N (m + 39) from (GoodJ.stos ws (a : Int) hg).mono (by omega))
 have hst := lh (fun k (hk : k < n) => stoL_take ws s a k (by omega))
 have hta := lh (show ws.take n = ws from List.take_of_length_le (by omega))
 have h0 := lh (show stoL s a (ws.take 0) = s from rfl)
 have hDv := lh (fun w1 (q : Below w.heap.size w w1) => h.keep q)
 have hlt := lh h.lt
 have hFe := lh (fun w1 (q : DvAt w1 B F (stoL s a ws)) => jFence B F (stoL s a ws) N (m + 39) (.slice (some ⟨w1.heap.size, 0, none⟩) 1 1) [((a : Int), (n : Int))] (w1.alloc (.cells #[.int .i64 (a : Nat), .int .i64 (n : Nat)] (70 : Nat))) (q.keep (bZ _ _)) hGe.out hN hN2 (by simp; omega)
  (lit1 w1 a n q.lt) (fun z hz => by rw [List.mem_singleton] at hz; subst hz; simp only []; omega) (by simp))
 have hfin := lh (show fenceL (stoL s a ws) [((a : Int), (n : Int))] = readyD s a ws from by unfold readyD; rw [hn])
 replace hn := lh hn
 clear h hg hv ho hr hlk hws hGe hwl ha haI hm
 have hb0 := bZ w (.cells #[.int .i64 (N : Nat), .int .i64 (L : Nat)] 37)
 have gG := HB.new w #[.int .i64 (N : Nat), .int .i64 (L : Nat)] 37
 obtain ⟨wb1, hwb1⟩ : ∃ x, w.alloc (.cells #[.int .i64 (N : Nat), .int .i64 (L : Nat)] 37) = x := ⟨_, rfl⟩
 have hswb1 : wb1.heap.size = w.heap.size + 1 := by rw [← hwb1]; simp
 rw [hwb1] at hb0 gG
 have hB : Below w.heap.size w wb1 := hb0
 obtain ⟨C, hC⟩ : ∃ C, w.heap.size = C := ⟨_, rfl⟩
 rw [hC] at gG hswb1
 clear hb0
 go_enter Tryz.func18, Tryz.ntmps18
 go_wp2_with fail
 refine (hEn.out _ hB).mono ?_
 rintro e w1 ⟨v1, rfl, hS1, hn1, hb1⟩
 obtain ⟨A1, c1, rfl, -⟩ := hS1.kl.form hn.out
 have hK1 := hS1.kl
 have hB1 := hB.trans (hb1.mono hB.size)
 have gG1 := gG.keep hb1
 have hD1 := hDv.out w1 hB1
 have hnF := lh (fun k (q : (Value.slice A1 n c1).ownBlock = some k) => show ¬ F k from fun z => by have h1 := hn1 k q; have h2 := hlt.out k z; have h3 := hB.size; omega)
 obtain ⟨q0, q1⟩ := gG1.c2
 clear hEn gG hb1 hDv hlt hn1 hS1
 go_wp2_with fail
 refine (hRe.out _).mono ?_
 rintro e w2 ⟨rfl, hb2⟩
 have hK2 := hK1.keep hb2
 have hD2 := hD1.keep hb2
 have hB2 := hB1.trans (hb2.mono hB1.size)
 have hfd := fun w1 => fieldS (.int .i64 (a : Nat)) (.int .i64 40) w1
 clear hRe hK1 hD1 hB1 hb2 gG1 q0 q1 hB
 go_wp2_with fail
 go_loopw [28, 12, 13] (fun i _ _ wr => ∃ (k : Nat), k ≤ n ∧ i = .int .i64 (k : Nat) ∧ DvAt wr B F (stoL s a (ws.take k)) ∧ Chg F w2 wr) (fun i _ _ _ => n + 1 - (intOf i).toNat)
 case atStart => exact ⟨0, Nat.zero_le _, rfl, (by rw [h0.out]; exact hD2), Chg.refl F w2⟩
 obtain ⟨k, hk, rfl, hD, hc⟩ := hrel
 clear hD2
 have hKr := hK2.far hc hnF.out
 by_cases hkn : k < n
 ·have hkn' : (k : Int) < (n : Int) := by omega
  obtain ⟨A9, c9, he, hF⟩ := hKr.form hn.out
  cases he
  obtain ⟨g, off, rfl, hcap, hgs, k0⟩ := hF wr k (Below.refl _ _) hkn
  have hst1 := hst.out k hkn
  generalize ws.getD k 0 = y at *
  have hS := dStore B F _ ((a : Int) + (k : Int)) y wr hD (hGs.out k)
  rw [← hst1] at hS
  replace hst1 := lh hst1
  clear hF hKr hD
  go_wp2_with fail
  refine hS.mono ?_
  rintro e w3 ⟨rfl, hD3, hc3⟩
  have hc4 := hc.trans hc3 (fun j q => .inl q)
  clear hS hc hc3
  go_wp2_with fail
  go_roundw
  case rel => exact ⟨k + 1, by omega, by go_num, hD3, hc4⟩
  first | (simp [intOf]; done) | (simp [intOf]; omega)
 obtain rfl : n = k := by omega
 have hkn' : ¬ (n : Int) < (n : Int) := by omega
 rw [hta.out] at hD
 have hF1 := hFe.out wr hD
 rw [hfin.out] at hF1
 have eA := bZ wr (.cells #[.int .i64 (a : Nat), .int .i64 (n : Nat)] (70 : Nat))
 have hc2 := hc.trans (Chg.of_below F eA) (fun j q => .inl q)
 clear hFe hD hKr eA hc
 go_wp2_with fail
 refine hF1.mono ?_
 rintro e w3 ⟨rfl, hD3, hc3⟩
 have hc4 := (Chg.of_below F hB2).trans (hc2.trans hc3 (fun j q => .inl q)) (fun j q => .inl q)
 go_wp2_with fail
 go_ret
 exact ⟨rfl, hD3, hc4⟩
end Go.Proofs.YtkkbngcgphlikaaGreatDoor
end
section
namespace Go.Proofs.YtkkbngcgphlikaaGreatDoor
open Go.Lib Go.RowKit Go.ChangeShapes Go.WideShapes Go.Deep Go.Shelf
theorem HB.chgJ {S : Nat → Prop} {w w1 : World} {b : Nat} {cs : Array Value} {t : TypeId} (h : HB w b cs t) (hc : Chg S w w1) (hn : ¬ S b) : HB w1 b cs t := (hc.block b h.lt hn).trans h
end Go.Proofs.YtkkbngcgphlikaaGreatDoor
end
section
namespace Go.Proofs.YtkkbngcgphlikaaGreatDoor
open Go.Lib Go.RowKit Go.ChangeShapes Go.WideShapes Go.Deep Go.Shelf
def inB (N L : Nat) (a : Int) : Bool := decide (cFrom (N : Nat) (L : Nat) 0 ≤ a ∧ a < cFrom (N : Nat) (L : Nat) (gN (N : Nat) (L : Nat)))
theorem jInChunks (N L : Nat) (a : Int) (w : World) (hgk : gOk (N : Nat) (L : Nat) = true) :
 Calls Tryz.prog 92 #[.agg #[.int .i64 (N : Nat), .int .i64 (L : Nat)], .int .i64 a] w fun e w' => e = .returned (.bool (inB N L a)) ∧ Below w.heap.size w w' := by
 have hOf : ∃ i j : Int, decide (0 ≤ i) = inB N L a ∧ Hid (∀ w1, Calls Tryz.prog 130 #[.agg #[.int .i64 (N : Nat), .int .i64 (L : Nat)], .int .i64 a] w1 fun e w' => e = .returned (.tuple #[.int .i64 i, .int .i64 j]) ∧ Below w1.heap.size w1 w') := by
  unfold inB
  by_cases h1 : cFrom (N : Nat) (L : Nat) 0 ≤ a
  ·by_cases h2 : a < cFrom (N : Nat) (L : Nat) (gN (N : Nat) (L : Nat))
   ·exact ⟨_, _, (by rw [decide_eq_true (And.intro h1 h2)]; exact decide_eq_true (by omega)), lh (fun w1 => of_yes _ _ a w1 hgk h1 h2)⟩
   exact ⟨_, _, (by rw [decide_eq_false (p := cFrom (N : Nat) (L : Nat) 0 ≤ a ∧ a < cFrom (N : Nat) (L : Nat) (gN (N : Nat) (L : Nat))) (fun q => h2 q.2)]; rfl), lh (fun w1 => of_high _ _ a w1 hgk h1 (by omega))⟩
  exact ⟨_, _, (by rw [decide_eq_false (p := cFrom (N : Nat) (L : Nat) 0 ≤ a ∧ a < cFrom (N : Nat) (L : Nat) (gN (N : Nat) (L : Nat))) (fun q => h1 q.1)]; rfl), lh (fun w1 => of_low _ _ a w1 hgk (by omega))⟩
 obtain ⟨i, j, hij, hOf⟩ := hOf
 rw [← hij]
 clear hij hgk
 have hb0 := bZ w (.cells #[.int .i64 (N : Nat), .int .i64 (L : Nat)] 37)
 have gG := HB.new w #[.int .i64 (N : Nat), .int .i64 (L : Nat)] 37
 obtain ⟨wb1, hwb1⟩ : ∃ x, w.alloc (.cells #[.int .i64 (N : Nat), .int .i64 (L : Nat)] 37) = x := ⟨_, rfl⟩
 have hswb1 : wb1.heap.size = w.heap.size + 1 := by rw [← hwb1]; simp
 rw [hwb1] at hb0 gG
 have hB : Below w.heap.size w wb1 := hb0
 obtain ⟨C, hC⟩ : ∃ C, w.heap.size = C := ⟨_, rfl⟩
 rw [hC] at gG hswb1
 clear hb0
 obtain ⟨q0, q1⟩ := gG.c2
 clear gG
 go_enter Tryz.func92, Tryz.ntmps92
 go_wp2_with fail
 refine (hOf.out _).mono ?_
 rintro e w1 ⟨rfl, hb1⟩
 have hB1 := hB.trans (hb1.mono hB.size)
 clear hOf
 go_wp2_with fail
 go_ret
 first | exact ⟨rfl, hB1⟩ | (rw [hC] at hB1; exact ⟨rfl, hB1⟩)
theorem jNote_no (B : Nat) (F : Nat → Prop) (s : Dv) (N L ln : Nat) (a m : Int) (w : World) (h : DvAt w B F s) (hg : GoodD s) (hlk : lOk (N : Nat) (L : Nat) (ln : Nat) = true) (hxb : loadD s (10 + (ln : Int)) < 18446744073709551616) (hno : ¬ curS (loadD s (10 + (ln : Int))) = 1) :
 Calls Tryz.prog 34 #[.pointer (some ⟨B, 0, none⟩), .agg #[.int .i64 (N : Nat), .int .i64 (L : Nat)], .int .i64 (ln : Nat), .agg #[.int .i64 a, .int .i64 m]] w fun e w' => e = .returned (.int .i64 8) ∧ Below w.heap.size w w' := by
 have hgk := (lOk_t hlk).1
 have hCu := lh (fun w1 (q : Below w.heap.size w w1) => jCurrent B F s N L ln w1 (h.keep q) hg hlk hxb)
 obtain ⟨x, hx⟩ : ∃ x, loadD s (10 + (ln : Int)) = x := ⟨_, rfl⟩
 rw [hx] at hCu hno
 obtain ⟨sx, hsx⟩ : ∃ a, curS x = a := ⟨_, rfl⟩
 obtain ⟨cx, hcx⟩ : ∃ a, curC x = a := ⟨_, rfl⟩
 obtain ⟨gx, hgx⟩ : ∃ a, curG x = a := ⟨_, rfl⟩
 rw [hsx] at hno
 rw [hsx, hcx, hgx] at hCu
 have hIn := lh (fun a w1 => jInChunks N L a w1 hgk)
 clear hx hsx hcx hgx h hg hlk hxb hgk
 have hno1 : ¬ (sx : Int) = 1 := by omega
 have hb0 := bZ w (.cells #[.int .i64 (N : Nat), .int .i64 (L : Nat)] 37)
 have gG := HB.new w #[.int .i64 (N : Nat), .int .i64 (L : Nat)] 37
 obtain ⟨wb1, hwb1⟩ : ∃ x, w.alloc (.cells #[.int .i64 (N : Nat), .int .i64 (L : Nat)] 37) = x := ⟨_, rfl⟩
 have hswb1 : wb1.heap.size = w.heap.size + 1 := by rw [← hwb1]; simp
 rw [hwb1] at hb0 gG
 have hB : Below w.heap.size w wb1 := hb0
 have hb1 := bZ wb1 (.cells #[.int .i64 a, .int .i64 m] 70)
 have gS := HB.new wb1 #[.int .i64 a, .int .i64 m] 70
 obtain ⟨wb2, hwb2⟩ : ∃ x, wb1.alloc (.cells #[.int .i64 a, .int .i64 m] 70) = x := ⟨_, rfl⟩
 have hswb2 : wb2.heap.size = w.heap.size + 2 := by rw [← hwb2]; simp; omega
 rw [hwb2] at hb1 gS
 rw [hswb1] at gS
 replace gG := gG.keep hb1
 replace hB := hB.trans (hb1.mono (by omega))
 obtain ⟨C, hC⟩ : ∃ C, w.heap.size = C := ⟨_, rfl⟩
 rw [hC] at gG gS hswb1 hswb2
 clear hb0 hb1
 go_enter Tryz.func34, Tryz.ntmps34
 obtain ⟨r0, r1⟩ := gG.c2
 go_wp2_with fail
 refine (hCu.out _ hB).mono ?_
 rintro e w1 ⟨rfl, hb1⟩
 clear r0 r1
 have eM := bZ w1 (.cells #[.int .i64 (sx : Nat), .int .i64 (cx : Nat), .int .u64 (gx : Nat)] 123)
 have gM := HB.new w1 #[.int .i64 (sx : Nat), .int .i64 (cx : Nat), .int .u64 (gx : Nat)] 123
 have gG2 := (gG.keep hb1).keep eM
 have gS2 := (gS.keep hb1).keep eM
 have hB2 := (hB.trans (hb1.mono hB.size)).trans (eM.mono (hB.trans (hb1.mono hB.size)).size)
 obtain ⟨m0, n0⟩ := row_cell gM 0
 obtain ⟨m1, n1⟩ := row_cell gM 1
 obtain ⟨m2, n2⟩ := row_cell gM 2
 obtain ⟨r0, r1⟩ := gG2.c2
 obtain ⟨q0, q1⟩ := gS2.c2
 clear gG gS hCu hb1 eM
 clear gM gG2 gS2
 go_wp2_with fail
 go_ret
 first | exact ⟨rfl, hB2⟩ | (rw [hC] at hB2; exact ⟨rfl, hB2⟩)
theorem jNote_range (B : Nat) (F : Nat → Prop) (s : Dv) (N L ln : Nat) (a m : Int) (w : World) (h : DvAt w B F s) (hg : GoodD s) (hlk : lOk (N : Nat) (L : Nat) (ln : Nat) = true) (hxb : loadD s (10 + (ln : Int)) < 18446744073709551616) (ha : -1099511627776 ≤ a ∧ a ≤ 1099511627776) (hm : -1099511627776 ≤ m ∧ m ≤ 1099511627776) (hno : curS (loadD s (10 + (ln : Int))) = 1) (hr : m < 1 ∨ 4096 < m ∨ inB N L a = false ∨ inB N L (a + m - 1) = false) :
 Calls Tryz.prog 34 #[.pointer (some ⟨B, 0, none⟩), .agg #[.int .i64 (N : Nat), .int .i64 (L : Nat)], .int .i64 (ln : Nat), .agg #[.int .i64 a, .int .i64 m]] w fun e w' => e = .returned (.int .i64 13) ∧ Below w.heap.size w w' := by
 have hgk := (lOk_t hlk).1
 have hCu := lh (fun w1 (q : Below w.heap.size w w1) => jCurrent B F s N L ln w1 (h.keep q) hg hlk hxb)
 obtain ⟨x, hx⟩ : ∃ x, loadD s (10 + (ln : Int)) = x := ⟨_, rfl⟩
 rw [hx] at hCu hno
 obtain ⟨sx, hsx⟩ : ∃ a, curS x = a := ⟨_, rfl⟩
 obtain ⟨cx, hcx⟩ : ∃ a, curC x = a := ⟨_, rfl⟩
 obtain ⟨gx, hgx⟩ : ∃ a, curG x = a := ⟨_, rfl⟩
 rw [hsx] at hno
 rw [hsx, hcx, hgx] at hCu
 have hIn := lh (fun a w1 => jInChunks N L a w1 hgk)
 clear hx hsx hcx hgx h hg hlk hxb hgk
 subst hno
 have hb0 := bZ w (.cells #[.int .i64 (N : Nat), .int .i64 (L : Nat)] 37)
 have gG := HB.new w #[.int .i64 (N : Nat), .int .i64 (L : Nat)] 37
 obtain ⟨wb1, hwb1⟩ : ∃ x, w.alloc (.cells #[.int .i64 (N : Nat), .int .i64 (L : Nat)] 37) = x := ⟨_, rfl⟩
 have hswb1 : wb1.heap.size = w.heap.size + 1 := by rw [← hwb1]; simp
 rw [hwb1] at hb0 gG
 have hB : Below w.heap.size w wb1 := hb0
 have hb1 := bZ wb1 (.cells #[.int .i64 a, .int .i64 m] 70)
 have gS := HB.new wb1 #[.int .i64 a, .int .i64 m] 70
 obtain ⟨wb2, hwb2⟩ : ∃ x, wb1.alloc (.cells #[.int .i64 a, .int .i64 m] 70) = x := ⟨_, rfl⟩
 have hswb2 : wb2.heap.size = w.heap.size + 2 := by rw [← hwb2]; simp; omega
 rw [hwb2] at hb1 gS
 rw [hswb1] at gS
 replace gG := gG.keep hb1
 replace hB := hB.trans (hb1.mono (by omega))
 obtain ⟨C, hC⟩ : ∃ C, w.heap.size = C := ⟨_, rfl⟩
 rw [hC] at gG gS hswb1 hswb2
 have hz := lh hr
 clear hb0 hb1
 go_enter Tryz.func34, Tryz.ntmps34
 obtain ⟨r0, r1⟩ := gG.c2
 go_wp2_with fail
 refine (hCu.out _ hB).mono ?_
 rintro e w1 ⟨rfl, hb1⟩
 clear r0 r1
 have eM := bZ w1 (.cells #[.int .i64 1, .int .i64 (cx : Nat), .int .u64 (gx : Nat)] 123)
 have gM := HB.new w1 #[.int .i64 1, .int .i64 (cx : Nat), .int .u64 (gx : Nat)] 123
 have gG2 := (gG.keep hb1).keep eM
 have gS2 := (gS.keep hb1).keep eM
 have hB2 := (hB.trans (hb1.mono hB.size)).trans (eM.mono (hB.trans (hb1.mono hB.size)).size)
 obtain ⟨m0, n0⟩ := row_cell gM 0
 obtain ⟨m1, n1⟩ := row_cell gM 1
 obtain ⟨m2, n2⟩ := row_cell gM 2
 obtain ⟨r0, r1⟩ := gG2.c2
 obtain ⟨q0, q1⟩ := gS2.c2
 clear gG gS hCu hb1 eM
 by_cases h1 : m < 1
 ·clear gM gG2 gS2 hr hz
  go_wp2_with fail
  go_ret
  first | exact ⟨rfl, hB2⟩ | (rw [hC] at hB2; exact ⟨rfl, hB2⟩)
 by_cases h2 : 4096 < m
 ·clear gM gG2 gS2 hr hz
  go_wp2_with fail
  go_ret
  first | exact ⟨rfl, hB2⟩ | (rw [hC] at hB2; exact ⟨rfl, hB2⟩)
 have h1' : 1 ≤ m := by omega
 have h2' : m ≤ 4096 := by omega
 go_wp2_with fail
 refine (hIn.out _ _).mono ?_
 rintro e w3 ⟨rfl, hb3⟩
 have hB3 := hB2.trans (hb3.mono hB2.size)
 obtain ⟨q2, q3⟩ := (gS2.keep hb3).c2
 obtain ⟨r2, r3⟩ := (gG2.keep hb3).c2
 clear hB2 gS2 gG2 gM hb3 m0 m1 m2 n0 n1 n2 r0 r1 q0 q1
 cases hi : inB N L a with
 | false =>
   go_wp2_with fail
   go_ret
   first | exact ⟨rfl, hB3⟩ | (rw [hC] at hB3; exact ⟨rfl, hB3⟩)
 | true =>
   have hj : inB N L (a + m - 1) = false := by
    rcases hr with h | h | h | h
    ·omega
    ·omega
    ·rw [hi] at h; cases h
    exact h
   have hI2 := hIn.out (a + m - 1)
   rw [hj] at hI2
   replace hI2 := lh hI2
   have w1' : IntKind.i64.wrap (a + m) = a + m := (by rw [IntKind.wrap_i64]; omega)
   have w2' : IntKind.i64.wrap (a + m - 1) = a + m - 1 := (by rw [IntKind.wrap_i64]; omega)
   clear hIn hr hz hi hj
   go_wp2_with fail
   refine (hI2.out _).mono ?_
   rintro e w4 ⟨rfl, hb4⟩
   have hB4 := hB3.trans (hb4.mono hB3.size)
   clear hI2 hb4 hB3 q2 q3 r2 r3
   go_wp2_with fail
   go_ret
   first | exact ⟨rfl, hB4⟩ | (rw [hC] at hB4; exact ⟨rfl, hB4⟩)
end Go.Proofs.YtkkbngcgphlikaaGreatDoor
end
section
namespace Go.Proofs.YtkkbngcgphlikaaGreatDoor
open Go.Lib Go.RowKit Go.ChangeShapes Go.WideShapes Go.Deep Go.Shelf
theorem PBs.sbs {l : List Sp} (h : PBs l) : SBs l := fun x hx => by
 have := h x hx
 unfold PB at this
 unfold SB
 omega
theorem logP_PB {I : List Nat} {N L ln : Nat} (hgk : gOk (N : Nat) (L : Nat) = true) (hN : N ≤ 1000) : PBs (logP I (N : Nat) (L : Nat) (ln : Nat)) ∧ (logP I (N : Nat) (L : Nat) (ln : Nat)).length ≤ 1000 := by
 unfold logP
 cases hb : laneB I (N : Nat) (L : Nat) (ln : Nat) with
 | false => exact ⟨fun x hx => (by simp at hx), by simp⟩
 | true =>
   rw [if_pos rfl]
   have hb2 := hb
   unfold laneB readB at hb2
   simp only [Bool.and_eq_true, decide_eq_true_eq] at hb2
   obtain ⟨⟨-, hN, -⟩, -, hl⟩ := hb2
   have hN' : I.length = N := by omega
   rw [Int.toNat_natCast, Int.toNat_natCast]
   have hg : gOk (I.length : Nat) (L : Nat) = true := by rw [hN']; exact hgk
   have h1 := logSp_len (ln := ln) hg
   have h2 := (gNat_eq hg)
   have h3 := gN_bd hg
   obtain ⟨g1, g2, g3, g4⟩ := gOk_t hg
   exact ⟨logSp_PB hg (by omega), by omega⟩
theorem curC_le (x : Nat) : curC x ≤ 16383 := by
 unfold curC
 split
 ·unfold mkC; omega
 omega
def noteL (I : List Nat) (g A m : Nat) : List Nat := encW g A (gathL I [((A : Int), (m : Int))])
theorem PBs_one {A m N : Nat} (hN : N ≤ 1000) (h : A + m ≤ N) : PBs [((A : Int), (m : Int))] := fun x hx => by
 rw [List.mem_singleton] at hx
 subst hx
 unfold PB
 simp only []
 omega
theorem gath1_len (I : List Nat) {A m N : Nat} (hN : N ≤ 1000) (h : A + m ≤ N) : (gathL I [((A : Int), (m : Int))]).length = m := by
 rw [gath_len I (PBs_one hN h)]
 simp [totS]
theorem noteL_len (I : List Nat) {g A m N : Nat} (hN : N ≤ 1000) (h : A + m ≤ N) : (noteL I g A m).length = m + 2 := by
 unfold noteL encW
 simp [gath1_len I hN h]
theorem jNote_full (B : Nat) (F : Nat → Prop) (s : Dv) (N L ln : Nat) (A m : Nat) (w : World) (hw : Lw w) (h : DvAt w B F s) (hg : GoodD s) (hlk : lOk (N : Nat) (L : Nat) (ln : Nat) = true) (hxb : loadD s (10 + (ln : Int)) < 18446744073709551616) (hW : WL (viewD s)) (h40 : poolB (viewD s) = true → LgN (viewD s) ((viewD s).getD 3 0)) (hN2 : N ≤ 1000) (hm1 : 1 ≤ m) (hm8 : m ≤ 800) (hAm : A + m ≤ N) (hi1 : inB N L (A : Nat) = true) (hi2 : inB N L ((A : Nat) + (m : Nat) - 1) = true) (hno : curS (loadD s (10 + (ln : Int))) = 1) (hf : totS (logP (viewD s) (N : Nat) (L : Nat) (ln : Nat)) < (curC (loadD s (10 + (ln : Int))) + (m + 2) : Nat) ∨ 16383 < curC (loadD s (10 + (ln : Int))) + (m + 2)) :
 Calls Tryz.prog 34 #[.pointer (some ⟨B, 0, none⟩), .agg #[.int .i64 (N : Nat), .int .i64 (L : Nat)], .int .i64 (ln : Nat), .agg #[.int .i64 (A : Nat), .int .i64 (m : Nat)]] w fun e w' => e = .returned (.int .i64 3) ∧ Below w.heap.size w w' := by
 have hgk := (lOk_t hlk).1
 obtain ⟨hPB, hPl⟩ := logP_PB (I := viewD s) (ln := ln) hgk hN2
 have hgxb := curG_le hxb
 have hcxb := curC_le (loadD s (10 + (ln : Int)))
 have hVw := lh (fun w1 (q : Below w.heap.size w w1) => jView B F s w1 (h.keep q) hg)
 have hLg := lh (fun v1 w1 (q : Below w.heap.size w w1) (k : KL .u64 w1 v1 (viewD s)) => log_any v1 (viewD s) (N : Nat) (L : Nat) (ln : Nat) w1 (hw.keep q) hW k h40)
 have hgl := gath1_len (viewD s) hN2 hAm
 have hgw := gath_WL hW [((A : Int), (m : Int))]
 have hnl := noteL_len (viewD s) (g := curG (loadD s (10 + (ln : Int)))) hN2 hAm
 have hGa := lh (fun v u w1 (hv : KL .u64 w1 v (viewD s)) (hu : PL w1 u [((A : Int), (m : Int))]) => gather_any v u (viewD s) [((A : Int), (m : Int))] w1 (PBs_one hN2 hAm) (by simp) hv hu)
 have hEn := lh (fun v w1 (hv : KL .u64 w1 v (gathL (viewD s) [((A : Int), (m : Int))])) => Encode_new (curG (loadD s (10 + (ln : Int)))) ((A : Int), v, gathL (viewD s) [((A : Int), (m : Int))]) w1 (by omega) hv hgw (by simp only []; omega) (by unfold rightB; rw [canB_iff]; simp only []; omega))
 simp only [Int.toNat_natCast] at hEn
 change Hid (∀ v w1, KL .u64 w1 v (gathL (viewD s) [((A : Int), (m : Int))]) → Calls Tryz.prog 93 #[.int .u64 (curG (loadD s (10 + (ln : Int))) : Nat), .agg #[.int .i64 (A : Nat), v]] w1 fun e w' => ∃ v, e = .returned (.tuple #[v, .int .i64 0]) ∧ KL .u64 w' v (noteL (viewD s) (curG (loadD s (10 + (ln : Int)))) A m) ∧ (∀ k, v.ownBlock = some k → w1.heap.size ≤ k) ∧ Below w1.heap.size w1 w') at hEn
 obtain ⟨ws, hws⟩ : ∃ z, noteL (viewD s) (curG (loadD s (10 + (ln : Int)))) A m = z := ⟨_, rfl⟩
 obtain ⟨old, hold⟩ : ∃ z, gathL (viewD s) [((A : Int), (m : Int))] = z := ⟨_, rfl⟩
 obtain ⟨P, hP⟩ : ∃ P, logP (viewD s) (N : Nat) (L : Nat) (ln : Nat) = P := ⟨_, rfl⟩
 obtain ⟨I, hI⟩ : ∃ I, viewD s = I := ⟨_, rfl⟩
 rw [hws] at hnl
 rw [hold, hws] at hEn
 rw [hold] at hGa hgl
 rw [hP] at hPB hPl hLg
 rw [hI] at hVw hLg hGa
 have hTo := lh (fun v w1 (hv : PL w1 v P) => total_any v P w1 hPB.sbs hPl hv)
 obtain ⟨nP, hnP⟩ : ∃ n, P.length = n := ⟨_, rfl⟩
 rw [hnP] at hPl
 have hCu := lh (fun w1 (q : Below w.heap.size w w1) => jCurrent B F s N L ln w1 (h.keep q) hg hlk hxb)
 obtain ⟨x, hx⟩ : ∃ x, loadD s (10 + (ln : Int)) = x := ⟨_, rfl⟩
 rw [hx] at hCu hno hgxb hEn hf hcxb
 obtain ⟨sx, hsx⟩ : ∃ a, curS x = a := ⟨_, rfl⟩
 obtain ⟨cx, hcx⟩ : ∃ a, curC x = a := ⟨_, rfl⟩
 obtain ⟨gx, hgx⟩ : ∃ a, curG x = a := ⟨_, rfl⟩
 rw [hsx] at hno
 rw [hgx] at hgxb hEn
 rw [hcx] at hf hcxb
 rw [hsx, hcx, hgx] at hCu
 have hIn := lh (fun a w1 => jInChunks N L a w1 hgk)
 rw [hP] at hf
 clear hx hsx hcx hgx hgw hw hW h40 hws hold hI hP h hg hlk hxb hgk
 subst hno
 have hb0 := bZ w (.cells #[.int .i64 (N : Nat), .int .i64 (L : Nat)] 37)
 have gG := HB.new w #[.int .i64 (N : Nat), .int .i64 (L : Nat)] 37
 obtain ⟨wb1, hwb1⟩ : ∃ x, w.alloc (.cells #[.int .i64 (N : Nat), .int .i64 (L : Nat)] 37) = x := ⟨_, rfl⟩
 have hswb1 : wb1.heap.size = w.heap.size + 1 := by rw [← hwb1]; simp
 rw [hwb1] at hb0 gG
 have hB : Below w.heap.size w wb1 := hb0
 have hb1 := bZ wb1 (.cells #[.int .i64 (A : Nat), .int .i64 (m : Nat)] 70)
 have gS := HB.new wb1 #[.int .i64 (A : Nat), .int .i64 (m : Nat)] 70
 obtain ⟨wb2, hwb2⟩ : ∃ x, wb1.alloc (.cells #[.int .i64 (A : Nat), .int .i64 (m : Nat)] 70) = x := ⟨_, rfl⟩
 have hswb2 : wb2.heap.size = w.heap.size + 2 := by rw [← hwb2]; simp; omega
 rw [hwb2] at hb1 gS
 rw [hswb1] at gS
 replace gG := gG.keep hb1
 replace hB := hB.trans (hb1.mono (by omega))
 obtain ⟨C, hC⟩ : ∃ C, w.heap.size = C := ⟨_, rfl⟩
 rw [hC] at gG gS hswb1 hswb2
 clear hb0 hb1
 go_enter Tryz.func34, Tryz.ntmps34
 obtain ⟨r0, r1⟩ := gG.c2
 go_wp2_with fail
 refine (hCu.out _ hB).mono ?_
 rintro e w1 ⟨rfl, hb1⟩
 clear r0 r1
 have eM := bZ w1 (.cells #[.int .i64 1, .int .i64 (cx : Nat), .int .u64 (gx : Nat)] 123)
 have gM := HB.new w1 #[.int .i64 1, .int .i64 (cx : Nat), .int .u64 (gx : Nat)] 123
 have gG2 := (gG.keep hb1).keep eM
 have gS2 := (gS.keep hb1).keep eM
 have hB2 := (hB.trans (hb1.mono hB.size)).trans (eM.mono (hB.trans (hb1.mono hB.size)).size)
 obtain ⟨m0, n0⟩ := row_cell gM 0
 obtain ⟨m1, n1⟩ := row_cell gM 1
 obtain ⟨m2, n2⟩ := row_cell gM 2
 obtain ⟨r0, r1⟩ := gG2.c2
 obtain ⟨q0, q1⟩ := gS2.c2
 have hlm1 := (hB.trans (hb1.mono hB.size)).size
 clear gG gS hCu hb1 eM
 have ia : inB N L (A : Nat) = true := hi1
 have ib : inB N L ((A : Nat) + (m : Nat) - 1) = true := hi2
 have h1' : ¬ ((m : Int) < 1) := by omega
 have h2' : ¬ (4096 < (m : Int)) := by omega
 have w1' : IntKind.i64.wrap ((A : Int) + (m : Int)) = (A : Int) + (m : Int) := (by rw [IntKind.wrap_i64]; omega)
 have w2' : IntKind.i64.wrap ((A : Int) + (m : Int) - 1) = (A : Int) + (m : Int) - 1 := (by rw [IntKind.wrap_i64]; omega)
 have hI1 := hIn.out (A : Nat)
 have hI2 := hIn.out ((A : Nat) + (m : Nat) - 1)
 rw [ia] at hI1
 rw [ib] at hI2
 replace hI1 := lh hI1
 replace hI2 := lh hI2
 clear hIn ia ib hi1 hi2
 go_wp2_with fail
 refine (hI1.out _).mono ?_
 rintro e w3 ⟨rfl, hb3⟩
 have hB3 := hB2.trans (hb3.mono hB2.size)
 have gM3 := gM.keep hb3
 have gS3 := gS2.keep hb3
 have gG3 := gG2.keep hb3
 obtain ⟨q2, q3⟩ := gS3.c2
 obtain ⟨r2, r3⟩ := gG3.c2
 clear hI1 hB2 gM gS2 gG2 hb3 m0 m1 m2 n0 n1 n2 r0 r1 q0 q1
 go_wp2_with fail
 refine (hI2.out _).mono ?_
 rintro e w4 ⟨rfl, hb4⟩
 have hB4 := hB3.trans (hb4.mono hB3.size)
 have gM4 := gM3.keep hb4
 have gS4 := gS3.keep hb4
 have gG4 := gG3.keep hb4
 clear hI2 hB3 gM3 gS3 gG3 hb4 q2 q3 r2 r3
 go_wp2_with fail
 refine (hVw.out _ hB4).mono ?_
 rintro e w5 ⟨v5, rfl, hO5, hb5⟩
 have hB5 := hB4.trans (hb5.mono hB4.size)
 have gM5 := gM4.keep hb5
 have gS5 := gS4.keep hb5
 have gG5 := gG4.keep hb5
 have hK5 := hO5.kl
 clear hVw hB4 gM4 gS4 gG4 hb5 hO5
 obtain ⟨M, hM⟩ : ∃ M, w1.heap.size = M := ⟨_, rfl⟩
 rw [hM] at gM5 hlm1
 go_wp2_with fail
 have hCF := lh (fun w' (hb : Below w5.heap.size w5 w') => show (w'.cell? ⟨M, 0, none⟩ = some (.int .i64 1) ∧ w'.cell? ⟨M, 1, none⟩ = some (.int .i64 (cx : Nat)) ∧ w'.cell? ⟨M, 2, none⟩ = some (.int .u64 (gx : Nat))) ∧ w'.cell? ⟨C + 1, 0, none⟩ = some (.int .i64 (A : Nat)) ∧ w'.cell? ⟨C + 1, 1, none⟩ = some (.int .i64 (m : Nat)) from
  ⟨⟨(row_cell (gM5.keep hb) 0).1, (row_cell (gM5.keep hb) 1).1, (row_cell (gM5.keep hb) 2).1⟩, (gS5.keep hb).c2⟩)
 refine wp_region_held_drew (S := (fun w' => Below w5.heap.size w5 w')) (by kernel_rfl) (Below.refl _ _).drew (fun hHeld => ?_)
 refine takeH 0 ?_
 refine takeH 1 ?_
 refine takeH 2 ?_
 refine takeH 3 ?_
 refine takeH 4 ?_
 refine takeH 5 ?_
 refine oneL 6 rfl (by kernel_rfl) (fun K hK => ?_)
 go_simp
 have hb := bZ w5.drew (.cells #[.int .i64 (A : Nat), .int .i64 (m : Nat)] (70 : Nat))
 have hl5 : PL (w5.drew.alloc (.cells #[.int .i64 (A : Nat), .int .i64 (m : Nat)] (70 : Nat))) (.slice (some ⟨w5.drew.heap.size, 0, none⟩) 1 1) [((A : Int), (m : Int))] := PL.lit w5.drew [((A : Int), (m : Int))] (by simp)
 refine hK.out _ _ (hHeld.trans (hb.mono hHeld.size)) (fun hHeld2 => ?_)
 clear hK K hHeld
 have hHeld := hHeld2
 clear hHeld2
 try simp only [Act.put,sA,sB,sC]
 refine oneL 7 rfl (by kernel_rfl) (fun K hK => ?_)
 go_simp
 refine (hGa.out _ _ _ (hK5.keep hHeld) hl5).mono ?_
 rintro e w6 ⟨v6, rfl, hO6, hb⟩
 obtain ⟨A6, c6, rfl, -⟩ := hO6.kl.form hgl
 refine hK.out _ _ (hHeld.trans (hb.mono hHeld.size)) (fun hHeld2 => ?_)
 clear hK K hHeld
 have hHeld := hHeld2
 clear hHeld2
 try simp only [Act.put,sA,sB,sC]
 refine takeH 8 ?_
 refine oneL 9 rfl (by kernel_rfl) (fun K hK => ?_)
 go_simp
 refine (hEn.out _ _ hO6.kl).mono ?_
 rintro e w7 ⟨v7, rfl, hK7, hn7, hb⟩
 refine hK.out _ _ (hHeld.trans (hb.mono hHeld.size)) (fun hHeld2 => ?_)
 clear hK K hHeld
 have hHeld := hHeld2
 clear hHeld2
 try simp only [Act.put,sA,sB,sC]
 refine takeH 10 ?_
 refine takeH 11 ?_
 refine takeH 12 ?_
 refine takeH 13 ?_
 refine takeH 14 ?_
 refine wpAnyH_done (by kernel_rfl) ?_ _
 obtain ⟨A7, c7, rfl, -⟩ := hK7.form hnl
 have hB7 := hB5.trans (hHeld.mono hB5.size)
 have gM7 := gM5.keep hHeld
 have gG7 := gG5.keep hHeld
 have hK57 := hK5.keep hHeld
 clear hCF hGa hEn hK5 gM5 gS5 gG5 hl5 hO6 hb
 obtain ⟨m7, o7⟩ := row_cell gM7 1
 obtain ⟨r0, r1⟩ := gG7.c2
 go_wp2_with fail
 refine (hLg.out _ _ hB7 hK57).mono ?_
 rintro e w8 ⟨v8, rfl, hO8, hb8⟩
 obtain ⟨A8, c8, rfl, -⟩ := hO8.pl.form hnP
 have hB8 := hB7.trans (hb8.mono hB7.size)
 have gM8 := gM7.keep hb8
 have gG8 := gG7.keep hb8
 have hK8 := hK7.keep hb8
 have hP8 := hO8.pl
 have hOP9 := hO8.chg (Chg.setCell (S := fun j => j = M) w8 M 1 (.int .i64 ((cx + (m + 2) : Nat) : Int)) rfl) (fun k e z => by have h1 := (hO8.lt k e).1; have h2 := gM7.lt; omega)
 have hlM : w.heap.size ≤ M := hlm1
 obtain ⟨m8, o8⟩ := row_cell gM8 1
 have w3' : IntKind.i64.wrap ((cx : Int) + ((m + 2 : Nat) : Int)) = ((cx + (m + 2) : Nat) : Int) := (by rw [IntKind.wrap_i64]; omega)
 clear hLg hB7 hK57 gM7 gG7 hb8 hK7 m7 o7 r0 r1
 obtain ⟨q, hq⟩ : ∃ q, cx + (m + 2) = q := ⟨_, rfl⟩
 have hqI : (cx : Int) + ((m : Int) + 2) = (q : Int) := by omega
 rw [hq] at hf w3' hOP9
 go_wp2_with fail
 try rw [hqI]
 have gM9 := gM8.setC 1 (.int .i64 (q : Nat))
 have hch9 := Chg.setCell (S := fun j => j = M) w8 M 1 (.int .i64 (q : Nat)) rfl
 obtain ⟨w9, hw9⟩ : ∃ z, w8.setCell ⟨M, 1, none⟩ (.int .i64 (q : Nat)) = z := ⟨_, rfl⟩
 rw [hw9] at gM9 hch9 hOP9 ⊢
 have hB9 := hB8.trans (hch9.below (N := w.heap.size) (fun j e => by subst e; exact hlM) hB8.size)
 have hP9 : PL w9 (.slice A8 nP c8) P := hOP9.pl
 have hCF := lh (fun w' (hb : Below w9.heap.size w9 w') => show w'.cell? ⟨M, 1, none⟩ = some (.int .i64 (q : Nat)) from (row_cell (gM9.keep hb) 1).1)
 by_cases hT : totS P < (q : Int)
 ·clear hf
  refine wp_region_held_drew (S := (fun w' => Below w9.heap.size w9 w')) (by kernel_rfl) (Below.refl _ _).drew (fun hHeld => ?_)
  refine takeH 0 ?_
  refine takeH 1 ?_
  refine takeH 2 ?_
  refine oneL 3 rfl (by kernel_rfl) (fun K hK => ?_)
  go_simp
  refine (hTo.out _ _ (hP9.keep hHeld)).mono ?_
  rintro e w10 ⟨rfl, hb⟩
  refine hK.out _ _ (hHeld.trans (hb.mono hHeld.size)) (fun hHeld2 => ?_)
  clear hK K hHeld
  have hHeld := hHeld2
  clear hHeld2
  try simp only [Act.put,sA,sB,sC]
  refine takeH 4 ?_
  refine takeH 5 ?_
  refine idleQ 6 ?_
  refine idleQ 7 ?_
  refine idleQ 8 ?_
  refine takeH 9 ?_
  refine wpAnyH_done (by kernel_rfl) ?_ _
  have hB10 := hB9.trans (hHeld.mono hB9.size)
  go_wp2_with fail
  go_ret
  first | exact ⟨rfl, hB10⟩ | (rw [hC] at hB10; exact ⟨rfl, hB10⟩)
 have hq9 : (16383 : Int) < (q : Int) := by omega
 have hT' : (q : Int) ≤ totS P := by omega
 clear hf
 refine wp_region_held_drew (S := (fun w' => Below w9.heap.size w9 w')) (by kernel_rfl) (Below.refl _ _).drew (fun hHeld => ?_)
 refine takeH 0 ?_
 refine takeH 1 ?_
 refine takeH 2 ?_
 refine oneL 3 rfl (by kernel_rfl) (fun K hK => ?_)
 go_simp
 refine (hTo.out _ _ (hP9.keep hHeld)).mono ?_
 rintro e w10 ⟨rfl, hb⟩
 refine hK.out _ _ (hHeld.trans (hb.mono hHeld.size)) (fun hHeld2 => ?_)
 clear hK K hHeld
 have hHeld := hHeld2
 clear hHeld2
 try simp only [Act.put,sA,sB,sC]
 refine takeH 4 ?_
 refine takeH 5 ?_
 refine takeH 6 ?_
 refine takeH 7 ?_
 refine takeH 8 ?_
 refine takeH 9 ?_
 refine wpAnyH_done (by kernel_rfl) ?_ _
 have hB10 := hB9.trans (hHeld.mono hB9.size)
 go_wp2_with fail
 go_ret
 first | exact ⟨rfl, hB10⟩ | (rw [hC] at hB10; exact ⟨rfl, hB10⟩)
end Go.Proofs.YtkkbngcgphlikaaGreatDoor
end
