/-
  Part of the proof of JournalUndo.
-/
import Derived.Test.YtkkbngcgphlikaaGreatDoorJu46
import Derived.Test.YtkkbngcgphlikaaGreatDoorJu49
import Derived.Test.YtkkbngcgphlikaaGreatDoorJu50
import Derived.Test.YtkkbngcgphlikaaGreatDoorJu0
set_option maxRecDepth 10000
set_option maxHeartbeats 4000000
set_option linter.unusedVariables false
set_option linter.unusedSimpArgs false
section
namespace Go.Proofs.YtkkbngcgphlikaaGreatDoor
open Go.Lib Go.RowKit Go.ChangeShapes Go.WideShapes Go.Deep Go.Shelf
def AlF (s : Dv) : Prop := s.dead = false ∧ s.fuse = 0
theorem AlF.store {s : Dv} (h : AlF s) (y : Int) (v : Nat) : AlF (storeD s y v) := by
 cases hh : hasD s y with
 | true =>
   obtain ⟨-, d, u⟩ := steps_store h.1 h.2 hh v
   exact ⟨d, u⟩
 | false =>
   have e : storeD s y v = s := by unfold storeD; rw [hh]; rfl
   rw [e]
   exact h
theorem AlF.stoR {s : Dv} (h : AlF s) (room : List Sp) (ws : List Nat) : ∀ k, AlF (stoR s room ws k)
 | 0 => h
 | k + 1 => by rw [stoR_succ]; exact (AlF.stoR h room ws k).store _ _
theorem AlF.fenceL {s : Dv} (h : AlF s) (l : List Sp) : AlF (fenceL s l) := by
 obtain ⟨-, d, u⟩ := steps_fenceL l h.1 h.2
 exact ⟨d, u⟩
theorem AlF.lay {s : Dv} (h : AlF s) (x : Int) (v : Nat) : AlF (layD s x v) := by
 rw [layD_L]
 exact (h.store x v).fenceL _
theorem AlF.note {s : Dv} (h : AlF s) (N L ln A m : Nat) : AlF (noteD s N L ln A m) := ((h.stoR _ _ _).fenceL _).lay _ _
theorem AlF.stoV {s : Dv} (h : AlF s) (A v : Nat) : ∀ j, AlF (stoV s A v j)
 | 0 => h
 | j + 1 => (AlF.stoV h A v j).store _ _
theorem AlF.evict {s : Dv} (h : AlF s) (x : Int) : AlF (evictD s x) := by
 obtain ⟨-, d, u, -⟩ := steps_step h.1 h.2
 unfold evictD
 split
 ·split
  ·split
   ·exact ⟨d, u⟩
   exact ⟨d, u⟩
  exact ⟨d, u⟩
 exact h
theorem InvL.stoV {x : List Nat} {N L G ln E : Nat} {l : List Sp} {c pn : Nat} {s : Dv} (h : InvL x N L G ln E l c pn s) (hx : PoolX x N L G) (hln : ln < L) (hE : 10 + 73 * L + G ≤ E) {A m v : Nat} (hm : ((A : Int), (m : Int)) ∈ l) : ∀ j, j ≤ m → InvL x N L G ln E l c pn (stoV s A v j)
 | 0, _ => h
 | j + 1, hj => (InvL.stoV h hx hln hE hm j (by omega)).store hx hln hE (Nat.mod_lt _ (by decide)) ⟨_, hm, by simp only []; omega, by simp only []; omega⟩
theorem InvL.mono {x : List Nat} {N L G ln E : Nat} {l : List Sp} {c c' pn : Nat} {s : Dv} (h : InvL x N L G ln E l c pn s) (hc : c ≤ c') : InvL x N L G ln E l c' pn s := by
 refine ⟨h.wd, h.len, ?_⟩
 rcases h.st with q | ⟨hd, g, es, Y, Fr, q1, q2, q3, q4, q5⟩
 ·exact .inl q
 exact .inr ⟨hd, g, es, Y, Fr, q1, q2, q3, Nat.le_trans q4 hc, q5⟩
structure WkI (x : List Nat) (N L G ln E k0 : Nat) (s : Dv) (t : Nat) (S : Dv) (l : List Sp) : Prop where
 inv : InvL x N L G ln E l (8 * t) 32 S
 g : GoodJ S N (k0 + 6000 * t)
 len : l.length ≤ t
 bd : ∀ q ∈ l, 0 ≤ q.1 ∧ 1 ≤ q.2 ∧ q.1 + q.2 ≤ (N : Int)
 af : AlF s → AlF S
theorem WkI.skip {x : List Nat} {N L G ln E k0 : Nat} {s : Dv} {t : Nat} {S : Dv} {l : List Sp} (h : WkI x N L G ln E k0 s t S l) : WkI x N L G ln E k0 s (t + 1) S l :=
 ⟨h.inv.mono (by omega), h.g.mono (by omega), by have := h.len; omega, h.bd, h.af⟩
theorem WkI.note {x : List Nat} {N L G ln E k0 : Nat} {s : Dv} {t : Nat} {S : Dv} {l : List Sp} (h : WkI x N L G ln E k0 s t S l) (hx : PoolX x N L G) (hN5 : N ≤ 500) (hG8 : G ≤ 8) (hln : ln < L) (hE : 10 + 73 * L + G ≤ E) {A m v : Nat} (hEA : E ≤ A) (hAm : A + m ≤ N) (hm1 : 1 ≤ m) (hm6 : m ≤ 6) (hok : noteOk S N L ln m) :
 WkI x N L G ln E k0 s (t + 1) (stoV (noteD S N L ln A m) A v m) (l ++ [((A : Int), (m : Int))]) ∧ WkI x N L G ln E k0 s (t + 1) (evictD (stoV (noteD S N L ln A m) A v m) (A : Nat)) (l ++ [((A : Int), (m : Int))]) ∧ (∀ j, j ≤ m → GoodJ (stoV (noteD S N L ln A m) A v j) N (k0 + 6000 * t + 5900)) := by
 have hb := note_bd S (ln := ln) m hx.g hx.gn hN5 hG8
 have g1 := h.g.note (by have := hx.hN; omega) L ln A m
 have hi := (h.inv.note hx hln hE h.g hEA hAm hm1 (by omega) hok.2.1 hok.2.2).mono (show 8 * t + (m + 2) ≤ 8 * (t + 1) by omega)
 have hv := hi.stoV hx hln hE (v := v) (show ((A : Int), (m : Int)) ∈ l ++ [((A : Int), (m : Int))] by simp) m (Nat.le_refl _)
 have hlen : (l ++ [((A : Int), (m : Int))]).length ≤ t + 1 := by rw [List.length_append]; have := h.len; simp; omega
 have hbd : ∀ q ∈ l ++ [((A : Int), (m : Int))], 0 ≤ q.1 ∧ 1 ≤ q.2 ∧ q.1 + q.2 ≤ (N : Int) := fun q hq => by
  rcases List.mem_append.1 hq with z | z
  ·exact h.bd q z
  rw [List.mem_singleton] at z
  subst z
  simp only []
  omega
 have hg : ∀ j, j ≤ m → GoodJ (stoV (noteD S N L ln A m) A v j) N (k0 + 6000 * t + 5900) := fun j hj => (g1.stoV A v j).mono (by omega)
 exact ⟨⟨hv, (hg m (Nat.le_refl _)).mono (by omega), hlen, hbd, fun q => ((h.af q).note N L ln A m).stoV A v m⟩, ⟨hv.evict hx hln hE _, ((hg m (Nat.le_refl _)).evict _).mono (by omega), hlen, hbd, fun q => (((h.af q).note N L ln A m).stoV A v m).evict _⟩, hg⟩
structure WkE (x : List Nat) (N L G ln E k0 : Nat) (s S : Dv) (l : List Sp) : Prop where
 inv : InvL x N L G ln E l 64 32 S
 g : GoodJ S N (k0 + 50000)
 len : l.length ≤ 8
 bd : ∀ q ∈ l, 0 ≤ q.1 ∧ 1 ≤ q.2 ∧ q.1 + q.2 ≤ (N : Int)
 af : AlF s → AlF S
def WorkP (B : Nat) (F : Nat → Prop) (x : List Nat) (N L G ln E k0 : Nat) (s : Dv) (w : World) (e : Ending) (w' : World) : Prop := ∃ v l S, e = .returned v ∧ DvAt w' B F S ∧ Chg F w w' ∧ OwnSp w' w.heap.size v l ∧ Hid (WkE x N L G ln E k0 s S l)
theorem worked_any (B : Nat) (F : Nat → Prop) (s : Dv) (x : List Nat) (N L G ln f k0 : Nat) (k : Wk) (vA vM vV vG vO : Value) (w : World) (hLw : ∀ w', Chg F w w' → Lw w') (h : DvAt w B F s) (hgJ : GoodJ s N k0) (hx : PoolX x N L G) (hN5 : N ≤ 500) (hG8 : G ≤ 8) (hln : ln < L) (hs : ∀ i, i < N → ∀ u, PV s i u → u = x.getD i 0) (hlog : logsT (tabW x L) (ln : Nat) = []) (hf : f < G) (hM : ∀ w', Chg F w w' → WkM w' vA vM vV vG vO k) (hB : WkB k) (hfw : fewW k = true) (hk0 : k0 ≤ 1000) :
 Calls Tryz.prog 16 #[.pointer (some ⟨B, 0, none⟩), .agg #[.int .i64 (N : Nat), .int .i64 (L : Nat)], .int .i64 (ln : Nat), .agg #[vA, vM, vV, vG, vO], .int .i64 (f : Nat)] w (WorkP B F x N L G ln (10 + 73 * L + G + f * 32) (k0 + 600) s w) := by
 obtain ⟨AA, cA, AM, cM, AV, cV, AG, cG, AO, cO, rfl, rfl, rfl, rfl, rfl⟩ := (hM w (Chg.refl F w)).sl
 obtain ⟨fw1, fw2, fw3, fw4⟩ : k.a.length ≤ 8 ∧ k.m.length = k.a.length ∧ k.v.length = k.a.length ∧ k.e.length = k.a.length := by
  unfold fewW at hfw
  simp only [Bool.and_eq_true, decide_eq_true_eq] at hfw
  omega
 rw [fw2, fw3, fw4] at hM
 rw [fw2, fw3, fw4]
 obtain ⟨nA, hnA⟩ : ∃ n, k.a.length = n := ⟨_, rfl⟩
 obtain ⟨nO, hnO⟩ : ∃ n, k.o.length = n := ⟨_, rfl⟩
 rw [hnA] at hM fw1 fw2 fw3 fw4
 rw [hnO] at hM
 rw [hnA, hnO]
 have hg := hx.g
 have hgat := hx.gn
 have hNe := hx.hN
 have hlt := h.lt
 have hwd : WD s := fun i hi v hv => by
  rw [hs i (by rw [← hgJ.len]; exact hi) v hv]
  exact hx.W.at i (by rw [hx.len, ← hgJ.len]; exact hi)
 have hlk := lOk_of hg hln
 have hBg := lh (fun w1 (q : DvAt w1 B F s) => jBegin B F s N L ln k0 w1 q hgJ (by omega) (by omega) (by omega) hlk (by omega) (hwd.load _))
 obtain ⟨E, hE⟩ : ∃ E, 10 + 73 * L + G + f * 32 = E := ⟨_, rfl⟩
 have hE0 : 10 + 73 * L + G ≤ E := by omega
 have hi0 := begin_inv hx hln hE0 hgJ hs hlog
 have gi0 : GoodJ (layD s (10 + (ln : Int)) (begW (loadD s (10 + (ln : Int))))) N (k0 + 600) := (hgJ.lay (by omega) _ _).mono (by omega)
 have hI0 := lh (show WkI x N L G ln E (k0 + 600) s 0 (layD s (10 + (ln : Int)) (begW (loadD s (10 + (ln : Int))))) [] from ⟨hi0, gi0.mono (by omega), Nat.le_refl _, fun q hq => (by cases hq), fun q => q.lay _ _⟩)
 generalize layD s (10 + (ln : Int)) (begW (loadD s (10 + (ln : Int)))) = s1 at *
 have hSpn := lh (fun i (hi : i < nA) w1 (hc : Chg F w w1) => span19 k AA AM AV AG AO nA cA nA cM nA cV nA cG nO cO N L G f i w1 (hM w1 hc) hB hg hgat (by omega) hf (by omega) (by omega))
 have hsb := lh (fun i => spA_bd k (L := L) (G := G) (f := f) (i := i) hf)
 rw [hE] at hsb
 have hsm := lh (fun i => spM_bd k i)
 have hvW := lh (fun i (hi : i < nA) => show k.v.getD i 0 < 18446744073709551616 from hB.v.at i (by omega))
 have hVc := lh (fun w1 (hc : Chg F w w1) => (hM w1 hc).v.form fw3)
 have hEc := lh (fun w1 (hc : Chg F w w1) => EL.form (hM w1 hc).e fw4)
 have hKMk := lh hM
 have hNt := lh (fun (t : Nat) (ht : t < nA) (S : Dv) (l : List Sp) (q : WkI x N L G ln E (k0 + 600) s t S l) (pa pm : Nat) (b1 : E ≤ pa) (b2 : pa + pm ≤ 10 + 73 * L + G + 32 * G) (b3 : 1 ≤ pm) (b4 : pm ≤ 6) w1 (hc : Chg F w w1) (hD : DvAt w1 B F S) => jNote_any B F S N L G ln pa pm w1 (hLw w1 hc) hD (k0 + 600 + 6000 * t) q.g hg hln hgat hN5 hG8 q.inv.wd b3 b4 (by omega) b2 (by omega) (q.inv.calm hx hln hE0))
 have hWn := lh (fun (t : Nat) (S : Dv) (l : List Sp) (q : WkI x N L G ln E (k0 + 600) s t S l) (pa pm v : Nat) (b1 : E ≤ pa) (b2 : pa + pm ≤ 10 + 73 * L + G + 32 * G) (b3 : 1 ≤ pm) (b4 : pm ≤ 6) (hok : noteOk S N L ln pm) => q.note hx hN5 hG8 hln hE0 (v := v) b1 (show pa + pm ≤ N by omega) b3 b4 hok)
 have hN1 : 1 ≤ N := by omega
 have hNb : 10 + 73 * L + G + 32 * G ≤ N := by omega
 have hfin := lh (fun (S : Dv) (l : List Sp) (q : WkI x N L G ln E (k0 + 600) s nA S l) => show WkE x N L G ln E (k0 + 600) s S l from ⟨q.inv.mono (by omega), q.g.mono (by omega), by have := q.len; omega, q.bd, q.af⟩)
 rw [hE]
 replace hE := lh hE
 replace hnA := lh hnA
 replace hnO := lh hnO
 replace fw3 := lh fw3
 replace fw4 := lh fw4
 replace hgat := lh hgat
 clear hLw hgJ hx hs hlog hM hB hfw hNe fw2 hwd hi0 gi0 hg
 have hb0 := bZ w (.cells #[.int .i64 (N : Nat), .int .i64 (L : Nat)] (37 : Nat))
 have gG := HB.new w #[.int .i64 (N : Nat), .int .i64 (L : Nat)] (37 : Nat)
 obtain ⟨wb1, hwb1⟩ : ∃ x, w.alloc (.cells #[.int .i64 (N : Nat), .int .i64 (L : Nat)] (37 : Nat)) = x := ⟨_, rfl⟩
 have hswb1 : wb1.heap.size = w.heap.size + 1 := by rw [← hwb1]; simp
 rw [hwb1] at hb0 gG
 have hb1 := bZ wb1 (.cells #[.slice AA nA cA, .slice AM nA cM, .slice AV nA cV, .slice AG nA cG, .slice AO nO cO] (31 : Nat))
 have gW := HB.new wb1 #[.slice AA nA cA, .slice AM nA cM, .slice AV nA cV, .slice AG nA cG, .slice AO nO cO] (31 : Nat)
 obtain ⟨wo, hwo⟩ : ∃ x, wb1.alloc (.cells #[.slice AA nA cA, .slice AM nA cM, .slice AV nA cV, .slice AG nA cG, .slice AO nO cO] (31 : Nat)) = x := ⟨_, rfl⟩
 have hswo : wo.heap.size = w.heap.size + 2 := by rw [← hwo]; simp [hswb1]
 rw [hwo] at hb1 gW
 rw [hswb1] at gW
 have gG1 := gG.keep hb1
 have hBo : Below w.heap.size w wo := hb0.trans (hb1.mono (by omega))
 obtain ⟨C0, hC0⟩ : ∃ C, w.heap.size = C := ⟨_, rfl⟩
 rw [hC0] at gG1 gW hswo
 have hnC : ¬ F C0 := fun q => by have := hlt _ q; omega
 have hnC1 : ¬ F (C0 + 1) := fun q => by have := hlt _ q; omega
 have hgg := lh (fun w' (hc : Chg F wo w') => (gG1.chgJ hc hnC).c2)
 have hgw := lh (fun w' (hc : Chg F wo w') => gW.chgJ hc hnC1)
 have hcw := lh (fun w' (hc : Chg F wo w') => show Chg F w w' from (Chg.of_below F hBo).trans hc (fun j q => .inl q))
 have hFw := lh (fun k (q : F k) => show k < C0 from by have := hlt k q; omega)
 have hwz : C0 ≤ wo.heap.size := by omega
 have hDo := h.keep hBo
 have hBg1 := hBg.out _ hDo
 have hco := Chg.refl F wo
 obtain ⟨g0, g1⟩ := hgg.out _ hco
 clear hb0 hb1 gG gG1 gW hBo hnC hnC1 hlt h hBg hswb1 hswo hDo
 go_enter Tryz.func16, Tryz.ntmps16
 subst hwo
 subst hwb1
 go_wp2_with fail
 refine hBg1.mono ?_
 rintro e w3 ⟨rfl, hD3, hc3⟩
 have hc3' := hco.trans hc3 (fun j q => .inl q)
 have hw3 : C0 ≤ w3.heap.size := by have := hc3.size; omega
 obtain ⟨zo, hzo⟩ : ∃ z, w3.heap.size = z := ⟨_, rfl⟩
 have hzF := lh (fun k (q : F k) => show k < zo from by have := hFw.out k q; omega)
 have hzc := lh (fun w' (hc : Chg F w3 w') => show zo ≤ w'.heap.size from by rw [← hzo]; exact hc.size)
 have hzw : C0 ≤ zo := by omega
 have hp3 : OwnSp w3 zo (.slice none 0 0) [] := OwnSp.nil _ _
 replace hgg := lh (fun w' (hc : Chg F w3 w') => hgg.out w' (hc3'.trans hc (fun j q => .inl q)))
 replace hgw := lh (fun w' (hc : Chg F w3 w') => hgw.out w' (hc3'.trans hc (fun j q => .inl q)))
 replace hcw := lh (fun w' (hc : Chg F w3 w') => hcw.out w' (hc3'.trans hc (fun j q => .inl q)))
 have hco3 := Chg.refl F w3
 clear hBg1 g0 g1 hc3 hco hc3' hw3 hwz hFw
 go_wp2_with fail
 go_loopw [12, 11] (fun i pl wr => ∃ (t : Nat) (S : Dv) (l : List Sp), t ≤ nA ∧ i = .int .i64 (t : Nat) ∧ DvAt wr B F S ∧ OwnSp wr zo pl l ∧ Chg F w3 wr ∧ Hid (WkI x N L G ln E (k0 + 600) s t S l)) (fun i _ _ => nA + 1 - (intOf i).toNat)
 case atStart => exact ⟨0, _, _, Nat.zero_le _, rfl, hD3, hp3, hco3, hI0⟩
 obtain ⟨t, S0, sp0, ht, rfl, hDr, hPr, hcr, hI⟩ := hrel
 clear hD3 hp3 hco3 hI0
 have gWr := hgw.out _ hcr
 have q0 := (row_cell gWr 0).1
 have q1 := (row_cell gWr 1).1
 have q2 := (row_cell gWr 2).1
 have q3 := (row_cell gWr 3).1
 have q4 := (row_cell gWr 4).1
 by_cases htn : t < nA
 rotate_left
 ·obtain rfl : nA = t := by omega
  have htn' : ¬ (nA : Int) < (nA : Int) := by omega
  have hWE := lh (hfin.out S0 sp0 hI.out)
  have hce := hcw.out _ hcr
  clear hNt hWn hSpn hVc hEc
  go_wp2_with fail
  go_ret
  exact ⟨_, sp0, S0, rfl, hDr, hce, hPr.mono (by omega), hWE⟩
 have htn' : (t : Int) < (nA : Int) := by omega
 obtain ⟨g0, g1⟩ := hgg.out _ hcr
 have hSp1 := hSpn.out t htn _ (hcw.out _ hcr)
 obtain ⟨b1, b2⟩ := hsb.out t
 obtain ⟨b3, b4⟩ := hsm.out t
 have hvt := hvW.out t htn
 have hlen0 := hI.out.len
 obtain ⟨V9, d9, hv9, hVf⟩ := hVc.out _ (hcw.out _ hcr)
 cases hv9
 obtain ⟨gv, ov, rfl, -, -, -⟩ := hVf wr t (Below.refl _ _) (by omega)
 obtain ⟨E9, d9, hv9, hEf⟩ := hEc.out _ (hcw.out _ hcr)
 cases hv9
 obtain ⟨ge, oe, rfl, -, -, -, -⟩ := hEf wr t (Below.refl _ _) (by omega)
 have hKV := lh (fun w' (hc : Chg F w3 w') => (hKMk.out w' (hcw.out _ hc)).v)
 have hKE := lh (fun w' (hc : Chg F w3 w') => (hKMk.out w' (hcw.out _ hc)).e)
 have htV : t < k.v.length := by rw [fw3.out]; omega
 have htE : t < k.e.length := by rw [fw4.out]; omega
 obtain ⟨bt, hbt⟩ : ∃ b, k.e.getD t false = b := ⟨_, rfl⟩
 obtain ⟨pv, hpv⟩ : ∃ b, k.v.getD t 0 = b := ⟨_, rfl⟩
 rw [hpv] at hvt
 replace hpv := lh hpv
 replace hbt := lh hbt
 clear hVf hEf
 generalize spA k L G f t = pa at *
 generalize spM k t = pm at *
 have hNt1 := lh (hNt.out t htn S0 sp0 hI.out pa pm b1 b2 b3 b4)
 have hWn1 := lh (hWn.out t S0 sp0 hI.out pa pm pv b1 b2 b3 b4)
 have hSk := lh hI.out.skip
 have paN : pa ≤ 1000 := by omega
 replace hSp1 := lh hSp1
 replace b1 := lh b1
 replace b2 := lh b2
 go_wp2_with fail
 refine hSp1.out.mono ?_
 rintro e w7 ⟨rfl, hb7⟩
 have hD7a := hDr.keep hb7
 have hP7a := hPr.keep hb7
 have hc7a := hcr.trans (Chg.of_below F hb7) (fun j q => .inl q)
 have e8 := bZ w7 (.cells #[.int .i64 (pa : Nat), .int .i64 (pm : Nat)] (70 : Nat))
 have gP7 := HB.new w7 #[.int .i64 (pa : Nat), .int .i64 (pm : Nat)] (70 : Nat)
 obtain ⟨w8, hw8⟩ : ∃ x, w7.alloc (.cells #[.int .i64 (pa : Nat), .int .i64 (pm : Nat)] (70 : Nat)) = x := ⟨_, rfl⟩
 obtain ⟨Cs, hCs⟩ : ∃ C, w7.heap.size = C := ⟨_, rfl⟩
 rw [hw8] at e8 gP7
 rw [hCs] at gP7
 have hD8 := hD7a.keep e8
 have hP8 := hP7a.keep e8
 have hc8 := hc7a.trans (Chg.of_below F e8) (fun j q => .inl q)
 have hnCs : ¬ F Cs := fun q => by have h1 := hzF.out _ q; have h2 := hzc.out _ hc7a; omega
 have hNt2 := hNt1.out _ (hcw.out _ hc8) hD8
 obtain ⟨u0, u1⟩ := gP7.c2
 obtain ⟨m0, m1⟩ := hgg.out _ hc8
 clear hDr hPr hcr hb7 e8 hD7a hP7a hc7a g0 g1 hSp1 q0 q1 q2 q3 q4 gWr hNt1 hD8
 subst hw8
 go_wp2_with fail
 refine hNt2.mono ?_
 rintro e w9 ⟨r, rfl, hc9, hrr⟩
 have hc7 := hc8.trans hc9 (fun j q => .inl q)
 have hP7 := hP8.chg hc9 (fun j q z => by have h1 := (hP8.lt j q).1; have h2 := hzF.out j z; omega)
 have gP9 := gP7.chgJ hc9 hnCs
 clear hNt2 u0 u1 m0 m1 hc8 hP8 hc9 gP7
 have gP7 := gP9
 clear gP9
 rcases hrr with ⟨rfl, hok, hD7⟩ | ⟨hr, hno, hD7⟩
 rotate_left
 ·have hr3 : (r != 0) = true := bne_iff_ne.2 hr
  have hr4 : decide (r = 0) = false := decide_eq_false hr
  clear hWn1 hno
  go_wp2_with fail
  go_roundw
  case rel => exact ⟨t + 1, _, _, by omega, by go_num, hD7, hP7, hc7, hSk⟩
  first | (simp [intOf]; done) | (simp [intOf]; omega)
 obtain ⟨hA1, hA2, hA3⟩ := hWn1.out hok
 have hGt := hA3 0 (Nat.zero_le _)
 have hGe := lh (hA3 pm (Nat.le_refl _))
 replace hA1 := lh hA1
 replace hA2 := lh hA2
 clear hA3 hWn1 hSk hok
 change GoodJ (noteD S0 N L ln pa pm) N _ at hGt
 generalize noteD S0 N L ln pa pm = S1 at *
 go_wp2_with fail
 go_loopw [14] (fun j wr => ∃ (t2 : Nat), t2 ≤ pm ∧ j = .int .i64 (t2 : Nat) ∧ DvAt wr B F (stoV S1 pa pv t2) ∧ OwnSp wr zo u11 sp0 ∧ Chg F w3 wr ∧ HB wr Cs #[.int .i64 (pa : Nat), .int .i64 (pm : Nat)] (70 : Nat)) (fun j _ => pm + 1 - (intOf j).toNat)
 case atStart => exact ⟨0, Nat.zero_le _, rfl, hD7, hP7, hc7, gP7⟩
 obtain ⟨t2, ht2, rfl, hD, hP, hc, gP⟩ := hrel
 clear hD7 hP7 hc7 gP7
 have gWq := hgw.out _ hc
 have q0 := (row_cell gWq 0).1
 have q1 := (row_cell gWq 1).1
 have q2 := (row_cell gWq 2).1
 have q3 := (row_cell gWq 3).1
 have q4 := (row_cell gWq 4).1
 obtain ⟨u0, u1⟩ := gP.c2
 by_cases h2 : t2 < pm
 rotate_left
 ·obtain rfl : pm = t2 := by omega
  have h2I : ¬ (pm : Int) < (pm : Int) := by omega
  obtain ⟨e0, hge⟩ := boL_cell (hKE.out _ hc) htE
  rw [hbt.out] at e0
  cases bt with
  | true =>
    have hEv := dEvict B F (stoV S1 pa pv pm) (pa : Nat) wr hD (hGe.out.good (by omega) (by omega) (by omega))
    go_wp2_with fail
    refine hEv.mono ?_
    rintro e w15 ⟨rfl, hD15, hc15⟩
    have hc16 := hc.trans hc15 (fun j q => .inl q)
    have hP16 := hP.chg hc15 (fun j q z => by have h1 := (hP.lt j q).1; have h2 := hzF.out j z; omega)
    have gP16 := gP.chgJ hc15 hnCs
    clear hEv hD hP hc gP hc15 u0 u1 q0 q1 q2 q3 q4 gWq
    obtain ⟨u0, u1⟩ := gP16.c2
    have eA4 := bZ w15 (.cells #[.int .i64 (pa : Nat), .int .i64 (pm : Nat)] (70 : Nat))
    obtain ⟨v8, w9, hrun, ho8, hg8, hor⟩ := app1 (s := ((pa : Int), (pm : Int))) (hP16.keep eA4) (HB.new w15 #[.int .i64 (pa : Nat), .int .i64 (pm : Nat)] 70).c2 (by have := hzc.out _ hc16; simp; omega) (by omega)
    have hS8 := Chg.of_grown (S := fun j => zo ≤ j) hg8 (fun j q => .inl (hP16.lt j q).1)
    have hD8 := (hD15.keep eA4).chg hS8 (fun j z q => by have := hzF.out j z; omega)
    have hc8 := (hc16.trans (Chg.of_below F eA4) (fun j q => .inl q)).trans hS8 (fun j q => .inr (by rw [hzo]; exact q))
    clear hS8 eA4 hg8 hor hP16 hD15 hc16 gP16
    go_wp2_with (at_builtin; refine wpList_append_run rfl _ _ 49 rfl _ _ _ rfl rfl hrun ?_)
    clear hrun
    go_roundw
    case rel => exact ⟨t + 1, _, _, by omega, by go_num, hD8, ho8, hc8, hA2⟩
    first | (simp [intOf]; done) | (simp [intOf]; omega)
  | false =>
    have eA4 := bZ wr (.cells #[.int .i64 (pa : Nat), .int .i64 (pm : Nat)] (70 : Nat))
    obtain ⟨v8, w9, hrun, ho8, hg8, hor⟩ := app1 (s := ((pa : Int), (pm : Int))) (hP.keep eA4) (HB.new wr #[.int .i64 (pa : Nat), .int .i64 (pm : Nat)] 70).c2 (by have := hzc.out _ hc; simp; omega) (by omega)
    have hS8 := Chg.of_grown (S := fun j => zo ≤ j) hg8 (fun j q => .inl (hP.lt j q).1)
    have hD8 := (hD.keep eA4).chg hS8 (fun j z q => by have := hzF.out j z; omega)
    have hc8 := (hc.trans (Chg.of_below F eA4) (fun j q => .inl q)).trans hS8 (fun j q => .inr (by rw [hzo]; exact q))
    clear hS8 eA4 hg8 hor hP hD hc gP
    go_wp2_with (at_builtin; refine wpList_append_run rfl _ _ 49 rfl _ _ _ rfl rfl hrun ?_)
    clear hrun
    go_roundw
    case rel => exact ⟨t + 1, _, _, by omega, by go_num, hD8, ho8, hc8, hA1⟩
    first | (simp [intOf]; done) | (simp [intOf]; omega)
 have h2I : (t2 : Int) < (pm : Int) := by omega
 have hGk := (hGt.stoV pa pv t2).good (by omega) (by omega) (by omega)
 obtain ⟨v0, hgv⟩ := (hKV.out _ hc).cellq (i := t) htV
 rw [hpv.out] at v0
 obtain ⟨ap, hap⟩ : ∃ a, pa + t2 = a := ⟨_, rfl⟩
 obtain ⟨yv, hyv⟩ : ∃ a, (pv + t2) % 18446744073709551616 = a := ⟨_, rfl⟩
 have hSt := lh (fun w2 (q : Below wr.heap.size wr w2) => show Calls Tryz.prog 35 #[.pointer (some ⟨B, 0, none⟩), .int .i64 (ap : Nat), .int .u64 (yv : Nat)] w2 (fun e w' => e = .returned (.tuple #[]) ∧ DvAt w' B F (stoV S1 pa pv (t2 + 1)) ∧ Chg F w2 w') from by
  have h := dStore B F (stoV S1 pa pv t2) (ap : Nat) yv w2 (hD.keep q) hGk
  rw [← hap, ← hyv] at h ⊢
  exact h)
 have x1 : IntKind.i64.wrap ((pa : Int) + (t2 : Int)) = (ap : Int) := (by rw [IntKind.wrap_i64]; omega)
 have x2 : IntKind.u64.wrap (t2 : Int) = (t2 : Int) := (by rw [IntKind.wrap_u64]; omega)
 have x3 : IntKind.u64.wrap ((pv : Int) + (t2 : Int)) = (yv : Int) := (by rw [IntKind.wrap_u64, ← hyv]; omega)
 replace hap := lh hap
 replace hyv := lh hyv
 have hCF := lh (fun w' (hb : Below wr.heap.size wr w') => show (w'.cell? ⟨Cs, 0, none⟩ = some (.int .i64 (pa : Nat)) ∧ w'.cell? ⟨Cs, 1, none⟩ = some (.int .i64 (pm : Nat))) ∧ w'.cell? ⟨C0 + 1, 2, none⟩ = some (.slice (some ⟨gv, ov, none⟩) nA cV) ∧ w'.cell? ⟨gv, ov + t, none⟩ = some (.int .u64 (pv : Nat)) from
  ⟨(gP.keep hb).c2, (row_cell (gWq.keep hb) 2).1, by rw [(bcell hb).1 _ _ hgv]; exact v0⟩)
 clear hGk
 go_wp2_with fail
 refine wp_region_tail (S := (fun w' => Below wr.heap.size wr w')) (n := 13) (by kernel_rfl) (Below.refl _ _).drew (fun hHeld hInv => ?_) (by decide)
 refine takeHS 0 hInv ?_; clear hInv; intro hInv
 refine takeHS 1 hInv ?_; clear hInv; intro hInv
 refine takeHS 2 hInv ?_; clear hInv; intro hInv
 refine takeHS 3 hInv ?_; clear hInv; intro hInv
 refine takeHS 4 hInv ?_; clear hInv; intro hInv
 refine takeHS 5 hInv ?_; clear hInv; intro hInv
 refine takeHS 6 hInv ?_; clear hInv; intro hInv
 refine takeHS 7 hInv ?_; clear hInv; intro hInv
 refine takeHS 8 hInv ?_; clear hInv; intro hInv
 refine takeHS 9 hInv ?_; clear hInv; intro hInv
 refine takeHS 10 hInv ?_; clear hInv; intro hInv
 refine takeHS 11 hInv ?_; clear hInv; intro hInv
 refine takeHS 12 hInv ?_; clear hInv; intro hInv
 refine lastS 13 rfl (by decide) (by kernel_rfl) (fun K hK => ?_)
 go_simp
 refine (hSt.out _ hHeld).mono ?_
 rintro e w14 ⟨rfl, hD4, hc4⟩
 refine hK.out _ _ ?_
 clear hK K
 try simp only [Act.put,sA,sB,sC]
 refine wpAnyS_done (by kernel_rfl) ?_ _
 have hc5 := hc.trans ((Chg.of_below F hHeld).trans hc4 (fun j q => .inl q)) (fun j q => .inl q)
 have hP5 := (hP.keep hHeld).chg hc4 (fun j q z => by have h1 := (hP.lt j q).1; have h2 := hzF.out j z; omega)
 have gP5 := (gP.keep hHeld).chgJ hc4 hnCs
 clear hCF hInv hHeld hc4 hSt hc v0 hD hP gP gWq u0 u1 q0 q1 q2 q3 q4 x1 x2 x3 hap hyv
 go_wp2_with fail
 go_roundw
 case rel => exact ⟨t2 + 1, by omega, by go_num, hD4, hP5, hc5, gP5⟩
 first | (simp [intOf]; done) | (simp [intOf]; omega)
end Go.Proofs.YtkkbngcgphlikaaGreatDoor
end
section
namespace Go.Proofs.YtkkbngcgphlikaaGreatDoor
open Go.Lib Go.RowKit Go.ChangeShapes Go.WideShapes Go.Deep Go.Shelf
theorem opPl_lt {x : List Nat} {N L G : Nat} (hx : PoolX x N L G) (h0 : 0 < G) (o : Ox) : opPl L G o < N ∧ opPl L G o < 10 + 73 * L + G ∧ 10 + 73 * L ≤ opPl L G o := by
 have hN := hx.hN
 unfold opPl
 have := Nat.mod_lt (o.2.1 % 65536).toNat h0
 omega
theorem bit_le {b : Nat} (h : b < 8) : 16777216 * 2 ^ b ≤ 2147483648 := by
 have : b = 0 ∨ b = 1 ∨ b = 2 ∨ b = 3 ∨ b = 4 ∨ b = 5 ∨ b = 6 ∨ b = 7 := by omega
 rcases this with q | q | q | q | q | q | q | q <;> rw [q] <;> decide
theorem opBit_le {x : List Nat} {N L G : Nat} (hx : PoolX x N L G) (h0 : 0 < G) (o : Ox) (hk : kN (x.getD (opPl L G o) 0) = 1) : opBit x L G o ≤ 2147483648 := by
 obtain ⟨h1, h2, h3⟩ := opPl_lt hx h0 o
 have ht := (hx.tab (opPl L G o - (10 + 73 * L)) (by omega)).1
 rw [show 10 + 73 * L + (opPl L G o - (10 + 73 * L)) = opPl L G o from by omega] at ht
 obtain ⟨m1, m2⟩ := mnN_pos ht hk
 unfold opBit
 exact bit_le (Nat.lt_of_lt_of_le (Nat.mod_lt _ (by omega)) m2)
theorem opsW_ok {x : List Nat} {N L G : Nat} {k : Wk} (hx : PoolX x N L G) (h0 : 0 < G) (hB : WkB k) (hf : fewW k = true) : OVs (opsW x L G k) ∧ rightB_rd (opsW x L G k) = true ∧ (opsW x L G k).length ≤ 19 := by
 have hl : k.o.length ≤ 8 := by
  unfold fewW at hf
  simp only [Bool.and_eq_true, decide_eq_true_eq] at hf
  omega
 have hlen : (opsW x L G k).length ≤ 19 := by unfold opsW; rw [List.length_map]; omega
 have key : ∀ o ∈ opsW x L G k, o.2.2 < 18446744073709551616 ∧ wrongB o = false := fun o ho => by
  unfold opsW at ho
  obtain ⟨p, hp, rfl⟩ := List.mem_map.1 ho
  obtain ⟨h1, h2, h3⟩ := opPl_lt hx h0 p
  have hn8 := hx.n8
  have hv := hB.o p hp
  unfold opOne
  by_cases hk : kN (x.getD (opPl L G p) 0) = 1
  rotate_left
  ·rw [if_neg hk]
   exact ⟨hv, by unfold wrongB; simp⟩
  have hb := opBit_le hx h0 p hk
  rw [if_pos hk]
  split
  ·refine ⟨by simp only []; omega, ?_⟩
   unfold wrongB
   simp
   omega
  refine ⟨by simp only []; omega, ?_⟩
  unfold wrongB
  simp
  omega
 refine ⟨fun o ho => (key o ho).1, ?_, hlen⟩
 unfold rightB_rd
 rw [decide_eq_true hlen, Bool.true_and, Bool.not_eq_true', List.any_eq_false]
 exact fun o ho => by rw [(key o ho).2]; decide
theorem undo_end {X : List Nat} {N L G kk m : Nat} {S : Dv} {l : List Sp} {ops : List Ox} (h : InvL X N L G kk (10 + 73 * L + G + 0 * 32) l 64 32 S) (hx : PoolX X N L G) (hk : kk < L) (hg : GoodJ S N m) (hl : ops.length ≤ 19) (hW : WL (encS ops)) (keep : List Nat) :
 GoodJ (fenceL S l) N (m + l.length * N + 1) ∧ GoodJ (readyD (fenceL S l) (10 + (L : Int) + (kk : Int) * 72 + 32) (encS ops)) N (m + l.length * N + 1 + 39 + (N + 1)) ∧ WL (crashD (readyD (fenceL S l) (10 + (L : Int) + (kk : Int) * 72 + 32) (encS ops)) keep).L ∧ (crashD (readyD (fenceL S l) (10 + (L : Int) + (kk : Int) * 72 + 32) (encS ops)) keep).L.length = N ∧
 ∃ J, mendD (crashD (readyD (fenceL S l) (10 + (L : Int) + (kk : Int) * 72 + 32) (encS ops)) keep).L = some J ∧ ((crashD (readyD (fenceL S l) (10 + (L : Int) + (kk : Int) * 72 + 32) (encS ops)) keep).L.getD 3 0 = L ∧ CalmW (tabW (crashD (readyD (fenceL S l) (10 + (L : Int) + (kk : Int) * 72 + 32) (encS ops)) keep).L L)) ∧ J.length = N ∧ heapL J L = heapL X L := by
 rw [show 10 + 73 * L + G + 0 * 32 = 10 + 73 * L + G from by omega] at h
 have hE : 10 + 73 * L + G ≤ 10 + 73 * L + G := Nat.le_refl _
 have hN1 : 1 ≤ N := by have := hx.hN; omega
 have g1 := GoodJ.fences hN1 l hg
 have g2 : GoodJ (readyD (fenceL S l) (10 + (L : Int) + (kk : Int) * 72 + 32) (encS ops)) N (m + l.length * N + 1 + 39 + (N + 1)) := (GoodJ.fences hN1 [(10 + (L : Int) + (kk : Int) * 72 + 32, ((encS ops).length : Int))] (GoodJ.stos (encS ops) _ g1)).mono (by rw [encS_len]; simp; omega)
 obtain ⟨c1, J, c2, c4, c3⟩ := ((h.fenceL hx hk hE l).ready hx hk hE hl hW).crash hx hk hE g2 keep
 exact ⟨g1, g2, c1, (g2.crash keep).len, J, c2, c4, c3.1, heap_same hx c3⟩
theorem journalUndo (s : Sk) (vT vY vE vF : Value) (vA vM vV vG vO : Value) (k : Wk) (vK : Value) (keep : List Nat) (ln fz : Nat) (hl8 : ln < 256) (hf8 : fz < 256) (w : World) (hw : Lw w) (hM : SkM w vT vY vE vF s) (hB : SkB s) (hKM : WkM w vA vM vV vG vO k) (hKB : WkB k) (hkk : KL .u8 w vK keep) (hkb : BL keep) :
 Calls Tryz.prog 3 #[skV s vT vY vE vF, .int .u8 (ln : Nat), .agg #[vA, vM, vV, vG, vO], .int .u8 (fz : Nat), vK] w fun e w' => e = .returned (.bool true) ∧ Below w.heap.size w w' := by
 obtain ⟨R, hR⟩ := stock_parts hB
 obtain ⟨AT, cT, AY, cY, AE, cE, AF, cF, rfl, rfl, rfl, rfl⟩ := hM.sl
 have hAw := lh (fun w1 (hb : Below w.heap.size w w1) => awake19 w1 (hw.keep hb))
 have hFe := lh (fun w1 => few16 s AT AY AE AF s.tiles.length cT s.types.length cY s.less.length cE s.fill.length cF w1 rfl rfl rfl rfl)
 have hSt := lh (fun w1 (hb : Below w.heap.size w w1) (hf : fewS s = true) => Stocked_any s _ _ _ _ w1 (hw.keep hb) (hM.keep hb) hB hf)
 obtain ⟨hg, hgN, hgat, hL1, hL3, hG1, hG8⟩ := gv_geo (gvS s)
 have hslen := stockL_len s
 have hNN : gvN (gvS s) = 10 + 73 * gvL (gvS s) + 33 * gvG (gvS s) := rfl
 have hGe := lh (fun w1 => show Calls Tryz.prog 13 #[.agg #[.int .u8 (s.a : Nat), .int .u8 (s.b : Nat), .slice none 0 0, .slice none 0 0, .slice none 0 0, .int .u64 0, .int .u64 0, .slice none 0 0]] w1 (fun e w' => e = .returned (.agg #[.int .i64 (gvN (gvS s) : Nat), .int .i64 (gvL (gvS s) : Nat)]) ∧ Below w1.heap.size w1 w') from
  geom_any { a := s.a, b := s.b, tiles := [], fill := [], items := [], root := 0, epoch := 0, spoil := [] } none none none none 0 0 0 0 0 0 0 0 w1 ⟨hB.a, hB.b, fun x hx => (by cases hx), fun x hx => (by cases hx), fun x hx => (by cases hx), (by show 0 < 18446744073709551616; decide), (by show 0 < 18446744073709551616; decide), fun x hx => (by cases hx)⟩)
 obtain ⟨AA, cA, AM, cM, AV, cV, AG, cG, AO, cO, rfl, rfl, rfl, rfl, rfl⟩ := hKM.sl
 have hFk := lh (fun w1 => few19 k AA AM AV AG AO k.a.length cA k.m.length cM k.v.length cV k.e.length cG k.o.length cO w1 rfl rfl rfl rfl rfl)
 obtain ⟨AK, cK, rfl, -⟩ := hkk.form rfl
 have hwk := lh (fun w1 (hb : Below w.heap.size w w1) => hw.keep hb)
 obtain ⟨X, hX⟩ : ∃ X, stockL s = X := ⟨_, rfl⟩
 obtain ⟨N, hN⟩ : ∃ N, gvN (gvS s) = N := ⟨_, rfl⟩
 obtain ⟨L, hL⟩ : ∃ L, gvL (gvS s) = L := ⟨_, rfl⟩
 obtain ⟨G, hG⟩ : ∃ G, gvG (gvS s) = G := ⟨_, rfl⟩
 rw [hX] at hSt hslen
 rw [hN] at hslen
 rw [hN, hL] at hGe hg hgat hgN
 rw [hN, hL, hG] at hNN
 rw [hG] at hgat hG1 hG8 hgN
 rw [hL] at hL1 hL3
 obtain ⟨nT, hnT⟩ : ∃ n, s.tiles.length = n := ⟨_, rfl⟩
 obtain ⟨nY, hnY⟩ : ∃ n, s.types.length = n := ⟨_, rfl⟩
 obtain ⟨nE, hnE⟩ : ∃ n, s.less.length = n := ⟨_, rfl⟩
 obtain ⟨nF, hnF⟩ : ∃ n, s.fill.length = n := ⟨_, rfl⟩
 rw [hnT, hnY, hnE, hnF] at hFe hSt
 rw [hnT, hnY, hnE, hnF]
 unfold skV at hFe hSt ⊢
 have hN9 : N ≤ 493 := by omega
 have hN1 : 44 ≤ N := by omega
 obtain ⟨nA, hnA⟩ : ∃ n, k.a.length = n := ⟨_, rfl⟩
 obtain ⟨nM, hnM⟩ : ∃ n, k.m.length = n := ⟨_, rfl⟩
 obtain ⟨nV, hnV⟩ : ∃ n, k.v.length = n := ⟨_, rfl⟩
 obtain ⟨nG, hnG⟩ : ∃ n, k.e.length = n := ⟨_, rfl⟩
 obtain ⟨nO, hnO⟩ : ∃ n, k.o.length = n := ⟨_, rfl⟩
 rw [hnA, hnM, hnV, hnG, hnO] at hFk hKM
 rw [hnA, hnM, hnV, hnG, hnO]
 obtain ⟨nK, hnK⟩ : ∃ n, keep.length = n := ⟨_, rfl⟩
 rw [hnK] at hkk ⊢
 rw [hX, hN, hL, hG] at hR
 have hPX := lh (fun hW : WL X => show PoolX X N L G ∧ ∀ ln : Int, logsT (tabW X L) ln = [] from by subst hX; exact stk_pool hR hW)
 have hkk0 := hkk
 clear hkk
 obtain ⟨kk, hkk⟩ : ∃ r, ln % L = r := ⟨_, rfl⟩
 have hkL : kk < L := by rw [← hkk]; exact Nat.mod_lt _ (by omega)
 have hr1 : (ln : Int) % (L : Int) = (kk : Int) := by rw [← hkk]; rfl
 have hr2 : (ln : Int).tmod (L : Int) = (kk : Int) := by rw [Int.tmod_eq_emod_of_nonneg (by omega)]; exact hr1
 have hr3 : ¬ (L : Int) = 0 := by omega
 have hr4 : ¬ L = 0 := by omega
 have hr5 : IntKind.i64.wrap (ln : Int) = (ln : Int) := (by rw [IntKind.wrap_i64]; omega)
 obtain ⟨fq, hfq⟩ : ∃ f, 1 + fz = f := ⟨_, rfl⟩
 have hr6 : IntKind.i64.wrap (fz : Int) = (fz : Int) := (by rw [IntKind.wrap_i64]; omega)
 have hr7 : IntKind.i64.wrap (1 + (fz : Int)) = (fq : Int) := (by rw [IntKind.wrap_i64]; omega)
 have hfq9 : fq ≤ 256 := by omega
 have hlk := lOk_of hg hkL
 have hKk := lh (fun w1 (hb : Below w.heap.size w w1) => hkk0.keep hb)
 have hkb' := lh hkb
 have hKB' := lh hKB
 have hKMk := lh (fun w1 (hb : Below w.heap.size w w1) => hKM.keep hb)
 have hgl := lh (show GoodJ (dv0 X) N 0 from by have h := GoodJ.zero X; rw [hslen] at h; exact h)
 clear hNN hgN hM hKM hKB hkb hB hw hkk0 hR
 replace hnV := lh hnV
 replace hnG := lh hnG
 replace hnA := lh hnA
 replace hnM := lh hnM
 replace hnO := lh hnO
 replace hnK := lh hnK
 replace hX := lh hX
 replace hN := lh hN
 replace hL := lh hL
 replace hG := lh hG
 replace hkk := lh hkk
 replace hfq := lh hfq
 have hb0 := bZ w (.cells #[.int .u8 (s.a : Nat), .int .u8 (s.b : Nat), .slice AT nT cT, .slice AY nY cY, .slice AE nE cE, .int .u32 (s.ep : Nat), .int .u8 (s.root : Nat), .slice AF nF cF] 27)
 have gS := HB.new w #[.int .u8 (s.a : Nat), .int .u8 (s.b : Nat), .slice AT nT cT, .slice AY nY cY, .slice AE nE cE, .int .u32 (s.ep : Nat), .int .u8 (s.root : Nat), .slice AF nF cF] 27
 obtain ⟨wb1, hwb1⟩ : ∃ x, w.alloc (.cells #[.int .u8 (s.a : Nat), .int .u8 (s.b : Nat), .slice AT nT cT, .slice AY nY cY, .slice AE nE cE, .int .u32 (s.ep : Nat), .int .u8 (s.root : Nat), .slice AF nF cF] 27) = x := ⟨_, rfl⟩
 have hswb1 : wb1.heap.size = w.heap.size + 1 := by rw [← hwb1]; simp
 rw [hwb1] at hb0 gS
 obtain ⟨C0, hC0⟩ : ∃ C, w.heap.size = C := ⟨_, rfl⟩
 have hB' : Below w.heap.size w wb1 := hb0
 rw [hC0] at gS
 clear hb0
 have hb0 := bZ wb1 (.cells #[.slice AA nA cA, .slice AM nM cM, .slice AV nV cV, .slice AG nG cG, .slice AO nO cO] 31)
 have gW := HB.new wb1 #[.slice AA nA cA, .slice AM nM cM, .slice AV nV cV, .slice AG nG cG, .slice AO nO cO] 31
 obtain ⟨wb2, hwb2⟩ : ∃ x, wb1.alloc (.cells #[.slice AA nA cA, .slice AM nM cM, .slice AV nV cV, .slice AG nG cG, .slice AO nO cO] 31) = x := ⟨_, rfl⟩
 have hswb2 : wb2.heap.size = C0 + 2 := by rw [← hwb2]; simp; omega
 rw [hwb2] at hb0 gW
 rw [hswb1, hC0] at gW
 have gS' := gS.keep hb0
 have hB0 := hB'.trans (hb0.mono hB'.size)
 clear hb0 gS hB'
 go_enter Tryz.func3, Tryz.ntmps3
 subst hwb2
 subst hwb1
 go_wp2_with fail
 refine (hAw.out _ hB0).mono ?_
 rintro e w1 ⟨rfl, hb1⟩
 have hB1 := hB0.trans (hb1.mono hB0.size)
 have gS1 := gS'.keep hb1
 have gW1 := gW.keep hb1
 clear hAw hb1 hB0 gS' gW
 have p0 := (row_cell gS1 0).1
 have p1 := (row_cell gS1 1).1
 have p2 := (row_cell gS1 2).1
 have p3 := (row_cell gS1 3).1
 have p4 := (row_cell gS1 4).1
 have p5 := (row_cell gS1 5).1
 have p6 := (row_cell gS1 6).1
 have p7 := (row_cell gS1 7).1
 go_wp2_with fail
 refine (hFe.out _).mono ?_
 rintro e w2 ⟨rfl, hb2⟩
 have hB2 := hB1.trans (hb2.mono hB1.size)
 have gS2 := gS1.keep hb2
 have gW2 := gW1.keep hb2
 clear p0 p1 p2 p3 p4 p5 p6 p7 hb2 hB1 gS1 hFe gW1
 have q0 := (row_cell gW2 0).1
 have q1 := (row_cell gW2 1).1
 have q2 := (row_cell gW2 2).1
 have q3 := (row_cell gW2 3).1
 have q4 := (row_cell gW2 4).1
 go_wp2_with fail
 refine (hFk.out _).mono ?_
 rintro e w3 ⟨rfl, hb3⟩
 have hB3 := hB2.trans (hb3.mono hB2.size)
 have gS3 := gS2.keep hb3
 have gW3 := gW2.keep hb3
 clear q0 q1 q2 q3 q4 hb3 hB2 gS2 gW2 hFk
 cases hfew : fewS s with
 | false =>
   go_wp2_with fail
   go_ret
   exact ⟨rfl, hB3⟩
 | true =>
   cases hfw : fewW k with
   | false =>
     go_wp2_with fail
     go_ret
     exact ⟨rfl, hB3⟩
   | true =>
     by_cases hk100 : 100 < nK
     ·have hk100I : (100 : Int) < (nK : Int) := by omega
      go_wp2_with fail
      go_ret
      exact ⟨rfl, hB3⟩
     have hk100I : ¬ (100 : Int) < (nK : Int) := by omega
     have hSt2 := hSt.out _ hB3 hfew
     clear hSt
     have p0 := (row_cell gS3 0).1
     have p1 := (row_cell gS3 1).1
     have p2 := (row_cell gS3 2).1
     have p3 := (row_cell gS3 3).1
     have p4 := (row_cell gS3 4).1
     have p5 := (row_cell gS3 5).1
     have p6 := (row_cell gS3 6).1
     have p7 := (row_cell gS3 7).1
     go_wp2_with fail
     refine hSt2.mono ?_
     rintro e w4 ⟨v4, rfl, hO4, hW, hb4⟩
     have hB4 := hB3.trans (hb4.mono hB3.size)
     have gS4 := gS3.keep hb4
     have gW4 := gW3.keep hb4
     clear p0 p1 p2 p3 p4 p5 p6 p7 hSt2 hb4 gS3 gW3 hB3
     obtain ⟨X4, c4, hv4, -⟩ := OwnU.form hO4
     rw [hslen] at hv4
     cases hv4
     have hk4 := hO4.kl
     have hl4 := World.ownsRow.lt hO4
     clear hO4
     have p0 := (row_cell gS4 0).1
     have p1 := (row_cell gS4 1).1
     go_wp2_with fail
     refine (hGe.out _).mono ?_
     rintro e w5 ⟨rfl, hb5⟩
     have hB5 := hB4.trans (hb5.mono hB4.size)
     have hk5 := hk4.keep hb5
     have gW5 := gW4.keep hb5
     have e6 := bZ w5 (.cells #[.int .i64 (N : Nat), .int .i64 (L : Nat)] (37 : Nat))
     have gG := HB.new w5 #[.int .i64 (N : Nat), .int .i64 (L : Nat)] (37 : Nat)
     obtain ⟨w6, hw6⟩ : ∃ x, w5.alloc (.cells #[.int .i64 (N : Nat), .int .i64 (L : Nat)] (37 : Nat)) = x := ⟨_, rfl⟩
     obtain ⟨Cg, hCg⟩ : ∃ C, w5.heap.size = C := ⟨_, rfl⟩
     rw [hw6] at e6 gG
     rw [hCg] at gG
     have hB6 := hB5.trans (e6.mono hB5.size)
     have hk6 := hk5.keep e6
     have hz6 : w4.heap.size ≤ w6.heap.size := by have h1 := hb5.size; have h2 := e6.size; omega
     have gW6 := gW5.keep e6
     have hOp := dOpen _ X w6 (by rw [hslen]; omega) (by rw [hslen]; omega) hk6
     clear p0 p1 gS4 hb5 hk4 hk5 e6 hB4 hB5 hGe gW4 gW5
     subst hw6
     go_wp2_with fail
     refine hOp.mono ?_
     rintro e wo ⟨B, F, rfl, hD, hF, hbo⟩
     have hBo := hB6.trans (hbo.mono hB6.size)
     have hF0 := lh (fun k (q : F k) => Nat.le_trans hB6.size (hF k q))
     have hFl := lh hD.lt
     have gGo := gG.keep hbo
     have hnCg : ¬ F Cg := fun q => by have h1 := hF Cg q; have h2 := gG.lt; omega
     have hgg := lh (fun w' (hc : Chg F wo w') => (gGo.chgJ hc hnCg).c2)
     have gWo := gW6.keep hbo
     have hnCw : ¬ F (C0 + 1) := fun q => by have h1 := hF (C0 + 1) q; have h2 := gW6.lt; omega
     have hgw := lh (fun w' (hc : Chg F wo w') => gWo.chgJ hc hnCw)
     have hkx := lh (fun w' (hc : Chg F wo w') => (hk6.keep hbo).far hc (fun k e q => by
      have h1 := hF k q
      have h2 := (hl4 k e).2
      have h3 := hz6
      omega))
     have hbw := lh (fun w' (hc : Chg F wo w') => hBo.trans (hc.below hF0.out hBo.size))
     have hco := Chg.refl F wo
     clear hOp hbo hF gG gGo hB6 hk6 hnCg hl4 hz6 gW6 gWo hnCw
     obtain ⟨hpx, hlog⟩ := hPX.out hW.out
     have hWn := hW.out
     have gd1 : GoodJ (fuseD (dv0 X) (fq : Int)) N 0 := hgl.out.fuseTo _ (by omega)
     have hs1 : ∀ i, i < N → ∀ u, PV (fuseD (dv0 X) (fq : Int)) i u → u = X.getD i 0 := fun i hi u hu => dv0_x X i (by omega) u hu
     obtain ⟨hov, hrb, hol⟩ := opsW_ok (k := k) hpx (by omega) hKB'.out hfw
     have hWe := encS_WL_md hov hrb
     have hend := lh (fun (S : Dv) (l : List Sp) (h : InvL X N L G kk (10 + 73 * L + G + 0 * 32) l 64 32 S) (g : GoodJ S N 50600) => undo_end h hpx hkL g hol hWe keep)
     have hFu := lh (fun w1 (q : DvAt w1 B F (dv0 X)) => dFuse B F (dv0 X) (fq : Int) w1 q)
     have hWk := lh (fun w1 (q : DvAt w1 B F (fuseD (dv0 X) (fq : Int))) (hc : Chg F wo w1) => show Calls Tryz.prog 16 #[.pointer (some ⟨B, 0, none⟩), .agg #[.int .i64 (N : Nat), .int .i64 (L : Nat)], .int .i64 (kk : Nat), .agg #[.slice AA nA cA, .slice AM nM cM, .slice AV nV cV, .slice AG nG cG, .slice AO nO cO], .int .i64 0] w1 (WorkP B F X N L G kk (10 + 73 * L + G + 0 * 32) (0 + 600) (fuseD (dv0 X) (fq : Int)) w1) from
      worked_any B F (fuseD (dv0 X) (fq : Int)) X N L G kk 0 0 k _ _ _ _ _ w1 (fun w' hc' => hwk.out w' (hbw.out _ (hc.trans hc' (fun j q => .inl q)))) q gd1 hpx (by omega) (by omega) hkL hs1 (hlog (kk : Nat)) (by omega) (fun w' hc' => hKMk.out w' (hbw.out _ (hc.trans hc' (fun j q => .inl q)))) hKB'.out hfw (by omega))
     have hOpC := lh (fun w1 (hc : Chg F wo w1) => show Calls Tryz.prog 19 #[_, .agg #[.int .i64 (N : Nat), .int .i64 (L : Nat)], .agg #[.slice AA nA cA, .slice AM nM cM, .slice AV nV cV, .slice AG nG cG, .slice AO nO cO]] w1 (fun e w' => ∃ v', e = .returned v' ∧ OwnE 107 3 opE w' w1.heap.size v' (opsW X L G k) ∧ Below w1.heap.size w1 w') from
      ops_any X N L G k _ _ _ _ _ _ w1 (hwk.out _ (hbw.out _ hc)) (hkx.out _ hc) hpx (hKMk.out _ (hbw.out _ hc)) hKB'.out hfw)
     have hHp := lh (fun (v : Value) (I : List Nat) w1 (hv : KL .u64 w1 v I) (hl : I.length = N) => heap_any v I N L G w1 hv hl hg hgat (by omega))
     have hXh : (heapL X L).length ≤ 1000000 := by unfold heapL; rw [List.length_append, List.length_take, List.length_drop, List.length_drop]; omega
     obtain ⟨zo, hzo⟩ : ∃ z, wo.heap.size = z := ⟨_, rfl⟩
     have hzF := lh (fun k (q : F k) => show k < zo from by rw [← hzo]; exact hFl.out k q)
     have hzc := lh (fun w' (hc : Chg F wo w') => show zo ≤ w'.heap.size from by rw [← hzo]; exact hc.size)
     generalize opsW X L G k = ops at *
     generalize fuseD (dv0 X) (fq : Int) = s1 at *
     clear hFl hgl gd1 hs1 hpx hlog hPX
     obtain ⟨X9, d9, hv9, hf9⟩ := (hkx.out _ hco).form hslen
     cases hv9
     clear hf9
     obtain ⟨g0, g1⟩ := hgg.out _ hco
     have gWq := hgw.out _ hco
     have q0 := (row_cell gWq 0).1
     have q1 := (row_cell gWq 1).1
     have q2 := (row_cell gWq 2).1
     have q3 := (row_cell gWq 3).1
     have q4 := (row_cell gWq 4).1
     go_wp2_with fail
     refine (hFu.out _ hD).mono ?_
     rintro e w7 ⟨rfl, hD7, hc7⟩
     have hWk7 := hWk.out _ hD7 hc7
     obtain ⟨g0, g1⟩ := hgg.out _ hc7
     have gWq := hgw.out _ hc7
     have hz7 := hzc.out _ hc7
     clear hFu hWk hD hD7 q0 q1 q2 q3 q4
     have q0 := (row_cell gWq 0).1
     have q1 := (row_cell gWq 1).1
     have q2 := (row_cell gWq 2).1
     have q3 := (row_cell gWq 3).1
     have q4 := (row_cell gWq 4).1
     go_wp2_with fail
     refine hWk7.mono ?_
     rintro e w8 ⟨v8, l, S, rfl, hD8, hc8, hP8, hE8⟩
     have hc8' := hc7.trans hc8 (fun j q => .inl q)
     obtain ⟨e1, e2, e3, e4, e5⟩ := hE8.out
     have e2' : GoodJ S N 50600 := e2
     obtain ⟨r1, r2, r3, r4, J, r5, ⟨r8, r9⟩, r6, r7⟩ := hend.out S l e1 e2'
     clear hWk7 hE8 hend hc7 hc8 q0 q1 q2 q3 q4 g0 g1
     obtain ⟨nl, hnl⟩ : ∃ n, l.length = n := ⟨_, rfl⟩
     obtain ⟨AP, cP, rfl⟩ := hP8.sl hnl
     rw [hnl] at e3 r1 r2
     have hmul : nl * N ≤ 3944 := Nat.mul_le_mul (show nl ≤ 8 by omega) (show N ≤ 493 by omega)
     have hPS : PS l := fun q hq => by have := e4 q hq; omega
     have hnP := lh (fun k' (e : (Value.slice AP nl cP).ownBlock = some k') (q : F k') => show False from by have h1 := (hP8.lt k' e).1; have h2 := hzF.out k' q; omega)
     have hSv := jSave B F S N 50600 (.slice AP nl cP) l w8 hD8 e2' (by omega) (by omega) (by rw [hnl]; omega) (fun w' hc' => (hP8.chg hc' hnP.out).pl) hPS (by omega)
     go_wp2_with fail
     refine hSv.mono ?_
     rintro e w9 ⟨rfl, hD9, hc9⟩
     have hc9' := hc8'.trans hc9 (fun j q => .inl q)
     have hRd := lh (fun v w1 (q : DvAt w1 B F (fenceL S l)) (hv : OPL w1 v ops) => jReady B F (fenceL S l) N L kk (50600 + nl * N + 1) v ops w1 q r1 (by omega) (by omega) (by omega) hlk (by omega) (by omega) hv hov hrb)
     clear hSv hD8 hc8' hc9 hP8 hnP hPS e1 e2 e2' e3 e4 e5 r1
     generalize fenceL S l = S2 at *
     obtain ⟨g0, g1⟩ := hgg.out _ hc9'
     have gWq := hgw.out _ hc9'
     have hkX := hkx.out _ hc9'
     have hOp9 := lh (fun w1 (hb : Below w9.heap.size w9 w1) => hOpC.out w1 (hc9'.trans (Chg.of_below F hb) (fun j q => .inl q)))
     have hCF := lh (fun w' (hb : Below w9.heap.size w9 w') => show (w'.cell? ⟨Cg, 0, none⟩ = some (.int .i64 (N : Nat)) ∧ w'.cell? ⟨Cg, 1, none⟩ = some (.int .i64 (L : Nat))) ∧ w'.cell? ⟨C0 + 1, 0, none⟩ = some (.slice AA nA cA) ∧ w'.cell? ⟨C0 + 1, 1, none⟩ = some (.slice AM nM cM) ∧ w'.cell? ⟨C0 + 1, 2, none⟩ = some (.slice AV nV cV) ∧ w'.cell? ⟨C0 + 1, 3, none⟩ = some (.slice AG nG cG) ∧ w'.cell? ⟨C0 + 1, 4, none⟩ = some (.slice AO nO cO) from
      ⟨hgg.out _ (hc9'.trans (Chg.of_below F hb) (fun j q => .inl q)), (row_cell (gWq.keep hb) 0).1, (row_cell (gWq.keep hb) 1).1, (row_cell (gWq.keep hb) 2).1, (row_cell (gWq.keep hb) 3).1, (row_cell (gWq.keep hb) 4).1⟩)
     clear g0 g1 gWq hOpC
     go_wp2_with fail
     refine wp_region_tail (S := (fun w' => Below w9.heap.size w9 w')) (n := 7) (by kernel_rfl) (Below.refl _ _).drew (fun hHeld hInv => ?_) (by decide)
     refine takeHS 0 hInv ?_; clear hInv; intro hInv
     refine takeHS 1 hInv ?_; clear hInv; intro hInv
     refine takeHS 2 hInv ?_; clear hInv; intro hInv
     refine takeHS 3 hInv ?_; clear hInv; intro hInv
     refine takeHS 4 hInv ?_; clear hInv; intro hInv
     refine takeHS 5 hInv ?_; clear hInv; intro hInv
     refine oneS 6 hInv (by decide) rfl (by kernel_rfl) (fun K hK => ?_)
     go_simp
     refine (hOp9.out _ hHeld).mono ?_
     rintro e w10 ⟨vo, rfl, hOo, hb⟩
     refine hK.out _ _ (hHeld.trans (hb.mono hHeld.size)) (fun hHeld2 hInv2 => ?_)
     clear hK K hHeld hInv
     have hHeld := hHeld2
     have hInv := hInv2
     clear hHeld2 hInv2
     try simp only [Act.put,sA,sB,sC] at hInv ⊢
     refine lastS 7 rfl (by decide) (by kernel_rfl) (fun K hK => ?_)
     go_simp
     refine (hRd.out _ _ (hD9.keep hHeld) (hOo.el opE_len)).mono ?_
     rintro e w11 ⟨rfl, hD11, hc11⟩
     refine hK.out _ _ ?_
     clear hK K
     try simp only [Act.put,sA,sB,sC]
     refine wpAnyS_done (by kernel_rfl) ?_ _
     have hc11' := hc9'.trans ((Chg.of_below F hHeld).trans hc11 (fun j q => .inl q)) (fun j q => .inl q)
     clear hCF hInv hHeld hc11 hRd hOp9 hD9 hc9' hOo hb
     generalize readyD S2 (10 + (L : Int) + (kk : Int) * 72 + 32) (encS ops) = S3 at *
     have hCr := dCrash B F S3 (.slice AK nK cK) keep w11 hD11 (r2.good (by omega) (by omega) (by omega)) hkb'.out (by rw [hnK.out]; omega) (fun w' hc' => hKk.out w' (hbw.out _ (hc11'.trans hc' (fun j q => .inl q))))
     go_wp2_with fail
     refine hCr.mono ?_
     rintro e w12 ⟨rfl, hD12, hc12⟩
     have hc12' := hc11'.trans hc12 (fun j q => .inl q)
     have hIm := dImage B F (crashD S3 keep) w12 hD12 (by rw [r4]; omega)
     clear hCr hD11 hc11' hc12 hD12 r2 hKk
     generalize (crashD S3 keep).L = I at *
     have hMe := lh (fun v w1 (hl1 : Lw w1) (hv : KL .u64 w1 v I) => show Calls Tryz.prog 21 #[v] w1 (fun e w' => ∃ v', e = .returned (.tuple #[v', .int .i64 0]) ∧ OwnU w' w1.heap.size v' J ∧ Below w1.heap.size w1 w') from by
      have h := mend_any v I w1 hl1 r3 hv (fun _ => by rw [r8]; exact r9) (by omega)
      rw [r5] at h
      exact h)
     clear r3 r5 r8 r9
     go_wp2_with fail
     refine hIm.mono ?_
     rintro e w13 ⟨v13, rfl, hO13, hb13⟩
     have hc13 := hc12'.trans (Chg.of_below F hb13) (fun j q => .inl q)
     have hMe1 := hMe.out _ _ (hwk.out _ (hbw.out _ hc13)) hO13.kl
     clear hIm hMe hc12' hb13 hO13
     go_wp2_with fail
     refine hMe1.mono ?_
     rintro e w14 ⟨v14, rfl, hO14, hb14⟩
     have hc14 := hc13.trans (Chg.of_below F hb14) (fun j q => .inl q)
     obtain ⟨A14, c14, hv14, -⟩ := OwnU.form hO14
     rw [r6] at hv14
     cases hv14
     have hkJ := hO14.kl
     have hkX := hkx.out _ hc14
     have hBe := hbw.out _ hc14
     have hCF := lh (fun w' (hb : Below w14.heap.size w14 w') => show w'.cell? ⟨Cg, 0, none⟩ = some (.int .i64 (N : Nat)) ∧ w'.cell? ⟨Cg, 1, none⟩ = some (.int .i64 (L : Nat)) from hgg.out _ (hc14.trans (Chg.of_below F hb) (fun j q => .inl q)))
     have hHJ := lh (fun w1 (hb : Below w14.heap.size w14 w1) => hHp.out _ J w1 (hkJ.keep hb) r6)
     have hHX := lh (fun w1 (hb : Below w14.heap.size w14 w1) => hHp.out _ X w1 (hkX.keep hb) hslen)
     rw [r7] at hHJ
     have hWd := lh (fun v u w1 (hv : KL .u64 w1 v (heapL X L)) (hu : KL .u64 w1 u (heapL X L)) => show Calls Tryz.prog 23 #[v, u] w1 (fun e w' => e = .returned (.bool true) ∧ Below w1.heap.size w1 w') from by
      have h := words_any v u (heapL X L) (heapL X L) w1 hXh hv hu
      rw [decide_eq_true rfl] at h
      exact h)
     generalize heapL X L = H at *
     clear hMe1 hO14 hb14 hkJ hkX hc13 hc14 hgg hgw hkx hbw hHp r7 hXh
     go_wp2_with fail
     refine wp_region_held_drew (S := (fun w' => Below w14.heap.size w14 w')) (by kernel_rfl) (Below.refl _ _).drew (fun hHeld => ?_)
     refine takeH 0 ?_
     refine takeH 1 ?_
     refine takeH 2 ?_
     refine takeH 3 ?_
     refine takeH 5 ?_
     refine takeH 6 ?_
     refine oneL 4 rfl (by kernel_rfl) (fun K hK => ?_)
     go_simp
     refine (hHJ.out _ hHeld).mono ?_
     rintro e w15 ⟨v15, rfl, hO15, hb⟩
     refine hK.out _ _ (hHeld.trans (hb.mono hHeld.size)) (fun hHeld2 => ?_)
     clear hK K hHeld
     have hHeld := hHeld2
     clear hHeld2
     try simp only [Act.put,sA,sB,sC]
     refine oneL 7 rfl (by kernel_rfl) (fun K hK => ?_)
     go_simp
     refine (hHX.out _ hHeld).mono ?_
     rintro e w16 ⟨v16, rfl, hO16, hb⟩
     have hk16 := (hO15.keep hb).kl
     refine hK.out _ _ (hHeld.trans (hb.mono hHeld.size)) (fun hHeld2 => ?_)
     clear hK K hHeld
     have hHeld := hHeld2
     clear hHeld2
     try simp only [Act.put,sA,sB,sC]
     refine oneL 8 rfl (by kernel_rfl) (fun K hK => ?_)
     go_simp
     refine (hWd.out _ _ _ hk16 hO16.kl).mono ?_
     rintro e w17 ⟨rfl, hb⟩
     refine hK.out _ _ (hHeld.trans (hb.mono hHeld.size)) (fun hHeld2 => ?_)
     clear hK K hHeld
     have hHeld := hHeld2
     clear hHeld2
     try simp only [Act.put,sA,sB,sC]
     refine takeH 9 ?_
     refine takeH 10 ?_
     refine wpAnyH_done (by kernel_rfl) ?_ _
     have hBz := hBe.trans (hHeld.mono hBe.size)
     clear hCF
     go_wp2_with fail
     go_ret
     exact ⟨rfl, hBz⟩
end Go.Proofs.YtkkbngcgphlikaaGreatDoor
end
