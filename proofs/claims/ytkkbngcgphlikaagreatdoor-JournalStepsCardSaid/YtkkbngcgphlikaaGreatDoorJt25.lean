/-
  Part of the proof of JournalSteps.
-/
import Derived.Test.YtkkbngcgphlikaaGreatDoorJt16
import Derived.Test.YtkkbngcgphlikaaGreatDoorJt24
import Derived.Test.YtkkbngcgphlikaaGreatDoorRows
import Derived.Test.YtkkbngcgphlikaaGreatDoorJt0
set_option maxRecDepth 100000
set_option maxHeartbeats 2000000
set_option linter.unusedVariables false
set_option linter.unusedSimpArgs false
section
namespace Go.Proofs.YtkkbngcgphlikaaGreatDoor
open Go.RowKit Go.ChangeShapes Go.WideShapes Go.Deep
structure Bs (ke : Nat → Int) (n k : Nat) (d0 d : List Nat) : Prop where
 mv : Mv 0 n d0 d
 ls : Lss nI d 0 20 20 n
 rest : Srt nI d (20 * k) n
 one : 1 ≤ k → Srt ke d 0 20
 two : 2 ≤ k → Srt ke d 20 40
theorem Bs.start {ke : Nat → Int} {n : Nat} {d : List Nat} (h : Srt nI d 0 n) : Bs ke n 0 d d := ⟨Mv.refl _ _ _, asc_lss h, h, fun h => by omega, fun h => by omega⟩
theorem Bs.step {ke : Nat → Int} {n k : Nat} {d0 d e : List Nat} (h : Bs ke n k d0 d) (hk : k ≤ 1) (hn : 20 * k + 20 ≤ n) (m : Mv (20 * k) (20 * k + 20) d e) (s : Srt ke e (20 * k) (20 * k + 20)) : Bs ke n (k + 1) d0 e := by
 have hk2 : k = 0 ∨ k = 1 := by omega
 refine ⟨h.mv.trans (m.wide (Nat.zero_le _) hn), h.ls.mvA m (by omega) (by omega), ?_, fun _ => ?_, fun q => ?_⟩
 ·exact (h.rest.mono (by omega) (Nat.le_refl _)).mv m (.inl (by omega))
 ·rcases hk2 with rfl | rfl
  ·exact s
  exact (h.one (Nat.le_refl _)).mv m (.inr (by omega))
 obtain rfl : k = 1 := by omega
 exact s
structure Bf (ke : Nat → Int) (n : Nat) (d0 d : List Nat) : Prop where
 mv : Mv 0 n d0 d
 ls : Lss nI d 0 20 20 n
 few : n ≤ 20 → Srt ke d 0 n
 lo : 20 < n → Srt ke d 0 20
 hi : 20 < n → Srt ke d 20 n
theorem Bs.last {ke : Nat → Int} {n k : Nat} {d0 d e : List Nat} (h : Bs ke n k d0 d) (hk : k ≤ 2) (hn : 20 * k ≤ n) (hn2 : n < 20 * k + 20) (h40 : n ≤ 40) (m : Mv (20 * k) n d e) (s : Srt ke e (20 * k) n) : Bf ke n d0 e := by
 have hk2 : k = 0 ∨ k = 1 ∨ k = 2 := by omega
 have hls : Lss nI e 0 20 20 n := h.ls.mvA m (by omega) (by omega)
 refine ⟨h.mv.trans (m.wide (Nat.zero_le _) (Nat.le_refl _)), hls, fun q => ?_, fun q => ?_, fun q => ?_⟩
 ·rcases hk2 with rfl | rfl | rfl
  ·exact s
  ·obtain rfl : n = 20 := by omega
   exact (h.one (Nat.le_refl _)).mv m (.inr (by omega))
  omega
 ·exact (h.one (by omega)).mv m (.inr (by omega))
 rcases hk2 with rfl | rfl | rfl
 ·omega
 ·exact s
 obtain rfl : n = 40 := by omega
 exact (h.two (Nat.le_refl _)).mv m (.inr (by omega))
theorem stable_any (cb : Array Value) (f ke : Nat → Int) (N base g n cap : Nat) (w0 : World) (d0 : List Nat) (w : World) (HC : Hid (CmpOk cb f N base w0)) (K : Hid (Key N f ke)) (S0 : SD w0 base g n cap d0 w) (hn : n ≤ 40) (hN : Hid (∀ x ∈ d0, x < N)) (hA : Hid (Srt nI d0 0 n)) :
 Calls Tryz.prog 201 #[.slice (some ⟨g, 0, none⟩) n cap, .int .i64 n, .func (.func 193) #[] cb] w fun e w' => e = .returned (.tuple #[]) ∧ ∃ d1, SD w0 base g n cap d1 w' ∧ Mv 0 n d0 d1 ∧ Srt ke d1 0 n := by
 replace S0 := lh S0
 have hIn := lh (fun (a b : Nat) (d : List Nat) (w : World) (S : SD w0 base g n cap d w) (h1 : a ≤ b) (h2 : b ≤ n) (hN : ∀ x ∈ d, x < N) (hA : Srt nI d a b) => insertion_any cb f ke N a b base g n cap d w0 w HC K S h1 h2 (by omega) hN hA)
 have hSy := lh (symMerge_ok cb f ke N base g n cap w0 HC K (by omega) 1000)
 have hn' : (n : Int) ≤ 40 := by omega
 go_enter Tryz.func201, Tryz.ntmps201
 go_wp2_with fail
 go_loopw [7, 8] (fun u v wr => ∃ (k : Nat) (d : List Nat), k ≤ 2 ∧ 20 * k ≤ n ∧ u = .int .i64 (20 * k : Nat) ∧ v = .int .i64 (20 * k + 20 : Nat) ∧ Hid (SD w0 base g n cap d wr) ∧ Hid (Bs ke n k d0 d)) (fun u _ _ => 41 - (intOf u).toNat)
 case atStart => exact ⟨0, d0, by omega, by omega, rfl, rfl, S0, Bs.start hA⟩
 obtain ⟨k, d, hk, hkn, rfl, rfl, hS, hB⟩ := hrel
 obtain ⟨a, ha⟩ : ∃ a, 20 * k = a := ⟨_, rfl⟩
 have hNd := lh (fun x (hx : x ∈ d) => hN.out x (hB.out.mv.perm.mem_iff.1 hx))
 rw [ha]
 obtain ⟨b, hb⟩ : ∃ b, a + 20 = b := ⟨_, rfl⟩
 rw [hb]
 by_cases hlt : b ≤ n
 ·have hlt' : (b : Int) ≤ (n : Int) := by omega
  have hc := lh (hIn.out a b d wr hS.out (by omega) hlt hNd.out ((ha ▸ hB.out.rest).mono (Nat.le_refl _) hlt))
  have hst := lh (fun (e : List Nat) (m : Mv a b d e) (s : Srt ke e a b) => hB.out.step (by omega) (by omega) (by rw [ha, hb]; exact m) (by rw [ha, hb]; exact s))
  replace ha := lh ha
  replace hb := lh hb
  go_wp2_with fail
  refine hc.out.mono ?_
  rintro e w1 ⟨rfl, d1, S1, M1, T1⟩
  have hB2 := lh (hst.out d1 M1 T1)
  replace S1 := lh S1
  clear M1 T1 hst hc
  go_wp2_with fail
  go_roundw
  case rel => exact ⟨k + 1, d1, by have := ha.out; have := hb.out; omega, by have := ha.out; have := hb.out; omega, by congr 1; have := ha.out; have := hb.out; omega, by congr 1; have := ha.out; have := hb.out; omega, S1, hB2⟩
  have := ha.out; have := hb.out; first | (simp [intOf]; done) | (simp [intOf]; omega)
 have hlt' : ¬ (b : Int) ≤ (n : Int) := by omega
 have hc := lh (hIn.out a n d wr hS.out (by omega) (Nat.le_refl _) hNd.out (ha ▸ hB.out.rest))
 have hst := lh (fun (e : List Nat) (m : Mv a n d e) (s : Srt ke e a n) => hB.out.last hk hkn (by omega) hn (by rw [ha]; exact m) (by rw [ha]; exact s))
 replace ha := lh ha
 replace hb := lh hb
 go_wp2_with fail
 refine hc.out.mono ?_
 rintro e w1 ⟨rfl, d1, S1, M1, T1⟩
 have hF := lh (hst.out d1 M1 T1)
 replace S1 := lh S1
 clear M1 T1 hst hc hB hS hNd hlt hlt' hIn
 go_wp2_with fail
 have hN1 := lh (fun x (hx : x ∈ d1) => hN.out x (hF.out.mv.perm.mem_iff.1 hx))
 go_loopw [6] (fun u wr => ∃ d, (u = .int .i64 20 ∧ d = d1 ∧ Hid (SD w0 base g n cap d wr)) ∨ (u = .int .i64 40 ∧ Hid (SD w0 base g n cap d wr ∧ Mv 0 n d0 d ∧ Srt ke d 0 n))) (fun u _ => 41 - (intOf u).toNat)
 case atStart => exact ⟨d1, .inl ⟨rfl, rfl, S1⟩⟩
 obtain ⟨d, hrel⟩ := hrel
 rcases hrel with ⟨rfl, rfl, hS⟩ | ⟨rfl, hS⟩
 rotate_left
 ·have hl' : ¬ (40 : Int) < (n : Int) := by omega
  go_wp2_with fail
  (first | go_end0 | go_ret)
  exact ⟨rfl, d, hS.out⟩
 by_cases hl : 20 < n
 rotate_left
 ·have hl' : ¬ (20 : Int) < (n : Int) := by omega
  go_wp2_with fail
  (first | go_end0 | go_ret)
  exact ⟨rfl, d, hS.out, hF.out.mv, hF.out.few (by omega)⟩
 have hl' : (20 : Int) < (n : Int) := by omega
 have hm := lh (fun (w : World) (S : SD w0 base g n cap d w) => hSy.out 0 20 n d w (by omega) S (by omega) hl (Nat.le_refl _) hN1.out (hF.out.lo hl) (hF.out.hi hl) hF.out.ls)
 by_cases h40 : n = 40
 rotate_left
 ·have hl2 : ¬ (40 : Int) ≤ (n : Int) := by omega
  go_wp2_with fail
  go_loopw [7, 8] (fun u v wr => u = .int .i64 0 ∧ v = .int .i64 40 ∧ Hid (SD w0 base g n cap d wr)) (fun _ _ _ => 0)
  case atStart => exact ⟨rfl, rfl, hS⟩
  obtain ⟨rfl, rfl, hS2⟩ := hrel
  go_wp2_with fail
  refine (hm.out _ hS2.out).mono ?_
  rintro e w2 ⟨rfl, e2, S2, M2, T2⟩
  have hR := lh (show SD w0 base g n cap e2 w2 ∧ Mv 0 n d0 e2 ∧ Srt ke e2 0 n from ⟨S2, hF.out.mv.trans M2, T2⟩)
  clear S2 M2 T2
  go_wp2_with fail
  go_roundw
  case rel => exact ⟨e2, .inr ⟨rfl, hR⟩⟩
  first | (simp [intOf]; done) | (simp [intOf]; omega)
 have hl2 : (40 : Int) ≤ (n : Int) := by omega
 have hl3 : ¬ (80 : Int) ≤ (n : Int) := by omega
 have hl4 : ¬ (60 : Int) < (n : Int) := by omega
 have hm4 := lh (fun (w : World) (S : SD w0 base g n cap d w) => show Calls Tryz.prog 217 #[.slice (some ⟨g, 0, none⟩) n cap, .int .i64 0, .int .i64 20, .int .i64 40, .func (.func 193) #[] cb] w (fun e w' => e = .returned (.tuple #[]) ∧ ∃ d1, SD w0 base g n cap d1 w' ∧ Mv 0 n d d1 ∧ Srt ke d1 0 n) from by
  have c := hm.out w S
  have e : (n : Int) = 40 := by omega
  rw [e] at c
  exact c)
 replace h40 := lh h40
 go_wp2_with fail
 go_loopw [7, 8] (fun u v wr => (u = .int .i64 0 ∧ v = .int .i64 40 ∧ Hid (SD w0 base g n cap d wr)) ∨ (u = .int .i64 40 ∧ v = .int .i64 80 ∧ Hid (∃ e, SD w0 base g n cap e wr ∧ Mv 0 n d0 e ∧ Srt ke e 0 n))) (fun u _ _ => 41 - (intOf u).toNat)
 case atStart => exact .inl ⟨rfl, rfl, hS⟩
 rcases hrel with ⟨rfl, rfl, hS2⟩ | ⟨rfl, rfl, hS2⟩
 ·go_wp2_with fail
  refine (hm4.out _ hS2.out).mono ?_
  rintro e w2 ⟨rfl, e2, S2, M2, T2⟩
  have hR := lh (show ∃ e, SD w0 base g n cap e w2 ∧ Mv 0 n d0 e ∧ Srt ke e 0 n from ⟨e2, S2, hF.out.mv.trans M2, T2⟩)
  clear S2 M2 T2
  go_wp2_with fail
  go_roundw
  case rel => exact .inr ⟨rfl, rfl, hR⟩
  first | (simp [intOf]; done) | (simp [intOf]; omega)
 go_wp2_with fail
 go_roundw
 case rel =>
  obtain ⟨e2, S2, M2, T2⟩ := hS2.out
  exact ⟨e2, .inr ⟨rfl, S2, M2, T2⟩⟩
 first | (simp [intOf]; done) | (simp [intOf]; omega)
theorem insertion_nil (A : Option Addr) (cap : Nat) (F : Value) (w : World) :
 Calls Tryz.prog 216 #[.slice A 0 cap, .int .i64 0, .int .i64 0, F] w fun e w' => e = .returned (.tuple #[]) ∧ w' = w := by
 go_enter Tryz.func216, Tryz.ntmps216
 go_wp2_with fail
 go_loopw [8] (fun u wr => u = .int .i64 1 ∧ wr = w) (fun _ _ => 0)
 case atStart => exact ⟨rfl, rfl⟩
 obtain ⟨rfl, rfl⟩ := hrel
 go_wp2_with fail
 (first | go_end0 | go_ret)
 exact ⟨rfl, rfl⟩
theorem stable_nil (A : Option Addr) (cap : Nat) (F : Value) (w : World) :
 Calls Tryz.prog 201 #[.slice A 0 cap, .int .i64 0, F] w fun e w' => e = .returned (.tuple #[]) ∧ w' = w := by
 go_enter Tryz.func201, Tryz.ntmps201
 go_wp2_with fail
 go_loopw [7, 8] (fun u v wr => u = .int .i64 0 ∧ v = .int .i64 20 ∧ wr = w) (fun _ _ _ => 0)
 case atStart => exact ⟨rfl, rfl, rfl⟩
 obtain ⟨rfl, rfl, rfl⟩ := hrel
 go_wp2_with fail
 refine (insertion_nil A cap F _).mono ?_
 rintro e w1 ⟨rfl, rfl⟩
 go_wp2_with fail
 go_loopw [6] (fun u wr => u = .int .i64 20 ∧ wr = w1) (fun _ _ => 0)
 case atStart => exact ⟨rfl, rfl⟩
 obtain ⟨rfl, rfl⟩ := hrel
 go_wp2_with fail
 (first | go_end0 | go_ret)
 exact ⟨rfl, rfl⟩
theorem sortStable_nil (A : Option Addr) (cap : Nat) (F : Value) (w : World) :
 Calls Tryz.prog 192 #[.slice A 0 cap, F] w fun e w' => e = .returned (.tuple #[]) ∧ w' = w := by
 go_enter Tryz.func192, Tryz.ntmps192
 go_wp2_with fail
 refine (stable_nil A cap F _).mono ?_
 rintro e w1 ⟨rfl, rfl⟩
 go_wp2_with fail
 (first | go_end0 | go_ret)
 exact ⟨rfl, rfl⟩
theorem sortStable_any (cb : Array Value) (f ke : Nat → Int) (N base g n cap : Nat) (w0 : World) (d0 : List Nat) (w : World) (HC : Hid (CmpOk cb f N base w0)) (K : Hid (Key N f ke)) (S0 : SD w0 base g n cap d0 w) (hn : n ≤ 40) (hN : Hid (∀ x ∈ d0, x < N)) (hA : Hid (Srt nI d0 0 n)) :
 Calls Tryz.prog 192 #[.slice (some ⟨g, 0, none⟩) n cap, .func (.func 193) #[] cb] w fun e w' => e = .returned (.tuple #[]) ∧ ∃ d1, SD w0 base g n cap d1 w' ∧ Mv 0 n d0 d1 ∧ Srt ke d1 0 n := by
 have hS := stable_any cb f ke N base g n cap w0 d0 w HC K S0 hn hN hA
 replace S0 := lh S0
 go_enter Tryz.func192, Tryz.ntmps192
 go_wp2_with fail
 refine hS.mono ?_
 rintro e w1 ⟨rfl, hP⟩
 replace hP := lh hP
 go_wp2_with fail
 (first | go_end0 | go_ret)
 exact ⟨rfl, hP.out⟩
end Go.Proofs.YtkkbngcgphlikaaGreatDoor
end
section
namespace Go.Proofs.YtkkbngcgphlikaaGreatDoor
open Go.RowKit
theorem chunk_yes (W L i : Int) (w : World) (h : gOk W L = true) (hi : 0 ≤ i) (hi2 : i < gN W L) :
 Calls Tryz.prog 88 #[.agg #[.int .i64 W, .int .i64 L], .int .i64 i] w fun e w' => e = .returned (.agg #[.int .i64 (cFrom W L i), .int .i64 32]) ∧ Below w.heap.size w w' := by
 obtain ⟨n1, n2, n3, n4⟩ := gN_bd h
 obtain ⟨h1, h2, h3, h4⟩ := gOk_t h
 have H := lh h
 clear h
 go_enter Tryz.func88, Tryz.ntmps88
 go_wp2_with fail
 refine (table_t W L _ H.out).mono ?_
 rintro e w1 ⟨rfl, hb⟩
 have k1 := (C2.new (w.alloc (.cells #[.int .i64 W, .int .i64 L] 37)) (.int .i64 0) (.int .i64 0) 70).keep hb
 have f1 := (F2.new (w.alloc (.cells #[.int .i64 W, .int .i64 L] 37)) (.int .i64 0) (.int .i64 0) 70).keep (by simp) hb
 simp only [World.size_alloc] at k1 f1
 have lt1 := k1.lt
 obtain ⟨c0, c1⟩ := id k1
 obtain ⟨g0, g1⟩ := id f1
 have hB : Below w.heap.size w w1 := ((bZ _ _).alloc (by simp) _).trans (hb.mono (by simp; omega))
 go_wp2_with fail
 refine bodyPost_ret (v := .agg #[.int .i64 (cFrom W L i), .int .i64 32]) (by simp [results, Tryz.results88, go_sem, c0, c1, lt1, cFrom]) rfl ⟨rfl, ?_⟩
 go_grown
theorem of_yes (W L i : Int) (w : World) (h : gOk W L = true) (hi : cFrom W L 0 ≤ i) (hi2 : i < cFrom W L (gN W L)) :
 Calls Tryz.prog 130 #[.agg #[.int .i64 W, .int .i64 L], .int .i64 i] w fun e w' => e = .returned (.tuple #[.int .i64 ((i - cFrom W L 0) / 32), .int .i64 ((i - cFrom W L 0) % 32)]) ∧ Below w.heap.size w w' := by
 obtain ⟨n1, n2, n3, n4⟩ := gN_bd h
 obtain ⟨h1, h2, h3, h4⟩ := gOk_t h
 unfold cFrom at hi hi2 ⊢
 have H := lh h
 clear h
 go_enter Tryz.func130, Tryz.ntmps130
 go_wp2_with fail
 refine (table_t W L _ H.out).mono ?_
 rintro e w1 ⟨rfl, hb⟩
 have hz1 : w.heap.size < w1.heap.size := by have := hb.size; simp at this; omega
 have hB : Below w.heap.size w w1 := (bZ _ _).trans (hb.mono (by simp))
 go_wp2_with fail
 go_ret2
 exact ⟨ret_ii (by omega) (by omega), hB.alloc (by omega) _⟩
theorem of_low (W L i : Int) (w : World) (h : gOk W L = true) (hi : i < cFrom W L 0) :
 Calls Tryz.prog 130 #[.agg #[.int .i64 W, .int .i64 L], .int .i64 i] w fun e w' => e = .returned (.tuple #[.int .i64 (-1), .int .i64 (-1)]) ∧ Below w.heap.size w w' := by
 obtain ⟨n1, n2, n3, n4⟩ := gN_bd h
 obtain ⟨h1, h2, h3, h4⟩ := gOk_t h
 unfold cFrom at hi
 have H := lh h
 clear h
 go_enter Tryz.func130, Tryz.ntmps130
 go_wp2_with fail
 refine (table_t W L _ H.out).mono ?_
 rintro e w1 ⟨rfl, hb⟩
 have hz1 : w.heap.size < w1.heap.size := by have := hb.size; simp at this; omega
 have hB : Below w.heap.size w w1 := (bZ _ _).trans (hb.mono (by simp))
 go_wp2_with fail
 go_ret2
 exact ⟨ret_ii (by omega) (by omega), hB.alloc (by omega) _⟩
theorem of_high (W L i : Int) (w : World) (h : gOk W L = true) (hi : cFrom W L 0 ≤ i) (hi2 : cFrom W L (gN W L) ≤ i) :
 Calls Tryz.prog 130 #[.agg #[.int .i64 W, .int .i64 L], .int .i64 i] w fun e w' => e = .returned (.tuple #[.int .i64 (-1), .int .i64 (-1)]) ∧ Below w.heap.size w w' := by
 obtain ⟨n1, n2, n3, n4⟩ := gN_bd h
 obtain ⟨h1, h2, h3, h4⟩ := gOk_t h
 unfold cFrom at hi hi2
 have H := lh h
 clear h
 go_enter Tryz.func130, Tryz.ntmps130
 go_wp2_with fail
 refine (table_t W L _ H.out).mono ?_
 rintro e w1 ⟨rfl, hb⟩
 have hz1 : w.heap.size < w1.heap.size := by have := hb.size; simp at this; omega
 have hB : Below w.heap.size w w1 := (bZ _ _).trans (hb.mono (by simp))
 go_wp2_with fail
 go_ret2
 exact ⟨ret_ii (by omega) (by omega), hB.alloc (by omega) _⟩
end Go.Proofs.YtkkbngcgphlikaaGreatDoor
end
