/-
  Part of the proof of JournalUndo.
-/
import Derived.Test.YtkkbngcgphlikaaGreatDoorJu39
import Derived.Test.YtkkbngcgphlikaaGreatDoorRows
import Derived.Test.YtkkbngcgphlikaaGreatDoorJu0
set_option maxRecDepth 10000
set_option maxHeartbeats 1000000
set_option linter.unusedVariables false
set_option linter.unusedSimpArgs false
section
namespace Go.Proofs.YtkkbngcgphlikaaGreatDoor
open Go.Lib Go.RowKit Go.ChangeShapes Go.WideShapes Go.Deep Go.Shelf
def p1 : Gv := { a := 0, b := 0, tiles := [], fill := [], items := [(0, 2, 0, [], [(0, 8, 5)])], root := 0, epoch := 0, spoil := [] }
end Go.Proofs.YtkkbngcgphlikaaGreatDoor
end
section
namespace Go.Proofs.YtkkbngcgphlikaaGreatDoor
open Go.Lib Go.RowKit Go.ChangeShapes Go.WideShapes Go.Deep Go.Shelf
theorem make_any (p : Gv) (vT vF vI vS : Value) (xs : List ItV) (w : World) (hw : Lw w) (hM : GvM w vT vF vI vS xs p) (hB : GvB p) (hfw : fewB p = true) (hi0 : p.items = []) (hs0 : p.spoil = []) :
 Calls Tryz.prog 31 #[gvV p vT vF vI vS] w fun e w' => ∃ v', e = .returned v' ∧ OwnU w' w.heap.size v' (makeL p) ∧ Hid (WL (makeL p)) ∧ Below w.heap.size w w' := by
 exact (make_f p vT vF vI vS xs w hw hM hB hfw hi0 hs0).mono (fun e w' h => Exists.elim h (fun v' h => ⟨v', h.1, h.2.1, lh (makeL_WL hB h.2.2.1), h.2.2.2⟩))
theorem gv_len (p : Gv) : (makeL p).length = gvN p ∧ gvN p ≤ 493 := by
 refine ⟨makeL_len p, ?_⟩
 obtain ⟨_, _, _, h1, h2, h3, h4⟩ := gv_geo p
 show 10 + 73 * gvL p + 33 * gvG p ≤ 493
 omega
end Go.Proofs.YtkkbngcgphlikaaGreatDoor
end
section
namespace Go.Proofs.YtkkbngcgphlikaaGreatDoor
open Go.Lib Go.RowKit Go.ChangeShapes Go.WideShapes Go.Deep Go.Shelf
structure Sk where
 a : Nat
 b : Nat
 tiles : List Nat
 types : List Nat
 less : List Nat
 ep : Nat
 root : Nat
 fill : List Nat
structure SkM (w : World) (vT vY vE vF : Value) (s : Sk) : Prop where
 t : KL .u16 w vT s.tiles
 y : KL .u8 w vY s.types
 e : KL .u8 w vE s.less
 f : KL .u64 w vF s.fill
theorem SkM.keep {w w1 : World} {vT vY vE vF : Value} {s : Sk} (h : SkM w vT vY vE vF s) (hb : Below w.heap.size w w1) : SkM w1 vT vY vE vF s := ⟨h.t.keep hb, h.y.keep hb, h.e.keep hb, h.f.keep hb⟩
structure SkB (s : Sk) : Prop where
 a : s.a < 256
 b : s.b < 256
 t : HL s.tiles
 y : ∀ x ∈ s.types, x < 256
 e : ∀ x ∈ s.less, x < 256
 ep : s.ep < 4294967296
 r : s.root < 256
 f : WL s.fill
def skV (s : Sk) (vT vY vE vF : Value) : Value := .agg #[.int .u8 (s.a : Nat), .int .u8 (s.b : Nat), vT, vY, vE, .int .u32 (s.ep : Nat), .int .u8 (s.root : Nat), vF]
def fewS (s : Sk) : Bool := decide (s.tiles.length ≤ 20) && (decide (s.types.length ≤ 40) && (decide (s.less.length ≤ 40) && decide (s.fill.length ≤ 40)))
theorem SkM.sl {w : World} {vT vY vE vF : Value} {s : Sk} (h : SkM w vT vY vE vF s) : ∃ AT cT AY cY AE cE AF cF, vT = .slice AT s.tiles.length cT ∧ vY = .slice AY s.types.length cY ∧ vE = .slice AE s.less.length cE ∧ vF = .slice AF s.fill.length cF := by
 obtain ⟨AT, cT, h1, -⟩ := h.t.form rfl
 obtain ⟨AY, cY, h2, -⟩ := h.y.form rfl
 obtain ⟨AE, cE, h3, -⟩ := h.e.form rfl
 obtain ⟨AF, cF, h4, -⟩ := h.f.form rfl
 exact ⟨AT, cT, AY, cY, AE, cE, AF, cF, h1, h2, h3, h4⟩
theorem few16 (s : Sk) (AT AY AE AF : Option Addr) (nT cT nY cY nE cE nF cF : Nat) (w : World) (hT : nT = s.tiles.length) (hY : nY = s.types.length) (hE : nE = s.less.length) (hF : nF = s.fill.length) :
 Calls Tryz.prog 10 #[skV s (.slice AT nT cT) (.slice AY nY cY) (.slice AE nE cE) (.slice AF nF cF)] w fun e w' => e = .returned (.bool (fewS s)) ∧ Below w.heap.size w w' := by
 obtain ⟨ans, hans⟩ : ∃ a, fewS s = a := ⟨_, rfl⟩
 rw [hans]
 unfold fewS at hans
 rw [← hT, ← hY, ← hE, ← hF] at hans
 unfold skV
 clear hT hY hE hF
 have hb0 := bZ w (.cells #[.int .u8 (s.a : Nat), .int .u8 (s.b : Nat), .slice AT nT cT, .slice AY nY cY, .slice AE nE cE, .int .u32 (s.ep : Nat), .int .u8 (s.root : Nat), .slice AF nF cF] 27)
 have gS := HB.new w #[.int .u8 (s.a : Nat), .int .u8 (s.b : Nat), .slice AT nT cT, .slice AY nY cY, .slice AE nE cE, .int .u32 (s.ep : Nat), .int .u8 (s.root : Nat), .slice AF nF cF] 27
 obtain ⟨wb1, hwb1⟩ : ∃ x, w.alloc (.cells #[.int .u8 (s.a : Nat), .int .u8 (s.b : Nat), .slice AT nT cT, .slice AY nY cY, .slice AE nE cE, .int .u32 (s.ep : Nat), .int .u8 (s.root : Nat), .slice AF nF cF] 27) = x := ⟨_, rfl⟩
 have hswb1 : wb1.heap.size = w.heap.size + 1 := by rw [← hwb1]; simp
 rw [hwb1] at hb0 gS
 have hB : Below w.heap.size w wb1 := hb0
 clear hb0
 have p2 := (row_cell gS 2).1
 have p3 := (row_cell gS 3).1
 have p4 := (row_cell gS 4).1
 have p7 := (row_cell gS 7).1
 by_cases h0 : nT ≤ 20
 rotate_left
 ·have z0 : ¬ (nT : Int) ≤ 20 := by omega
  have hf := lh (show ans = false from by rw [← hans]; simp [*])
  clear hans
  go_enter Tryz.func10, Tryz.ntmps10
  subst hwb1
  go_wp2_with fail
  go_ret
  exact ⟨by rw [hf.out]; first | rfl | simp [*], hB⟩
 have z0 : (nT : Int) ≤ 20 := by omega
 by_cases h1 : nY ≤ 40
 rotate_left
 ·have z1 : ¬ (nY : Int) ≤ 40 := by omega
  have hf := lh (show ans = false from by rw [← hans]; simp [*])
  clear hans
  go_enter Tryz.func10, Tryz.ntmps10
  subst hwb1
  go_wp2_with fail
  go_ret
  exact ⟨by rw [hf.out]; first | rfl | simp [*], hB⟩
 have z1 : (nY : Int) ≤ 40 := by omega
 by_cases h2 : nE ≤ 40
 rotate_left
 ·have z2 : ¬ (nE : Int) ≤ 40 := by omega
  have hf := lh (show ans = false from by rw [← hans]; simp [*])
  clear hans
  go_enter Tryz.func10, Tryz.ntmps10
  subst hwb1
  go_wp2_with fail
  go_ret
  exact ⟨by rw [hf.out]; first | rfl | simp [*], hB⟩
 have z2 : (nE : Int) ≤ 40 := by omega
 by_cases h3 : nF ≤ 40
 ·have z3 : (nF : Int) ≤ 40 := by omega
  have hf := lh (show ans = true from by rw [← hans]; simp [*])
  clear hans
  go_enter Tryz.func10, Tryz.ntmps10
  subst hwb1
  go_wp2_with fail
  go_ret
  exact ⟨by rw [hf.out]; first | rfl | simp [*], hB⟩
 have z3 : ¬ (nF : Int) ≤ 40 := by omega
 have hf := lh (show ans = false from by rw [← hans]; simp [*])
 clear hans
 go_enter Tryz.func10, Tryz.ntmps10
 subst hwb1
 go_wp2_with fail
 go_ret
 exact ⟨by rw [hf.out]; first | rfl | simp [*], hB⟩
def oneN (l : List Nat) (i : Nat) : Nat := if l.length = 0 then 0 else l.getD (i % l.length) 0
theorem oneN_lt {l : List Nat} {m : Nat} (h : ∀ x ∈ l, x < m) (hm : 0 < m) (i : Nat) : oneN l i < m := by
 unfold oneN
 split
 ·exact hm
 rename_i hl
 have : i % l.length < l.length := Nat.mod_lt _ (by omega)
 rw [List.getD_eq_getElem?_getD, List.getElem?_eq_getElem this]
 exact h _ (List.getElem_mem this)
theorem one16 (v : Value) (l : List Nat) (i : Nat) (w : World) (hv : KL .u8 w v l) (hl : l.length ≤ 1000) (hi : i ≤ 100000) (hb : ∀ x ∈ l, x < 256) :
 Calls Tryz.prog 49 #[v, .int .i64 (i : Nat)] w fun e w' => e = .returned (.int .i64 (oneN l i : Nat)) ∧ Below w.heap.size w w' := by
 have hlt := oneN_lt hb (by decide) i
 have hon : oneN l i = if l.length = 0 then 0 else l.getD (i % l.length) 0 := rfl
 obtain ⟨n, hn⟩ : ∃ n, l.length = n := ⟨_, rfl⟩
 rw [hn] at hon
 obtain ⟨A, c, rfl, hF⟩ := hv.form hn
 obtain ⟨r, hr⟩ : ∃ r, oneN l i = r := ⟨_, rfl⟩
 rw [hr] at hlt hon ⊢
 by_cases h0 : n = 0
 ·rw [if_pos h0] at hon
  subst h0 hon
  clear hF hr hn hv
  go_enter Tryz.func49, Tryz.ntmps49
  go_wp2_with fail
  go_ret
  exact ⟨rfl, Below.refl _ _⟩
 rw [if_neg h0] at hon
 have h1 : ¬ (n : Int) = 0 := by omega
 have h2 : ((n : Int) == 0) = false := beq_eq_false_iff_ne.2 h1
 obtain ⟨q, hq⟩ : ∃ q, i % n = q := ⟨_, rfl⟩
 have hqn : q < n := by rw [← hq]; exact Nat.mod_lt _ (by omega)
 have hqn' : (q : Int) < (n : Int) := by omega
 have r1 : (i : Int) % (n : Int) = (q : Int) := by rw [← hq]; rfl
 rw [hq] at hon
 obtain ⟨g, off, rfl, hc, hg, k0⟩ := hF w q (Below.refl _ _) hqn
 rw [← hon] at k0
 have z1 : IntKind.i64.wrap (r : Int) = (r : Int) := wrapQ_so _ (by omega) (by omega)
 clear hF hr hn hv hq hon
 go_enter Tryz.func49, Tryz.ntmps49
 go_wp2_with fail
 go_ret
 exact ⟨rfl, Below.refl _ _⟩
theorem encY (t s n : Nat) (w : World) (h : hdB t s n = true) :
 Calls Tryz.prog 51 #[.agg #[.int .i64 (t : Nat), .int .i64 (s : Nat), .int .u64 (n : Nat)]] w fun e w' => ∃ b, e = .returned (.tuple #[.slice (some ⟨b, 0, none⟩) 2 2, .int .i64 0]) ∧ w.heap.size ≤ b ∧ C2 w' b (.int .u64 (hdW t s : Nat)) (.int .u64 (n : Nat)) ∧ Below w.heap.size w w' := by
 have hR := lh (fun w => refRight_any_oc t s n w (by omega))
 have hC := C3.new w (.int .i64 t) (.int .i64 s) (.int .u64 n) 98
 have hB := below1 w (.cells #[.int .i64 t, .int .i64 s, .int .u64 n] 98)
 have hh := hd_t.1 h
 rw [h] at hR
 have c1 : IntKind.u64.wrap (t : Int) = (t : Int) := by rw [IntKind.wrap_u64]; omega
 have c2 : IntKind.u64.wrap (s : Int) = (s : Int) := by rw [IntKind.wrap_u64]; omega
 have b1 : (t : Int) ≤ 65535 := by omega
 have b2 : (s : Int) ≤ 4096 := by omega
 have hx := lh (show (18038886832455811072 : Int) + 65536 * (s : Int) + (t : Int) = (hdW t s : Nat) by unfold hdW; omega)
 unfold nV at hR
 clear hh h
 go_enter Tryz.func51, Tryz.ntmps51
 go_wp2_with fail
 refine (hR.out _).mono ?_
 rintro e w1 ⟨rfl, hb⟩
 obtain ⟨d0, d1, d2⟩ := hC.keep hb
 have hB1 := hB.trans (hb.mono hB.size)
 clear hC hB hb
 go_wp2_with fail
 rw [hx.out]
 go_ret2
 exact ⟨_, rfl, hB1.size, C2.new _ _ _ _, hB1.alloc hB1.size _⟩
end Go.Proofs.YtkkbngcgphlikaaGreatDoor
end
section
namespace Go.Proofs.YtkkbngcgphlikaaGreatDoor
open Go.Lib Go.RowKit Go.ChangeShapes Go.WideShapes Go.Deep Go.Shelf
def gvS (s : Sk) : Gv := { a := s.a, b := s.b, tiles := s.tiles.filter (fun x => !decide (x % 6 = 5)), fill := s.fill, items := [], root := 0, epoch := s.ep, spoil := [] }
theorem gvS_few {s : Sk} (h : fewS s = true) : fewB (gvS s) = true := by
 unfold fewS at h
 simp only [Bool.and_eq_true, decide_eq_true_eq] at h
 unfold fewB gvS
 have hl := List.length_filter_le (fun x => !decide (x % 6 = 5)) s.tiles
 simp only [List.all_nil, Bool.and_true, decide_eq_true_eq, List.length_nil]
 omega
theorem gvS_B {s : Sk} (h : SkB s) : GvB (gvS s) :=
 ⟨h.a, h.b, fun x hx => h.t x (List.mem_filter.1 hx).1, h.f, fun x hx => (by cases hx), (by show 0 < 18446744073709551616; decide), (by have := h.ep; show s.ep < _; omega), fun x hx => (by cases hx)⟩
theorem chK_right (x M m : Nat) : ∃ k c l q b, chK x M m = (k, c, l, q, b) ∧ RightP k c l q b ∧ 0 ≤ b ∧ (k = 2 → q ≤ 4) := by
 unfold chK
 split
 ·exact ⟨_, _, _, _, _, rfl, by unfold RightP; omega, by omega, by omega⟩
 split
 ·refine ⟨_, _, _, _, _, rfl, ?_, ?_, by omega⟩
  ·split
   ·unfold RightP; omega
   split
   ·unfold RightP; omega
   unfold RightP; omega
  split
  ·omega
  split
  ·omega
  omega
 split
 ·split
  ·exact ⟨_, _, _, _, _, rfl, by unfold RightP; omega, by omega, by omega⟩
  exact ⟨_, _, _, _, _, rfl, by unfold RightP; omega, by omega, by omega⟩
 split
 ·exact ⟨_, _, _, _, _, rfl, by unfold RightP; omega, by omega, by omega⟩
 exact ⟨_, _, _, _, _, rfl, by unfold RightP; omega, by omega, by omega⟩
theorem chF_word {x M m y : Nat} (h : y ∈ chF x M m) : okN y = true ∧ (kN y = 2 → mN y ≤ 4) := by
 unfold chF at h
 rcases List.mem_cons.1 h with h | h
 rotate_left
 ·obtain ⟨-, rfl⟩ := List.mem_replicate.1 h
  exact ⟨by decide, by decide⟩
 obtain ⟨k, c, l, q, b, e, hr, hb, hq⟩ := chK_right x M m
 rw [e] at h
 obtain ⟨z, hz, h1, h2, h3⟩ := okN_word (right_yes hr) hb
 have hzy : z = y := by
  rw [h]
  simp only []
  rw [hz]
  rfl
 subst hzy
 exact ⟨h1, fun hk => by have := hq (by omega); omega⟩
theorem madeT_word (M : Nat) : ∀ (l P : List Nat), (∀ y ∈ P, okN y = true ∧ (kN y = 2 → mN y ≤ 4)) → ∀ y ∈ l.foldl (madeS M) P, okN y = true ∧ (kN y = 2 → mN y ≤ 4)
 | [], P, h => h
 | x :: l, P, h => by
   rw [List.foldl_cons]
   refine madeT_word M l _ (fun y hy => ?_)
   unfold madeS at hy
   split at hy
   ·rcases List.mem_append.1 hy with hy | hy
    ·exact h y hy
    ·exact chF_word hy
   ·exact h y hy
theorem putK_hi9 {X : List Nat} {a : Nat} {l : List Nat} (p : Nat) : ∀ k, a + k ≤ p → (putK X a l k).getD p 0 = X.getD p 0
 | 0, _ => rfl
 | k + 1, h => by rw [putK, getD_set9, if_neg (by omega), putK_hi9 p k (by omega)]
where
 getD_set9 : ∀ {l : List Nat} {i p a : Nat}, (l.set i a).getD p 0 = if i = p ∧ p < l.length then a else l.getD p 0 := by
  intro l i p a
  rw [List.getD_eq_getElem?_getD, List.getElem?_set, List.getD_eq_getElem?_getD]
  by_cases h : i = p
  ·subst h
   by_cases h2 : i < l.length
   ·simp [h2]
   ·simp [h2]
  ·simp [h]
theorem getD_setS (l : List Nat) (i p a : Nat) : (l.set i a).getD p 0 = if i = p ∧ p < l.length then a else l.getD p 0 := by
 rw [List.getD_eq_getElem?_getD, List.getElem?_set, List.getD_eq_getElem?_getD]
 by_cases h : i = p
 ·subst h
  by_cases h2 : i < l.length
  ·simp [h2]
  simp [h2]
 simp [h]
theorem putK_loS {X : List Nat} {a : Nat} {l : List Nat} (p : Nat) (hp : p < a) : ∀ k, (putK X a l k).getD p 0 = X.getD p 0
 | 0 => rfl
 | k + 1 => by rw [putK, getD_setS, if_neg (by omega), putK_loS p hp k]
theorem putK_atS {X : List Nat} {a : Nat} {l : List Nat} (i : Nat) (hl : a + i < X.length) : ∀ k, i < k → (putK X a l k).getD (a + i) 0 = l.getD i 0
 | 0, h => by omega
 | k + 1, h => by
   rw [putK, getD_setS, putK_len]
   by_cases e : i = k
   ·subst e; rw [if_pos ⟨rfl, hl⟩]
   ·rw [if_neg (by omega), putK_atS i hl k (by omega)]
theorem fillK_loS {X F : List Nat} {a : Nat} (p : Nat) (hp : p < a) : ∀ k, (fillK X F a k).getD p 0 = X.getD p 0
 | 0 => rfl
 | k + 1 => by rw [fillK, getD_setS, if_neg (by omega), fillK_loS p hp k]
theorem stock_low (s : Sk) (p : Nat) (hp : p < 10 + 73 * gvL (gvS s) + gvG (gvS s)) : (makeL (gvS s)).getD p 0 = (make0 (gvS s)).getD p 0 := by
 have e : makeL (gvS s) = make1 (gvS s) := by
  unfold makeL
  rw [if_neg (fun q => absurd (show 0 < 0 from q.1) (by decide))]
  rfl
 rw [e]
 unfold make1
 split
 ·rfl
 rw [fillK_loS p hp]
theorem stock_word (s : Sk) (i : Nat) (hi : i < gvG (gvS s)) : okN ((makeL (gvS s)).getD (10 + 73 * gvL (gvS s) + i) 0) = true ∧ (kN ((makeL (gvS s)).getD (10 + 73 * gvL (gvS s) + i) 0) = 2 → mN ((makeL (gvS s)).getD (10 + 73 * gvL (gvS s) + i) 0) ≤ 4) := by
 rw [stock_low s _ (by omega)]
 have hN : gvN (gvS s) = 10 + 73 * gvL (gvS s) + 33 * gvG (gvS s) := rfl
 unfold make0 putL
 generalize hM : madeT (gvS s).tiles (gvG (gvS s)) = Mw
 by_cases h : i < Mw.length
 ·rw [putK_atS i (by rw [List.length_set, List.length_set, putK_len, List.length_replicate]; omega) _ h]
  have hmem : Mw.getD i 0 ∈ Mw := by rw [List.getD_eq_getElem?_getD, List.getElem?_eq_getElem h]; exact List.getElem_mem h
  have hmem2 : Mw.getD i 0 ∈ (gvS s).tiles.foldl (madeS (gvG (gvS s))) [] := by
   have e : Mw = (gvS s).tiles.foldl (madeS (gvG (gvS s))) [] := hM.symm
   rw [← e]; exact hmem
  exact madeT_word (gvG (gvS s)) (gvS s).tiles [] (fun y hy => by cases hy) (Mw.getD i 0) hmem2
 rw [putK_hi9 _ _ (by omega), getD_setS, if_neg (by omega), getD_setS, if_neg (by omega), putK_hi9 _ _ (by rw [headW_len]; omega), List.getD_eq_getElem?_getD, List.getElem?_replicate]
 split <;> exact ⟨by decide, by decide⟩
theorem stock_blk {s : Sk} {b : Bl} (h : b ∈ blI (makeL (gvS s)) (gvL (gvS s))) : b.2.2 = 4 ∨ b.2.2 = 8 ∨ b.2.2 = 16 ∨ (32 ≤ b.2.2 ∧ b.2.2 ≤ 128) := by
 obtain ⟨h1, h2⟩ := bl_bd h
 obtain ⟨hg, -, hgat, -⟩ := gv_geo (gvS s)
 have hl := gv_len (gvS s)
 have htl : (tabW (makeL (gvS s)) (gvL (gvS s))).length = gvG (gvS s) := by rw [tab_len (by rw [hl.1]; exact hg), hl.1, hgat]
 rw [htl] at h1
 rcases h2 with ⟨h3, -⟩ | ⟨-, h3, h4, h5, -⟩
 ·omega
 have hw := (stock_word s b.1 h1).2
 have hget : (tabW (makeL (gvS s)) (gvL (gvS s))).getD b.1 0 = (makeL (gvS s)).getD (10 + 73 * gvL (gvS s) + b.1) 0 := by
  unfold tabW
  rw [List.getD_eq_getElem?_getD, List.getElem?_take_of_lt (by rw [hl.1, hgat]; exact h1), List.getElem?_drop, ← List.getD_eq_getElem?_getD]
 rw [hget] at h3 h4 h5
 have := hw h3
 omega
def szS (s : Sk) (i m : Nat) : Nat := m - 2 - (if m = 4 then oneN s.less i % 3 else if m = 8 then oneN s.less i % 4 else if m = 16 then oneN s.less i % 8 else oneN s.less i % 16)
def stkS (s : Sk) (N L : Nat) (X : List Nat) (i : Nat) (b : Bl) : List Nat :=
 if s.root = i + 1 then ((X.set (plc N L b) (hdW (1 + oneN s.types i) (szS s i b.2.2))).set (plc N L b + 1) (4294967296 * s.ep + (i + 1))).set 8 (plc N L b)
 else (X.set (plc N L b) (hdW (1 + oneN s.types i) (szS s i b.2.2))).set (plc N L b + 1) (4294967296 * s.ep + (i + 1))
def stkN (s : Sk) (N L : Nat) (R : List Bl) (X : List Nat) : Nat → List Nat
 | 0 => X
 | k + 1 => stkS s N L (stkN s N L R X k) k (R.getD k default)
def stockL (s : Sk) : List Nat := stkN s (gvN (gvS s)) (gvL (gvS s)) (blI (makeL (gvS s)) (gvL (gvS s))) (makeL (gvS s)) (blI (makeL (gvS s)) (gvL (gvS s))).length
theorem stkS_len (s : Sk) (N L : Nat) (X : List Nat) (i : Nat) (b : Bl) : (stkS s N L X i b).length = X.length := by
 unfold stkS
 split <;> simp only [List.length_set]
theorem stkN_len (s : Sk) (N L : Nat) (R : List Bl) (X : List Nat) : ∀ k, (stkN s N L R X k).length = X.length
 | 0 => rfl
 | k + 1 => by rw [stkN, stkS_len, stkN_len s N L R X k]
theorem stockL_len (s : Sk) : (stockL s).length = gvN (gvS s) := by unfold stockL; rw [stkN_len]; exact (gv_len (gvS s)).1
structure SkS (w0 : World) (C0 Gb : Nat) (sc gc : Array Value) (B N c : Nat) (A8 : Option Addr) (n c8 : Nat) (R : List Bl) (X : List Nat) (w : World) : Prop where
 o : OwnU w w0.heap.size (.slice (some ⟨B, 0, none⟩) N c) X
 l : X.length = N
 s : HB w C0 sc 27
 g : HB w Gb gc 37
 b : BKO w w0.heap.size (.slice A8 n c8) R
 below : Below w0.heap.size w0 w
theorem SkS.keep {w0 : World} {C0 Gb : Nat} {sc gc : Array Value} {B N c : Nat} {A8 : Option Addr} {n c8 : Nat} {R : List Bl} {X : List Nat} {w w1 : World} (h : SkS w0 C0 Gb sc gc B N c A8 n c8 R X w) (hb : Below w.heap.size w w1) : SkS w0 C0 Gb sc gc B N c A8 n c8 R X w1 :=
 ⟨h.o.keep hb, h.l, h.s.keep hb, h.g.keep hb, h.b.keep hb, h.below.trans (hb.mono h.below.size)⟩
theorem SkS.base {w0 : World} {C0 Gb : Nat} {sc gc : Array Value} {B N c : Nat} {A8 : Option Addr} {n c8 : Nat} {R : List Bl} {X : List Nat} {w : World} (h : SkS w0 C0 Gb sc gc B N c A8 n c8 R X w) : w0.heap.size ≤ B ∧ B < w.heap.size := World.ownsRow.lt h.o B rfl
theorem HB.row_ne9 {w : World} {b g n c base : Nat} {cs : Array Value} {t : TypeId} {l : List Nat} (h : HB w b cs t) (ho : OwnU w base (.slice (some ⟨g, 0, none⟩) n c) l) (ht : t ≠ 40) : b ≠ g := fun e => by
 subst e
 rcases ho.2 with ⟨q, _⟩ | ⟨g2, cap, cur, q, _, hg, _⟩
 ·cases q
 ·cases q
  rw [h] at hg
  cases hg
  exact ht rfl
theorem SkS.set {w0 : World} {C0 Gb : Nat} {sc gc : Array Value} {B N c : Nat} {A8 : Option Addr} {n c8 : Nat} {R : List Bl} {X : List Nat} {w : World} (h : SkS w0 C0 Gb sc gc B N c A8 n c8 R X w) (i y : Nat) (hi : i < N) : SkS w0 C0 Gb sc gc B N c A8 n c8 R (X.set i y) (w.setCell ⟨B, i, none⟩ (.int .u64 (y : Nat))) := by
 refine ⟨h.o.set h.l hi, by rw [List.length_set]; exact h.l, ?_, ?_, ?_, h.below.setCell (p := ⟨B, i, none⟩) h.base.1 _⟩
 ·exact (heap_setCell_other w ⟨B, i, none⟩ C0 _ (h.s.row_ne9 h.o (by decide))).trans h.s
 ·exact (heap_setCell_other w ⟨B, i, none⟩ Gb _ (h.g.row_ne9 h.o (by decide))).trans h.g
 refine OwnE.chg (S := fun k => k = B) h.b (Chg.setCell (S := fun k => k = B) w B i _ rfl) (fun k hk e => ?_)
 subst e
 rcases own_ne h.o h.b (by decide) with q | q
 ·cases q
 exact q hk.symm
end Go.Proofs.YtkkbngcgphlikaaGreatDoor
end
