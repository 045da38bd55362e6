/-
  Part of the proof of JournalSteps.
-/
import Derived.Test.YtkkbngcgphlikaaGreatDoorJt40
import Derived.Test.YtkkbngcgphlikaaGreatDoorRows
import Derived.Test.YtkkbngcgphlikaaGreatDoorJt0
set_option maxRecDepth 10000
set_option maxHeartbeats 1000000
set_option linter.unusedVariables false
set_option linter.unusedSimpArgs false
section
namespace Go.Proofs.YtkkbngcgphlikaaGreatDoor
open Go.Lib Go.RowKit Go.ChangeShapes Go.WideShapes Go.Deep Go.Shelf
theorem doN_0 (x : Nat) (o : Ox) (h : o.1 = 0) : doN x o = o.2.2 := by
 unfold doN
 simp [h]
theorem places_sp {l : List Sp} {y : Int} (h : y ∈ placesL l) : ∃ s ∈ l, s.1 ≤ y ∧ y < s.1 + s.2 := by
 unfold placesL at h
 obtain ⟨s, hs, hy⟩ := List.mem_flatMap.1 h
 unfold pwL at hy
 obtain ⟨i, hi, rfl⟩ := List.mem_map.1 hy
 have := List.mem_range.1 hi
 exact ⟨s, hs, by omega, by omega⟩
section
variable {I : List Nat} {L ln : Nat} {m : List Ox}
end
end Go.Proofs.YtkkbngcgphlikaaGreatDoor
end
section
namespace Go.Proofs.YtkkbngcgphlikaaGreatDoor
open Go.Lib Go.RowKit Go.ChangeShapes Go.WideShapes Go.Deep Go.Shelf
theorem BKO.formB {w : World} {base : Nat} {v : Value} {l : List Bl} {n : Nat} (h : BKO w base v l) (hn : l.length = n) : ∃ A cap, v = .slice A n cap ∧
 ∀ w1 i, Below w.heap.size w w1 → i < n → ∃ g off, A = some ⟨g, off, none⟩ ∧ n ≤ cap ∧ g < w.heap.size ∧ g < w1.heap.size ∧ w1.cell? ⟨g, off + i * 3, none⟩ = some (.int .i64 ((l.getD i default).1 : Nat)) ∧ w1.cell? ⟨g, off + i * 3 + 1, none⟩ = some (.int .i64 ((l.getD i default).2.1 : Nat)) ∧ w1.cell? ⟨g, off + i * 3 + 2, none⟩ = some (.int .i64 ((l.getD i default).2.2 : Nat)) := by
 obtain ⟨A, cap, hv, h⟩ := EL.form (h.el eB_len) hn
 refine ⟨A, cap, hv, fun w1 i hb hi => ?_⟩
 obtain ⟨g, off, hA, h1, h2, h3, hc⟩ := h w1 i hb hi
 exact ⟨g, off, hA, h1, h2, h3, hc 0 (by omega), hc 1 (by omega), hc 2 (by omega)⟩
theorem bl_len {I : List Nat} {L : Nat} (hg : gOk (I.length : Nat) (L : Nat) = true) : (blI I L).length ≤ 8 * gNat I.length L := by
 unfold blI blksT
 split
 rotate_left
 ·exact Nat.zero_le _
 rw [← tab_len hg]
 have : ∀ (t : List Nat) (o : Nat), (blksFrom o t).length ≤ 8 * t.length := by
  intro t
  induction t with
  | nil => intro o; exact Nat.zero_le _
  | cons x t ih =>
    intro o
    show (blksAt o x ++ blksFrom (o + 1) t).length ≤ _
    rw [List.length_append, List.length_cons]
    have h1 := ih (o + 1)
    have h2 : (blksAt o x).length ≤ 8 := by
     unfold blksAt
     split
     ·rw [List.length_map]
      unfold liveL
      refine Nat.le_trans (List.length_filter_le _ _) ?_
      rw [List.length_range]
      unfold mnN
      split <;> (try split) <;> (try split) <;> omega
     split
     ·simp
     exact Nat.zero_le _
    omega
 exact this _ 0
end Go.Proofs.YtkkbngcgphlikaaGreatDoor
end
section
namespace Go.Proofs.YtkkbngcgphlikaaGreatDoor
open Go.Lib Go.RowKit Go.ChangeShapes Go.WideShapes Go.Deep Go.Shelf
abbrev Jx := Nat × Nat × Nat × Value
instance : Inhabited Jx := ⟨(0, 0, 0, .slice none 0 0)⟩
theorem own_ne {α : Type} {e : TypeId} {sz : Nat} {en : α → List Value} {w : World} {b1 b2 : Nat} {u v : Value} {l : List Nat} {xs : List α} (h : OwnU w b1 u l) (k : OwnE e sz en w b2 v xs) (ht : e ≠ 40) : u.ownBlock = none ∨ u.ownBlock ≠ v.ownBlock := by
 rcases h.2 with ⟨rfl, _⟩ | ⟨g, cap, cur, rfl, _, hg, _⟩
 ·exact .inl rfl
 right
 intro q
 rcases k.2 with ⟨rfl, _⟩ | ⟨g2, cap2, cur2, rfl, _, hg2, _⟩
 ·cases q
 cases q
 rw [hg] at hg2
 cases hg2
 exact ht rfl
end Go.Proofs.YtkkbngcgphlikaaGreatDoor
end
section
namespace Go.Proofs.YtkkbngcgphlikaaGreatDoor
open Go.Lib Go.RowKit Go.ChangeShapes Go.WideShapes Go.Deep Go.Shelf
def posB (b : Bl) : Nat := b.1 * 32 + b.2.1 * b.2.2
theorem step_of {x r q : Nat} (h : stepT x r = some q) : (kN x = 3 ∧ 0 < r ∧ q = r - 1) ∨ (kN x = 2 ∧ r = 0 ∧ q = mN x - 1) ∨ (¬ kN x = 3 ∧ ¬ kN x = 2 ∧ r = 0 ∧ q = 0) := by
 unfold stepT at h
 split at h
 rotate_left
 ·cases h
 rename_i hd
 simp only [Option.some.injEq] at h
 by_cases h3 : kN x = 3
 ·rw [if_pos h3] at h
  rw [decide_eq_true h3] at hd
  exact .inl ⟨h3, of_decide_eq_true hd.symm, h.symm⟩
 rw [if_neg h3] at h
 rw [decide_eq_false h3] at hd
 have hr : ¬ 0 < r := of_decide_eq_false hd.symm
 by_cases h2 : kN x = 2
 ·rw [if_pos h2] at h; exact .inr (.inl ⟨h2, by omega, h.symm⟩)
 rw [if_neg h2] at h; exact .inr (.inr ⟨h3, h2, by omega, by omega⟩)
theorem runU_len_so : ∀ (u : List Nat) (r : Nat), runU u r = some 0 → r ≤ u.length
 | [], r, h => by cases h; exact Nat.zero_le _
 | x :: u, r, h => by
   rw [runU] at h
   cases hs : stepT x r with
   | none => rw [hs] at h; cases h
   | some q =>
     rw [hs] at h
     have h1 := runU_len_so u q h
     have h2 := step_of hs
     simp only [List.length_cons]
     omega
theorem cls16 (c : Nat) (h : c < 3) : 1 ≤ blN c ∧ ∀ j, j < mnN c → j * blN c + blN c ≤ 32 := by
 have h3 : c = 0 ∨ c = 1 ∨ c = 2 := by omega
 rcases h3 with rfl | rfl | rfl <;> refine ⟨by decide, fun j hj => ?_⟩
 ·have : mnN 0 = 8 := rfl
  show j * 4 + 4 ≤ 32
  omega
 ·have : mnN 1 = 4 := rfl
  show j * 8 + 8 ≤ 32
  omega
 have : mnN 2 = 2 := rfl
 show j * 16 + 16 ≤ 32
 omega
theorem at_pos {i x r q : Nat} (hr : RightN x) (hs : stepT x r = some q) {b : Bl} (hb : b ∈ blksAt i x) : (i + r) * 32 ≤ posB b ∧ posB b + b.2.2 ≤ (i + 1 + q) * 32 := by
 have h2 := step_of hs
 unfold blksAt at hb
 unfold RightN at hr
 split at hb
 ·rename_i hk
  obtain ⟨j, hj, rfl⟩ := List.mem_map.1 hb
  have hj2 := (cls16 (cN x) (by omega)).2 j (live_in hj)
  unfold posB
  simp only []
  omega
 split at hb
 ·rename_i hk
  rw [List.mem_singleton] at hb
  subst hb
  unfold posB
  simp only [Nat.zero_mul]
  omega
 cases hb
theorem at_asc {i x : Nat} (hr : RightN x) : (blksAt i x).Pairwise (fun a b => posB a + a.2.2 ≤ posB b) := by
 unfold blksAt
 split
 ·rename_i hk
  rw [List.pairwise_map]
  refine (live_asc _ _).imp (fun {j k} hjk => ?_)
  unfold posB
  simp only []
  have h1 : (j + 1) * blN (cN x) ≤ k * blN (cN x) := Nat.mul_le_mul_right _ hjk
  rw [Nat.succ_mul] at h1
  omega
 split
 ·exact List.pairwise_singleton _ _
 exact List.Pairwise.nil
theorem asc_from : ∀ (u : List Nat) (i r : Nat), (∀ x ∈ u, okN x = true) → runU u r = some 0 →
 (blksFrom i u).Pairwise (fun a b => posB a + a.2.2 ≤ posB b) ∧ ∀ b ∈ blksFrom i u, (i + r) * 32 ≤ posB b ∧ posB b + b.2.2 ≤ (i + u.length) * 32
 | [], i, r, ho, h => ⟨List.Pairwise.nil, fun b hb => by cases hb⟩
 | x :: u, i, r, ho, h => by
   have hr : RightN x := okN_t (ho x (List.mem_cons_self ..))
   rw [runU] at h
   cases hs : stepT x r with
   | none => rw [hs] at h; cases h
   | some q =>
     rw [hs] at h
     have h' : runU u q = some 0 := h
     obtain ⟨ih1, ih2⟩ := asc_from u (i + 1) q (fun y hy => ho y (List.mem_cons_of_mem _ hy)) h'
     have hlen := runU_len_so u q h'
     have hst := step_of hs
     rw [blksFrom, List.pairwise_append]
     simp only [List.length_cons]
     refine ⟨⟨at_asc hr, ih1, fun a ha b hb => ?_⟩, fun b hb => ?_⟩
     ·have h1 := (at_pos hr hs ha).2
      have h2 := (ih2 b hb).1
      omega
     ·rcases List.mem_append.1 hb with hb | hb
      ·have h1 := at_pos hr hs hb
       omega
      ·have h1 := ih2 b hb
       omega
theorem asc_T {t : List Nat} (h : rightT t = true) : (blksT t).Pairwise (fun a b => posB a + a.2.2 ≤ posB b) ∧ ∀ b ∈ blksT t, posB b + b.2.2 ≤ t.length * 32 := by
 obtain ⟨h1, h2⟩ := rightT_t h
 have h3 := runU_of t t.length 0 (by omega)
 rw [List.drop_zero, h2] at h3
 have h4 : runU t 0 = some 0 := h3
 obtain ⟨h5, h6⟩ := asc_from t 0 0 (fun x hx => List.all_eq_true.1 h1 x hx) h4
 unfold blksT
 rw [if_pos h1]
 exact ⟨h5, fun b hb => by have := (h6 b hb).2; omega⟩
theorem plc_pos (N L : Nat) (b : Bl) : plc N L b = 10 + 73 * L + gNat N L + posB b := by unfold plc posB; omega
end Go.Proofs.YtkkbngcgphlikaaGreatDoor
end
section
namespace Go.Proofs.YtkkbngcgphlikaaGreatDoor
open Go.Lib Go.RowKit Go.ChangeShapes Go.WideShapes Go.Deep Go.Shelf
theorem HB.chg {S : Nat → Prop} {w w1 : World} {b : Nat} {cs : Array Value} {t : TypeId} (h : HB w b cs t) (hc : Chg S w w1) (hn : ¬ S b) : HB w1 b cs t := (hc.block b h.lt hn).trans h
theorem HB.ne_row {w : World} {b g n c base : Nat} {cs : Array Value} {t : TypeId} {l : List Nat} (h : HB w b cs t) (ho : OwnU w base (.slice (some ⟨g, 0, none⟩) n c) l) (ht : t ≠ 40) : b ≠ g := fun e => by
 obtain ⟨_, cur, hg⟩ := OwnU_row ho
 subst e
 have h3 := (show w.heap[b]? = _ from h).symm.trans hg
 simp at h3
 exact ht h3.2
def putK (X : List Nat) (a : Nat) (l : List Nat) : Nat → List Nat
 | 0 => X
 | k + 1 => (putK X a l k).set (a + k) (l.getD k 0)
def putL (X : List Nat) (a : Nat) (l : List Nat) : List Nat := putK X a l l.length
theorem putK_len (X : List Nat) (a : Nat) (l : List Nat) : ∀ k, (putK X a l k).length = X.length
 | 0 => rfl
 | k + 1 => by rw [putK, List.length_set, putK_len X a l k]
theorem putL_len (X : List Nat) (a : Nat) (l : List Nat) : (putL X a l).length = X.length := putK_len _ _ _ _
theorem putK_stop (X : List Nat) (a : Nat) (l : List Nat) (j : Nat) (h : X.length ≤ a + j) : ∀ k, putK X a l (j + k) = putK X a l j
 | 0 => rfl
 | k + 1 => by
   rw [show j + (k + 1) = (j + k) + 1 from rfl, putK, putK_stop X a l j h k]
   exact List.set_eq_of_length_le (by rw [putK_len]; omega)
theorem putK_WL {X : List Nat} {a : Nat} {l : List Nat} (hX : WL X) (hl : WL l) : ∀ k, WL (putK X a l k)
 | 0 => hX
 | k + 1 => (putK_WL hX hl k).setN _ _ (hl.getN k)
theorem putL_WL {X : List Nat} {a : Nat} {l : List Nat} (hX : WL X) (hl : WL l) : WL (putL X a l) := putK_WL hX hl _
theorem put_any15 (B N c a : Nat) (u : Value) (X l : List Nat) (b0 : Nat) (w : World) (ho : OwnU w b0 (.slice (some ⟨B, 0, none⟩) N c) X) (hX : X.length = N) (hu : ∀ w1, Chg (fun k => k = B) w w1 → KL .u64 w1 u l) (ha : a ≤ 100000) (hl : l.length ≤ 100000) (hN : N ≤ 100000) :
 Calls Tryz.prog 78 #[.slice (some ⟨B, 0, none⟩) N c, .int .i64 (a : Nat), u] w fun e w' => e = .returned (.tuple #[]) ∧ OwnU w' b0 (.slice (some ⟨B, 0, none⟩) N c) (putL X a l) ∧ Chg (fun k => k = B) w w' := by
 obtain ⟨n, hn⟩ : ∃ n, l.length = n := ⟨_, rfl⟩
 obtain ⟨A, cap, rfl, -⟩ := (hu w (Chg.refl _ _)).form hn
 have hC := lh (fun w1 i (hc : Chg (fun k => k = B) w w1) (hi : i < n) => show ∃ g off, A = some ⟨g, off, none⟩ ∧ n ≤ cap ∧ g < w1.heap.size ∧ w1.cell? ⟨g, off + i, none⟩ = some (.int .u64 (l.getD i 0 : Nat)) from by
  obtain ⟨A2, c2, hv2, h⟩ := (hu w1 hc).form hn
  cases hv2
  obtain ⟨g, off, h1, h2, h3, h4⟩ := h w1 i (Below.refl _ _) hi
  exact ⟨g, off, h1, h2, h3, h4⟩)
 have hst := lh (fun k => show putK X a l (k + 1) = (putK X a l k).set (a + k) (l.getD k 0) from rfl)
 have hpl := lh (fun k => (putK_len X a l k).trans hX)
 have hfin := lh (show putL X a l = putK X a l n from by unfold putL; rw [hn])
 have hstop := lh (fun j (hj : j ≤ n) (h : N ≤ a + j) => show putK X a l n = putK X a l j from by
  have := putK_stop X a l j (by omega) (n - j)
  rwa [show j + (n - j) = n from by omega] at this)
 replace hn := lh hn
 have hn9 : n ≤ 100000 := by have := hn.out; omega
 clear hu hl
 go_enter Tryz.func78, Tryz.ntmps78
 go_wp2_with fail
 go_loopw [6] (fun i wr => ∃ (j : Nat), j ≤ n ∧ i = .int .i64 j ∧ OwnU wr b0 (.slice (some ⟨B, 0, none⟩) N c) (putK X a l j) ∧ Chg (fun k => k = B) w wr) (fun i _ => n + 1 - (intOf i).toNat)
 case atStart => exact ⟨0, Nat.zero_le _, rfl, ho, Chg.refl _ _⟩
 obtain ⟨j, hj, rfl, hor, hcr⟩ := hrel
 clear ho
 have hw1 : IntKind.i64.wrap ((a : Int) + (j : Int)) = (a : Int) + (j : Int) := by rw [IntKind.wrap_i64]; omega
 by_cases hlt : j < n
 rotate_left
 ·obtain rfl : j = n := by omega
  have hlt' : decide ((j : Int) < (j : Int)) = false := decide_eq_false (by omega)
  go_wp2_with fail
  (first | go_end0 | go_ret)
  exact ⟨rfl, by rw [hfin.out]; exact hor, hcr⟩
 have hlt' : (j : Int) < (n : Int) := by omega
 by_cases hf : a + j < N
 rotate_left
 ·have hf' : decide ((a : Int) + (j : Int) < (N : Int)) = false := decide_eq_false (by omega)
  have hs := lh (hstop.out j (by omega) (by omega))
  go_wp2_with fail
  (first | go_end0 | go_ret)
  exact ⟨rfl, by rw [hfin.out, hs.out]; exact hor, hcr⟩
 have hf' : (a : Int) + (j : Int) < (N : Int) := by omega
 obtain ⟨g, off, rfl, hcap, hg, c0⟩ := hC.out wr j hcr hlt
 obtain ⟨d0, d1⟩ := hor.cell (hpl.out j) hf
 have ho2 := hor.set (y := l.getD j 0) (hpl.out j) hf
 rw [← hst.out j] at ho2
 have hc2 := hcr.trans (Chg.setCell (S := fun k => k = B) wr B (a + j) (.int .u64 (l.getD j 0 : Nat)) rfl) (fun k h => .inl h)
 generalize l.getD j 0 = x at *
 obtain ⟨q, hq⟩ : ∃ q, a + j = q := ⟨_, rfl⟩
 have hq' : (a : Int) + (j : Int) = (q : Int) := by omega
 rw [hq'] at hw1 hf'
 rw [hq] at d0 d1 ho2 hc2
 replace hq := lh hq
 have hq2 := hq'
 clear hor hcr hf
 go_wp2_with fail
 go_roundw
 case rel => exact ⟨j + 1, by omega, by go_num, ho2, hc2⟩
 first | (simp [intOf]; done) | (simp [intOf]; omega)
end Go.Proofs.YtkkbngcgphlikaaGreatDoor
end
section
namespace Go.Proofs.YtkkbngcgphlikaaGreatDoor
open Go.Lib Go.RowKit Go.ChangeShapes Go.WideShapes Go.Deep Go.Shelf
abbrev Itm := Nat × Nat × Nat × List Pe × List Ox
abbrev ItV := Nat × Nat × Nat × (Value × List Pe) × (Value × List Ox)
def eIt (x : ItV) : List Value := [.int .u8 (x.1 : Nat), .int .u8 (x.2.1 : Nat), .int .u64 (x.2.2.1 : Nat), slV x.2.2.2.1.1, slV x.2.2.2.2.1]
def itm (x : ItV) : Itm := (x.1, x.2.1, x.2.2.1, x.2.2.2.1.2, x.2.2.2.2.2)
def eSl (s : Nat × Nat) : List Value := [.int .u16 (s.1 : Nat), .int .u64 (s.2 : Nat)]
structure Gv where
 a : Nat
 b : Nat
 tiles : List Nat
 fill : List Nat
 items : List Itm
 root : Nat
 epoch : Nat
 spoil : List (Nat × Nat)
structure GvM (w : World) (vT vF vI vS : Value) (xs : List ItV) (p : Gv) : Prop where
 t : KL .u16 w vT p.tiles
 f : KL .u64 w vF p.fill
 i : EL 5 eIt w vI xs
 e : ∀ x ∈ xs, EN w x.2.2.2.1.1 x.2.2.2.1.2
 o : ∀ x ∈ xs, OPL w x.2.2.2.2.1 x.2.2.2.2.2
 x : xs.map itm = p.items
 s : EL 2 eSl w vS p.spoil
structure GvB (p : Gv) : Prop where
 a : p.a < 256
 b : p.b < 256
 t : HL p.tiles
 f : WL p.fill
 i : ∀ x ∈ p.items, x.1 < 256 ∧ x.2.1 < 256 ∧ x.2.2.1 < 18446744073709551616 ∧ (∀ e ∈ x.2.2.2.1, WL e.2) ∧ OVs x.2.2.2.2
 r : p.root < 18446744073709551616
 e : p.epoch < 18446744073709551616
 s : ∀ x ∈ p.spoil, x.1 < 65536 ∧ x.2 < 18446744073709551616
def gvV (p : Gv) (vT vF vI vS : Value) : Value := .agg #[.int .u8 (p.a : Nat), .int .u8 (p.b : Nat), vT, vF, vI, .int .u64 (p.root : Nat), .int .u64 (p.epoch : Nat), vS]
def gvC (p : Gv) (vT vF vI vS : Value) : Array Value := #[.int .u8 (p.a : Nat), .int .u8 (p.b : Nat), vT, vF, vI, .int .u64 (p.root : Nat), .int .u64 (p.epoch : Nat), vS]
theorem EN.sl {w : World} {v : Value} {l : List Pe} (h : EN w v l) : ∃ A c, v = .slice A l.length c := by
 obtain ⟨xs, h1, h2, h3⟩ := h
 obtain ⟨A, c, hv, _⟩ := h1
 exact ⟨A, c, by rw [hv, ← h3, List.length_map]⟩
theorem EL.sl {α : Type} [Inhabited α] {sz : Nat} {en : α → List Value} {w : World} {v : Value} {l : List α} (h : EL sz en w v l) : ∃ A c, v = .slice A l.length c := by
 obtain ⟨A, c, hv, _⟩ := h
 exact ⟨A, c, hv⟩
theorem GvM.item {w : World} {vT vF vS : Value} {AI : Option Addr} {n cI : Nat} {xs : List ItV} {p : Gv} (h : GvM w vT vF (.slice AI n cI) vS xs p) (hn : p.items.length = n) (w1 : World) (hb : Below w.heap.size w w1) (j : Nat) (hj : j < n) :
 ∃ g off ln st gn Ae ce Ao co es ops, AI = some ⟨g, off, none⟩ ∧ n ≤ cI ∧ g < w.heap.size ∧ p.items.getD j default = (ln, st, gn, es, ops) ∧ (ln, st, gn, es, ops) ∈ p.items ∧ EN w1 (.slice Ae es.length ce) es ∧ OPL w1 (.slice Ao ops.length co) ops ∧
   (w1.cell? ⟨g, off + j * 5, none⟩ = some (.int .u8 (ln : Nat)) ∧ w1.cell? ⟨g, off + j * 5 + 1, none⟩ = some (.int .u8 (st : Nat)) ∧ w1.cell? ⟨g, off + j * 5 + 2, none⟩ = some (.int .u64 (gn : Nat)) ∧ w1.cell? ⟨g, off + j * 5 + 3, none⟩ = some (.slice Ae es.length ce) ∧ w1.cell? ⟨g, off + j * 5 + 4, none⟩ = some (.slice Ao ops.length co)) := by
 have hl : xs.length = n := by rw [← hn, ← h.x, List.length_map]
 obtain ⟨A, c, hv, hc⟩ := EL.form h.i hl
 cases hv
 obtain ⟨g, off, rfl, h1, h2, h3, h4⟩ := hc w1 j hb hj
 have hm : xs.getD j default ∈ xs := by rw [List.getD_eq_getElem?_getD, List.getElem?_eq_getElem (by omega)]; exact List.getElem_mem _
 have hit : p.items.getD j default = itm (xs.getD j default) := by
  rw [← h.x, List.getD_eq_getElem?_getD, List.getD_eq_getElem?_getD, List.getElem?_map, List.getElem?_eq_getElem (by omega)]
  rfl
 have hE := (h.e _ hm).keep hb
 have hO := (h.o _ hm).keep hb
 have hmi : itm (xs.getD j default) ∈ p.items := by rw [← h.x]; exact List.mem_map_of_mem hm
 obtain ⟨q, hq⟩ : ∃ q, xs.getD j default = q := ⟨_, rfl⟩
 rw [hq] at hE hO hit hmi h4
 obtain ⟨ln, st, gn, ⟨ve, es⟩, ⟨vo, ops⟩⟩ := q
 simp only [] at hE hO
 obtain ⟨Ae, ce, rfl⟩ := hE.sl
 obtain ⟨Ao, co, rfl⟩ := EL.sl hO
 exact ⟨g, off, ln, st, gn, Ae, ce, Ao, co, es, ops, rfl, h1, h2, hit, hmi, hE, hO, h4 0 (by omega), h4 1 (by omega), h4 2 (by omega), h4 3 (by omega), h4 4 (by omega)⟩
def gvL (p : Gv) : Nat := 1 + p.a % 3
def gvG (p : Gv) : Nat := 1 + p.b % 8
def gvN (p : Gv) : Nat := 10 + 73 * gvL p + 33 * gvG p
theorem geom_any (p : Gv) (AT AF AI AS : Option Addr) (nT cT nF cF nI cI nS cS : Nat) (w : World) (hB : GvB p) :
 Calls Tryz.prog 13 #[gvV p (.slice AT nT cT) (.slice AF nF cF) (.slice AI nI cI) (.slice AS nS cS)] w fun e w' => e = .returned (.agg #[.int .i64 (gvN p : Nat), .int .i64 (gvL p : Nat)]) ∧ Below w.heap.size w w' := by
 have ha := hB.a
 have hb := hB.b
 unfold gvV gvN gvL gvG
 obtain ⟨a, hpa⟩ : ∃ a, p.a = a := ⟨_, rfl⟩
 obtain ⟨b, hpb⟩ : ∃ b, p.b = b := ⟨_, rfl⟩
 rw [hpa] at ha
 rw [hpb] at hb
 rw [hpa, hpb]
 generalize p.root = r
 generalize p.epoch = ep
 obtain ⟨a3, ha3⟩ : ∃ a3, a % 3 = a3 := ⟨_, rfl⟩
 obtain ⟨b8, hb8⟩ : ∃ b8, b % 8 = b8 := ⟨_, rfl⟩
 have m1 : (a : Int) % 3 = (a3 : Int) := by omega
 have m2 : (b : Int) % 8 = (b8 : Int) := by omega
 have m3 : (a : Int).tmod 3 = (a3 : Int) := by rw [Int.tmod_eq_emod_of_nonneg (by omega)]; exact m1
 have m4 : (b : Int).tmod 8 = (b8 : Int) := by rw [Int.tmod_eq_emod_of_nonneg (by omega)]; exact m2
 have hS := lh (fun w1 => show Calls Tryz.prog 52 #[.int .u8 (a3 : Nat), .int .u8 (b8 : Nat), .int .u8 0] w1 (fun e w' => e = .returned (.agg #[.int .i64 ((10 + 73 * (1 + a3) + 33 * (1 + b8) : Nat) : Int), .int .i64 ((1 + a3 : Nat) : Int)]) ∧ Below w1.heap.size w1 w') from by
  have h := small_any (a3 : Nat) (b8 : Nat) 0 w1 (by omega) (by omega) (by omega) (by omega) (by omega) (by omega)
  rw [show ((10 + 73 * (1 + a3) + 33 * (1 + b8) : Nat) : Int) = smW (a3 : Nat) (b8 : Nat) 0 from by unfold smW; omega, show ((1 + a3 : Nat) : Int) = smL (a3 : Nat) from by unfold smL; omega]
  exact h)
 rw [ha3, hb8]
 generalize 10 + 73 * (1 + a3) + 33 * (1 + b8) = N at *
 generalize 1 + a3 = L at *
 have hB1 := bZ w (.cells #[.int .u8 (a : Nat), .int .u8 (b : Nat), .slice AT nT cT, .slice AF nF cF, .slice AI nI cI, .int .u64 (r : Nat), .int .u64 (ep : Nat), .slice AS nS cS] 43)
 have gP := HB.new w #[.int .u8 (a : Nat), .int .u8 (b : Nat), .slice AT nT cT, .slice AF nF cF, .slice AI nI cI, .int .u64 (r : Nat), .int .u64 (ep : Nat), .slice AS nS cS] 43
 obtain ⟨wa, hwa⟩ : ∃ x, w.alloc (.cells #[.int .u8 (a : Nat), .int .u8 (b : Nat), .slice AT nT cT, .slice AF nF cF, .slice AI nI cI, .int .u64 (r : Nat), .int .u64 (ep : Nat), .slice AS nS cS] 43) = x := ⟨_, rfl⟩
 have hsa : wa.heap.size = w.heap.size + 1 := by rw [← hwa]; simp
 rw [hwa] at hB1 gP
 have gR := HB.new wa #[.int .i64 0, .int .i64 0] 37
 have e2 := bZ wa (.cells #[.int .i64 0, .int .i64 0] 37)
 have gP2 := gP.keep e2
 have hB2 := hB1.trans (e2.mono hB1.size)
 obtain ⟨wb, hwb⟩ : ∃ x, wa.alloc (.cells #[.int .i64 0, .int .i64 0] 37) = x := ⟨_, rfl⟩
 rw [hwb] at gP2 gR hB2
 rw [hsa] at gR
 obtain ⟨C, hC⟩ : ∃ C, w.heap.size = C := ⟨_, rfl⟩
 rw [hC] at gP2 gR hsa
 have p0 := (row_cell gP2 0).1
 have p1 := (row_cell gP2 1).1
 clear hB1 gP e2 m1 m2 ha3 hb8
 have m1 : (a : Int) % 3 = (a3 : Int) := by rw [← m3, Int.tmod_eq_emod_of_nonneg (by omega)]
 have m2 : (b : Int) % 8 = (b8 : Int) := by rw [← m4, Int.tmod_eq_emod_of_nonneg (by omega)]
 go_enter Tryz.func13, Tryz.ntmps13
 subst hwb hwa
 go_wp2_with fail
 refine (hS.out _).mono ?_
 rintro e w1 ⟨rfl, hb1⟩
 have gR1 := gR.keep hb1
 have hB3 := hB2.trans (hb1.mono hB2.size)
 obtain ⟨r0, f0⟩ := row_cell gR1 0
 obtain ⟨r1, f1⟩ := row_cell gR1 1
 obtain ⟨w9, h9, ⟨c0, c1⟩, hb9⟩ := st2_ex (HB.c2 gR1) (.int .i64 (N : Nat)) (.int .i64 (L : Nat))
 have hB9 := hB3.trans (hb9.mono (by omega))
 clear gP2 gR gR1 hb1 hb9 hB2 hB3 p0 p1 hS
 subst h9
 go_wp2_with fail
 refine bodyPost_ret (v := .agg #[.int .i64 (N : Nat), .int .i64 (L : Nat)]) (by simp [results, Tryz.results13, go_sem, c0, c1]) rfl ⟨rfl, hB9⟩
def fewI (x : Itm) : Bool := decide (x.2.2.2.1.length ≤ 12) && decide (x.2.2.2.2.length ≤ 22) && x.2.2.2.1.all fun e => decide (e.2.length ≤ 20)
def fewB (p : Gv) : Bool := decide (p.tiles.length ≤ 20 ∧ p.fill.length ≤ 40 ∧ p.items.length ≤ 4 ∧ p.spoil.length ≤ 4) && p.items.all fewI
end Go.Proofs.YtkkbngcgphlikaaGreatDoor
end
section
namespace Go.Proofs.YtkkbngcgphlikaaGreatDoor
open Go.Lib Go.RowKit Go.ChangeShapes Go.WideShapes Go.Deep Go.Shelf
theorem EN.at {w : World} {Ae : Option Addr} {ne ce : Nat} {es : List Pe} (h : EN w (.slice Ae ne ce) es) (hl : es.length = ne) (w1 : World) (hb : Below w.heap.size w w1) (k : Nat) (hk : k < ne) :
 ∃ g off a A l c, Ae = some ⟨g, off, none⟩ ∧ ne ≤ ce ∧ g < w.heap.size ∧ es.getD k default = (a, l) ∧ (a, l) ∈ es ∧ KL .u64 w1 (.slice A l.length c) l ∧ (w1.cell? ⟨g, off + k * 2, none⟩ = some (.int .i64 a) ∧ w1.cell? ⟨g, off + k * 2 + 1, none⟩ = some (.slice A l.length c)) := by
 obtain ⟨xs, h1, h2, h3⟩ := h
 have hx : xs.length = ne := by rw [← hl, ← h3, List.length_map]
 obtain ⟨A, c, hv, hc⟩ := EL.form h1 hx
 cases hv
 obtain ⟨g, off, rfl, q1, q2, q3, q4⟩ := hc w1 k hb hk
 have hm : xs.getD k default ∈ xs := by rw [List.getD_eq_getElem?_getD, List.getElem?_eq_getElem (by omega)]; exact List.getElem_mem _
 have hit : es.getD k default = px (xs.getD k default) := by
  rw [← h3, List.getD_eq_getElem?_getD, List.getD_eq_getElem?_getD, List.getElem?_map, List.getElem?_eq_getElem (by omega)]
  rfl
 have hmi : px (xs.getD k default) ∈ es := by rw [← h3]; exact List.mem_map_of_mem hm
 have hK := (h2 _ hm).keep hb
 obtain ⟨q, hq⟩ : ∃ q, xs.getD k default = q := ⟨_, rfl⟩
 rw [hq] at hK hit hmi q4
 obtain ⟨a, v, l⟩ := q
 simp only [] at hK
 obtain ⟨A2, c2, hv2, _⟩ := hK.form rfl
 subst hv2
 exact ⟨g, off, a, A2, l, c2, rfl, q1, q2, hit, hmi, hK, q4 0 (by omega), q4 1 (by omega)⟩
end Go.Proofs.YtkkbngcgphlikaaGreatDoor
end
section
namespace Go.Proofs.YtkkbngcgphlikaaGreatDoor
open Go.RowKit Go.ChangeShapes Go.WideShapes Go.Deep
theorem sl_cell {H : Type} {enc : TypeId × Value → H} {P : Program} {W : World} {n : Nat} {t e : TypeId} {u : Value} {y : DataW H × List MemPlace} (ht : P.underlying t = some (.slice e)) (h : DataW.trod enc P W 0 (fun _ => true) true n t [u] = some y) :
 ∃ ad len cap, u = .slice ad len cap ∧ DataW.Trod enc P W 0 (fun _ => true) true t (.slice ad len cap) y.1 y.2 := by
 have hs : ∃ ad len cap, u = .slice ad len cap := by
  obtain ⟨d, p⟩ := y
  rcases open_slice ht h with ⟨hcs, _⟩ | ⟨a, len', cap', m, n', D, Pl, hcs, _⟩
  ·simp at hcs; exact ⟨none, 0, 0, hcs⟩
  simp at hcs; exact ⟨some a, len', cap', hcs⟩
 obtain ⟨ad, len, cap, rfl⟩ := hs
 exact ⟨ad, len, cap, rfl, ⟨n, by obtain ⟨d, p⟩ := y; simpa [Value.cells] using h⟩⟩
theorem c8 : Tryz.prog.cellsOf 5 = 1 := by kernel_rfl
end Go.Proofs.YtkkbngcgphlikaaGreatDoor
end
