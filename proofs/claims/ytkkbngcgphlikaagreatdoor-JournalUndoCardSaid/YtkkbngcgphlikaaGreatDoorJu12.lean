/-
  Part of the proof of JournalUndo.
-/
import Derived.Test.YtkkbngcgphlikaaGreatDoorJu11
import Derived.Test.YtkkbngcgphlikaaGreatDoorJu9
import Derived.Test.YtkkbngcgphlikaaGreatDoorRows
import Derived.Test.YtkkbngcgphlikaaGreatDoorJu0
set_option maxRecDepth 10000
set_option maxHeartbeats 4000000
set_option linter.unusedVariables false
set_option linter.unusedSimpArgs false
section
namespace Go.Proofs.YtkkbngcgphlikaaGreatDoor
open Go.RowKit
def SB (s : Sp) : Prop := -4398046511104 ≤ s.1 ∧ s.1 ≤ 4398046511104 ∧ -4398046511104 ≤ s.1 + s.2 ∧ s.1 + s.2 ≤ 4398046511104
def SBs (l : List Sp) : Prop := ∀ x ∈ l, SB x
theorem SBs.at {l : List Sp} (h : SBs l) (i : Nat) (hi : i < l.length) : SB (l.getD i (0, 0)) := by
 rw [List.getD_eq_getElem?_getD, List.getElem?_eq_getElem hi]
 exact h _ (List.getElem_mem hi)
def PL (w : World) (v : Value) (l : List Sp) : Prop :=
 ∃ A cap, v = .slice A l.length cap ∧ (0 < l.length → ∃ g off, A = some ⟨g, off, none⟩ ∧ g < w.heap.size ∧ l.length ≤ cap ∧
   ∀ i, i < l.length → w.cell? ⟨g, off + i * 2, none⟩ = some (.int .i64 (l.getD i (0, 0)).1) ∧ w.cell? ⟨g, off + i * 2 + 1, none⟩ = some (.int .i64 (l.getD i (0, 0)).2))
theorem PL.keep {w w1 : World} {v : Value} {l : List Sp} (h : PL w v l) (hb : Below w.heap.size w w1) : PL w1 v l := by
 obtain ⟨A, cap, hv, h⟩ := h
 refine ⟨A, cap, hv, fun hl => ?_⟩
 obtain ⟨g, off, hA, hg, hc, hi⟩ := h hl
 exact ⟨g, off, hA, Nat.lt_of_lt_of_le hg hb.size, hc, fun i h => by rw [(bcell hb).1 _ _ hg, (bcell hb).1 _ _ hg]; exact hi i h⟩
theorem PL.form {w : World} {v : Value} {l : List Sp} {n : Nat} (h : PL w v l) (hn : l.length = n) : ∃ A cap, v = .slice A n cap ∧
 ∀ w1 i, Below w.heap.size w w1 → i < n → ∃ g off, A = some ⟨g, off, none⟩ ∧ n ≤ cap ∧ g < w1.heap.size ∧ w1.cell? ⟨g, off + i * 2, none⟩ = some (.int .i64 (l.getD i (0, 0)).1) ∧ w1.cell? ⟨g, off + i * 2 + 1, none⟩ = some (.int .i64 (l.getD i (0, 0)).2) := by
 obtain ⟨A, cap, hv, h⟩ := h
 refine ⟨A, cap, by rw [hv, hn], fun w1 i hb hi => ?_⟩
 obtain ⟨g, off, hA, hg, hc, hcell⟩ := h (by omega)
 refine ⟨g, off, hA, by omega, Nat.lt_of_lt_of_le hg hb.size, ?_, ?_⟩
 ·rw [(bcell hb).1 _ _ hg]; exact (hcell i (by omega)).1
 rw [(bcell hb).1 _ _ hg]; exact (hcell i (by omega)).2
theorem dN {B : Nat} {a w : World} (h : Below B a w) (n : Nat) : Below B a (w.drewN n) := ⟨h.os, h.tape, h.output, h.size, h.block⟩
theorem totS_take (l : List Sp) (k : Nat) (h : k < l.length) : totS (l.take (k + 1)) = totS (l.take k) + (l.getD k (0, 0)).2 := by
 rw [List.take_succ_eq_append_getElem h, totS_app, List.getD_eq_getElem?_getD, List.getElem?_eq_getElem h, totS_cons, totS_nil, Option.getD_some]
 omega
theorem totS_bd (l : List Sp) (hl : SBs l) : ∀ k, k ≤ l.length → -8796093022208 * (k : Int) ≤ totS (l.take k) ∧ totS (l.take k) ≤ 8796093022208 * (k : Int)
 | 0, _ => by simp [totS_nil]
 | k + 1, h => by
   have := totS_bd l hl k (by omega)
   obtain ⟨h1, h2, h3, h4⟩ := hl.at k (by omega)
   rw [totS_take l k (by omega)]
   omega
theorem total_any (v : Value) (l : List Sp) (w : World) (hl : SBs l) (hlen : l.length ≤ 1000) (hv : PL w v l) :
 Calls Tryz.prog 96 #[v] w fun e w' => e = .returned (.int .i64 (totS l)) ∧ Below w.heap.size w w' := by
 obtain ⟨n, hn⟩ : ∃ n, l.length = n := ⟨_, rfl⟩
 obtain ⟨A, cap, rfl, hC⟩ := hv.form hn
 have hI := lh (fun i (hi : i < n) => hl.at i (by omega))
 have hD := lh (fun i (hi : i ≤ n) => totS_bd l hl i (by omega))
 have hS := lh (fun i (hi : i < n) => totS_take l i (by omega))
 have hE := lh (show totS (l.take n) = totS l from by rw [List.take_of_length_le (by omega)])
 replace hC := lh hC
 have hlen' : n ≤ 1000 := by omega
 clear hl hlen hn
 go_enter Tryz.func96, Tryz.ntmps96
 go_wp2_with fail
 go_loopw [3, 5, 8] (fun s b x wr => ∃ k : Nat, ∃ t : Int, k ≤ n ∧ x = .int .i64 k ∧ s = .int .i64 t ∧ Hid (t = totS (l.take k)) ∧ Below w.heap.size w wr) (fun _ _ i _ => n + 1 - (intOf i).toNat)
 case atStart => exact ⟨0, 0, Nat.zero_le _, rfl, rfl, rfl, Below.refl _ _⟩
 obtain ⟨k, t, hk, rfl, rfl, hT, hB⟩ := hrel
 by_cases hlt : k < n
 rotate_left
 ·obtain rfl : k = n := by omega
  have hR := lh (show t = totS l from by rw [hT.out, hE.out])
  clear hT
  go_wp2_with fail
  go_ret
  exact ⟨by rw [hR.out]; rfl, hB⟩
 obtain ⟨g, off, rfl, hcap, hg, c0, c1⟩ := hC.out wr k hB hlt
 have hlt' : (k : Int) < (n : Int) := by omega
 obtain ⟨h1, h2, h3, h4⟩ := hI.out k hlt
 have hd := hD.out k (by omega)
 rw [← hT.out] at hd
 have hT2 := lh (show t + (l.getD k (0, 0)).2 = totS (l.take (k + 1)) from by rw [hS.out k hlt, ← hT.out])
 generalize l.getD k (0, 0) = s at *
 obtain ⟨a, b⟩ := s
 simp only [] at h1 h2 h3 h4 c0 c1 hT2
 go_wp2_with fail
 go_roundw
 case rel => exact ⟨k + 1, t + b, by omega, by go_num, by go_num, hT2, hB.alloc hB.size _⟩
 simp [intOf]; omega
end Go.Proofs.YtkkbngcgphlikaaGreatDoor
end
section
namespace Go.Proofs.YtkkbngcgphlikaaGreatDoor
open Go.RowKit
theorem infoSp : (Tryz.prog.info? 70).map (fun i => (i.zero, i.size, i.bytes)) = some (some (.agg #[.int .i64 0, .int .i64 0]), 2, 16) := by kernel_rfl
def spv : List Sp → List Value
 | [] => []
 | x :: l => .int .i64 x.1 :: .int .i64 x.2 :: spv l
theorem spv_app (l m : List Sp) : spv (l ++ m) = spv l ++ spv m := by
 induction l with
 | nil => rfl
 | cons x l ih => simp [spv, ih]
theorem spv_len (l : List Sp) : (spv l).length = l.length * 2 := by
 induction l with
 | nil => rfl
 | cons x l ih => simp [spv, ih]; omega
theorem spv_at : ∀ (l : List Sp) (i : Nat), i < l.length → (spv l)[i * 2]? = some (.int .i64 (l.getD i (0, 0)).1) ∧ (spv l)[i * 2 + 1]? = some (.int .i64 (l.getD i (0, 0)).2)
 | x :: l, 0, _ => by simp [spv]
 | x :: l, i + 1, h => by
   have := spv_at l i (by simpa using h)
   rw [show (i + 1) * 2 = i * 2 + 1 + 1 by omega]
   simpa [spv] using this
theorem spv_one (l : List Sp) : ∀ u ∈ spv l, u.oneCell' = true := by
 induction l with
 | nil => intro u hu; simp [spv] at hu
 | cons x l ih =>
   intro u hu
   simp only [spv, List.mem_cons] at hu
   rcases hu with rfl | rfl | hu
   ·rfl
   ·rfl
   exact ih u hu
def OwnSp (w : World) (base : Nat) (v : Value) (l : List Sp) : Prop := w.ownsRow base 70 2 v l.length (spv l)
theorem OwnSp.keep {w w1 : World} {base : Nat} {v : Value} {l : List Sp} (h : OwnSp w base v l) (hb : Below w.heap.size w w1) : OwnSp w1 base v l := by
 refine ⟨h.1, ?_⟩
 rcases h.2 with h2 | ⟨g, cap, cur, hv, hbg, hg, h1, h2, h3, h4⟩
 ·exact .inl h2
 exact .inr ⟨g, cap, cur, hv, hbg, by rw [hb.block g (Array.getElem?_eq_some_iff.1 hg).1]; exact hg, h1, h2, h3, h4⟩
theorem OwnSp.mono {w : World} {base b2 : Nat} {v : Value} {l : List Sp} (h : OwnSp w base v l) (hb : b2 ≤ base) : OwnSp w b2 v l := by
 refine ⟨h.1, ?_⟩
 rcases h.2 with h2 | ⟨g, cap, cur, hv, hbg, hg, h1, h2, h3, h4⟩
 ·exact .inl h2
 exact .inr ⟨g, cap, cur, hv, by omega, hg, h1, h2, h3, h4⟩
theorem OwnSp.pl {w : World} {base : Nat} {v : Value} {l : List Sp} (h : OwnSp w base v l) : PL w v l := by
 have h' := h
 rcases h.2 with ⟨hv, hn⟩ | ⟨g, cap, cur, hv, hb, hg, h1, h2, h3, h4⟩
 ·have : l = [] := by
   have hl := spv_len l
   rw [hn] at hl
   exact List.length_eq_zero_iff.1 (by simp at hl; omega)
  subst this
  exact ⟨none, 0, hv, fun h => by simp at h⟩
 subst hv
 refine ⟨some ⟨g, 0, none⟩, cap, rfl, fun _ => ⟨g, 0, rfl, (Array.getElem?_eq_some_iff.1 hg).1, h1, fun i hi => ?_⟩⟩
 rw [Nat.zero_add]
 constructor
 ·rw [World.ownsRow.cellAt h' (i * 2) (by omega)]; exact (spv_at l i hi).1
 rw [World.ownsRow.cellAt h' (i * 2 + 1) (by omega)]; exact (spv_at l i hi).2
theorem OwnSp.nil (w : World) (base : Nat) : OwnSp w base (.slice none 0 0) [] := World.ownsRow_nil _ _ _ _
theorem OwnSp.lt {w : World} {base : Nat} {v : Value} {l : List Sp} (h : OwnSp w base v l) : ∀ k, v.ownBlock = some k → base ≤ k ∧ k < w.heap.size := World.ownsRow.lt h
theorem app1 {w : World} {base g : Nat} {v : Value} {l : List Sp} {s : Sp} (hown : OwnSp w base v l) (hx : C2 w g (.int .i64 s.1) (.int .i64 s.2)) (hb : base ≤ w.heap.size) (hsm : l.length ≤ 1000000) :
 ∃ v' w', (Builtin.append_ #[49, 49] 49 #[v, .slice (some ⟨g, 0, none⟩) 1 1]).run Tryz.prog w = .ok v' w' ∧ OwnSp w' base v' (l ++ [s]) ∧ w.grownBy w' v.ownBlock ∧ (v'.ownBlock = v.ownBlock ∨ v'.ownBlock = some w.heap.size) := by
 obtain ⟨i0, hi, hz0, hz1, hz2⟩ := info_parts infoSp
 obtain ⟨v', w', hrun, h1, h2, _, h4⟩ := run_append_own_at (P := Tryz.prog) w base 49 49 70 i0 (.agg #[.int .i64 0, .int .i64 0]) 2 16 Tryz.underlying49 hi hz0 hz1 hz2 rfl (by decide) v l.length (spv l) hown ⟨g, 0, none⟩ 1 1 (spv [s]) rfl
  (fun j u hj => by
    match j, hj with
    | 0, hj => simp only [spv, List.getElem?_cons_zero] at hj; rw [← hj]; simpa [Addr.add] using hx.1
    | 1, hj => simp only [spv, List.getElem?_cons_succ, List.getElem?_cons_zero] at hj; rw [← hj]; simpa [Addr.add] using hx.2
    | j + 2, hj => simp [spv] at hj) (spv_one [s]) (by unfold maxLen; omega) (by omega) hb
 refine ⟨v', w', hrun, ?_, h2, h4⟩
 unfold OwnSp
 rw [List.length_append, spv_app]
 exact h1
end Go.Proofs.YtkkbngcgphlikaaGreatDoor
end
section
namespace Go.Proofs.YtkkbngcgphlikaaGreatDoor
open Go.RowKit
def inter1 (n : Int) (s x : Sp) : List Sp := if max (s.1 - n) 0 < min (s.1 + s.2 - n) x.2 then [(x.1 + max (s.1 - n) 0, min (s.1 + s.2 - n) x.2 - max (s.1 - n) 0)] else []
def interL (s : Sp) : Int → List Sp → List Sp
 | _, [] => []
 | n, x :: l => inter1 n s x ++ interL s (n + x.2) l
theorem interL_app (s : Sp) (l m : List Sp) : ∀ n : Int, interL s n (l ++ m) = interL s n l ++ interL s (n + totS l) m := by
 induction l with
 | nil => intro n; simp [interL, totS_nil]
 | cons x l ih =>
   intro n
   simp only [List.cons_append, interL]
   rw [ih, totS_cons, List.append_assoc, show n + x.2 + totS l = n + (x.2 + totS l) by omega]
theorem interL_take (s : Sp) (l : List Sp) (k : Nat) (h : k < l.length) : interL s 0 (l.take (k + 1)) = interL s 0 (l.take k) ++ inter1 (totS (l.take k)) s (l.getD k (0, 0)) := by
 rw [List.take_succ_eq_append_getElem h, interL_app, List.getD_eq_getElem?_getD, List.getElem?_eq_getElem h]
 simp [interL]
def Npos (l : List Sp) : Prop := ∀ x ∈ l, 0 ≤ x.2
theorem interL_out (s : Sp) : ∀ (l : List Sp) (n : Int), Npos l → s.1 + s.2 ≤ n → interL s n l = []
 | [], _, _, _ => rfl
 | x :: l, n, h, hn => by
   have hx := h x (by simp)
   simp only [interL]
   rw [interL_out s l (n + x.2) (fun y hy => h y (by simp [hy])) (by omega)]
   unfold inter1
   rw [if_neg (by omega)]
   rfl
theorem tot_nn {l : List Sp} (h : Npos l) : 0 ≤ totS l := by
 induction l with
 | nil => simp [totS_nil]
 | cons x l ih =>
   rw [totS_cons]
   have := h x (by simp)
   have := ih (fun y hy => h y (by simp [hy]))
   omega
def posS (s : Sp) (n : Int) : Int := max 0 (min (n - s.1) s.2)
def cutL (l : List Sp) (s : Sp) : List Sp := if s.1 < 0 ∨ s.2 < 1 then [] else if s.1 + s.2 ≤ totS l then interL s 0 l else []
def PB (x : Sp) : Prop := 0 ≤ x.1 ∧ 0 ≤ x.2 ∧ x.2 ≤ 1000 ∧ x.1 + x.2 ≤ 2199023255552
def PBs (l : List Sp) : Prop := ∀ x ∈ l, PB x
theorem PBs.at {l : List Sp} (h : PBs l) (i : Nat) (hi : i < l.length) : PB (l.getD i (0, 0)) := by
 rw [List.getD_eq_getElem?_getD, List.getElem?_eq_getElem hi]
 exact h _ (List.getElem_mem hi)
theorem PBs.np {l : List Sp} (h : PBs l) : Npos l := fun x hx => (h x hx).2.1
theorem PBs.tot (l : List Sp) (h : PBs l) : ∀ k, k ≤ l.length → 0 ≤ totS (l.take k) ∧ totS (l.take k) ≤ 1000 * (k : Int)
 | 0, _ => by simp [totS_nil]
 | k + 1, hk => by
   have := PBs.tot l h k (by omega)
   have hx := h.at k (by omega)
   unfold PB at hx
   rw [totS_take l k (by omega)]
   omega
theorem inter_pb (s : Sp) : ∀ (l : List Sp) (n : Int), PBs l → PBs (interL s n l) ∧ (interL s n l).length ≤ l.length
 | [], _, _ => ⟨fun x hx => by simp [interL] at hx, by simp [interL]⟩
 | x :: l, n, h => by
   have hx := h x (by simp)
   obtain ⟨i1, i2⟩ := inter_pb s l (n + x.2) (fun y hy => h y (by simp [hy]))
   unfold PB at hx
   simp only [interL]
   constructor
   ·intro y hy
    rcases List.mem_append.1 hy with hy | hy
    ·unfold inter1 at hy
     split at hy
     ·simp at hy; subst hy; unfold PB; simp only []; omega
     ·simp at hy
    ·exact i1 y hy
   ·unfold inter1
    split <;> simp <;> omega
theorem cut_pb {l : List Sp} (s : Sp) (h : PBs l) : PBs (cutL l s) ∧ (cutL l s).length ≤ l.length := by
 unfold cutL
 split
 ·exact ⟨fun x hx => by simp at hx, by simp⟩
 split
 ·exact inter_pb s l 0 h
 exact ⟨fun x hx => by simp at hx, by simp⟩
theorem cut_any (v : Value) (l : List Sp) (s : Sp) (w : World) (hl : PBs l) (hlen : l.length ≤ 1000) (hs1 : -2199023255552 ≤ s.1) (hs2 : s.1 ≤ 2199023255552) (hs3 : -2199023255552 ≤ s.2) (hs4 : s.2 ≤ 2199023255552) (hv : PL w v l) :
 Calls Tryz.prog 97 #[v, .agg #[.int .i64 s.1, .int .i64 s.2]] w fun e w' => ∃ v', e = .returned v' ∧ OwnSp w' w.heap.size v' (cutL l s) ∧ Below w.heap.size w w' := by
 obtain ⟨n, hn⟩ : ∃ n, l.length = n := ⟨_, rfl⟩
 obtain ⟨A, cap, rfl, hC⟩ := hv.form hn
 have hI := lh (fun i (hi : i < n) => hl.at i (by omega))
 have hT := lh (fun i (hi : i < n) => totS_take l i (by omega))
 have hTb := lh (fun i (hi : i ≤ n) => PBs.tot l hl i (by omega))
 have hS := lh (fun i (hi : i < n) => interL_take s l i (by omega))
 have hO := lh (fun i (hi : i ≤ n) (h : s.1 + s.2 ≤ totS (l.take i)) => show interL s 0 (l.take i) = interL s 0 l from by
  have h2 := interL_app s (l.take i) (l.drop i) 0
  rw [List.take_append_drop] at h2
  rw [h2, Int.zero_add, interL_out s (l.drop i) _ (fun x hx => hl.np x (List.mem_of_mem_drop hx)) h, List.append_nil])
 have hTm := lh (fun i (hi : i ≤ n) => show totS (l.take i) ≤ totS l from by
  have h2 := totS_app (l.take i) (l.drop i)
  rw [List.take_append_drop] at h2
  have := tot_nn (l := l.drop i) (fun x hx => hl.np x (List.mem_of_mem_drop hx))
  omega)
 have hE := lh (show l.take n = l from by rw [List.take_of_length_le (by omega)])
 have hnp := lh (tot_nn hl.np)
 replace hC := lh hC
 have hlen' : n ≤ 1000 := by omega
 have kk := C2.new w (.int .i64 s.1) (.int .i64 s.2) (70 : Nat)
 have hB0 : Below w.heap.size w (w.alloc (.cells #[.int .i64 s.1, .int .i64 s.2] (70 : Nat))) := bZ _ _
 obtain ⟨k0, k1⟩ := id kk
 clear hl hlen hn
 by_cases hs5 : s.1 < 0
 ·have hR := lh (show cutL l s = [] from by unfold cutL; rw [if_pos (.inl hs5)])
  go_enter Tryz.func97, Tryz.ntmps97
  go_wp2_with fail
  go_ret
  exact ⟨_, rfl, by rw [hR.out]; exact OwnSp.nil _ _, hB0⟩
 by_cases hs6 : s.2 < 1
 ·have hR := lh (show cutL l s = [] from by unfold cutL; rw [if_pos (.inr hs6)])
  go_enter Tryz.func97, Tryz.ntmps97
  go_wp2_with fail
  go_ret
  exact ⟨_, rfl, by rw [hR.out]; exact OwnSp.nil _ _, hB0⟩
 have hcut := lh (show cutL l s = if s.1 + s.2 ≤ totS l then interL s 0 l else [] from by unfold cutL; rw [if_neg (by omega)])
 replace hs5 : 0 ≤ s.1 := by omega
 replace hs6 : 1 ≤ s.2 := by omega
 go_enter Tryz.func97, Tryz.ntmps97
 go_wp2_with fail
 go_region
 all_goals (try go_wp2_with fail)
 go_loopw [5, 6, 7, 25] (fun u sk lf x wr => ∃ (k : Nat) (S T : Int) (P : List Sp), k ≤ n ∧ x = .int .i64 k ∧ sk = .int .i64 S ∧ lf = .int .i64 T ∧ Hid (P = interL s 0 (l.take k)) ∧ Hid (S = max (s.1 - totS (l.take k)) 0) ∧ Hid (T = s.2 - posS s (totS (l.take k))) ∧ 0 ≤ S ∧ S ≤ 2199023255552 ∧ 0 ≤ T ∧ T ≤ 2199023255552 ∧ P.length ≤ k ∧ OwnSp wr w.heap.size u P ∧ Below w.heap.size w wr) (fun _ _ _ i _ => n + 1 - (intOf i).toNat)
 case atStart => exact ⟨0, s.1, s.2, [], Nat.zero_le _, rfl, rfl, rfl, rfl, by show s.1 = _; simp only [List.take_zero, totS_nil]; omega, by show s.2 = _; simp only [List.take_zero, totS_nil]; unfold posS; omega, hs5, hs2, by omega, hs4, by simp, OwnSp.nil _ _, by first | exact hB0.drew | exact dN hB0 _ | exact hB0⟩
 obtain ⟨k, S, T, P, hk, rfl, rfl, rfl, hP, hSk, hTk, b1, b2, b3, b4, hPl, hown, hB⟩ := hrel
 have hEnd0 := lh (fun (h : T = 0) => show cutL l s = P from by
  have ht : s.1 + s.2 ≤ totS (l.take k) := by
   have := hTk.out
   unfold posS at this; omega
  rw [hcut.out, if_pos (Int.le_trans ht (hTm.out k hk)), hP.out, hO.out k hk ht])
 by_cases hlt : k < n
 rotate_left
 ·obtain rfl : k = n := by omega
  by_cases hz : 0 < T
  ·have hR := lh (show cutL l s = [] from by
    rw [hcut.out, if_neg]
    have := hTk.out
    rw [hE.out] at this
    have h0 := hnp.out
    unfold posS at this
    omega)
   go_wp2_with fail
   go_ret
   exact ⟨_, rfl, by rw [hR.out]; exact OwnSp.nil _ _, hB⟩
  obtain rfl : T = 0 := by omega
  have hR := lh (hEnd0.out rfl)
  go_wp2_with fail
  go_ret
  exact ⟨_, rfl, by rw [hR.out]; exact hown, hB⟩
 obtain ⟨g, off, rfl, hcap, hg, c0, c1⟩ := hC.out wr k hB hlt
 have hlt' : (k : Int) < (n : Int) := by omega
 obtain ⟨x1, x2, x3, x4⟩ := hI.out k hlt
 have hT1 := hT.out k hlt
 have hS1 := hS.out k hlt
 have htb := hTb.out k hk
 rw [← hP.out] at hS1
 generalize l.getD k (0, 0) = x at *
 generalize totS (l.take k) = t at *
 obtain ⟨t', ht'⟩ : ∃ t', t' = totS (l.take (k + 1)) := ⟨_, rfl⟩
 obtain ⟨P', hP'⟩ : ∃ P', P' = interL s 0 (l.take (k + 1)) := ⟨_, rfl⟩
 rw [← ht'] at hT1
 rw [← hP'] at hS1
 replace ht' := lh ht'
 replace hP' := lh hP'
 have hBa := hB.alloc hB.size (.cells #[.int .i64 x.1, .int .i64 x.2] 70)
 have hoa : OwnSp (wr.alloc (.cells #[.int .i64 x.1, .int .i64 x.2] 70)) w.heap.size u5 P := hown.keep (bZ _ _)
 by_cases hz : T = 0
 ·have hR := lh (hEnd0.out hz)
  subst hz
  clear hT1 hS1 htb hEnd0
  go_wp2_with fail
  go_ret
  exact ⟨_, rfl, by rw [hR.out]; exact hoa, hBa⟩
 have hz1 : (T == 0) = false := by rw [beq_eq_false_iff_ne]; exact hz
 have hz2 : 0 < T := by omega
 clear hz hEnd0
 by_cases hsk : x.2 ≤ S
 ·have r1 := lh (show P = P' from by
   rw [hS1]
   unfold inter1
   rw [if_neg (by have := hSk.out; omega), List.append_nil])
  have r2 := lh (show S - x.2 = max (s.1 - t') 0 from by have := hSk.out; omega)
  have r3 := lh (show T = s.2 - posS s t' from by
   have h1 := hSk.out
   have h2 := hTk.out
   unfold posS at h2 ⊢
   omega)
  clear hT1 hS1 htb
  go_wp2_with fail
  go_roundw
  case rel => exact ⟨k + 1, _, _, _, by omega, by go_num, rfl, rfl, by rw [r1.out, hP'.out]; rfl, by have h := r2.out; rw [ht'.out] at h; exact h, by rw [r3.out, ht'.out]; rfl, by omega, by omega, by omega, by omega, by omega, hoa, hBa⟩
  simp [intOf]; omega
 replace hsk : S < x.2 := by omega
 by_cases hmn : x.2 - S ≤ T
 ·have r1 := lh (show P ++ [(x.1 + S, x.2 - S)] = P' from by
   have h1 := hSk.out
   have h2 := hTk.out
   rw [hS1]
   unfold posS at h2
   unfold inter1
   rw [if_pos (by omega)]
   congr 2
   refine Prod.ext ?_ ?_ <;> simp only [] <;> omega)
  have r2 := lh (show (0 : Int) = max (s.1 - t') 0 from by have := hSk.out; omega)
  have r3 := lh (show T - (x.2 - S) = s.2 - posS s t' from by
   have h1 := hSk.out
   have h2 := hTk.out
   unfold posS at h2 ⊢
   omega)
  clear hT1 hS1 htb
  obtain ⟨v', w2, hrun, ho, hg2, hl2⟩ := app1 (w := (wr.alloc (.cells #[.int .i64 x.1, .int .i64 x.2] 70)).alloc (.cells #[.int .i64 (x.1 + S), .int .i64 (x.2 - S)] (70 : Nat))) (l := P) (s := (x.1 + S, x.2 - S)) (base := w.heap.size) (hoa.keep (bZ _ _)) (C2.new (wr.alloc (.cells #[.int .i64 x.1, .int .i64 x.2] 70)) (.int .i64 (x.1 + S)) (.int .i64 (x.2 - S)) (70 : Nat)) (by have := hBa.size; simp at *; omega) (by omega)
  have hB2 : Below w.heap.size w w2 := (hBa.alloc hBa.size _).grown hg2 (by have := hBa.size; simp at *; omega) (fun j hj => (hown.lt _ hj).1)
  simp only [World.size_alloc] at hrun
  clear hg2 hl2 hown hoa hBa hB
  go_wp2_with (at_builtin; refine wpList_append_run rfl _ _ 49 rfl _ _ _ rfl rfl hrun ?_)
  clear hrun
  go_wp2_with fail
  go_roundw
  case rel => exact ⟨k + 1, _, _, _, by omega, by go_num, rfl, rfl, by rw [r1.out, hP'.out]; rfl, by have h := r2.out; rw [ht'.out] at h; exact h, by rw [r3.out, ht'.out]; rfl, by omega, by omega, by omega, by omega, by simp; omega, ho, hB2⟩
  simp [intOf]; omega
 have hmn2 : T < x.2 - S := by omega
 clear hmn
 have r1 := lh (show P ++ [(x.1 + S, T)] = P' from by
  have h1 := hSk.out
  have h2 := hTk.out
  rw [hS1]
  unfold posS at h2
  unfold inter1
  rw [if_pos (by omega)]
  congr 2
  refine Prod.ext ?_ ?_ <;> simp only [] <;> omega)
 have r2 := lh (show (0 : Int) = max (s.1 - t') 0 from by
  have h1 := hSk.out
  omega)
 have r3 := lh (show T - T = s.2 - posS s t' from by
  have h1 := hSk.out
  have h2 := hTk.out
  unfold posS at h2 ⊢
  omega)
 clear hT1 hS1 htb
 obtain ⟨v', w2, hrun, ho, hg2, hl2⟩ := app1 (w := (wr.alloc (.cells #[.int .i64 x.1, .int .i64 x.2] 70)).alloc (.cells #[.int .i64 (x.1 + S), .int .i64 T] (70 : Nat))) (l := P) (s := (x.1 + S, T)) (base := w.heap.size) (hoa.keep (bZ _ _)) (C2.new (wr.alloc (.cells #[.int .i64 x.1, .int .i64 x.2] 70)) (.int .i64 (x.1 + S)) (.int .i64 T) (70 : Nat)) (by have := hBa.size; simp at *; omega) (by omega)
 have hB2 : Below w.heap.size w w2 := (hBa.alloc hBa.size _).grown hg2 (by have := hBa.size; simp at *; omega) (fun j hj => (hown.lt _ hj).1)
 simp only [World.size_alloc] at hrun
 clear hg2 hl2 hown hoa hBa hB
 go_wp2_with (at_builtin; refine wpList_append_run rfl _ _ 49 rfl _ _ _ rfl rfl hrun ?_)
 clear hrun
 go_wp2_with fail
 have r3' := r3.out
 rw [Int.sub_self] at r3'
 go_roundw
 case rel => exact ⟨k + 1, 0, 0, _, by omega, by go_num, rfl, rfl, by rw [r1.out, hP'.out]; rfl, by have h := r2.out; rw [ht'.out] at h; exact h, by rw [r3', ht'.out]; rfl, by omega, by omega, by omega, by omega, by simp; omega, ho, hB2⟩
 simp [intOf]; omega
def headP (l : List Sp) : Int := match l with | [] => -1 | x :: _ => x.1
def atL (l : List Sp) (i : Int) : Int := headP (cutL l (i, 1))
theorem at_any (v : Value) (l : List Sp) (i : Int) (w : World) (hl : PBs l) (hlen : l.length ≤ 1000) (hs1 : -2199023255552 ≤ i) (hs2 : i ≤ 2199023255552) (hv : PL w v l) :
 Calls Tryz.prog 98 #[v, .int .i64 i] w fun e w' => e = .returned (.int .i64 (atL l i)) ∧ Below w.heap.size w w' := by
 have hC := lh (cut_any v l (i, 1) w hl hlen hs1 hs2 (by simp only []; omega) (by simp only []; omega) hv)
 have hA := lh (show atL l i = headP (cutL l (i, 1)) from rfl)
 clear hv
 generalize cutL l (i, 1) = P at *
 go_enter Tryz.func98, Tryz.ntmps98
 go_wp2_with fail
 refine hC.out.mono ?_
 rintro e w1 ⟨v1, rfl, ho, hb⟩
 cases P with
 | nil =>
   obtain ⟨A1, c1, rfl, _⟩ := ho.pl.form (n := 0) rfl
   clear ho
   go_wp2_with fail
   go_ret
   exact ⟨by rw [hA.out]; rfl, hb⟩
 | cons x P =>
   obtain ⟨m, hm⟩ : ∃ m, (x :: P).length = m + 1 := ⟨P.length, by simp⟩
   obtain ⟨A1, c1, rfl, hcc⟩ := ho.pl.form (n := m + 1) hm
   obtain ⟨g, off, rfl, _, _, d0, _⟩ := hcc w1 0 (Below.refl _ _) (by omega)
   simp only [Nat.zero_mul, Nat.add_zero, List.getD_cons_zero] at d0
   have q0 : (0 : Int) < ((m + 1 : Nat) : Int) := by omega
   have q1 : (((m + 1 : Nat) : Int) == 0) = false := by rw [beq_eq_false_iff_ne]; omega
   clear ho hcc hm
   go_wp2_with fail
   go_ret
   exact ⟨by rw [hA.out]; rfl, hb⟩
end Go.Proofs.YtkkbngcgphlikaaGreatDoor
end
