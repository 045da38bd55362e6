/-
  Layer 20 (tx): the objects that were made, by their places: the code's made, All; Noted, Gone.
-/
import Derived.Test.YtcemiclbeocnjaaTk6
set_option linter.unusedVariables false
set_option linter.unusedSimpArgs false
namespace Go.Proofs.Ytcemiclbeocnjaa
open Go.RowKit Go.ChangeShapes Go.WideShapes Go.Deep Go.Maps

open Classical in
/-- the objects of a map, by their places -/
noncomputable def madeL (g : Gf) : List Fx := if h : ∃ L, KeysOf g L then (Classical.choose h).map (fun x => (g x).getD fx0) else []
theorem madeL_eq {g : Gf} {L : List Int} (h : KeysOf g L) : madeL g = L.map (fun x => (g x).getD fx0) := by
  unfold madeL
  rw [dif_pos ⟨L, h⟩, (Classical.choose_spec (p := KeysOf g) ⟨L, h⟩).uniq h]
theorem fE_len (f : Fx) : (fE f).length = 9 := rfl
theorem infoFresh : (Try.prog.info? 69).map (fun i => (i.zero, i.size, i.bytes)) = some (some (fV fx0), 9, 72) := by kernel_rfl
theorem fT : ElT Try.prog 58 69 9 72 fE :=
  ⟨Try.underlying58, by obtain ⟨i0, h1, h2, h3, h4⟩ := info_parts infoFresh; exact ⟨i0, _, h1, h2, h3, h4, rfl⟩, fE_len, fun x u hu => by simp only [fE, List.mem_cons, List.not_mem_nil, or_false] at hu; rcases hu with rfl | rfl | rfl | rfl | rfl | rfl | rfl | rfl | rfl <;> rfl, by decide, by decide⟩
instance : Inhabited Fx := ⟨fx0⟩
theorem one_fresh (w : World) (f : Fx) : EL 9 fE (w.alloc (.cells (fE f).toArray (69 : Nat))) (.slice (some ⟨w.heap.size, 0, none⟩) 1 1) [f] := (OwnE.lit 69 fE_len w [f] (fE f).toArray (by simp) (by simp)).el fE_len
theorem rows_ne {w : World} {b1 b2 s1 s2 : Nat} {e1 e2 : TypeId} {v1 v2 : Value} {n1 n2 : Nat} {x1 x2 : List Value} (h : w.ownsRow b1 e1 s1 v1 n1 x1) (k : w.ownsRow b2 e2 s2 v2 n2 x2) (hne : e1 ≠ e2) : v1.ownBlock = none ∨ v1.ownBlock ≠ v2.ownBlock := by
  rcases h.2 with ⟨rfl, _⟩ | ⟨g, cap, cur, rfl, _, hg, _⟩
  · exact .inl rfl
  · refine .inr fun e => ?_
    rcases k.2 with ⟨rfl, _⟩ | ⟨g2, cap2, cur2, rfl, _, hg2, _⟩
    · cases e
    · simp only [Value.ownBlock, Option.some.injEq] at e
      subst e
      rw [hg] at hg2
      cases hg2
      exact hne rfl
theorem map_take {α β : Type} [Inhabited α] (f : α → β) (L : List α) (k : Nat) (h : k < L.length) : (L.take (k + 1)).map f = (L.take k).map f ++ [f (L.getD k default)] := by
  rw [List.take_succ_eq_append_getElem h, List.map_append, List.getD_eq_getElem?_getD, List.getElem?_eq_getElem h]
  rfl

set_option maxRecDepth 10000 in
set_option maxHeartbeats 2000000 in
theorem made_any (B : Nat) (F : Nat → Prop) (s : St) (w : World) (h : TxAt w B F s) (hn : s.n ≤ 1000) :
    Calls Try.prog 81 #[.pointer (some ⟨B, 0, none⟩)] w fun e w' => ∃ v, e = .returned v ∧ OwnE 69 9 fE w' w.heap.size v (madeL s.fresh) ∧ (∃ L, KeysOf s.fresh L) ∧ (madeL s.fresh).length ≤ s.n ∧ Below w.heap.size w w' := by
  obtain ⟨M, v0, v4, hR⟩ := h
  obtain ⟨⟨c0, c1, c2, c3, c4, c5, c6⟩, fz⟩ := hR.cells
  have hb1 : Below w.heap.size w (w.alloc (.cells #[.map (some M)] (105 : Nat))) := (Below.refl _ w).alloc (Nat.le_refl _) _
  have hK := Keys_any M w
  have hS := Sorted_any M w.heap.size s.n s.fresh (w.alloc (.cells #[.map (some M)] (105 : Nat))) (hR.fresh.keep hb1) (cell_new w _ _).1 (by omega)
  have hF := Lib.hid hR.fresh
  clear hR c0 c2 c3 c4 c5 c6 fz
  obtain ⟨noted, fresh, n, depth, bad, gone, root, named⟩ := s
  simp only [] at *
  go_enter Try.func81, Try.ntmps81
  go_wp2_with (first
    | (go_at_call 96; refine hK.mono ?_; rintro e w1 ⟨rfl, rfl⟩)
    | (go_at_call 86; refine hS.mono ?_; rintro e w1 ⟨vL, L, rfl, hoL, hL, hLn, hb⟩
       obtain ⟨m, hm⟩ : ∃ m, L.length = m := ⟨_, rfl⟩
       obtain ⟨A, cap, rfl, hC⟩ := (hoL.el iE_len).form hm
       clear hC))
  have hbw := hb1.trans (hb.mono hb1.size)
  have hoL1 : OwnE 3 1 iE w1 w.heap.size (.slice A m cap) L := hoL.mono hb1.size
  have hx := Lib.hid (fun k (hk : k < m) => show I64 (L.getD k default) from by
    have h1 : L.getD k default ∈ L := by
      rw [List.getD_eq_getElem?_getD, List.getElem?_eq_getElem (by omega)]
      exact List.getElem_mem _
    obtain ⟨f, hf⟩ := (hL.mem _).1 h1
    obtain ⟨D, _, hp⟩ := hF.out
    exact (hp.got _ f hf).1)
  have hT := Lib.hid (fun k (hk : k < m) => map_take (fun x => (fresh x).getD fx0) L k (by omega))
  have hE := Lib.hid (madeL_eq hL)
  have hL' := Lib.hid hL
  have hLm := Lib.hid hm
  have hmn : m ≤ n := by omega
  clear hK hS hb hb1 hoL hL hLn hm
  go_loopw [3, 13] (fun v i wr => ∃ k : Nat, k ≤ m ∧ i = .int .i64 k ∧ OwnE 69 9 fE wr w.heap.size v ((L.take k).map (fun x => (fresh x).getD fx0)) ∧ OwnE 3 1 iE wr w.heap.size (.slice A m cap) L ∧ Below w.heap.size w wr) (fun _ i _ => m + 1 - (intOf i).toNat)
  case atStart => exact ⟨0, Nat.zero_le _, rfl, OwnE.nil _ _ _ _ _, hoL1, hbw⟩
  case round =>
    clear hoL1 hbw
    obtain ⟨k, hk, rfl, hv, hoL, hB⟩ := hrel
    by_cases hlt : k < m
    · obtain ⟨A2, cap2, he, hC⟩ := (hoL.el iE_len).form hLm.out
      obtain ⟨g2, off, hA, hcap, _, hg, hcl⟩ := hC wr k (Below.refl _ _) hlt
      cases he
      subst hA
      have d0 := hcl 0 (by omega)
      rw [Nat.add_zero, Nat.mul_one] at d0
      clear hcl hC
      have hlt' : (k : Int) < (m : Int) := by omega
      have cr := cellK c1 hB
      have hxk := hx.out k hlt
      have hTk := Lib.hid (hT.out k hlt)
      have hlk := (hF.out.keep hB).look1 hxk
      generalize L.getD k default = x at *
      replace d0 : wr.cell? ⟨g2, off + k, none⟩ = some (.int .i64 x) := d0
      generalize (fresh x).getD fx0 = f at *
      obtain ⟨⟨a1, a2, a3, a4, a5⟩, a6, a7, a8, a9⟩ := f
      have hlenL : ((L.take k).map (fun x => (fresh x).getD fx0)).length ≤ 1000000 := by simp; omega
      obtain ⟨v', w2, hrun, ho2, hg2, hn2, _⟩ := appE fT (hv.alloc (.cells (fE ((a1, a2, a3, a4, a5), a6, a7, a8, a9)).toArray (69 : Nat))) (one_fresh wr ((a1, a2, a3, a4, a5), a6, a7, a8, a9)) (by have := hB.size; simp; omega) hlenL (by simp)
      have hL2 := Lib.hid ((hoL.alloc (.cells (fE ((a1, a2, a3, a4, a5), a6, a7, a8, a9)).toArray (69 : Nat))).kept hg2 (rows_ne (hoL.alloc (.cells (fE ((a1, a2, a3, a4, a5), a6, a7, a8, a9)).toArray (69 : Nat))) (hv.alloc (.cells (fE ((a1, a2, a3, a4, a5), a6, a7, a8, a9)).toArray (69 : Nat))) (by decide)))
      have hB2 := Lib.hid ((hB.alloc hB.size (.cells (fE ((a1, a2, a3, a4, a5), a6, a7, a8, a9)).toArray (69 : Nat))).grown hg2 (by have := hB.size; simp; omega) (fun j hj => (hv.lt j hj).1))
      rw [← hTk.out] at ho2
      replace ho2 := Lib.hid ho2
      simp only [fV, fE] at *
      clear hv hoL hg2 hn2 hxk
      go_wp2_with (at_builtin; refine wpList_append_run rfl _ _ 58 rfl _ _ _ rfl rfl hrun ?_)
      go_roundw
      case rel => exact ⟨k + 1, by omega, by go_num, ho2.out, hL2.out, hB2.out⟩
      case measure => simp [intOf]; omega
    · obtain rfl : k = m := by omega
      have hl : (L.take k) = L := List.take_of_length_le (by have := hLm.out; omega)
      rw [hl] at hv
      replace hv := Lib.hid hv
      clear hl hoL
      go_wp2_with fail
      go_ret
      exact ⟨_, rfl, by rw [hE.out]; exact hv.out, ⟨_, hL'.out⟩, by rw [hE.out, List.length_map, hLm.out]; exact hmn, hB⟩

set_option maxHeartbeats 1000000 in
theorem All_any (B : Nat) (F : Nat → Prop) (s : St) (w : World) (h : TxAt w B F s) (hn : s.n ≤ 1000) :
    Calls Try.prog 42 #[.pointer (some ⟨B, 0, none⟩)] w fun e w' => ∃ v, e = .returned v ∧ OwnE 69 9 fE w' w.heap.size v (madeL s.fresh) ∧ (∃ L, KeysOf s.fresh L) ∧ (madeL s.fresh).length ≤ s.n ∧ Below w.heap.size w w' := by
  have hM := made_any B F s w h hn
  have hBl := h.lt _ h.fB
  obtain ⟨M, v0, v4, hR⟩ := h
  obtain ⟨⟨c0, c1, c2, c3, c4, c5, c6⟩, fz⟩ := hR.cells
  clear hR fz c1 c2 c3 c4 c5 c6
  go_enter Try.func42, Try.ntmps42
  go_wp2_with (go_at_call 81; refine hM.mono ?_; rintro e w1 ⟨v, rfl, h1, h2, h3, h4⟩)
  go_ret
  exact ⟨_, rfl, h1, h2, h3, h4⟩

def spE (s : Sp) : List Value := [.int .i64 s.1, .int .i64 s.2]
theorem spE_len (s : Sp) : (spE s).length = 2 := rfl
theorem spT : ElT Try.prog 57 63 2 16 spE :=
  ⟨Try.underlying57, by obtain ⟨i0, h1, h2, h3, h4⟩ := info_parts infoSp; exact ⟨i0, _, h1, h2, h3, h4, rfl⟩, spE_len, fun x u hu => by simp only [spE, List.mem_cons, List.not_mem_nil, or_false] at hu; rcases hu with rfl | rfl <;> rfl, by decide, by decide⟩
theorem spv_fm (l : List Sp) : l.flatMap spE = spv l := by
  induction l with
  | nil => rfl
  | cons x l ih => rw [List.flatMap_cons, ih]; rfl
theorem ownSp_iff {w : World} {base : Nat} {v : Value} {l : List Sp} : OwnSp w base v l ↔ OwnE 63 2 spE w base v l := by
  unfold OwnSp OwnE
  rw [spv_fm]

set_option maxHeartbeats 1000000 in
theorem cloneS_any (v : Value) (l : List Sp) (b : Nat) (w : World) (hlen : l.length ≤ 1000000) (hv : OwnE 63 2 spE w b v l) :
    Calls Try.prog 79 #[v] w fun e w' => ∃ v', e = .returned v' ∧ OwnE 63 2 spE w' w.heap.size v' l ∧ Below w.heap.size w w' := by
  have h0 := OwnE.lit 63 spE_len w [] #[] rfl (by simp)
  obtain ⟨v1, w1, hrun, ho, hg, _, _⟩ := appE spT h0 (hv.alloc (.cells #[] (63 : Nat)) |>.el spE_len) (by simp) (by simp) hlen
  have hB : Below w.heap.size w w1 := ((Below.refl _ w).alloc (Nat.le_refl _) _).grown hg (by simp) (fun j hj => (h0.lt j hj).1)
  rw [List.nil_append] at ho
  have qT : ∀ (w : World) (a : Option Addr) (n c n' c' : Nat), (binOp .eql 57 (.slice a n c) (.slice none n' c')).run Try.prog w = .ok (.bool a.isNone) w := fun w a n c n' c' => Lib.run_eql_slice_nil w _ _ a n c n' c' Try.underlying57
  rcases hv.2 with ⟨rfl, h00⟩ | ⟨g, cap, cur, rfl, hbg, hgg, _⟩
  · have hl : l = [] := by simpa using h00
    subst hl
    clear hrun ho hg hB hv h0
    go_enter Try.func79, Try.ntmps79
    go_wp2_with fail
    go_ret
    exact ⟨_, rfl, OwnE.nil _ _ _ _ _, Below.refl _ _⟩
  · replace ho := Lib.hid ho
    clear hg hgg hv h0 hlen
    simp only [List.length_nil] at hrun
    generalize l.length = n at *
    go_enter Try.func79, Try.ntmps79
    go_wp2_with (at_builtin; refine wpList_append_run rfl _ _ 57 rfl _ _ _ rfl rfl hrun ?_)
    go_ret
    exact ⟨_, rfl, ho.out, hB⟩

set_option maxHeartbeats 1000000 in
theorem cloneI_any (v : Value) (l : List Int) (b : Nat) (w : World) (hlen : l.length ≤ 1000000) (hv : OwnE 3 1 iE w b v l) :
    Calls Try.prog 82 #[v] w fun e w' => ∃ v', e = .returned v' ∧ OwnE 3 1 iE w' w.heap.size v' l ∧ Below w.heap.size w w' := by
  have h0 := OwnE.lit 3 iE_len w [] #[] rfl (by simp)
  obtain ⟨v1, w1, hrun, ho, hg, _, _⟩ := appE iT h0 (hv.alloc (.cells #[] (3 : Nat)) |>.el iE_len) (by simp) (by simp) hlen
  have hB : Below w.heap.size w w1 := ((Below.refl _ w).alloc (Nat.le_refl _) _).grown hg (by simp) (fun j hj => (h0.lt j hj).1)
  rw [List.nil_append] at ho
  have qT : ∀ (w : World) (a : Option Addr) (n c n' c' : Nat), (binOp .eql 43 (.slice a n c) (.slice none n' c')).run Try.prog w = .ok (.bool a.isNone) w := fun w a n c n' c' => Lib.run_eql_slice_nil w _ _ a n c n' c' Try.underlying43
  rcases hv.2 with ⟨rfl, h00⟩ | ⟨g, cap, cur, rfl, hbg, hgg, _⟩
  · have hl : l = [] := by simpa using h00
    subst hl
    clear hrun ho hg hB hv h0
    go_enter Try.func82, Try.ntmps82
    go_wp2_with fail
    go_ret
    exact ⟨_, rfl, OwnE.nil _ _ _ _ _, Below.refl _ _⟩
  · replace ho := Lib.hid ho
    clear hg hgg hv h0 hlen
    simp only [List.length_nil] at hrun
    generalize l.length = n at *
    go_enter Try.func82, Try.ntmps82
    go_wp2_with (at_builtin; refine wpList_append_run rfl _ _ 43 rfl _ _ _ rfl rfl hrun ?_)
    go_ret
    exact ⟨_, rfl, ho.out, hB⟩

set_option maxHeartbeats 1000000 in
theorem Noted_any (B : Nat) (F : Nat → Prop) (s : St) (w : World) (h : TxAt w B F s) (hlen : s.noted.length ≤ 1000000) :
    Calls Try.prog 38 #[.pointer (some ⟨B, 0, none⟩)] w fun e w' => ∃ v, e = .returned v ∧ OwnSp w' w.heap.size v s.noted ∧ Below w.heap.size w w' := by
  obtain ⟨M, v0, v4, hR⟩ := h
  obtain ⟨⟨c0, c1, c2, c3, c4, c5, c6⟩, fz⟩ := hR.cells
  have hC := cloneS_any v0 s.noted 0 w hlen (ownSp_iff.1 hR.noted)
  obtain ⟨A, cap, rfl, hq⟩ := ((ownSp_iff.1 hR.noted).el spE_len).form rfl
  clear hR fz c1 c2 c3 c4 c5 c6 hq hlen
  obtain ⟨noted, fresh, n, depth, bad, gone, root, named⟩ := s
  simp only [] at *
  go_enter Try.func38, Try.ntmps38
  go_wp2_with (go_at_call 79; refine hC.mono ?_; rintro e w1 ⟨v, rfl, h1, h2⟩)
  go_ret
  exact ⟨_, rfl, ownSp_iff.2 h1, h2⟩

set_option maxHeartbeats 1000000 in
theorem Gone_any (B : Nat) (F : Nat → Prop) (s : St) (w : World) (h : TxAt w B F s) (hlen : s.gone.length ≤ 1000000) :
    Calls Try.prog 43 #[.pointer (some ⟨B, 0, none⟩)] w fun e w' => ∃ v, e = .returned v ∧ OwnE 3 1 iE w' w.heap.size v s.gone ∧ Below w.heap.size w w' := by
  obtain ⟨M, v0, v4, hR⟩ := h
  obtain ⟨⟨c0, c1, c2, c3, c4, c5, c6⟩, fz⟩ := hR.cells
  have hC := cloneI_any v4 s.gone 0 w hlen hR.gone
  obtain ⟨A, cap, rfl, hq⟩ := (hR.gone.el iE_len).form rfl
  clear hR fz c0 c1 c2 c3 c5 c6 hq hlen
  obtain ⟨noted, fresh, n, depth, bad, gone, root, named⟩ := s
  simp only [] at *
  go_enter Try.func43, Try.ntmps43
  go_wp2_with (go_at_call 82; refine hC.mono ?_; rintro e w1 ⟨v, rfl, h1, h2⟩)
  go_ret
  exact ⟨_, rfl, h1, h2⟩
end Go.Proofs.Ytcemiclbeocnjaa
