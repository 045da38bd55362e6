/-
  What the calls of package span answer: Add.
-/
import Derived.Test.YtcemiclbeocnjaaTSpan3
import Derived.Maps.AppendAt
import Derived.Laws.OwnMore
import Derived.OwnWalk
set_option linter.unusedVariables false
namespace Go.Proofs.Ytcemiclbeocnjaa
open Go.RowKit

theorem infoSp : (Try.prog.info? 63).map (fun i => (i.zero, i.size, i.bytes)) = some (some (.agg #[.int .i64 0, .int .i64 0]), 2, 16) := by kernel_rfl
def spv : List Sp → List Value
  | [] => []
  | x :: l => .int .i64 x.1 :: .int .i64 x.2 :: spv l
theorem spv_app (l m : List Sp) : spv (l ++ m) = spv l ++ spv m := by
  induction l with
  | nil => rfl
  | cons x l ih => simp [spv, ih]
theorem spv_len (l : List Sp) : (spv l).length = l.length * 2 := by
  induction l with
  | nil => rfl
  | cons x l ih => simp [spv, ih]; omega
theorem spv_at : ∀ (l : List Sp) (i : Nat), i < l.length → (spv l)[i * 2]? = some (.int .i64 (l.getD i (0, 0)).1) ∧ (spv l)[i * 2 + 1]? = some (.int .i64 (l.getD i (0, 0)).2)
  | x :: l, 0, _ => by simp [spv]
  | x :: l, i + 1, h => by
    have := spv_at l i (by simpa using h)
    rw [show (i + 1) * 2 = i * 2 + 1 + 1 by omega]
    simpa [spv] using this
theorem spv_one (l : List Sp) : ∀ u ∈ spv l, u.oneCell' = true := by
  induction l with
  | nil => intro u hu; simp [spv] at hu
  | cons x l ih =>
    intro u hu
    simp only [spv, List.mem_cons] at hu
    rcases hu with rfl | rfl | hu
    · rfl
    · rfl
    · exact ih u hu
def OwnSp (w : World) (base : Nat) (v : Value) (l : List Sp) : Prop := w.ownsRow base 63 2 v l.length (spv l)
theorem OwnSp.keep {w w1 : World} {base : Nat} {v : Value} {l : List Sp} (h : OwnSp w base v l) (hb : Below w.heap.size w w1) : OwnSp w1 base v l := by
  refine ⟨h.1, ?_⟩
  rcases h.2 with h2 | ⟨g, cap, cur, hv, hbg, hg, h1, h2, h3, h4⟩
  · exact .inl h2
  · exact .inr ⟨g, cap, cur, hv, hbg, by rw [hb.block g (Array.getElem?_eq_some_iff.1 hg).1]; exact hg, h1, h2, h3, h4⟩
theorem OwnSp.mono {w : World} {base b2 : Nat} {v : Value} {l : List Sp} (h : OwnSp w base v l) (hb : b2 ≤ base) : OwnSp w b2 v l := by
  refine ⟨h.1, ?_⟩
  rcases h.2 with h2 | ⟨g, cap, cur, hv, hbg, hg, h1, h2, h3, h4⟩
  · exact .inl h2
  · exact .inr ⟨g, cap, cur, hv, by omega, hg, h1, h2, h3, h4⟩
theorem OwnSp.pl {w : World} {base : Nat} {v : Value} {l : List Sp} (h : OwnSp w base v l) : PL w v l := by
  have h' := h
  rcases h.2 with ⟨hv, hn⟩ | ⟨g, cap, cur, hv, hb, hg, h1, h2, h3, h4⟩
  · have : l = [] := by
      have hl := spv_len l
      rw [hn] at hl
      exact List.length_eq_zero_iff.1 (by simp at hl; omega)
    subst this
    exact ⟨none, 0, hv, fun h => by simp at h⟩
  · subst hv
    refine ⟨some ⟨g, 0, none⟩, cap, rfl, fun _ => ⟨g, 0, rfl, (Array.getElem?_eq_some_iff.1 hg).1, h1, fun i hi => ?_⟩⟩
    rw [Nat.zero_add]
    constructor
    · rw [World.ownsRow.cellAt h' (i * 2) (by omega)]; exact (spv_at l i hi).1
    · rw [World.ownsRow.cellAt h' (i * 2 + 1) (by omega)]; exact (spv_at l i hi).2
theorem OwnSp.nil (w : World) (base : Nat) : OwnSp w base (.slice none 0 0) [] := World.ownsRow_nil _ _ _ _
theorem OwnSp.lt {w : World} {base : Nat} {v : Value} {l : List Sp} (h : OwnSp w base v l) : ∀ k, v.ownBlock = some k → base ≤ k ∧ k < w.heap.size := World.ownsRow.lt h
theorem OwnSp.kept {w w1 : World} {base : Nat} {v : Value} {l : List Sp} {row : Option Nat} (h : OwnSp w base v l) (hg : w.grownBy w1 row) (hne : v.ownBlock = none ∨ v.ownBlock ≠ row) : OwnSp w1 base v l := World.ownsRow.kept h hg hne
theorem wpList_append_run {P : Program} {w w' : World} {ops : Array Oper} {rest : List Oper} {o : Oper} {a : Act} {Q : Exit → Act → World → Prop} (hg : o.guard = none) (s x : Operand) (t : TypeId)
    (hop : o.op = Op.call { callee := Callee.builtin Builtin.append, args := #[s, x], argTypes := #[t, t] }) (vs vx v : Value) (hs : a.eval s = vs) (hx : a.eval x = vx)
    (hrun : (Builtin.append_ #[t, t] o.type #[vs, vx]).run P w = .ok v w') (h : wpList P ops Q rest (a.put o.dst v) w') : wpList P ops Q (o :: rest) a w := by
  refine wpList_plain hg fun K hK => ?_
  unfold Oper.wp
  simp [execOp, hop, resolve, invoke, builtin, hs, hx, hrun, Result.andThen]
  exact hK _ _ h
/-- append of one span -/
theorem app1 {w : World} {base g : Nat} {v : Value} {l : List Sp} {s : Sp} (hown : OwnSp w base v l) (hx : C2 w g (.int .i64 s.1) (.int .i64 s.2)) (hb : base ≤ w.heap.size) (hsm : l.length ≤ 1000000) :
    ∃ v' w', (Builtin.append_ #[57, 57] 57 #[v, .slice (some ⟨g, 0, none⟩) 1 1]).run Try.prog w = .ok v' w' ∧ OwnSp w' base v' (l ++ [s]) ∧ w.grownBy w' v.ownBlock ∧ (v'.ownBlock = v.ownBlock ∨ v'.ownBlock = some w.heap.size) := by
  obtain ⟨i0, hi, hz0, hz1, hz2⟩ := info_parts infoSp
  obtain ⟨v', w', hrun, h1, h2, _, h4⟩ := run_append_own_at (P := Try.prog) w base 57 57 63 i0 (.agg #[.int .i64 0, .int .i64 0]) 2 16 Try.underlying57 hi hz0 hz1 hz2 rfl (by decide) v l.length (spv l) hown ⟨g, 0, none⟩ 1 1 (spv [s]) rfl
    (fun j u hj => by
      match j, hj with
      | 0, hj => simp only [spv, List.getElem?_cons_zero] at hj; rw [← hj]; simpa [Addr.add] using hx.1
      | 1, hj => simp only [spv, List.getElem?_cons_succ, List.getElem?_cons_zero] at hj; rw [← hj]; simpa [Addr.add] using hx.2
      | j + 2, hj => simp [spv] at hj) (spv_one [s]) (by unfold maxLen; omega) (by omega) hb
  refine ⟨v', w', hrun, ?_, h2, h4⟩
  unfold OwnSp
  rw [List.length_append, spv_app]
  exact h1
/-- append of spans -/
theorem app2 {w : World} {base b2 : Nat} {v u : Value} {l m : List Sp} (hown : OwnSp w base v l) (ha : OwnSp w b2 u m) (hb : base ≤ w.heap.size) (hsm : l.length ≤ 1000000) (hsm2 : m.length ≤ 1000000) :
    ∃ v' w', (Builtin.append_ #[57, 57] 57 #[v, u]).run Try.prog w = .ok v' w' ∧ OwnSp w' base v' (l ++ m) ∧ w.grownBy w' v.ownBlock ∧ (v'.ownBlock = v.ownBlock ∨ v'.ownBlock = some w.heap.size) := by
  obtain ⟨i0, hi, hz0, hz1, hz2⟩ := info_parts infoSp
  have ht : Try.prog.underlying 57 = some (.slice 63) := Try.underlying57
  rcases ha.2 with ⟨rfl, hn⟩ | ⟨g, cap, cur, rfl, hbg, hg, h1, h2, h3, h4⟩
  · have : m = [] := by
      have hl := spv_len m
      rw [hn] at hl
      exact List.length_eq_zero_iff.1 (by simp at hl; omega)
    subst this
    refine ⟨v, w, ?_, by simpa using hown, World.grownBy.refl w _, .inl rfl⟩
    rcases hown.2 with ⟨rfl, _⟩ | ⟨g, cap, cur, rfl, _, _, hnc, _⟩
    · simp [Builtin.append_, run_underlying ht, sizeOf, typeInfo, hi, Builtin.lenOf, Builtin.firstCells]
    · simp [Builtin.append_, run_underlying ht, sizeOf, typeInfo, hi, Builtin.lenOf, Builtin.firstCells, hnc, storeCells]
  · obtain ⟨v', w', hrun, k1, k2, _, k4⟩ := run_append_own_at (P := Try.prog) w base 57 57 63 i0 (.agg #[.int .i64 0, .int .i64 0]) 2 16 Try.underlying57 hi hz0 hz1 hz2 rfl (by decide) v l.length (spv l) hown ⟨g, 0, none⟩ m.length cap (spv m) (spv_len m) (World.ownsRow.cells ha (g := g) rfl) (spv_one m) (by unfold maxLen; omega) (by omega) hb
    refine ⟨v', w', hrun, ?_, k2, k4⟩
    unfold OwnSp
    rw [List.length_append, spv_app]
    exact k1

/-- what holds at the head of each round of Add -/
structure AddR (w wr : World) (k : Nat) (t : AddSt) (v5 v6 : Value) : Prop where
  b : OwnSp wr (w.heap.size + 1) v5 t.b
  a : OwnSp wr (w.heap.size + 1) v6 t.a
  d : ∀ g, v5.ownBlock = some g → v6.ownBlock = some g → False
  s : C2 wr w.heap.size (.int .i64 t.s.1) (.int .i64 t.s.2)
  f : F2 wr w.heap.size
  B : Below w.heap.size w wr
  n : t.b.length + t.a.length ≤ k
  sb : SB t.s
theorem AddR.keep {w wr w1 : World} {k : Nat} {t : AddSt} {v5 v6 : Value} (h : AddR w wr k t v5 v6) (hb : Below wr.heap.size wr w1) : AddR w w1 k t v5 v6 :=
  ⟨h.b.keep hb, h.a.keep hb, h.d, h.s.keep hb, h.f.keep h.s.lt hb, h.B.trans (hb.mono h.B.size), h.n, h.sb⟩
theorem AddR.drew {w wr : World} {k : Nat} {t : AddSt} {v5 v6 : Value} (h : AddR w wr k t v5 v6) : AddR w wr.drew k t v5 v6 := h.keep ((Below.refl _ _).drew)
theorem AddR.drewN {w wr : World} {k : Nat} {t : AddSt} {v5 v6 : Value} (h : AddR w wr k t v5 v6) (n : Nat) : AddR w (wr.drewN n) k t v5 v6 := h.keep (dN (Below.refl _ _) n)
theorem C2.drewN {w : World} {g : Nat} {x y : Value} (h : C2 w g x y) (n : Nat) : C2 (w.drewN n) g x y := h.keep (dN (Below.refl _ _) n)
theorem AddR.alloc {w wr : World} {k : Nat} {t : AddSt} {v5 v6 : Value} (h : AddR w wr k t v5 v6) (o : Obj) : AddR w (wr.alloc o) k t v5 v6 := h.keep ((Below.refl _ _).alloc (Nat.le_refl _) _)
theorem AddR.sz {w wr : World} {k : Nat} {t : AddSt} {v5 v6 : Value} (h : AddR w wr k t v5 v6) : w.heap.size + 1 ≤ wr.heap.size := h.s.lt
theorem grown_c2 {w w1 : World} {g : Nat} {x y : Value} {row : Option Nat} (h : C2 w g x y) (hg : w.grownBy w1 row) (hne : some g ≠ row) : C2 w1 g x y := ⟨hg.cell h.1 hne, hg.cell h.2 hne⟩
theorem grown_f2 {w w1 : World} {g : Nat} {row : Option Nat} (h : F2 w g) (hl : g < w.heap.size) (hg : w.grownBy w1 row) (hne : some g ≠ row) : F2 w1 g :=
  ⟨(World.frozen?_of_block (a := ⟨g, 0, none⟩) (hg.block g hl hne)).trans h.1, (World.frozen?_of_block (a := ⟨g, 1, none⟩) (hg.block g hl hne)).trans h.2⟩
theorem AddR.far {w wr : World} {k : Nat} {t : AddSt} {v5 v6 : Value} (h : AddR w wr k t v5 v6) : some w.heap.size ≠ v5.ownBlock ∧ some w.heap.size ≠ v6.ownBlock :=
  ⟨fun e => by have := (h.b.lt _ e.symm).1; omega, fun e => by have := (h.a.lt _ e.symm).1; omega⟩
theorem AddR.pushB {w W w2 : World} {k : Nat} {t : AddSt} {v5 v6 v' : Value} {x : Sp} (h : AddR w W k t v5 v6) (hown : OwnSp w2 (w.heap.size + 1) v' (t.b ++ [x])) (hg : W.grownBy w2 v5.ownBlock) (hl : v'.ownBlock = v5.ownBlock ∨ v'.ownBlock = some W.heap.size)
    (hc : t.s.2 < 1 ∨ x.1 + x.2 < t.s.1) : AddR w w2 (k + 1) (addF t x) v' v6 := by
  unfold addF
  rw [if_pos hc]
  refine ⟨hown, h.a.kept hg ?_, ?_, grown_c2 h.s hg h.far.1, grown_f2 h.f h.s.lt hg h.far.1, h.B.grown hg h.B.size (fun j hj => by have := (h.b.lt _ hj).1; omega), ?_, h.sb⟩
  · rcases e : v6.ownBlock with _ | g
    · exact .inl rfl
    · exact .inr (fun q => h.d g q.symm e)
  · intro g e5 e6
    rcases hl with hl | hl
    · exact h.d g (hl ▸ e5) e6
    · rw [hl] at e5
      have := (h.a.lt g e6).2
      simp at e5; omega
  · have := h.n; simp only [List.length_append, List.length_singleton]; omega
theorem AddR.pushA {w W w2 : World} {k : Nat} {t : AddSt} {v5 v6 v' : Value} {x : Sp} (h : AddR w W k t v5 v6) (hown : OwnSp w2 (w.heap.size + 1) v' (t.a ++ [x])) (hg : W.grownBy w2 v6.ownBlock) (hl : v'.ownBlock = v6.ownBlock ∨ v'.ownBlock = some W.heap.size)
    (hc : ¬ (t.s.2 < 1 ∨ x.1 + x.2 < t.s.1)) (hc2 : t.s.1 + t.s.2 < x.1) : AddR w w2 (k + 1) (addF t x) v5 v' := by
  unfold addF
  rw [if_neg hc, if_pos hc2]
  refine ⟨h.b.kept hg ?_, hown, ?_, grown_c2 h.s hg h.far.2, grown_f2 h.f h.s.lt hg h.far.2, h.B.grown hg h.B.size (fun j hj => by have := (h.a.lt _ hj).1; omega), ?_, h.sb⟩
  · rcases e : v5.ownBlock with _ | g
    · exact .inl rfl
    · exact .inr (fun q => h.d g e q.symm)
  · intro g e5 e6
    rcases hl with hl | hl
    · exact h.d g e5 (hl ▸ e6)
    · rw [hl] at e6
      have := (h.b.lt g e5).2
      simp at e6; omega
  · have := h.n; simp only [List.length_append, List.length_singleton]; omega
theorem AddR.fin {w W w2 : World} {k : Nat} {t : AddSt} {v5 v6 : Value} (h : AddR w W k t v5 v6) (hg : W.grownBy w2 v5.ownBlock) : OwnSp w2 (w.heap.size + 1) v6 t.a ∧ Below w.heap.size w w2 ∧ w.heap.size + 1 ≤ w2.heap.size := by
  refine ⟨h.a.kept hg ?_, h.B.grown hg h.B.size (fun j hj => by have := (h.b.lt _ hj).1; omega), Nat.le_trans h.sz hg.size⟩
  rcases e : v6.ownBlock with _ | g
  · exact .inl rfl
  · exact .inr (fun q => h.d g q.symm e)
theorem OwnSp.setFar {w : World} {base g o : Nat} {v : Value} {l : List Sp} (h : OwnSp w base v l) (hg : g < base) (u : Value) : OwnSp (w.setCell ⟨g, o, none⟩ u) base v l := by
  refine ⟨h.1, ?_⟩
  rcases h.2 with h2 | ⟨g', cap, cur, hv, hbg, hg', h1, h2, h3, h4⟩
  · exact .inl h2
  · exact .inr ⟨g', cap, cur, hv, hbg, (Below.heap_setCell w ⟨g, o, none⟩ u g' (by simp only []; omega)).trans hg', h1, h2, h3, h4⟩
theorem AddR.grow {w W : World} {k : Nat} {t : AddSt} {v5 v6 : Value} {x : Sp} (h : AddR w W k t v5 v6) (hx : SB x) (hc : ¬ (t.s.2 < 1 ∨ x.1 + x.2 < t.s.1)) (hc2 : ¬ t.s.1 + t.s.2 < x.1) :
    AddR w ((W.setCell ⟨w.heap.size, 0, none⟩ (.int .i64 (bothS t.s x).1)).setCell ⟨w.heap.size, 1, none⟩ (.int .i64 (bothS t.s x).2)) (k + 1) (addF t x) v5 v6 := by
  unfold addF
  rw [if_neg hc, if_neg hc2]
  obtain ⟨w9, e9, hC9, hb9⟩ := st2_ex h.s (.int .i64 (bothS t.s x).1) (.int .i64 (bothS t.s x).2)
  rw [← e9]
  refine ⟨?_, ?_, h.d, hC9, ?_, h.B.trans hb9, by have := h.n; simp only []; omega, h.sb.both hx⟩
  · rw [e9]; exact (h.b.setFar (by omega) _).setFar (by omega) _
  · rw [e9]; exact (h.a.setFar (by omega) _).setFar (by omega) _
  · rw [e9]; exact ⟨by rw [World.frozen?_setCell, World.frozen?_setCell]; exact h.f.1, by rw [World.frozen?_setCell, World.frozen?_setCell]; exact h.f.2⟩
theorem addAll_take (l : List Sp) (s : Sp) (k : Nat) (h : k < l.length) : addAll (l.take (k + 1)) s = addF (addAll (l.take k) s) (l.getD k (0, 0)) := by
  rw [List.take_succ_eq_append_getElem h, addAll_snoc, List.getD_eq_getElem?_getD, List.getElem?_eq_getElem h]
  rfl

set_option maxRecDepth 10000 in
set_option maxHeartbeats 4000000 in
theorem add_any (v : Value) (l : List Sp) (s : Sp) (w : World) (hl : SBs l) (hlen : l.length ≤ 1000) (hs : SB s) (hv : PL w v l) :
    Calls Try.prog 77 #[v, .agg #[.int .i64 s.1, .int .i64 s.2]] w fun e w' => ∃ v', e = .returned v' ∧ OwnSp w' w.heap.size v' (addS l s) ∧ Below w.heap.size w w' := by
  obtain ⟨n, hn⟩ : ∃ n, l.length = n := ⟨_, rfl⟩
  obtain ⟨A, cap, rfl, hC⟩ := hv.form hn
  have hI := Lib.hid (fun i (hi : i < n) => hl.at i (by omega))
  have hT := Lib.hid (fun i (hi : i < n) => addAll_take l s i (by omega))
  have hE := Lib.hid (show l.take n = l from by rw [List.take_of_length_le (by omega)])
  replace hC := Lib.hid hC
  have hlen' : n ≤ 1000 := by omega
  clear hl hlen hn
  have kk := C2.new w (.int .i64 s.1) (.int .i64 s.2) (63 : Nat)
  have ff := F2.new w (.int .i64 s.1) (.int .i64 s.2) (63 : Nat)
  have hR0 : AddR w (w.alloc (.cells #[.int .i64 s.1, .int .i64 s.2] (63 : Nat))) 0 ⟨[], [], s⟩ (.slice none 0 0) (.slice none 0 0) :=
    ⟨OwnSp.nil _ _, OwnSp.nil _ _, fun g h => by simp [Value.ownBlock] at h, kk, ff, (Below.refl _ _).alloc (Nat.le_refl _) _, by simp, hs⟩
  clear kk ff
  go_enter Try.func77, Try.ntmps77
  go_wp2_with fail
  go_loopw [5, 6, 11] (fun v5 v6 x wr => ∃ (k : Nat) (t : AddSt), k ≤ n ∧ x = .int .i64 k ∧ Hid (t = addAll (l.take k) s) ∧ AddR w wr k t v5 v6) (fun _ _ i _ => n + 1 - (intOf i).toNat)
  case atStart => exact ⟨0, ⟨[], [], s⟩, Nat.zero_le _, rfl, rfl, hR0⟩
  case round =>
    obtain ⟨k, t, hk, rfl, hT0, hR⟩ := hrel
    clear hR0
    by_cases hlt : k < n
    · obtain ⟨g, off, rfl, hcap, hg, c0, c1⟩ := hC.out wr k (hR.B) hlt
      have hlt' : (k : Int) < (n : Int) := by omega
      have hx := hI.out k hlt
      have hT1 := Lib.hid (show addF t (l.getD k (0, 0)) = addAll (l.take (k + 1)) s from by rw [hT.out k hlt, ← hT0.out])
      generalize l.getD k (0, 0) = x at *
      have hk2 := hR.n
      have htl1 : t.b.length ≤ 1000000 := by omega
      have htl2 : t.a.length ≤ 1000000 := by omega
      clear hk2
      have hsb := hR.sb
      have hRa := hR.alloc (.cells #[.int .i64 x.1, .int .i64 x.2] 63)
      have hx0 := C2.new wr (.int .i64 x.1) (.int .i64 x.2) 63
      have hsz0 := hR.sz
      obtain ⟨x0, x1⟩ := id hx0
      obtain ⟨s0, s1⟩ := id hRa.s
      have hEx := Lib.hid (fun w => end_any x.1 x.2 w hx)
      have hEs := Lib.hid (fun w => end_any t.s.1 t.s.2 w hsb)
      have hBo := Lib.hid (fun w => both_any t.s x w hsb hx)
      have hBd := hRa.B.drew
      have hRd := hRa.drew
      by_cases hA1 : t.s.2 < 1
      · have e1 : decide (t.s.2 < 1) = true := decide_eq_true hA1
        have hcc := Lib.hid (show t.s.2 < 1 ∨ x.1 + x.2 < t.s.1 from .inl hA1)
        clear hA1
        go_wp2_with fail
        go_quiet (fail)
        have hRq : AddR w (World.drewN (wr.alloc (.cells #[.int .i64 x.1, .int .i64 x.2] 63)) nq) k t u5 u6 := hRa.drewN nq
        have hxq : C2 (World.drewN (wr.alloc (.cells #[.int .i64 x.1, .int .i64 x.2] 63)) nq) wr.heap.size (.int .i64 x.1) (.int .i64 x.2) := hx0.drewN nq
        generalize World.drewN (wr.alloc (.cells #[.int .i64 x.1, .int .i64 x.2] 63)) nq = Wq at *
        have hRq2 := hRq.alloc (.cells #[.int .i64 x.1, .int .i64 x.2] (63 : Nat))
        have hxq2 := C2.new Wq (.int .i64 x.1) (.int .i64 x.2) (63 : Nat)
        obtain ⟨v', w2, hrun, ho2, hg2, hl2⟩ := app1 hRq2.b hxq2 hRq2.sz htl1
        have hRn := hRq2.pushB ho2 hg2 hl2 hcc.out
        clear ho2 hg2 hl2 hRq2 hxq2 hRq hRa hRd hR
        obtain ⟨y0, y1⟩ := id hxq
        clear hxq
        go_wp2_with (at_builtin; refine wpList_append_run rfl _ _ 57 rfl _ _ _ rfl rfl hrun ?_)
        clear hrun
        go_wp2_with fail
        go_roundw
        case rel => exact ⟨k + 1, addF t x, by omega, by go_num, hT1, hRn⟩
        case measure => simp [intOf]; omega
      · have e1 : decide (t.s.2 < 1) = false := decide_eq_false hA1
        have hA2 : 1 ≤ t.s.2 := by omega
        by_cases hA3 : x.1 + x.2 < t.s.1
        · have hcc := Lib.hid (show t.s.2 < 1 ∨ x.1 + x.2 < t.s.1 from .inr hA3)
          have e2 : decide (x.1 + x.2 < t.s.1) = true := decide_eq_true hA3
          clear hA1
          go_wp2_with fail
          go_region_held3 (fun w' => w'.cell? ⟨wr.heap.size, 0, none⟩ = some (.int .i64 x.1) ∧ w'.cell? ⟨wr.heap.size, 1, none⟩ = some (.int .i64 x.2) ∧ w'.cell? ⟨w.heap.size, 0, none⟩ = some (.int .i64 t.s.1) ∧ w'.cell? ⟨w.heap.size, 1, none⟩ = some (.int .i64 t.s.2) ∧ AddR w w' k t u5 u6)
            (((try go_split_ands); refine ⟨?_, ?_, ?_, ?_, ?_⟩ <;> first | assumption | exact hRd | (exact AddR.keep (by assumption) hb) | (exact cellK (by assumption) hb) | (exact frozK (by assumption) (by assumption) hb) | (exact Below.trans (by assumption) (hb.mono (Below.size (by assumption))))))
            (((try go_split_ands); first | (go_at_call 78; (with_reducible refine (hEx.out _).mono ?_); rintro e w8 ⟨rfl, hb⟩)))
          go_split_ands
          have hRq := ‹AddR w w8 _ _ _ _›
          have hxq : C2 w8 wr.heap.size (.int .i64 x.1) (.int .i64 x.2) := ⟨by assumption, by assumption⟩
          have hRq2 := hRq.alloc (.cells #[.int .i64 x.1, .int .i64 x.2] (63 : Nat))
          have hxq2 := C2.new w8 (.int .i64 x.1) (.int .i64 x.2) (63 : Nat)
          obtain ⟨v', w2, hrun, ho2, hg2, hl2⟩ := app1 hRq2.b hxq2 hRq2.sz htl1
          have hRn := hRq2.pushB ho2 hg2 hl2 hcc.out
          clear ho2 hg2 hl2 hRq2 hxq2 hRq hRa hRd hR
          obtain ⟨y0, y1⟩ := id hxq
          clear hxq
          go_wp2_with (at_builtin; refine wpList_append_run rfl _ _ 57 rfl _ _ _ rfl rfl hrun ?_)
          clear hrun
          go_wp2_with fail
          go_roundw
          case rel => exact ⟨k + 1, addF t x, by omega, by go_num, hT1, hRn⟩
          case measure => simp [intOf]; omega
        · have hcc := Lib.hid (show ¬ (t.s.2 < 1 ∨ x.1 + x.2 < t.s.1) from fun h => h.elim (fun h => hA1 h) (fun h => hA3 h))
          have e2 : decide (x.1 + x.2 < t.s.1) = false := decide_eq_false hA3
          clear hA1
          by_cases hA4 : t.s.1 + t.s.2 < x.1
          · have e3 : decide (t.s.1 + t.s.2 < x.1) = true := decide_eq_true hA4
            have hcc2 := Lib.hid hA4
            go_wp2_with fail
            go_region_held3 (fun w' => w'.cell? ⟨wr.heap.size, 0, none⟩ = some (.int .i64 x.1) ∧ w'.cell? ⟨wr.heap.size, 1, none⟩ = some (.int .i64 x.2) ∧ w'.cell? ⟨w.heap.size, 0, none⟩ = some (.int .i64 t.s.1) ∧ w'.cell? ⟨w.heap.size, 1, none⟩ = some (.int .i64 t.s.2) ∧ AddR w w' k t u5 u6)
              (((try go_split_ands); refine ⟨?_, ?_, ?_, ?_, ?_⟩ <;> first | assumption | exact hRd | (exact AddR.keep (by assumption) hb) | (exact cellK (by assumption) hb) | (exact frozK (by assumption) (by assumption) hb) | (exact Below.trans (by assumption) (hb.mono (Below.size (by assumption))))))
              (((try go_split_ands); first | (go_at_call 78; (with_reducible refine (hEx.out _).mono ?_); rintro e w8 ⟨rfl, hb⟩)))
            go_split_ands
            have hRq1 := ‹AddR w w8 _ _ _ _›
            have hRe := hRq1.drew
            go_wp2_with fail
            go_region_held3 (fun w' => w'.cell? ⟨wr.heap.size, 0, none⟩ = some (.int .i64 x.1) ∧ w'.cell? ⟨wr.heap.size, 1, none⟩ = some (.int .i64 x.2) ∧ w'.cell? ⟨w.heap.size, 0, none⟩ = some (.int .i64 t.s.1) ∧ w'.cell? ⟨w.heap.size, 1, none⟩ = some (.int .i64 t.s.2) ∧ AddR w w' k t u5 u6)
              (((try go_split_ands); refine ⟨?_, ?_, ?_, ?_, ?_⟩ <;> first | assumption | exact hRe | (exact AddR.keep (by assumption) hb) | (exact cellK (by assumption) hb) | (exact frozK (by assumption) (by assumption) hb) | (exact Below.trans (by assumption) (hb.mono (Below.size (by assumption))))))
              (((try go_split_ands); first | (go_at_call 78; (with_reducible refine (hEs.out _).mono ?_); rintro e w8 ⟨rfl, hb⟩)))
            go_split_ands
            have hRq := ‹AddR w w8 _ _ _ _›
            have hxq : C2 w8 wr.heap.size (.int .i64 x.1) (.int .i64 x.2) := ⟨by assumption, by assumption⟩
            clear hRq1 hRe
            have hRq2 := hRq.alloc (.cells #[.int .i64 x.1, .int .i64 x.2] (63 : Nat))
            have hxq2 := C2.new w8 (.int .i64 x.1) (.int .i64 x.2) (63 : Nat)
            obtain ⟨v', w2, hrun, ho2, hg2, hl2⟩ := app1 hRq2.a hxq2 hRq2.sz htl2
            have hRn := hRq2.pushA ho2 hg2 hl2 hcc.out hcc2.out
            clear ho2 hg2 hl2 hRq2 hxq2 hRq hRa hRd hR
            obtain ⟨y0, y1⟩ := id hxq
            clear hxq
            go_wp2_with (at_builtin; refine wpList_append_run rfl _ _ 57 rfl _ _ _ rfl rfl hrun ?_)
            clear hrun
            go_wp2_with fail
            go_roundw
            case rel => exact ⟨k + 1, addF t x, by omega, by go_num, hT1, hRn⟩
            case measure => simp [intOf]; omega
          · have e3 : decide (t.s.1 + t.s.2 < x.1) = false := decide_eq_false hA4
            have hcc2 := Lib.hid hA4
            clear hA4
            go_wp2_with fail
            go_region_held3 (fun w' => w'.cell? ⟨wr.heap.size, 0, none⟩ = some (.int .i64 x.1) ∧ w'.cell? ⟨wr.heap.size, 1, none⟩ = some (.int .i64 x.2) ∧ w'.cell? ⟨w.heap.size, 0, none⟩ = some (.int .i64 t.s.1) ∧ w'.cell? ⟨w.heap.size, 1, none⟩ = some (.int .i64 t.s.2) ∧ AddR w w' k t u5 u6)
              (((try go_split_ands); refine ⟨?_, ?_, ?_, ?_, ?_⟩ <;> first | assumption | exact hRd | (exact AddR.keep (by assumption) hb) | (exact cellK (by assumption) hb) | (exact frozK (by assumption) (by assumption) hb) | (exact Below.trans (by assumption) (hb.mono (Below.size (by assumption))))))
              (((try go_split_ands); first | (go_at_call 78; (with_reducible refine (hEx.out _).mono ?_); rintro e w8 ⟨rfl, hb⟩)))
            go_split_ands
            have hRq1 := ‹AddR w w8 _ _ _ _›
            have hRe := hRq1.drew
            go_wp2_with fail
            go_region_held3 (fun w' => w'.cell? ⟨wr.heap.size, 0, none⟩ = some (.int .i64 x.1) ∧ w'.cell? ⟨wr.heap.size, 1, none⟩ = some (.int .i64 x.2) ∧ w'.cell? ⟨w.heap.size, 0, none⟩ = some (.int .i64 t.s.1) ∧ w'.cell? ⟨w.heap.size, 1, none⟩ = some (.int .i64 t.s.2) ∧ AddR w w' k t u5 u6)
              (((try go_split_ands); refine ⟨?_, ?_, ?_, ?_, ?_⟩ <;> first | assumption | exact hRe | (exact AddR.keep (by assumption) hb) | (exact cellK (by assumption) hb) | (exact frozK (by assumption) (by assumption) hb) | (exact Below.trans (by assumption) (hb.mono (Below.size (by assumption))))))
              (((try go_split_ands); first | (go_at_call 78; (with_reducible refine (hEs.out _).mono ?_); rintro e w8 ⟨rfl, hb⟩)))
            go_split_ands
            have hRq := ‹AddR w w8 _ _ _ _›
            clear hRq1 hRe
            go_wp2_with fail
            refine (hBo.out _).mono ?_
            rintro e w9 ⟨rfl, hb9⟩
            have hR9 := hRq.keep hb9
            obtain ⟨z0, z1⟩ := id hR9.s
            obtain ⟨f0, f1⟩ := id hR9.f
            have hRn := hR9.grow hx hcc.out (by have := hcc2.out; omega)
            generalize (bothS t.s x).1 = B1 at *
            generalize (bothS t.s x).2 = B2 at *
            clear hb9 hRq hRa hRd hR hR9
            go_wp2_with fail
            go_roundw
            case rel => exact ⟨k + 1, addF t x, by omega, by go_num, hT1, hRn⟩
            case measure => simp [intOf]; omega
    · obtain rfl : k = n := by omega
      have hF1 := Lib.hid (show addS l s = (t.b ++ if t.s.2 < 1 then [] else [t.s]) ++ t.a from by rw [hT0.out, hE.out]; rfl)
      have hk2 := hR.n
      have htl1 : t.b.length ≤ 1000000 := by omega
      have htl2 : t.a.length ≤ 1000000 := by omega
      have htl3 : t.b.length ≤ 1000 := by omega
      clear hk2
      obtain ⟨s0, s1⟩ := id hR.s
      by_cases hm : 1 ≤ t.s.2
      · have hF2 := Lib.hid (show addS l s = (t.b ++ [t.s]) ++ t.a from by rw [hF1.out, if_neg (by omega)])
        have hR1 := hR.alloc (.cells #[.int .i64 t.s.1, .int .i64 t.s.2] (63 : Nat))
        have hx1 := C2.new wr (.int .i64 t.s.1) (.int .i64 t.s.2) (63 : Nat)
        obtain ⟨v', w2, hrun, ho2, hg2, hl2⟩ := app1 hR1.b hx1 hR1.sz htl1
        obtain ⟨hA2, hB2, hz2⟩ := hR1.fin hg2
        obtain ⟨v3, w3, hrun3, ho3, hg3, hl3⟩ := app2 ho2 hA2 hz2 (by simp; omega) htl2
        have hB3 := hB2.grown hg3 hB2.size (fun j hj => by have := (ho2.lt _ hj).1; omega)
        clear hR1 hx1 ho2 hg2 hl2 hA2 hB2 hz2 hg3 hl3
        go_wp2_with (first | (at_builtin; refine wpList_append_run rfl _ _ 57 rfl _ _ _ rfl rfl hrun ?_) | (at_builtin; refine wpList_append_run rfl _ _ 57 rfl _ _ _ rfl rfl hrun3 ?_))
        go_ret
        exact ⟨_, rfl, by rw [hF2.out]; exact ho3.mono (by omega), hB3⟩
      · have hF2 := Lib.hid (show addS l s = t.b ++ t.a from by rw [hF1.out, if_pos (by omega)]; simp)
        have hm2 : t.s.2 < 1 := by omega
        obtain ⟨v3, w3, hrun3, ho3, hg3, hl3⟩ := app2 hR.b hR.a hR.sz htl1 htl2
        obtain ⟨_, hB3, _⟩ := hR.fin hg3
        clear hg3 hl3 hm
        go_wp2_with (at_builtin; refine wpList_append_run rfl _ _ 57 rfl _ _ _ rfl rfl hrun3 ?_)
        go_ret
        exact ⟨_, rfl, by rw [hF2.out]; exact ho3.mono (by omega), hB3⟩
end Go.Proofs.Ytcemiclbeocnjaa
