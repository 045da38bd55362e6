/-
  The laws of package tile: TileParts.
-/
import Derived.Test.YtnjifmecaeagaaaDoorTi10
set_option linter.unusedVariables false
set_option linter.unusedSimpArgs false
namespace Go.Proofs.YtnjifmecaeagaaaDoor
open Go.RowKit Go.ChangeShapes Go.WideShapes Go.Deep
theorem run_slice_from {P : Program} {ty e : TypeId} {i0 : TypeInfo} {sz : Nat} (hu : P.underlying ty = some (.slice e)) (hi : P.info? e = some i0) (hs : i0.size = sz) (A : Option Addr) (n cap t : Nat) (h : t ≤ n) (w : World) :
    (Instr.slice ty (.slice A n cap) (some (.int .i64 (t : Int))) none none).run P w = .ok (.slice (if cap = t then A else A.map (·.add (t * sz))) (n - t) (cap - t)) w := by
  subst hs
  have h1 : (t : Int) ≤ (n : Int) := by omega
  have h2 : (0 : Int) ≤ (t : Int) := by omega
  simp [Instr.slice, run_underlying hu, Instr.sliceBounds, Instr.sliceBound, asIntOf, sizeOf, typeInfo, hi, h2, h1, go_sem]
  exact fun h' => by omega
theorem wp_append_run {P : Program} {w w' : World} {o : Oper} {a : Act} {K : Act → World → Prop} {Q : Exit → Act → World → Prop} (s x : Operand) (t u : TypeId)
    (hop : o.op = Op.call { callee := Callee.builtin Builtin.append, args := #[s, x], argTypes := #[t, u] }) (vs vx v : Value) (hs : a.eval s = vs) (hx : a.eval x = vx)
    (hrun : (Builtin.append_ #[t, u] o.type #[vs, vx]).run P w = .ok v w') (h : K (a.put o.dst v) w') : Oper.wp P o a w K Q := by
  unfold Oper.wp
  simp [execOp, hop, resolve, invoke, builtin, hs, hx, hrun, Result.andThen]
  exact h
theorem wpList_append_yes {P : Program} {w w' : World} {ops : Array Oper} {rest : List Oper} {o : Oper} {a : Act} {Q : Exit → Act → World → Prop} (hw : Region.wanted o (yielded ops a.tmps) = true) (s x : Operand) (t : TypeId)
    (hop : o.op = Op.call { callee := Callee.builtin Builtin.append, args := #[s, x], argTypes := #[t, t] }) (vs vx v : Value) (hs : a.eval s = vs) (hx : a.eval x = vx)
    (hrun : (Builtin.append_ #[t, t] o.type #[vs, vx]).run P w = .ok v w') (h : wpList P ops Q rest (a.put o.dst v) w') : wpList P ops Q (o :: rest) a w :=
  wpList_step fun K hK => by
    rw [if_pos hw]
    exact wp_append_run s x t t hop vs vx v hs hx hrun (hK _ _ h)
theorem OwnE.cap {α : Type} {e : TypeId} {sz : Nat} {en : α → List Value} {w : World} {base n cap : Nat} {A : Option Addr} {l : List α} (h : OwnE e sz en w base (.slice A n cap) l) : n ≤ cap := by
  rcases h.2 with ⟨hv, hn⟩ | ⟨g, cap', cur, hv, hb, hg, h1, _⟩
  · simp only [Value.slice.injEq] at hv; omega
  · simp only [Value.slice.injEq] at hv; omega
theorem OwnE.sl {α : Type} {e : TypeId} {sz : Nat} {en : α → List Value} {w : World} {base n : Nat} {v : Value} {l : List α} (h : OwnE e sz en w base v l) (hn : l.length = n) : ∃ A c, v = .slice A n c := by
  rcases h.2 with ⟨h1, h2⟩ | ⟨g', cap', cur, h1, _⟩
  · exact ⟨none, 0, by rw [h1, ← hn, h2]⟩
  · exact ⟨_, _, by rw [h1, hn]⟩
theorem EL.take {α : Type} [Inhabited α] {sz : Nat} {en : α → List Value} {w : World} {A : Option Addr} {n cap : Nat} {l : List α} (h : EL sz en w (.slice A n cap) l) (t : Nat) (ht : t ≤ l.length) : EL sz en w (.slice A t cap) (l.take t) := by
  obtain ⟨A', cap', hv, h⟩ := h
  cases hv
  refine ⟨A, cap, by rw [List.length_take, Nat.min_eq_left ht], fun hl => ?_⟩
  rw [List.length_take, Nat.min_eq_left ht] at hl
  obtain ⟨g, off, hA, hg, hc, hi⟩ := h (by omega)
  refine ⟨g, off, hA, hg, by rw [List.length_take]; omega, fun i h j hj => ?_⟩
  rw [List.length_take] at h
  rw [hi i (by omega) j hj, List.getD_eq_getElem?_getD, List.getD_eq_getElem?_getD, List.getElem?_take_of_lt (by omega)]
theorem EL.drop {α : Type} [Inhabited α] {sz : Nat} {en : α → List Value} {w : World} {A : Option Addr} {n cap : Nat} {l : List α} (h : EL sz en w (.slice A n cap) l) (t : Nat) (ht : t ≤ n) : EL sz en w (.slice (if cap = t then A else A.map (·.add (t * sz))) (n - t) (cap - t)) (l.drop t) := by
  obtain ⟨A', cap', hv, h⟩ := h
  simp only [Value.slice.injEq] at hv
  obtain ⟨rfl, rfl, rfl⟩ := hv
  refine ⟨_, _, by rw [List.length_drop], fun hl => ?_⟩
  rw [List.length_drop] at hl
  obtain ⟨g, off, rfl, hg, hc, hi⟩ := h (by omega)
  refine ⟨g, off + t * sz, ?_, hg, by rw [List.length_drop]; omega, fun i h j hj => ?_⟩
  · rw [if_neg (by omega), Option.map_some, add_plain]
  · rw [List.length_drop] at h
    rw [show off + t * sz + i * sz + j = off + (t + i) * sz + j by rw [Nat.add_mul]; omega, hi (t + i) (by omega) j hj, List.getD_eq_getElem?_getD, List.getD_eq_getElem?_getD, List.getElem?_drop]
def shB (d : Nat) (b : Bl) : Bl := (b.1 + d, b.2)
def shK (d k : Nat) (l : List Bl) : List Bl := (l.take k).map (shB d) ++ l.drop k
theorem shK_zero (d : Nat) (l : List Bl) : shK d 0 l = l := by simp [shK]
theorem shK_len (d k : Nat) (l : List Bl) : (shK d k l).length = l.length := by
  unfold shK; rw [List.length_append, List.length_map, List.length_take, List.length_drop]; omega
theorem shK_all (d : Nat) {l : List Bl} {n : Nat} (h : l.length = n) : shK d n l = l.map (fun b => (b.1 + d, b.2)) := by
  unfold shK
  rw [List.take_of_length_le (by omega), List.drop_of_length_le (by omega), List.append_nil]
  rfl
theorem shK_at (d : Nat) {k : Nat} {l : List Bl} (h : k < l.length) : (shK d k l).getD k default = l.getD k default := by
  unfold shK
  rw [List.getD_eq_getElem?_getD, List.getElem?_append_right (by rw [List.length_map, List.length_take]; omega), List.length_map, List.length_take, Nat.min_eq_left (by omega), Nat.sub_self, List.getElem?_drop, List.getD_eq_getElem?_getD]
  rfl
theorem shK_succ (d : Nat) {k : Nat} {l : List Bl} (h : k < l.length) : shK d (k + 1) l = (shK d k l).set k (shB d (l.getD k default)) := by
  unfold shK
  rw [List.take_succ_eq_append_getElem h, List.map_append, List.drop_eq_getElem_cons h, List.set_append_right _ _ (by rw [List.length_map, List.length_take]; omega), List.length_map, List.length_take, Nat.min_eq_left (by omega), Nat.sub_self, List.set_cons_zero, List.append_assoc, List.getD_eq_getElem?_getD, List.getElem?_eq_getElem h]
  rfl
theorem blksT_len (t : List Nat) : (blksT t).length ≤ 8 * t.length := by
  unfold blksT
  split
  · exact blksFrom_len 0 t
  · simp
theorem blksT_ch (t : List Nat) (b : Bl) (h : b ∈ blksT t) : b.1 < t.length := by
  unfold blksT at h
  split at h
  · have := blksFrom_in 0 t b h; omega
  · simp at h

set_option maxRecDepth 10000 in
set_option maxHeartbeats 2000000 in
theorem tileParts (v u : Value) (l m : List Nat) (w : World) (hw : Lw w) (hH : HL l) (hG : HL m) (hv : KL .u16 w v l) (hu : KL .u16 w u m) :
    Calls Tryd.prog 8 #[v, u] w fun e w' => e = .returned (.bool true) ∧ Below w.heap.size w w' := by
  have hAw := awake11 w hw
  obtain ⟨n, hn⟩ : ∃ n, l.length = n := ⟨_, rfl⟩
  obtain ⟨n2, hn2⟩ : ∃ n, m.length = n := ⟨_, rfl⟩
  obtain ⟨A, cap, rfl, _⟩ := hv.form hn
  obtain ⟨A2, cap2, rfl, _⟩ := hu.form hn2
  by_cases h60 : 60 < n
  · have h60' : (60 : Int) < (n : Int) := by omega
    clear hv hu hw
    replace hn := Lib.hid hn
    replace hn2 := Lib.hid hn2
    go_enter Tryd.func8, Tryd.ntmps8
    go_wp2_with fail
    refine hAw.mono ?_
    rintro e w1 ⟨rfl, hb1⟩
    go_wp2_with fail
    go_ret
    exact ⟨rfl, hb1⟩
  have h60' : ¬ (60 : Int) < (n : Int) := by omega
  have h60'' : decide ((60 : Int) < (n : Int)) = false := decide_eq_false h60'
  by_cases g60 : 60 < n2
  · have g60' : (60 : Int) < (n2 : Int) := by omega
    clear hv hu hw
    replace hn := Lib.hid hn
    replace hn2 := Lib.hid hn2
    go_enter Tryd.func8, Tryd.ntmps8
    go_wp2_with fail
    refine hAw.mono ?_
    rintro e w1 ⟨rfl, hb1⟩
    go_wp2_with fail
    go_ret
    exact ⟨rfl, hb1⟩
  have g60' : ¬ (60 : Int) < (n2 : Int) := by omega
  have g60'' : decide ((60 : Int) < (n2 : Int)) = false := decide_eq_false g60'
  have hM1 := Lib.hid (fun w1 (hb : Below w.heap.size w w1) => made_any _ l 30 w1 (hw.keep hb) hH (hv.keep hb) (by omega) (by omega))
  have hM2 := Lib.hid (fun w1 (hb : Below w.heap.size w w1) => made_any _ m 30 w1 (hw.keep hb) hG (hu.keep hb) (by omega) (by omega))
  have hwh := Lib.hid hw
  replace hn := Lib.hid hn
  replace hn2 := Lib.hid hn2
  clear hv hu hw hH hG h60 g60
  go_enter Tryd.func8, Tryd.ntmps8
  go_wp2_with fail
  refine hAw.mono ?_
  rintro e w1 ⟨rfl, hb1⟩
  have hMa := hM1.out _ hb1
  clear hAw hM1
  go_wp2_with fail
  refine hMa.mono ?_
  rintro e w2 ⟨v2, t, rfl, ho2, hrt, htl, hb2⟩
  have hB2 := hb1.trans (hb2.mono hb1.size)
  have hk2 := ho2.kl
  obtain ⟨nt, hnt⟩ : ∃ k, t.length = k := ⟨_, rfl⟩
  obtain ⟨At, ct, rfl⟩ := ho2.sl hnt
  have hMb := hM2.out _ hB2
  clear ho2 hMa hM2 hb1 hb2
  go_wp2_with fail
  refine hMb.mono ?_
  rintro e w3 ⟨v3, uu, rfl, ho3, hru, hul, hb3⟩
  have hB3 := hB2.trans (hb3.mono hB2.size)
  replace hk2 := hk2.keep hb3
  have hk3 := ho3.kl
  obtain ⟨nu, hnu⟩ : ∃ k, uu.length = k := ⟨_, rfl⟩
  obtain ⟨Au, cu, rfl⟩ := ho3.sl hnu
  have hBa := blocksT_any _ t w3 (hwh.out.keep hB3) hk2 (rightT_WL hrt) (by omega)
  clear ho3 hMb hB2 hb3
  go_wp2_with fail
  refine hBa.mono ?_
  rintro e w4 ⟨v4, rfl, ho4, hb4⟩
  have hB4 := hB3.trans (hb4.mono hB3.size)
  replace hk2 := hk2.keep hb4
  replace hk3 := hk3.keep hb4
  have hk4 := ho4.el eB_len
  obtain ⟨la, hla⟩ : ∃ k, (blksT t).length = k := ⟨_, rfl⟩
  obtain ⟨Aa, ca, rfl⟩ := ho4.sl hla
  have hBb := blocksT_any _ uu w4 (hwh.out.keep hB4) hk3 (rightT_WL hru) (by omega)
  clear ho4 hBa hB3 hb4
  go_wp2_with fail
  refine hBb.mono ?_
  rintro e w5 ⟨v5, rfl, ho5, hb5⟩
  have hB5 := hB4.trans (hb5.mono hB4.size)
  have hS45 := hb5.size
  have hS04 := hB4.size
  replace hk2 := hk2.keep hb5
  replace hk3 := hk3.keep hb5
  obtain ⟨lb, hlb⟩ : ∃ k, (blksT uu).length = k := ⟨_, rfl⟩
  obtain ⟨Ab, cb, rfl⟩ := ho5.sl hlb
  obtain ⟨v6, w6, v7, w7, r1, r2, hk7, hb7⟩ := joinW hk2 hk3 (by omega) (by omega)
  have hB7 := hB5.trans (hb7.mono hB5.size)
  have hb47 := hb5.trans (hb7.mono hS45)
  have ho7 := ho5.keep hb7
  replace hk2 := hk2.keep hb7
  replace hk3 := hk3.keep hb7
  have hrtu := rightT_app hrt hru
  have hBc := blocksT_any _ (t ++ uu) w7 (hwh.out.keep hB7) hk7 (rightT_WL hrtu) (by rw [List.length_append]; omega)
  have hbap := blksT_app (rightT_t hrt).1 (rightT_t hru).1
  rw [hnt] at hbap
  obtain ⟨lc, hlc⟩ : ∃ k, la + lb = k := ⟨_, rfl⟩
  have hlcl : (blksT (t ++ uu)).length = lc := by rw [hbap, List.length_append, List.length_map]; omega
  clear hBb hB5 hB4 hb5 hb7 ho5
  go_wp2_with (first
  | (at_builtin; refine wpList_append_run rfl _ _ 22 rfl _ _ _ rfl rfl r1 ?_; clear r1)
  | (at_builtin; refine wpList_append_run rfl _ _ 22 rfl _ _ _ rfl rfl r2 ?_; clear r2))
  refine hBc.mono ?_
  rintro e w8 ⟨v8, rfl, ho8, hb8⟩
  obtain ⟨Ac, cc, rfl⟩ := ho8.sl hlcl
  have hB8 := hB7.trans (hb8.mono hB7.size)
  have hb48 := hb47.trans (hb8.mono hb47.size)
  have ho7' := ho7.keep hb8
  have hAbl : Hid (∀ b, Value.ownBlock (.slice Ab lb cb) = some b → b < w7.heap.size) := Lib.hid (fun b q => (ho7.lt b q).2)
  have hS78 := hb8.size
  replace hk2 := hk2.keep hb8
  replace hk3 := hk3.keep hb8
  obtain ⟨v9, w9, v10, w10, r3, r4, hk10, hb10⟩ := joinW hk2 hk3 (by omega) (by omega)
  have hRr := right_any2 _ (t ++ uu) w10 (hwh.out.keep (hB8.trans (hb10.mono hB8.size))) hk10 (rightT_WL hrtu) (by rw [List.length_append]; omega)
  rw [hrtu] at hRr
  have hB10 := hB8.trans (hb10.mono hB8.size)
  have hb410 := hb48.trans (hb10.mono hb48.size)
  have hobA := ho7'.keep hb10
  have hocA := ho8.keep hb10
  have f1 : IntKind.i64.wrap ((la : Int) + (lb : Int)) = (lc : Int) := by
    have := blksT_len t; have := blksT_len uu; rw [IntKind.wrap_i64]; omega
  have f2 : (la : Int) + (lb : Int) = (lc : Int) := by omega
  have hla9 : la ≤ 240 := by have := blksT_len t; omega
  have hlb9 : lb ≤ 240 := by have := blksT_len uu; omega
  have hbch := Lib.hid (fun k (hk : k < lb) => show ((blksT uu).getD k default).1 < 30 from by
    have hm : (blksT uu).getD k default ∈ blksT uu := by rw [List.getD_eq_getElem?_getD, List.getElem?_eq_getElem (by omega)]; exact List.getElem_mem _
    have := blksT_ch uu _ hm; omega)
  have hla2 : la ≤ lc := by omega
  have hlcb : lc - la = lb := by omega
  have hSA := Lib.hid (fun w (h1 : BKL w (.slice Ac la cc) (blksT t)) (h2 : BKL w (.slice Aa la ca) (blksT t)) => sameBl _ _ _ _ w (by omega) h1 h2)
  rw [decide_eq_true (show blksT t = blksT t from rfl)] at hSA
  have hZ0 := shK_zero nt (blksT uu)
  have hZn := Lib.hid (shK_all nt hlb)
  have hZa := Lib.hid (fun k (hk : k < lb) => shK_at nt (l := blksT uu) (k := k) (by omega))
  have hZs := Lib.hid (fun k (hk : k < lb) => shK_succ nt (l := blksT uu) (k := k) (by omega))
  have hZl := Lib.hid (fun k => (shK_len nt k (blksT uu)).trans hlb)
  have hba2 := Lib.hid hbap
  have hlc2 := Lib.hid hlcl
  have hla3 := Lib.hid hla
  have hlb3 := Lib.hid hlb
  have hnt3 := Lib.hid hnt
  have hnu3 := Lib.hid hnu
  have hnt9 : nt ≤ 30 := by omega
  clear hBc hB7 hB8 hb47 hb48 hb8 ho7 ho7' ho8 hk2 hk3 hk7 hb10 hbap hlcl hla hlb hlc hnt hnu hrtu hrt hru htl hul
  go_wp2_with (first
  | (at_builtin; refine wpList_append_yes (by rfl) _ _ 22 rfl _ _ _ rfl rfl r3 ?_; clear r3)
  | (at_builtin; refine wpList_append_yes (by rfl) _ _ 22 rfl _ _ _ rfl rfl r4 ?_; clear r4))
  refine hRr.mono ?_
  rintro e w11 ⟨rfl, hb11⟩
  have hB11 := hB10.trans (hb11.mono hB10.size)
  have hb411 := hb410.trans (hb11.mono hb410.size)
  have hob := hobA.keep hb11
  have hoc := hocA.keep hb11
  clear hRr hb11 hB10 hb410 hobA hocA
  rw [← hZ0] at hob
  go_wp2_with fail
  go_loopw [11] (fun i wr => ∃ k : Nat, k ≤ lb ∧ i = .int .i64 k ∧ BKO wr w4.heap.size (.slice Ab lb cb) (shK nt k (blksT uu)) ∧ BKO wr w7.heap.size (.slice Ac lc cc) (blksT (t ++ uu)) ∧ Below w4.heap.size w4 wr ∧ Below w.heap.size w wr) (fun i _ => lb + 1 - (intOf i).toNat)
  case atStart => exact ⟨0, Nat.zero_le _, rfl, hob, hoc, hb411, hB11⟩
  case round =>
    clear hob hoc hb411 hB11 hZ0
    obtain ⟨k, hk, rfl, hob, hoc, hb4, hB⟩ := hrel
    by_cases hlt : k < lb
    · have hlt' : (k : Int) < (lb : Int) := by omega
      obtain ⟨gB, cB, hv, hg1, hg2, hg3⟩ := hob.form (by rw [hZl.out]; omega)
      simp only [Value.slice.injEq] at hv
      obtain ⟨rfl, -, rfl⟩ := hv
      have r0 := OwnE.cell eB_len hob (hZl.out k) (i := k) (j := 0) hlt (by omega)
      rw [hZa.out k hlt] at r0
      have hch := hbch.out k hlt
      have hset := OwnE.set (x' := shB nt ((blksT uu).getD k default)) (u := .int .i64 ((((blksT uu).getD k default).1 + nt : Nat) : Int)) eB_len hob (hZl.out k) (i := k) (j := 0) hlt (by omega) (by rw [hZa.out k hlt]; rfl)
      rw [← hZs.out k hlt] at hset
      have hgl := hAbl.out gB rfl
      have hfar := OwnE.far (g := gB) (o := k * 3 + 0) hoc hgl (.int .i64 ((((blksT uu).getD k default).1 + nt : Nat) : Int))
      have hb4s := hb4.setCell (p := ⟨gB, k * 3 + 0, none⟩) hg1 (.int .i64 ((((blksT uu).getD k default).1 + nt : Nat) : Int))
      have hBs := hB.setCell (p := ⟨gB, k * 3 + 0, none⟩) (show w.heap.size ≤ gB by omega) (.int .i64 ((((blksT uu).getD k default).1 + nt : Nat) : Int))
      generalize (blksT uu).getD k default = y at *
      obtain ⟨a, b, c⟩ := y
      obtain ⟨r0, z0⟩ := r0
      simp only [eB, Nat.add_zero, List.getElem?_cons_zero] at r0 z0 hset hfar hb4s hBs
      have g1 : IntKind.i64.wrap ((a : Int) + (nt : Int)) = (a : Int) + (nt : Int) := by rw [IntKind.wrap_i64]; omega
      have g2 : (((a + nt : Nat)) : Int) = (a : Int) + (nt : Int) := by omega
      rw [g2] at hset hfar hb4s hBs
      clear g2 hob hoc hb4 hB hg3
      go_wp2_with fail
      go_roundw
      case rel => exact ⟨k + 1, by omega, by go_num, hset, hfar, hb4s, hBs⟩
      case measure => first | (simp [intOf]; done) | (simp [intOf]; omega)
    · obtain rfl : k = lb := by omega
      rw [hZn.out] at hob
      have hkc := hoc.el eB_len
      have hkb := hob.el eB_len
      have hcc := hoc.cap
      have hka := hk4.keep hb4
      have hc1 := EL.take hkc la (by rw [hlc2.out]; exact hla2)
      have hc2 := EL.drop hkc la hla2
      have t1 : (blksT (t ++ uu)).take la = blksT t := by rw [hba2.out, List.take_append_of_le_length (by rw [hla3.out]; exact Nat.le_refl _), List.take_of_length_le (by rw [hla3.out]; exact Nat.le_refl _)]
      have t2 : (blksT (t ++ uu)).drop la = (blksT uu).map (fun b => (b.1 + nt, b.2)) := by rw [hba2.out, List.drop_append_of_le_length (by rw [hla3.out]; exact Nat.le_refl _), List.drop_of_length_le (by rw [hla3.out]; exact Nat.le_refl _), List.nil_append]
      rw [t1] at hc1
      rw [t2] at hc2
      have hS1 := hSA.out _ hc1 hka
      obtain ⟨i0, hi, hz0, hz1, hz2⟩ := info_parts infoB
      have q1 := fun w => run_slice_to (P := Tryd.prog) (ty := 34) Tryd.underlying34 hi Ac lc cc la (by omega) w
      have q2 := fun w => run_slice_from (P := Tryd.prog) (ty := 34) Tryd.underlying34 hi hz1 Ac lc cc la hla2 w
      rw [hlcb] at q2 hc2
      generalize (if cc = la then Ac else Ac.map (fun x => x.add (la * 3))) = Ad at *
      generalize cc - la = cd at *
      generalize (blksT uu).map (fun b => (b.1 + nt, b.2)) = bm at *
      have hml2 : Hid (bm.length ≤ 1000000) := Lib.hid (by obtain ⟨_, _, hv, _⟩ := hkb; simp only [Value.slice.injEq] at hv; omega)
      clear hob hoc hkc hka hc1 hb4 hi hz0 hz1 hz2 t1 t2 hSA hlcb hlc2 hla3 hba2 hZn
      go_wp2_with fail
      refine hS1.mono ?_
      rintro e w12 ⟨rfl, hb12⟩
      have hB12 := hB.trans (hb12.mono hB.size)
      have hS2 := sameBl _ _ _ _ w12 hml2.out (hc2.keep hb12) (hkb.keep hb12)
      rw [decide_eq_true (show bm = bm from rfl)] at hS2
      clear hS1 q1 hc2 hkb hb12
      go_wp2_with fail
      refine hS2.mono ?_
      rintro e w13 ⟨rfl, hb13⟩
      go_wp2_with fail
      go_ret
      exact ⟨rfl, hB12.trans (hb13.mono hB12.size)⟩
end Go.Proofs.YtnjifmecaeagaaaDoor
