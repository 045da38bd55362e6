/-
  Package span's iterator of what of a span isn't in a set.
-/
import Derived.Test.YtcemiclbeocnjaaTSpan4
import Derived.RangeFuncNested
import Derived.RangeFuncBound
import Derived.RangeFuncCalls
import Derived.RangeFuncLeaves
import Derived.RangeFuncFrom
import Derived.RangeFuncWrites
import Derived.RangeFuncBox
import Derived.Shelf.Abstract
import Derived.Shelf.RegionOpen
import Derived.WalkKit
import Derived.OwnWalkIn
import Derived.TacticsInMore
import Derived.LoopNIn
import Derived.LoopIn
set_option linter.unusedVariables false
namespace Go.Proofs.Ytcemiclbeocnjaa
open Go.RowKit Go.Shelf
attribute [local go_sem] Oper.semAt_some

theorem cell_of_box {W : World} {B : Nat} {v : Value} {t : TypeId} (h : W.heap[B]? = some (.cells #[v] t (0, 0))) : W.cell? ⟨B, 0, none⟩ = some v ∧ W.frozen? ⟨B, 0, none⟩ = false := by
  constructor <;> simp [World.cell?, World.frozen?, h]
theorem cell_new (W : World) (v : Value) (t : TypeId) : (W.alloc (.cells #[v] t)).cell? ⟨W.heap.size, 0, none⟩ = some v ∧ (W.alloc (.cells #[v] t)).frozen? ⟨W.heap.size, 0, none⟩ = false :=
  cell_of_box (World.alloc_heap_new W _)
/-- block b is the row of the list that the variable in block Bo holds -/
def OwnAt (w : World) (Bo b : Nat) : Prop := ∃ v, w.cell? ⟨Bo, 0, none⟩ = some v ∧ v.ownBlock = some b
def OwnLt (w : World) (Bo : Nat) : Prop := ∀ b, OwnAt w Bo b → b < w.heap.size
theorem ownAt_keep {w w1 : World} {Bo b : Nat} (hb : Below w.heap.size w w1) (hl : Bo < w.heap.size) : OwnAt w1 Bo b ↔ OwnAt w Bo b := by
  unfold OwnAt
  rw [(bcell hb).1 Bo 0 hl]
/-- what a round over the spans that are missing keeps: all but the variable in block Bo, and its row -/
def Kp (n₀ Bo : Nat) (X Y : World) : Prop := Below n₀ X Y ∧ (∀ b cs t f, X.heap[b]? = some (.cells cs t f) → b ≠ Bo → ¬ OwnAt X Bo b → Y.heap[b]? = X.heap[b]?) ∧ (∀ b, b < X.heap.size → OwnAt Y Bo b → OwnAt X Bo b) ∧ (OwnLt X Bo → OwnLt Y Bo)
theorem kp_t {n₀ Bo : Nat} {X Y Z : World} (h : Kp n₀ Bo X Y) (k : Kp n₀ Bo Y Z) : Kp n₀ Bo X Z :=
  ⟨h.1.trans k.1, fun b cs t f hb hne ho => by
    have h1 := h.2.1 b cs t f hb hne ho
    have hlt := (Array.getElem?_eq_some_iff.1 hb).1
    exact (k.2.1 b cs t f (h1.trans hb) hne (fun q => ho (h.2.2.1 b hlt q))).trans h1,
   fun b hlt q => h.2.2.1 b hlt (k.2.2.1 b (Nat.lt_of_lt_of_le hlt h.1.size) q), fun q => k.2.2.2 (h.2.2.2 q)⟩
theorem kp_b {n₀ Bo : Nat} {w : World} (hn : n₀ ≤ w.heap.size) (hB : Bo < w.heap.size) (W : World) (l : Nat) (o o' : Obj) (hl : w.heap.size ≤ l) (h : W.heap[l]? = some o) (h1 : o.isCells = false) (h2 : o.isWalk = false) : Kp n₀ Bo W (W.putObj l o') := by
  have hg := grownBy_putObj' W l o'
  have hlt := (Array.getElem?_eq_some_iff.1 h).1
  have hc : (W.putObj l o').cell? ⟨Bo, 0, none⟩ = W.cell? ⟨Bo, 0, none⟩ := World.cell?_of_block (hg.block Bo (by omega) (fun e => by cases e; omega))
  have ho : ∀ b, OwnAt (W.putObj l o') Bo b ↔ OwnAt W Bo b := fun b => by unfold OwnAt; rw [hc]
  refine ⟨belowK_b hn W l o o' hl h h1 h2, fun b cs t f hb hne _ => hg.block b (Array.getElem?_eq_some_iff.1 hb).1 (fun e => ?_), fun b _ q => (ho b).1 q, fun q b hb => Nat.lt_of_lt_of_le (q b ((ho b).1 hb)) hg.size⟩
  cases e
  rw [hb] at h
  cases h
  simp [Obj.isCells] at h1
theorem kp_of {n₀ Bo : Nat} {X Y : World} (h : Below X.heap.size X Y) (hn : n₀ ≤ X.heap.size) (hB : Bo < X.heap.size) : Kp n₀ Bo X Y :=
  ⟨h.mono hn, fun b cs t f hb _ _ => h.block b (Array.getElem?_eq_some_iff.1 hb).1, fun b _ q => (ownAt_keep h hB).1 q, fun q b hb => Nat.lt_of_lt_of_le (q b ((ownAt_keep h hB).1 hb)) h.size⟩
/-- a block of two cells -/
def Bk (w : World) (g : Nat) (x y : Value) : Prop := w.heap[g]? = some (.cells #[x, y] 63 (0, 0))
theorem Bk.c2 {w : World} {g : Nat} {x y : Value} (h : Bk w g x y) : C2 w g x y := by
  constructor
  · rw [cell_of_row w g 0 _ _ _ h]; rfl
  · rw [cell_of_row w g 1 _ _ _ h]; rfl
theorem Bk.lt {w : World} {g : Nat} {x y : Value} (h : Bk w g x y) : g < w.heap.size := (Array.getElem?_eq_some_iff.1 h).1
theorem Bk.keep {w w1 : World} {g : Nat} {x y : Value} (h : Bk w g x y) (hb : Below w.heap.size w w1) : Bk w1 g x y := (hb.block g h.lt).trans h
theorem Bk.kp {w w1 : World} {n₀ Bo g : Nat} {x y : Value} (h : Bk w g x y) (hk : Kp n₀ Bo w w1) (hne : g ≠ Bo) (ho : ¬ OwnAt w Bo g) : Bk w1 g x y := (hk.2.1 g _ _ _ h hne ho).trans h
theorem Bk.new (w : World) (x y : Value) : Bk (w.alloc (.cells #[x, y] 63)) w.heap.size x y := World.alloc_heap_new w _
/-- the iterator's own state of the world -/
structure Mk (n₀ Bo Bs : Nat) (s : Sp) (W : World) (J : List Sp → World → Prop) (pre : List Sp) (w : World) : Prop where
  B : Below n₀ W w
  j : J pre w
  J : ∀ W1 W2, J pre W1 → Below W1.heap.size W1 W2 → J pre W2
  n : n₀ ≤ W.heap.size
  o : Bo < w.heap.size
  lt : OwnLt w Bo
  s : Bk w Bs (.int .i64 s.1) (.int .i64 s.2)
  ne : Bs ≠ Bo
  no : ¬ OwnAt w Bo Bs
theorem Mk.keep {n₀ Bo Bs : Nat} {s : Sp} {W w w1 : World} {J : List Sp → World → Prop} {pre : List Sp} (h : Mk n₀ Bo Bs s W J pre w) (hb : Below w.heap.size w w1) : Mk n₀ Bo Bs s W J pre w1 :=
  ⟨h.B.trans (hb.mono (Nat.le_trans h.n h.B.size)), h.J _ _ h.j hb, h.J, h.n, Nat.lt_of_lt_of_le h.o hb.size, fun b q => Nat.lt_of_lt_of_le (h.lt b ((ownAt_keep hb h.o).1 q)) hb.size, h.s.keep hb, h.ne, fun q => h.no ((ownAt_keep hb h.o).1 q)⟩
theorem Mk.kp {n₀ Bo Bs : Nat} {s : Sp} {W w w1 : World} {J : List Sp → World → Prop} {pre pre' : List Sp} (h : Mk n₀ Bo Bs s W J pre w) (hk : Kp n₀ Bo w w1) (hj : J pre' w1) (hJ : ∀ W1 W2, J pre' W1 → Below W1.heap.size W1 W2 → J pre' W2) : Mk n₀ Bo Bs s W J pre' w1 :=
  ⟨h.B.trans hk.1, hj, hJ, h.n, Nat.lt_of_lt_of_le h.o hk.1.size, hk.2.2.2 h.lt, h.s.kp hk h.ne h.no, h.ne, fun q => h.no (hk.2.2.1 Bs h.s.lt q)⟩
theorem Mk.new {n₀ Bo Bs g : Nat} {s : Sp} {W w : World} {J : List Sp → World → Prop} {pre : List Sp} (h : Mk n₀ Bo Bs s W J pre w) (hg : w.heap.size ≤ g) : g ≠ Bo ∧ ¬ OwnAt w Bo g :=
  ⟨fun e => by have := h.o; omega, fun q => by have := h.lt g q; omega⟩
theorem miss_brk (e f : Int) (L : List Sp) (k : Nat) (h : k < L.length) (he : e ≤ (L.getD k (0, 0)).1) : missL e f (L.drop k) = gapL f e := by
  rw [List.drop_eq_getElem_cons h]
  rw [List.getD_eq_getElem?_getD, List.getElem?_eq_getElem h, Option.getD_some] at he
  unfold missL
  rw [if_pos he]
theorem miss_go (e f : Int) (L : List Sp) (k : Nat) (h : k < L.length) (he : ¬ e ≤ (L.getD k (0, 0)).1) : missL e f (L.drop k) = gapL f (L.getD k (0, 0)).1 ++ missL e (max f ((L.getD k (0, 0)).1 + (L.getD k (0, 0)).2)) (L.drop (k + 1)) := by
  rw [List.drop_eq_getElem_cons h]
  rw [List.getD_eq_getElem?_getD, List.getElem?_eq_getElem h, Option.getD_some] at he ⊢
  conv => lhs; unfold missL
  rw [if_neg he]
theorem miss_end (e f : Int) (L : List Sp) (k : Nat) (h : k = L.length) : missL e f (L.drop k) = gapL f e := by
  subst h
  rw [List.drop_of_length_le (Nat.le_refl _)]
  rfl

set_option maxRecDepth 10000 in
set_option maxHeartbeats 4000000 in
theorem miss1_in (n : Nat) (hn : 1 ≤ n) (l Bo Bs Bl n₀ N cap : Nat) (A : Option Addr) (L : List Sp) (s : Sp) (hL : SBs L) (hlen : L.length = N) (hN : N ≤ 1000) (hs : SB s) (J Jx : List Sp → World → Prop)
    (hJ : ∀ pre W1 W2, J pre W1 → Below W1.heap.size W1 W2 → J pre W2)
    (hY : ∀ pre (y : Sp) W, J pre W → pre.length < (missS L s).length → YieldAt Fence.wide (n - 1) Try.prog l #[.agg #[.int .i64 y.1, .int .i64 y.2]] W fun e W' =>
      (e = .returned (.bool true) ∧ J (pre ++ [y]) W' ∧ Kp n₀ Bo W W') ∨ (e = .returned (.bool false) ∧ Jx (pre ++ [y]) W'))
    (W : World) (hS : Bk W Bs (.int .i64 s.1) (.int .i64 s.2)) (hne : Bs ≠ Bo) (hBo : Bo < W.heap.size) (hOl : OwnLt W Bo) (hno : ¬ OwnAt W Bo Bs) (hBl : W.cell? ⟨Bl, 0, none⟩ = some (.slice A N cap)) (hn₀ : n₀ ≤ W.heap.size)
    (hC : ∀ w1 i, Below n₀ W w1 → i < N → ∃ g off, A = some ⟨g, off, none⟩ ∧ N ≤ cap ∧ g < w1.heap.size ∧ w1.cell? ⟨g, off + i * 2, none⟩ = some (.int .i64 (L.getD i (0, 0)).1) ∧ w1.cell? ⟨g, off + i * 2 + 1, none⟩ = some (.int .i64 (L.getD i (0, 0)).2))
    (h0 : J [] W) :
    CallsIn Fence.wide n Try.prog 95 #[.func (.yield l) #[] #[], .pointer (some ⟨Bs, 0, none⟩), .pointer (some ⟨Bl, 0, none⟩)] W fun e W' => (∃ v, e = .returned v) ∧
      ((∃ ys, ys = missS L s ∧ J ys W') ∨ (∃ pre, pre <+: missS L s ∧ Jx pre W')) := by
  have hbrk := Lib.hid (fun f k (h : k < N) he => miss_brk (s.1 + s.2) f L k (by omega) he)
  have hgo := Lib.hid (fun f k (h : k < N) he => miss_go (s.1 + s.2) f L k (by omega) he)
  have hend := Lib.hid (fun f => miss_end (s.1 + s.2) f L N hlen.symm)
  have hI := Lib.hid (fun i (hi : i < N) => hL.at i (by omega))
  have hM0 : missS L s = [] ++ missL (s.1 + s.2) s.1 (L.drop 0) := rfl
  generalize missS L s = M at *
  replace hM0 := Lib.hid hM0
  have hEs := Lib.hid (fun w => end_any s.1 s.2 w hs)
  replace hC := Lib.hid hC
  replace hJ := Lib.hid hJ
  replace hY := Lib.hid hY
  obtain ⟨hs1, hs2, hs3, hs4⟩ := id hs
  obtain ⟨s0, s1⟩ := hS.c2
  have hmk : Mk n₀ Bo Bs s W J [] W := ⟨Below.refl _ _, h0, hJ.out [], hn₀, hBo, hOl, hS, hne, hno⟩
  clear hL hlen h0
  refine callsIn_of_wp Try.func95 rfl trivial ?_ rfl
  simp only [Try.ntmps95, List.size_toArray, List.length_cons, List.length_nil, Nat.reduceAdd, Nat.reduceSub, Array.replicate_succ, Array.replicate_zero, List.push_toArray, List.append_toArray, List.nil_append, List.cons_append]
  gi_wp2
  gi_loopw [4, 11] (fun f x wr => ∃ (k : Nat) (fr : Int) (pre : List Sp), k ≤ N ∧ x = .int .i64 k ∧ f = .int .i64 fr ∧ -4398046511104 ≤ fr ∧ fr ≤ 4398046511104 ∧ Hid (M = pre ++ missL (s.1 + s.2) fr (L.drop k)) ∧ Mk n₀ Bo Bs s W J pre wr)
    (fun _ x wr => N + 1 - (intOf x).toNat)
  case atStart =>
    exact ⟨0, s.1, [], Nat.zero_le _, rfl, rfl, hs1, hs2, hM0, hmk⟩
  case round =>
    obtain ⟨k, fr, pre, hk, rfl, rfl, hf1, hf2, hM, hmr⟩ := hrel
    clear hmk hM0 s0 s1 hS
    by_cases hlt : k < N
    · obtain ⟨g, off, rfl, hcap, hg, c0, c1⟩ := hC.out wr k hmr.B hlt
      have hlt' : (k : Int) < (N : Int) := by omega
      have hx := hI.out k hlt
      have hbrk2 := Lib.hid (fun he => hbrk.out fr k hlt he)
      have hgo2 := Lib.hid (fun he => hgo.out fr k hlt he)
      generalize L.getD k (0, 0) = x at *
      have hEx := Lib.hid (fun w => end_any x.1 x.2 w hx)
      obtain ⟨hx1, hx2, hx3, hx4⟩ := id hx
      have hKd : Mk n₀ Bo Bs s W J pre (wr.alloc (.cells #[.int .i64 x.1, .int .i64 x.2] 63)).drew := hmr.keep ((Below.refl _ _).alloc (Nat.le_refl _) _).drew
      have hx0 := Bk.new wr (.int .i64 x.1) (.int .i64 x.2)
      have hxd : Bk (wr.alloc (.cells #[.int .i64 x.1, .int .i64 x.2] 63)).drew wr.heap.size (.int .i64 x.1) (.int .i64 x.2) := hx0
      obtain ⟨hxn, hxo⟩ := hmr.new (Nat.le_refl wr.heap.size)
      have hxo2 : ¬ OwnAt (wr.alloc (.cells #[.int .i64 x.1, .int .i64 x.2] 63)).drew Bo wr.heap.size := fun q => hxo ((ownAt_keep ((Below.refl _ _).alloc (Nat.le_refl _) _).drew hmr.o).1 q)
      obtain ⟨x0, x1⟩ := hx0.c2
      obtain ⟨s0, s1⟩ := hKd.s.c2
      have hob := Lib.hid hKd.o
      have hjm := Lib.hid hmr.J
      clear hxo
      by_cases hst : s.1 + s.2 ≤ x.1
      · have e1 : decide (s.1 + s.2 ≤ x.1) = true := decide_eq_true hst
        have hMg := Lib.hid (show M = pre ++ gapL fr (s.1 + s.2) from by rw [hM.out, hbrk2.out hst])
        gi_wp2
        refine wpIn_wide.2 ?_
        go_region_held3 (fun w' => w'.cell? ⟨wr.heap.size, 0, none⟩ = some (.int .i64 x.1) ∧ w'.cell? ⟨wr.heap.size, 1, none⟩ = some (.int .i64 x.2) ∧ w'.cell? ⟨Bs, 0, none⟩ = some (.int .i64 s.1) ∧ w'.cell? ⟨Bs, 1, none⟩ = some (.int .i64 s.2) ∧ (Mk n₀ Bo Bs s W J pre w') ∧ (Bk w' wr.heap.size (.int .i64 x.1) (.int .i64 x.2)))
          (((try go_split_ands); refine ⟨?_, ?_, ?_, ?_, ?_, ?_⟩ <;> first | assumption | exact hKd | (exact Mk.keep (by assumption) hb) | (exact Bk.keep (by assumption) hb) | (exact cellK (by assumption) hb) | (exact frozK (by assumption) (by assumption) hb) | (exact Below.trans (by assumption) (hb.mono (Below.size (by assumption))))))
          (((try go_split_ands); first | (go_at_call 78; (with_reducible refine (hEs.out _).mono ?_); rintro e w8 ⟨rfl, hb⟩)))
        go_split_ands
        have hMm := ‹Mk n₀ Bo Bs s W J pre w8›
        clear x0 x1 s0 s1 hKd hxd hx0 hmr hxo2
        obtain ⟨s0, s1⟩ := hMm.s.c2
        have hj := hMm.j
        by_cases hfe : fr < s.1 + s.2
        · have hMe := Lib.hid (show M = pre ++ [(fr, s.1 + s.2 - fr)] from by rw [hMg.out]; unfold gapL; rw [if_pos hfe])
          gi_wp2
          refine ⟨trivial, (callsIn_wide.2 (hEs.out _)).mono ?_⟩
          rintro e w9 ⟨rfl, hb9⟩
          have hM9 := hMm.keep hb9
          obtain ⟨s0', s1'⟩ := hM9.s.c2
          clear s0 s1
          gi_wp2
          refine ⟨trivial, (callsIn_wide.2 (hEs.out _)).mono ?_⟩
          rintro e w10 ⟨rfl, hb10⟩
          have hM10 := hM9.keep hb10
          obtain ⟨fn, tmps, assign, body, hy, hR⟩ := hY.out pre (fr, s.1 + s.2 - fr) w10 hM10.j (by rw [hMe.out]; simp)
          clear hb9 hb10
          gi_wp2
          refine hR.mono ?_
          rintro e W3 (⟨rfl, hJ3, hk3⟩ | ⟨rfl, hJx3⟩)
          · gi_wp2
            go_end0
            exact ⟨⟨_, rfl⟩, .inl ⟨_, hMe.out.symm, hJ3⟩⟩
          · gi_wp2
            go_end0
            exact ⟨⟨_, rfl⟩, .inr ⟨_, by rw [hMe.out]; exact List.prefix_refl _, hJx3⟩⟩
        · have hMe := Lib.hid (show pre = M from by rw [hMg.out]; unfold gapL; rw [if_neg hfe, List.append_nil])
          gi_wp2
          refine ⟨trivial, (callsIn_wide.2 (hEs.out _)).mono ?_⟩
          rintro e w9 ⟨rfl, hb9⟩
          have hM9 := hMm.keep hb9
          gi_wp2
          go_end0
          exact ⟨⟨_, rfl⟩, .inl ⟨pre, hMe.out, hM9.j⟩⟩
      · have e1 : decide (s.1 + s.2 ≤ x.1) = false := decide_eq_false hst
        obtain ⟨mx, hmx⟩ : ∃ mx, mx = max fr (x.1 + x.2) := ⟨_, rfl⟩
        have hmx1 : -4398046511104 ≤ mx := by omega
        have hmx2 : mx ≤ 4398046511104 := by omega
        have hmxi : (if fr < x.1 + x.2 then x.1 + x.2 else fr) = mx := by rw [hmx]; split <;> omega
        have hMg := Lib.hid (show M = pre ++ (gapL fr x.1 ++ missL (s.1 + s.2) mx (L.drop (k + 1))) from by rw [hM.out, hgo2.out (by omega), hmx])
        clear hmx
        gi_wp2
        refine wpIn_wide.2 ?_
        go_region_held3 (fun w' => w'.cell? ⟨wr.heap.size, 0, none⟩ = some (.int .i64 x.1) ∧ w'.cell? ⟨wr.heap.size, 1, none⟩ = some (.int .i64 x.2) ∧ w'.cell? ⟨Bs, 0, none⟩ = some (.int .i64 s.1) ∧ w'.cell? ⟨Bs, 1, none⟩ = some (.int .i64 s.2) ∧ (Mk n₀ Bo Bs s W J pre w') ∧ (Bk w' wr.heap.size (.int .i64 x.1) (.int .i64 x.2)))
          (((try go_split_ands); refine ⟨?_, ?_, ?_, ?_, ?_, ?_⟩ <;> first | assumption | exact hKd | (exact Mk.keep (by assumption) hb) | (exact Bk.keep (by assumption) hb) | (exact cellK (by assumption) hb) | (exact frozK (by assumption) (by assumption) hb) | (exact Below.trans (by assumption) (hb.mono (Below.size (by assumption))))))
          (((try go_split_ands); first | (go_at_call 78; (with_reducible refine (hEs.out _).mono ?_); rintro e w8 ⟨rfl, hb⟩)))
        go_split_ands
        have hMm := ‹Mk n₀ Bo Bs s W J pre w8›
        have hxq := ‹Bk w8 wr.heap.size (.int .i64 x.1) (.int .i64 x.2)›
        have hxo8 : ¬ OwnAt w8 Bo wr.heap.size := fun q => hxo2 ((ownAt_keep hb hob.out).1 q)
        clear x0 x1 s0 s1 hKd hxd hx0 hmr hxo2 hb
        by_cases hfx : fr < x.1
        · have hMe := Lib.hid (show M = (pre ++ [(fr, x.1 - fr)]) ++ missL (s.1 + s.2) mx (L.drop (k + 1)) from by rw [hMg.out]; unfold gapL; rw [if_pos hfx]; simp)
          obtain ⟨fn, tmps, assign, body, hy, hR⟩ := hY.out pre (fr, x.1 - fr) w8 hMm.j (by rw [hMe.out]; simp)
          obtain ⟨y0, y1⟩ := hxq.c2
          gi_wp2
          refine hR.mono ?_
          rintro e W3 (⟨rfl, hJ3, hk3⟩ | ⟨rfl, hJx3⟩)
          · have hM3 := hMm.kp hk3 hJ3 (hJ.out _)
            replace hxq := hxq.kp hk3 hxn hxo8
            clear y0 y1
            obtain ⟨x0', x1'⟩ := hxq.c2
            gi_wp2
            refine ⟨trivial, (callsIn_wide.2 (hEx.out _)).mono ?_⟩
            rintro e w9 ⟨rfl, hb9⟩
            have hMn := hM3.keep hb9
            clear hb9 x0' x1' hxq
            gi_wp2
            go_roundw
            case rel => exact ⟨k + 1, mx, pre ++ [(fr, x.1 - fr)], by omega, by go_num, rfl, hmx1, hmx2, hMe, hMn⟩
            case measure => simp [intOf]; omega
          · gi_wp2
            refine bodyPost_ret (results_none rfl _ _ _) rfl ?_
            exact ⟨⟨_, rfl⟩, .inr ⟨_, by rw [hMe.out]; exact List.prefix_append _ _, hJx3⟩⟩
        · have hMe := Lib.hid (show M = pre ++ missL (s.1 + s.2) mx (L.drop (k + 1)) from by rw [hMg.out]; unfold gapL; rw [if_neg hfx, List.nil_append])
          have e2 : decide (fr < x.1) = false := decide_eq_false hfx
          have hfx2 : x.1 ≤ fr := by omega
          clear hfx
          obtain ⟨z0, z1⟩ := hxq.c2
          gi_wp2
          refine ⟨fun f hf => (by cases hf), ?_⟩
          clear z0 z1
          obtain ⟨x0', x1'⟩ := hxq.c2
          gi_wp2
          refine ⟨trivial, (callsIn_wide.2 (hEx.out _)).mono ?_⟩
          rintro e w9 ⟨rfl, hb9⟩
          have hMn := hMm.keep hb9
          clear hb9 x0' x1' hxq
          gi_wp2
          go_roundw
          case rel => exact ⟨k + 1, mx, pre, by omega, by go_num, rfl, hmx1, hmx2, hMe, hMn⟩
          case measure => simp [intOf]; omega
    · obtain rfl : k = N := by omega
      have hMg := Lib.hid (show M = pre ++ gapL fr (s.1 + s.2) from by rw [hM.out, hend.out])
      have hMm := hmr
      clear hmr
      obtain ⟨s0, s1⟩ := hMm.s.c2
      have hj := hMm.j
      by_cases hfe : fr < s.1 + s.2
      · have hMe := Lib.hid (show M = pre ++ [(fr, s.1 + s.2 - fr)] from by rw [hMg.out]; unfold gapL; rw [if_pos hfe])
        gi_wp2
        refine ⟨trivial, (callsIn_wide.2 (hEs.out _)).mono ?_⟩
        rintro e w9 ⟨rfl, hb9⟩
        have hM9 := hMm.keep hb9
        obtain ⟨s0', s1'⟩ := hM9.s.c2
        clear s0 s1
        gi_wp2
        refine ⟨trivial, (callsIn_wide.2 (hEs.out _)).mono ?_⟩
        rintro e w10 ⟨rfl, hb10⟩
        have hM10 := hM9.keep hb10
        obtain ⟨fn, tmps, assign, body, hy, hR⟩ := hY.out pre (fr, s.1 + s.2 - fr) w10 hM10.j (by rw [hMe.out]; simp)
        clear hb9 hb10
        gi_wp2
        refine hR.mono ?_
        rintro e W3 (⟨rfl, hJ3, hk3⟩ | ⟨rfl, hJx3⟩)
        · gi_wp2
          go_end0
          exact ⟨⟨_, rfl⟩, .inl ⟨_, hMe.out.symm, hJ3⟩⟩
        · gi_wp2
          go_end0
          exact ⟨⟨_, rfl⟩, .inr ⟨_, by rw [hMe.out]; exact List.prefix_refl _, hJx3⟩⟩
      · have hMe := Lib.hid (show pre = M from by rw [hMg.out]; unfold gapL; rw [if_neg hfe, List.append_nil])
        gi_wp2
        refine ⟨trivial, (callsIn_wide.2 (hEs.out _)).mono ?_⟩
        rintro e w9 ⟨rfl, hb9⟩
        have hM9 := hMm.keep hb9
        gi_wp2
        go_end0
        exact ⟨⟨_, rfl⟩, .inl ⟨pre, hMe.out, hM9.j⟩⟩

set_option maxHeartbeats 400000 in
theorem missing_in (n : Nat) (A : Option Addr) (N cap : Nat) (s : Sp) (w : World) :
    CallsIn Fence.wide n Try.prog 80 #[.slice A N cap, .agg #[.int .i64 s.1, .int .i64 s.2]] w fun e w' => e = .returned (.func (.func 95) #[] #[.pointer (some ⟨w.heap.size + 1, 0, none⟩), .pointer (some ⟨w.heap.size, 0, none⟩)]) ∧ (w.alloc (.cells #[.slice A N cap] 57)).alloc (.cells #[.int .i64 s.1, .int .i64 s.2] 63) = w' := by
  refine callsIn_wide.2 ?_
  go_enter Try.func80, Try.ntmps80
  go_wp2
  go_ret
  exact ⟨rfl, rfl⟩
theorem abides_below {J : List Sp → World → Prop} {B : Nat} (h : AbidesFrom B J) : ∀ pre W1 W2, J pre W1 → Below W1.heap.size W1 W2 → J pre W2 := fun pre W1 W2 hj hb =>
  h pre W1 W2 none hj ⟨hb.os, hb.tape, hb.output, hb.size, fun k hk _ => hb.block k hk⟩ (fun r e => by cases e)
theorem miss_stops (n : Nat) (hn : 1 ≤ n) (Bo Bs Bl n₀ N cap : Nat) (A : Option Addr) (L : List Sp) (s : Sp) (hL : SBs L) (hlen : L.length = N) (hN : N ≤ 1000) (hs : SB s)
    (w : World) (hS : Bk w Bs (.int .i64 s.1) (.int .i64 s.2)) (hne : Bs ≠ Bo) (hBo : Bo < w.heap.size) (hOl : OwnLt w Bo) (hno : ¬ OwnAt w Bo Bs) (hBl : w.cell? ⟨Bl, 0, none⟩ = some (.slice A N cap)) (hBl2 : Bl < w.heap.size) (hn₀ : n₀ ≤ w.heap.size)
    (hC : ∀ w1 i, Below n₀ w w1 → i < N → ∃ g off, A = some ⟨g, off, none⟩ ∧ N ≤ cap ∧ g < w1.heap.size ∧ w1.cell? ⟨g, off + i * 2, none⟩ = some (.int .i64 (L.getD i (0, 0)).1) ∧ w1.cell? ⟨g, off + i * 2 + 1, none⟩ = some (.int .i64 (L.getD i (0, 0)).2)) :
    SeqStopsK Fence.wide n Try.prog 95 #[.pointer (some ⟨Bs, 0, none⟩), .pointer (some ⟨Bl, 0, none⟩)] (fun y : Sp => #[.agg #[.int .i64 y.1, .int .i64 y.2]]) (Kp n₀ Bo) (fun ys => ys = missS L s) (fun pre => pre <+: missS L s) (missS L s).length w := fun l J Jx W hW hJ _ hY h0 =>
  miss1_in n hn l Bo Bs Bl n₀ N cap A L s hL hlen hN hs J Jx (abides_below hJ) hY W (hS.keep hW) hne (Nat.lt_of_lt_of_le hBo hW.size) (fun b q => Nat.lt_of_lt_of_le (hOl b ((ownAt_keep hW hBo).1 q)) hW.size) (fun q => hno ((ownAt_keep hW hBo).1 q)) ((hW.cell (p := ⟨Bl, 0, none⟩) hBl2).trans hBl) (Nat.le_trans hn₀ hW.size) (fun w1 i hb => hC w1 i ((hW.mono hn₀).trans hb)) h0
end Go.Proofs.Ytcemiclbeocnjaa
