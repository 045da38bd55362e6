/-
  Layer 3 (pmem): the places of words in a map, rising, told by an iterator.
-/
import Derived.Test.YtcemiclbeocnjaaPm2
import Derived.RangeFuncNested
import Derived.RangeFuncBound
import Derived.RangeFuncCalls
import Derived.RangeFuncLeaves
import Derived.RangeFuncFrom
import Derived.RangeFuncWrites
import Derived.RangeFuncBox
import Derived.Shelf.Abstract
import Derived.Shelf.RegionOpen
import Derived.WalkKit
import Derived.OwnWalkIn
import Derived.TacticsInMore
import Derived.LoopNIn
import Derived.LoopIn
set_option linter.unusedVariables false
set_option linter.unusedSimpArgs false
namespace Go.Proofs.Ytcemiclbeocnjaa
open Go.RowKit Go.ChangeShapes Go.WideShapes Go.Deep Go.Maps Go.Sort Go.Shelf
attribute [local go_sem] Oper.semAt_some

/-- the keys, rising -/
structure KeysU (g : Gu) (L : List Int) : Prop where
  inc : L.Pairwise (· < ·)
  mem : ∀ x, x ∈ L ↔ ∃ f, g x = some f
theorem KeysU.uniq {g : Gu} {L J : List Int} (h : KeysU g L) (h2 : KeysU g J) : L = J := by
  have hp : L.Perm J := (List.perm_ext_iff_of_nodup (h.inc.imp (fun {a b} hab e => by omega)) (h2.inc.imp (fun {a b} hab e => by omega))).2 fun x => by rw [h.mem, h2.mem]
  exact hp.eq_of_pairwise (le := (· < ·)) (fun a b _ _ h1 h2 => by omega) h.inc h2.inc
def keysL (N : Nat) (g : Gu) : List Int := ((List.range N).map Int.ofNat).filter (fun x => (g x).isSome)
theorem keysL_keys (N : Nat) (g : Gu) (h : ∀ x a, g x = some a → 0 ≤ x ∧ x < N) : KeysU g (keysL N g) := by
  constructor
  · unfold keysL
    refine List.Pairwise.filter _ (List.pairwise_map.2 (List.pairwise_lt_range.imp (fun {a b} hab => ?_)))
    simp only [Int.ofNat_eq_natCast]; omega
  · intro x
    unfold keysL
    rw [List.mem_filter, List.mem_map, Option.isSome_iff_exists]
    constructor
    · rintro ⟨_, q⟩; exact q
    · rintro ⟨a, q⟩
      obtain ⟨h1, h2⟩ := h x a q
      exact ⟨⟨x.toNat, List.mem_range.2 (by omega), by simp only [Int.ofNat_eq_natCast]; omega⟩, a, q⟩
theorem keysL_len (N : Nat) (g : Gu) : (keysL N g).length ≤ N := by
  unfold keysL
  refine Nat.le_trans (List.length_filter_le _ _) (by simp)
theorem KeysU_any (M : Nat) (w : World) : Calls Try.prog 87 #[.map (some M)] w fun e w' =>
    e = .returned (.func (.func 99) #[] #[.pointer (some ⟨w.heap.size, 0, none⟩)]) ∧ w' = w.alloc (.cells #[.map (some M)] 92) :=
  callsIn_wide.1 (AnyZI.keys_in keysU Fence.wide 5 trivial rfl (some M) w)

set_option maxHeartbeats 1000000 in
theorem SortedU_any (M b n : Nat) (g : Gu) (w : World) (hm : MapU w M n g) (hb : w.cell? ⟨b, 0, none⟩ = some (.map (some M))) (hn : n ≤ 1000000) :
    Calls Try.prog 86 #[.func (.func 99) #[] #[.pointer (some ⟨b, 0, none⟩)]] w fun e w' =>
      ∃ v L, e = .returned v ∧ OwnE 3 1 iE w' w.heap.size v L ∧ KeysU g L ∧ L.length ≤ n ∧ Below w.heap.size w w' := by
  obtain ⟨D, ho, hp⟩ := hm
  have hbl := World.block_lt_of_cell? _ _ hb
  obtain ⟨kn, km, kl⟩ := keys_facts ho tlaw Try.underlying3
  have hsz := ho.size_le
  have hseq : SeqGives Fence.wide 2 Try.prog 99 #[.pointer (some ⟨b, 0, none⟩)] encZ (fun ss => ss.Perm (intKeys D)) (Maps.size D) w :=
    AnyZI.keys_gives (ρ := keysU_ren) { keysU with } Fence.wide _ trivial rfl (by omega) b M n D w hbl hb ho
  have cS := AnyZI.sorted_in sortedA Fence.wide 5 trivial trivial trivial trivial rfl (by omega) (sortsA _) (enters_of Try.func98 (by kernel_rfl) rfl) 99 #[.pointer (some ⟨b, 0, none⟩)] trivial (enters_of Try.func99 (by kernel_rfl) rfl) _ _ (by unfold maxLen; omega) (by omega) _ hseq
  change CallsIn _ _ Try.prog 86 _ _ _ at cS
  refine (callsIn_wide.1 cS).mono ?_
  rintro e w' ⟨v, ss, rfl, hS, hrow, _, hbw⟩
  have hnd : ss.Nodup := hS.nodup_iff.2 kn
  have hlen : ss.length ≤ n := by rw [hS.length_eq]; exact kl
  refine ⟨v, ss.mergeSort fun x y => decide (x ≤ y), rfl, ?_, ⟨sort_inc hnd, fun x => ?_⟩, by rw [List.length_mergeSort]; exact hlen, hbw⟩
  · unfold OwnE
    rw [iE_map, List.length_mergeSort]
    exact hrow
  · rw [(List.mergeSort_perm ss _).mem_iff, hS.mem_iff, km]
    constructor
    · intro h
      have hw := intKeys_wf ho Try.underlying3 x ((km x).2 h)
      rw [hp.has x (wf_I64 hw)] at h
      exact Option.isSome_iff_exists.1 h
    · rintro ⟨f, hf⟩
      rw [hp.has x (hp.got x f hf).1, hf]; rfl

/-- what a round keeps: the rows that are made from n₀ on, but the row that the variable in block Bo holds -/
def Kq (n₀ Bo : Nat) (X Y : World) : Prop := X.heap.size ≤ Y.heap.size ∧ (∀ b cs t f, n₀ ≤ b → X.heap[b]? = some (.cells cs t f) → ¬ OwnAt X Bo b → Y.heap[b]? = X.heap[b]?) ∧ (∀ b, b < X.heap.size → OwnAt Y Bo b → OwnAt X Bo b) ∧ (OwnLt X Bo → OwnLt Y Bo)
theorem kq_t {n₀ Bo : Nat} {X Y Z : World} (h : Kq n₀ Bo X Y) (k : Kq n₀ Bo Y Z) : Kq n₀ Bo X Z :=
  ⟨Nat.le_trans h.1 k.1, fun b cs t f hn hb ho => by
    have h1 := h.2.1 b cs t f hn hb ho
    have hlt := (Array.getElem?_eq_some_iff.1 hb).1
    exact (k.2.1 b cs t f hn (h1.trans hb) (fun q => ho (h.2.2.1 b hlt q))).trans h1,
   fun b hlt q => h.2.2.1 b hlt (k.2.2.1 b (Nat.lt_of_lt_of_le hlt h.1) q), fun q => k.2.2.2 (h.2.2.2 q)⟩
theorem kq_b {n₀ Bo : Nat} {w : World} (hB : Bo < w.heap.size) (W : World) (l : Nat) (o o' : Obj) (hl : w.heap.size ≤ l) (h : W.heap[l]? = some o) (h1 : o.isCells = false) (h2 : o.isWalk = false) : Kq n₀ Bo W (W.putObj l o') := by
  have hg := grownBy_putObj' W l o'
  have hlt := (Array.getElem?_eq_some_iff.1 h).1
  have hc : (W.putObj l o').cell? ⟨Bo, 0, none⟩ = W.cell? ⟨Bo, 0, none⟩ := World.cell?_of_block (hg.block Bo (by omega) (fun e => by cases e; omega))
  have ho : ∀ b, OwnAt (W.putObj l o') Bo b ↔ OwnAt W Bo b := fun b => by unfold OwnAt; rw [hc]
  refine ⟨hg.size, fun b cs t f hn hb _ => hg.block b (Array.getElem?_eq_some_iff.1 hb).1 (fun e => ?_), fun b _ q => (ho b).1 q, fun q b hb => Nat.lt_of_lt_of_le (q b ((ho b).1 hb)) hg.size⟩
  cases e
  rw [hb] at h
  cases h
  simp [Obj.isCells] at h1
theorem kq_chg {n₀ Bo : Nat} {S : Nat → Prop} {X Y : World} (h : Chg S X Y) (hS : ∀ k, S k → k < n₀ ∧ k ≠ Bo) (hB : Bo < X.heap.size) : Kq n₀ Bo X Y := by
  have hc : Y.cell? ⟨Bo, 0, none⟩ = X.cell? ⟨Bo, 0, none⟩ := World.cell?_of_block (h.block Bo hB (fun q => (hS _ q).2 rfl))
  have ho : ∀ b, OwnAt Y Bo b ↔ OwnAt X Bo b := fun b => by unfold OwnAt; rw [hc]
  exact ⟨h.size, fun b cs t f hn hb _ => h.block b (Array.getElem?_eq_some_iff.1 hb).1 (fun q => by have := (hS _ q).1; omega), fun b _ q => (ho b).1 q, fun q b hb => Nat.lt_of_lt_of_le (q b ((ho b).1 hb)) h.size⟩
theorem kq_body {n₀ Bo : Nat} {W w1 : World} {v v' : Value} {o : Obj} {t : TypeId} (hc : Boxed W Bo t v) (hn : Bo < n₀) (hg : (W.alloc o).grownBy w1 v.ownBlock) (hl : v'.ownBlock = v.ownBlock ∨ v'.ownBlock = some (W.alloc o).heap.size) (hne : some Bo ≠ v.ownBlock)
    (hlt : ∀ g, v'.ownBlock = some g → g < w1.heap.size) : Kq n₀ Bo W (w1.setCell ⟨Bo, 0, none⟩ v') := by
  have hY : Boxed (w1.setCell ⟨Bo, 0, none⟩ v') Bo t v' := ((hc.alloc o).kept hg hne).set v'
  have hs := hg.size
  simp only [World.size_alloc] at hs
  have hcl := hc.lt
  refine ⟨by rw [size_setCell]; omega, fun b cs tt f hbn hbk ho => ?_, fun b hbl q => ?_, fun _ => ownLt_of hY (fun b q => by have := hlt b q; simpa using this)⟩
  · have hbl := (Array.getElem?_eq_some_iff.1 hbk).1
    rw [Below.heap_setCell w1 ⟨Bo, 0, none⟩ v' b (fun e => by simp only [] at e; omega), hg.block b (by simp; omega) (fun q => ho ((ownAt_iff hc).2 q.symm)), Below.heap_alloc W o b hbl]
  · have q1 := (ownAt_iff hY).1 q
    rcases hl with hl | hl
    · exact (ownAt_iff hc).2 (hl ▸ q1)
    · rw [hl] at q1
      simp at q1; omega
/-- the sorted places lie in a row that no round changes -/
def SR (K : List Int) (n₀ Bo : Nat) (A : Option Addr) (cap : Nat) (w : World) : Prop := ∀ i, i < K.length → ∃ g cs t f, A = some ⟨g, 0, none⟩ ∧ K.length ≤ cap ∧ n₀ ≤ g ∧ w.heap[g]? = some (.cells cs t f) ∧ ¬ OwnAt w Bo g ∧ cs[i]? = some (.int .i64 (K.getD i 0))
theorem SR.kq {K : List Int} {n₀ Bo cap : Nat} {A : Option Addr} {w w1 : World} (h : SR K n₀ Bo A cap w) (hk : Kq n₀ Bo w w1) : SR K n₀ Bo A cap w1 := fun i hi => by
  obtain ⟨g, cs, t, f, hA, hc, hg, hb, ho, hx⟩ := h i hi
  exact ⟨g, cs, t, f, hA, hc, hg, (hk.2.1 g cs t f hg hb ho).trans hb, fun q => ho (hk.2.2.1 g (Array.getElem?_eq_some_iff.1 hb).1 q), hx⟩
theorem SR.of {K : List Int} {n₀ Bo : Nat} {v : Value} {w : World} {base : Nat} (h : OwnE 3 1 iE w base v K) (hn : n₀ ≤ base) (ho : ∀ g, base ≤ g → ¬ OwnAt w Bo g) : ∃ A cap, v = .slice A K.length cap ∧ SR K n₀ Bo A cap w := by
  have h' := h
  rcases h.2 with ⟨hv, h0⟩ | ⟨g, cap, cur, hv, hb, hg, h1, h2, h3, h4⟩
  · exact ⟨none, 0, by rw [hv, h0], fun i hi => by omega⟩
  · refine ⟨_, _, hv, fun i hi => ⟨g, cur, _, _, rfl, h1, by omega, hg, ho g hb, ?_⟩⟩
    rw [iE_map, Nat.mul_one] at h4
    have h5 : (cur.toList.take K.length)[i]? = (K.map encZ)[i]? := by rw [h4]
    rw [List.getElem?_take_of_lt hi, List.getElem?_map, List.getElem?_eq_getElem hi, Array.getElem?_toList] at h5
    rw [h5, List.getD_eq_getElem?_getD, List.getElem?_eq_getElem hi]
    rfl
set_option maxHeartbeats 400000 in
theorem places_in (n : Nat) (M : Nat) (w : World) :
    CallsIn Fence.wide n Try.prog 59 #[.map (some M)] w fun e w' => e = .returned (.func (.func 85) #[] #[.pointer (some ⟨w.heap.size, 0, none⟩)]) ∧ w.alloc (.cells #[.map (some M)] 92) = w' := by
  refine callsIn_wide.2 ?_
  go_enter Try.func59, Try.ntmps59
  go_wp2
  go_ret
  exact ⟨rfl, rfl⟩

/-- a place that a word in the map has -/
abbrev Key (g : Gu) := { y : Int // ∃ a, g y = some a }
def keysOf (g : Gu) (K : List Int) (h : KeysU g K) : List (Key g) := K.attachWith _ (fun x hx => (h.mem x).1 hx)
theorem keysOf_map (g : Gu) (K : List Int) (h : KeysU g K) : (keysOf g K h).map (fun y => y.1) = K := by
  unfold keysOf
  have := List.attachWith_map_val (f := fun y : Int => y) (l := K) (p := fun y => ∃ a, g y = some a) (fun x hx => (h.mem x).1 hx)
  rw [List.map_id'] at this
  exact this
set_option maxRecDepth 10000 in
set_option maxHeartbeats 2000000 in
theorem pl1_in (n : Nat) (hn : 1 ≤ n) (l Bo Bm n₀ M k0 : Nat) (g : Gu) (K : List (Key g)) (hK : KeysU g (K.map fun y => y.1)) (J Jx : List (Key g) → World → Prop)
    (hJ : ∀ pre W1 W2, J pre W1 → Below W1.heap.size W1 W2 → J pre W2)
    (hY : ∀ pre (y : Key g) W, J pre W → pre.length < K.length → YieldAt Fence.wide (n - 1) Try.prog l #[.int .i64 y.1] W fun e W' =>
      (e = .returned (.bool true) ∧ J (pre ++ [y]) W' ∧ Kq n₀ Bo W W') ∨ (e = .returned (.bool false) ∧ Jx (pre ++ [y]) W'))
    (W : World) (hBo : Bo < W.heap.size) (hOl : OwnLt W Bo) (hBm : W.cell? ⟨Bm, 0, none⟩ = some (.map (some M))) (hm : MapU W M k0 g) (hk0 : k0 ≤ 1000000) (hn₀ : n₀ ≤ W.heap.size)
    (h0 : J [] W) :
    CallsIn Fence.wide n Try.prog 85 #[.func (.yield l) #[] #[], .pointer (some ⟨Bm, 0, none⟩)] W fun e W' => (∃ v, e = .returned v) ∧
      ((∃ ys, ys = K ∧ J ys W') ∨ (∃ pre, pre <+: K ∧ Jx pre W')) := by
  replace hJ := Lib.hid hJ
  replace hY := Lib.hid hY
  have hA1 : Below W.heap.size W (W.alloc (.cells #[.map (some M)] 92)) := (Below.refl _ _).alloc (Nat.le_refl _) _
  have hS := SortedU_any M W.heap.size k0 g _ (hm.keep hA1) (cell_blk (World.alloc_heap_new W _) rfl).1 hk0
  have hKy := KeysU_any M W
  clear hm
  refine callsIn_of_wp Try.func85 rfl trivial ?_ rfl
  simp only [Try.ntmps85, List.size_toArray, List.length_cons, List.length_nil, Nat.reduceAdd, Nat.reduceSub, Array.replicate_succ, Array.replicate_zero, List.push_toArray, List.append_toArray, List.nil_append, List.cons_append]
  gi_wp2
  refine ⟨trivial, (callsIn_wide.2 hKy).mono ?_⟩
  rintro e w1 ⟨rfl, rfl⟩
  gi_wp2
  refine ⟨trivial, (callsIn_wide.2 hS).mono ?_⟩
  rintro e w2 ⟨v, L, rfl, hO, hKL, hLn, hb2⟩
  obtain rfl : L = K.map (fun y => y.1) := hKL.uniq hK
  have hb02 := hA1.trans (hb2.mono (by simp))
  obtain ⟨A, cap, rfl, hSR⟩ := SR.of (n₀ := n₀) (Bo := Bo) hO (by simp; omega) (fun g hg q => by
    have q1 := hOl g ((ownAt_keep hb02 hBo).1 q)
    simp at hg; omega)
  have hJ2 := hJ.out [] W w2 h0 hb02
  have hKn := Lib.hid (show ∀ i (hi : i < K.length), K.take (i + 1) = K.take i ++ [K[i]] ∧ (K.map fun y => y.1).getD i 0 = K[i].1 from fun i hi => ⟨List.take_succ_eq_append_getElem hi, by rw [List.getD_eq_getElem?_getD, List.getElem?_map, List.getElem?_eq_getElem hi]; rfl⟩)
  have hTk := Lib.hid (show K.take K.length = K from List.take_length)
  have hPr := Lib.hid (fun i => List.take_prefix i K)
  obtain ⟨m, hmm⟩ : ∃ m, K.length = m := ⟨_, rfl⟩
  have hml : (K.map fun y => y.1).length = m := by rw [List.length_map, hmm]
  have hSRk := Lib.hid (fun (w w' : World) (h : SR (K.map fun y => y.1) n₀ Bo A cap w) (hk : Kq n₀ Bo w w') => h.kq hk)
  replace hSR := Lib.hid hSR
  have hTl := Lib.hid (fun i (hi : i ≤ m) => show (K.take i).length = i from by rw [List.length_take]; omega)
  have hm6 : m ≤ 1000000 := by omega
  rw [hml]
  replace hmm := Lib.hid hmm
  replace hml := Lib.hid hml
  clear hS hKy hA1 hO hKL hK hLn hb2 hb02 h0 hBm hOl
  gi_wp2
  gi_loopw [9] (fun x wr => ∃ (k : Nat), k ≤ m ∧ x = .int .i64 k ∧ Hid (J (K.take k) wr) ∧ Hid (SR (K.map fun y => y.1) n₀ Bo A cap wr))
    (fun x wr => m + 1 - (intOf x).toNat)
  case atStart => exact ⟨0, Nat.zero_le _, rfl, hJ2, hSR⟩
  case round =>
    clear hJ2 hSR
    obtain ⟨k, hk, rfl, hJk, hSk⟩ := hrel
    by_cases hlt : k < m
    · obtain ⟨g1, cs, t, f, hA, hcap, hg1, hb1, ho1, hx⟩ := hSk.out k (by rw [hml.out]; exact hlt)
      subst hA
      rw [hml.out] at hcap
      have hlt' : (k : Int) < (m : Int) := by omega
      have hgl := (Array.getElem?_eq_some_iff.1 hb1).1
      have hkm : k < K.length := by rw [hmm.out]; exact hlt
      obtain ⟨hn1, hn2⟩ := hKn.out k hkm
      rw [hn2] at hx
      obtain ⟨fn, tmps, assign, body, hy, hR⟩ := hY.out (K.take k) K[k] wr hJk.out (by rw [hTl.out k hk, hmm.out]; exact hlt)
      rw [← hn1] at hR
      generalize K[k] = y at *
      obtain ⟨y, hya⟩ := y
      simp only [] at hx hy hR
      have c0 : wr.cell? ⟨g1, k, none⟩ = some (.int .i64 y) := by simp [World.cell?, hb1, hx]
      replace hkm := Lib.hid hkm
      clear hb1 hx ho1 hn1 hn2 hya
      gi_wp2
      refine hR.mono ?_
      rintro e W3 (⟨rfl, hJ3, hk3⟩ | ⟨rfl, hJx3⟩)
      · have hS3 := hSRk.out _ _ hSk.out hk3
        clear c0 hJk hSk hR hy
        gi_wp2
        go_roundw
        case rel => exact ⟨k + 1, by omega, by go_num, hJ3, hS3⟩
        case measure => simp [intOf]; omega
      · gi_wp2
        refine bodyPost_ret (results_none rfl _ _ _) rfl ?_
        exact ⟨⟨_, rfl⟩, .inr ⟨_, hPr.out _, hJx3⟩⟩
    · obtain rfl : k = m := by omega
      gi_wp2
      go_end0
      have hJd := hJk.out
      rw [List.take_of_length_le (by rw [hmm.out]; exact Nat.le_refl _)] at hJd
      exact ⟨⟨_, rfl⟩, .inl ⟨_, rfl, hJd⟩⟩
theorem pl_stops (n : Nat) (hn : 1 ≤ n) (Bo Bm n₀ M k0 : Nat) (g : Gu) (K : List (Key g)) (hK : KeysU g (K.map fun y => y.1)) (w : World) (hBo : Bo < w.heap.size) (hOl : OwnLt w Bo) (hBm : w.cell? ⟨Bm, 0, none⟩ = some (.map (some M))) (hm : MapU w M k0 g) (hk0 : k0 ≤ 1000000) (hn₀ : n₀ ≤ w.heap.size) :
    SeqStopsK Fence.wide n Try.prog 85 #[.pointer (some ⟨Bm, 0, none⟩)] (fun y : Key g => #[.int .i64 y.1]) (Kq n₀ Bo) (fun ys => ys = K) (fun pre => pre <+: K) K.length w := fun l J Jx W hW hJ _ hY h0 =>
  pl1_in n hn l Bo Bm n₀ M k0 g K hK J Jx (fun pre W1 W2 hj hb => hJ pre W1 W2 none hj ⟨hb.os, hb.tape, hb.output, hb.size, fun k hk _ => hb.block k hk⟩ (fun r e => by cases e)) hY W (Nat.lt_of_lt_of_le hBo hW.size) (fun b q => Nat.lt_of_lt_of_le (hOl b ((ownAt_keep hW hBo).1 q)) hW.size) ((hW.cell (p := ⟨Bm, 0, none⟩) (World.block_lt_of_cell? _ _ hBm)).trans hBm) (hm.keep hW) hk0 (Nat.le_trans hn₀ hW.size) h0
end Go.Proofs.Ytcemiclbeocnjaa
