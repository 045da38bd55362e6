/-
  Layer 18 (lock): the document's Lock; its table as a list of pairs by rising keys.
-/
import Derived.Test.YtibhahbimoiaaaaLk6
set_option linter.unusedVariables false
set_option linter.unusedSimpArgs false
namespace Go.Proofs.Ytibhahbimoiaaaa
open Go.RowKit Go.ChangeShapes Go.WideShapes Go.Deep

section
variable {α : Type} [Inhabited α]
theorem EL.take {sz : Nat} {en : α → List Value} {w : World} {A : Option Addr} {n cap : Nat} {l : List α} (h : EL sz en w (.slice A n cap) l) (t : Nat) (ht : t ≤ l.length) : EL sz en w (.slice A t cap) (l.take t) := by
  obtain ⟨A', cap', hv, h⟩ := h
  cases hv
  refine ⟨A, cap, by rw [List.length_take, Nat.min_eq_left ht], fun hl => ?_⟩
  rw [List.length_take, Nat.min_eq_left ht] at hl
  obtain ⟨g, off, hA, hg, hc, hi⟩ := h (by omega)
  refine ⟨g, off, hA, hg, by rw [List.length_take]; omega, fun i h j hj => ?_⟩
  rw [List.length_take] at h
  rw [hi i (by omega) j hj, List.getD_eq_getElem?_getD, List.getD_eq_getElem?_getD, List.getElem?_take_of_lt (by omega)]
theorem EL.drop {sz : Nat} {en : α → List Value} {w : World} {A : Option Addr} {n cap : Nat} {l : List α} (h : EL sz en w (.slice A n cap) l) (t : Nat) (ht : t ≤ l.length) : EL sz en w (.slice (if cap = t then A else A.map (·.add (t * sz))) (n - t) (cap - t)) (l.drop t) := by
  obtain ⟨A', cap', hv, h⟩ := h
  cases hv
  refine ⟨_, _, by rw [List.length_drop], fun hl => ?_⟩
  rw [List.length_drop] at hl
  obtain ⟨g, off, hA, hg, hc, hi⟩ := h (by omega)
  subst hA
  refine ⟨g, off + t * sz, by rw [if_neg (by omega), Option.map_some, add_plain], hg, by rw [List.length_drop]; omega, fun i h j hj => ?_⟩
  rw [List.length_drop] at h
  have h2 := hi (t + i) (by omega) j hj
  rw [show off + t * sz + i * sz + j = off + (t + i) * sz + j by rw [Nat.add_mul]; omega, h2, List.getD_eq_getElem?_getD, List.getD_eq_getElem?_getD, List.getElem?_drop]
end
theorem run_slice_upto {P : Program} {ty e : TypeId} {i0 : TypeInfo} (hu : P.underlying ty = some (.slice e)) (hi : P.info? e = some i0) (A : Option Addr) (n cap t : Nat) (h : t ≤ cap) (w : World) :
    (Instr.slice ty (.slice A n cap) none (some (.int .i64 (t : Int))) none).run P w = .ok (.slice A t cap) w := by
  have h1 : (t : Int) ≤ (cap : Int) := by omega
  have h2 : (0 : Int) ≤ (t : Int) := by omega
  simp [Instr.slice, run_underlying hu, Instr.sliceBounds, Instr.sliceBound, asIntOf, sizeOf, typeInfo, hi, h2, go_sem]
  exact fun h' => by omega
theorem run_slice_from {P : Program} {ty e : TypeId} {i0 : TypeInfo} {sz : Nat} (hu : P.underlying ty = some (.slice e)) (hi : P.info? e = some i0) (hs : i0.size = sz) (A : Option Addr) (n cap t : Nat) (h : t ≤ n) (w : World) :
    (Instr.slice ty (.slice A n cap) (some (.int .i64 (t : Int))) none none).run P w = .ok (.slice (if cap = t then A else A.map (·.add (t * sz))) (n - t) (cap - t)) w := by
  subst hs
  have h1 : (t : Int) ≤ (n : Int) := by omega
  have h2 : (0 : Int) ≤ (t : Int) := by omega
  simp [Instr.slice, run_underlying hu, Instr.sliceBounds, Instr.sliceBound, asIntOf, sizeOf, typeInfo, hi, h2, h1, go_sem]
  exact fun h' => by omega

/-- by rising keys -/
def Srt (T : List Px) : Prop := T.Pairwise (fun p q => p.1 < q.1)
def gL : List Px → Gx
  | [], _ => none
  | p :: T, x => if p.1 = x then some p.2 else gL T x
theorem gL_mem : ∀ {T : List Px}, Srt T → ∀ x c, gL T x = some c ↔ (x, c) ∈ T
  | [], _, x, c => by simp [gL]
  | p :: T, h, x, c => by
    obtain ⟨h1, h2⟩ := List.pairwise_cons.1 h
    show (if p.1 = x then some p.2 else gL T x) = some c ↔ _
    rw [List.mem_cons]
    by_cases e : p.1 = x
    · rw [if_pos e]
      constructor
      · intro h3; injection h3 with h3; exact .inl (by rw [← e, ← h3])
      · rintro (h3 | h3)
        · rw [← h3]
        · have := h1 _ h3; simp only [] at this; omega
    · rw [if_neg e, gL_mem h2]
      constructor
      · exact fun h3 => .inr h3
      · rintro (h3 | h3)
        · exact absurd (by rw [← h3]) e
        · exact h3
theorem gx_ext {g g' : Gx} (h : ∀ x c, g x = some c ↔ g' x = some c) : g = g' := by
  funext x
  cases hg : g x with
  | none =>
    cases hg' : g' x with
    | none => rfl
    | some c => rw [(h x c).2 hg'] at hg; cases hg
  | some c => rw [(h x c).1 hg]
theorem getD_mem {T : List Px} {j : Nat} (h : j < T.length) : T.getD j default ∈ T := by
  rw [List.getD_eq_getElem?_getD, List.getElem?_eq_getElem h]
  exact List.getElem_mem _
theorem mem_getD {T : List Px} {p : Px} (h : p ∈ T) : ∃ j, j < T.length ∧ T.getD j default = p := by
  obtain ⟨j, hj, rfl⟩ := List.mem_iff_getElem.1 h
  exact ⟨j, hj, by rw [List.getD_eq_getElem?_getD, List.getElem?_eq_getElem hj]; rfl⟩
theorem srt_at {T : List Px} (h : Srt T) {i j : Nat} (hij : i < j) (hj : j < T.length) : (T.getD i default).1 < (T.getD j default).1 := by
  have := List.pairwise_iff_getElem.1 h i j (by omega) hj hij
  rw [List.getD_eq_getElem?_getD, List.getElem?_eq_getElem (by omega), List.getD_eq_getElem?_getD, List.getElem?_eq_getElem hj]
  exact this
/-- a pair laid in -/
def insT (T : List Px) (a : Nat) (key lane : Int) : List Px := (T.take a ++ [(key, lane)]) ++ T.drop a
theorem insT_srt {T : List Px} {a : Nat} {key lane : Int} (h : Srt T) (ha : a ≤ T.length) (h1 : ∀ j, j < a → (T.getD j default).1 < key) (h2 : ∀ j, a ≤ j → j < T.length → key < (T.getD j default).1) : Srt (insT T a key lane) := by
  have q1 : ∀ p ∈ T.take a, p.1 < key := fun p hp => by
    obtain ⟨j, hj, e⟩ := List.mem_iff_getElem.1 hp
    rw [List.length_take] at hj
    have := h1 j (by omega)
    rw [List.getD_eq_getElem?_getD, List.getElem?_eq_getElem (by omega)] at this
    rw [← e, List.getElem_take]; exact this
  have q2 : ∀ p ∈ T.drop a, key < p.1 := fun p hp => by
    obtain ⟨j, hj, e⟩ := List.mem_iff_getElem.1 hp
    rw [List.length_drop] at hj
    have := h2 (a + j) (by omega) (by omega)
    rw [List.getD_eq_getElem?_getD, List.getElem?_eq_getElem (by omega)] at this
    rw [← e, List.getElem_drop]; exact this
  unfold insT Srt
  rw [List.pairwise_append, List.pairwise_append]
  refine ⟨⟨List.Pairwise.sublist (List.take_sublist _ _) h, List.pairwise_singleton _ _, fun p hp q hq => ?_⟩, List.Pairwise.sublist (List.drop_sublist _ _) h, fun p hp q hq => ?_⟩
  · rw [List.mem_singleton] at hq; subst hq; exact q1 p hp
  · rcases List.mem_append.1 hp with hp | hp
    · have := q1 p hp; have := q2 q hq; omega
    · rw [List.mem_singleton] at hp; subst hp; exact q2 q hq
theorem insT_mem {T : List Px} {a : Nat} {key lane : Int} {p : Px} : p ∈ insT T a key lane ↔ p ∈ T ∨ p = (key, lane) := by
  unfold insT
  rw [List.mem_append, List.mem_append, List.mem_singleton]
  have h : p ∈ T ↔ p ∈ T.take a ∨ p ∈ T.drop a := by rw [← List.mem_append, List.take_append_drop]
  rw [h]
  constructor
  · rintro ((h1 | h1) | h1)
    · exact .inl (.inl h1)
    · exact .inr h1
    · exact .inl (.inr h1)
  · rintro ((h1 | h1) | h1)
    · exact .inl (.inl h1)
    · exact .inr h1
    · exact .inl (.inr h1)
theorem insT_g {T : List Px} {a : Nat} {key lane : Int} (h : Srt T) (h' : Srt (insT T a key lane)) (hn : gL T key = none) : gL (insT T a key lane) = putG (gL T) key lane := by
  refine gx_ext fun x c => ?_
  rw [gL_mem h', insT_mem]
  unfold putG
  by_cases e : x = key
  · subst e
    rw [if_pos rfl, ← gL_mem h, hn]
    constructor
    · rintro (h1 | h1)
      · cases h1
      · injection h1 with _ h1; rw [h1]
    · intro h1; injection h1 with h1; exact .inr (by rw [h1])
  · rw [if_neg e, ← gL_mem h]
    constructor
    · rintro (h1 | h1)
      · exact h1
      · injection h1 with h1 _; exact absurd h1 e
    · exact fun h1 => .inl h1
theorem insT_len {T : List Px} {a : Nat} {key lane : Int} (ha : a ≤ T.length) : (insT T a key lane).length = T.length + 1 := by
  unfold insT
  rw [List.length_append, List.length_append, List.length_take, List.length_drop, List.length_singleton]
  omega
theorem gL_hit {T : List Px} (h : Srt T) {k : Nat} (hk : k < T.length) {key : Int} (e : (T.getD k default).1 = key) : gL T key = some (T.getD k default).2 := by
  rw [gL_mem h, ← e]
  exact getD_mem hk
theorem gL_miss {T : List Px} (h : Srt T) {key : Int} (hn : ∀ j, j < T.length → (T.getD j default).1 ≠ key) : gL T key = none := by
  cases hg : gL T key with
  | none => rfl
  | some c =>
    obtain ⟨j, hj, e⟩ := mem_getD ((gL_mem h _ _).1 hg)
    exact absurd (by rw [e]) (hn j hj)

set_option maxRecDepth 10000 in
set_option maxHeartbeats 2000000 in
theorem refLock_any (B : Nat) (v : Value) (T : List Px) (key lane : Int) (w : World) (hlen : T.length ≤ 100000) (hs : Srt T) (hc : w.cell? ⟨B, 0, none⟩ = some v) (hf : w.frozen? ⟨B, 0, none⟩ = false) (hv : EL 2 pE w v T) :
    Calls Try.prog 32 #[.pointer (some ⟨B, 0, none⟩), .int .i64 key, .int .i64 lane] w fun e w' =>
      (∃ c, gL T key = some c ∧ e = .returned (.bool (c == lane)) ∧ Below w.heap.size w w') ∨
      (gL T key = none ∧ ∃ a v' w1, a ≤ T.length ∧ e = .returned (.bool true) ∧ OwnE 84 2 pE w1 w.heap.size v' (insT T a key lane) ∧ Below w.heap.size w w1 ∧ w' = w1.setCell ⟨B, 0, none⟩ v' ∧ Srt (insT T a key lane)) := by
  obtain ⟨n, hn⟩ : ∃ n, T.length = n := ⟨_, rfl⟩
  obtain ⟨A, cap, rfl, hC⟩ := hv.form hn
  have hcap : n ≤ cap ∨ n = 0 := by
    obtain ⟨A', cap', e, h⟩ := hv
    cases e
    rcases Nat.eq_zero_or_pos T.length with h0 | h0
    · exact .inr h0
    · obtain ⟨_, _, _, _, h1, _⟩ := h (by omega)
      exact .inl (by omega)
  have hBlt := World.block_lt_of_cell? _ _ hc
  obtain ⟨i0, hi0, _, hi2, _⟩ := info_parts infoPair
  have hH := Lib.hid (fun k (h : k < n) e => gL_hit hs (k := k) (by omega) (key := key) e)
  have hS := Lib.hid (fun i j (h : i < j) (h2 : j < n) => srt_at hs h (by omega))
  have hEnd := Lib.hid (fun a (ha : a ≤ n) (h1 : ∀ j, j < a → (T.getD j default).1 < key) (h2 : ∀ j, a ≤ j → j < n → key < (T.getD j default).1) =>
    show gL T key = none ∧ Srt (insT T a key lane) from ⟨gL_miss hs (fun j hj => by
      rcases Nat.lt_or_ge j a with h | h
      · have := h1 j h; omega
      · have := h2 j h (by omega); omega), insT_srt hs (by omega) h1 (fun j h3 h4 => h2 j h3 (by omega))⟩)
  replace hC := Lib.hid hC
  replace hv := Lib.hid hv
  replace hcap := Lib.hid hcap
  have hlen' : n ≤ 100000 := by omega
  clear hlen hs
  replace hn := Lib.hid hn
  go_enter Try.func32, Try.ntmps32
  go_wp2_with fail
  go_loopw [8, 7] (fun i t wr => ∃ k a : Nat, k ≤ n ∧ i = .int .i64 k ∧ t = .int .i64 a ∧ a ≤ k ∧ Hid (∀ j, j < a → (T.getD j default).1 < key) ∧ Hid (∀ j, a ≤ j → j < k → key < (T.getD j default).1) ∧ Below w.heap.size w wr) (fun i _ _ => n + 1 - (intOf i).toNat)
  case atStart => exact ⟨0, 0, Nat.zero_le _, rfl, rfl, Nat.le_refl _, (fun j hj => by omega), (fun j _ hj => by omega), Below.refl _ _⟩
  case round =>
    obtain ⟨k, a, hk, rfl, rfl, hak, hF1, hF2, hB⟩ := hrel
    have hcr := cellK hc hB
    have hfr := frozK hc hf hB
    by_cases hlt : k < n
    · obtain ⟨g, off, rfl, hcap2, _, hg, hcl⟩ := hC.out wr k hB hlt
      have c0 := hcl 0 (by omega)
      have c1 := hcl 1 (by omega)
      clear hcl
      rw [Nat.add_zero] at c0
      have hlt' : (k : Int) < (n : Int) := by omega
      have hH2 := Lib.hid (hH.out k hlt)
      have hUp := Lib.hid (fun (h : (T.getD k default).1 < key) => show ∀ j, j < k + 1 → (T.getD j default).1 < key from fun j hj => by
        rcases Nat.lt_or_ge j k with h1 | h1
        · have := hS.out j k h1 hlt; omega
        · obtain rfl : j = k := by omega
          exact h)
      have hSt := Lib.hid (fun (h : key < (T.getD k default).1) => show ∀ j, a ≤ j → j < k + 1 → key < (T.getD j default).1 from fun j hj hj2 => by
        rcases Nat.lt_or_ge j k with h1 | h1
        · exact hF2.out j hj h1
        · obtain rfl : j = k := by omega
          exact h)
      generalize T.getD k default = o at *
      obtain ⟨x, l⟩ := o
      replace c0 : wr.cell? ⟨g, off + k * 2, none⟩ = some (.int .i64 x) := c0
      replace c1 : wr.cell? ⟨g, off + k * 2 + 1, none⟩ = some (.int .i64 l) := c1
      by_cases q : x = key
      · subst q
        have hR := Lib.hid (hH2.out rfl)
        have t1 : (x == x) = true := by simp
        clear hH2 hUp hSt
        go_wp2_with fail
        go_ret
        exact .inl ⟨_, hR.out, rfl, hB⟩
      have t1 : (x == key) = false := by rw [beq_eq_false_iff_ne]; exact q
      by_cases q2 : x < key
      · have hU := Lib.hid (hUp.out q2)
        clear hH2 hUp hSt
        go_wp2_with fail
        go_roundw
        case rel => exact ⟨k + 1, k + 1, by omega, by go_num, by go_num, Nat.le_refl _, hU.out, (fun j h1 h2 => by omega), hB⟩
        case measure => simp [intOf]; omega
      · have hU := Lib.hid (hSt.out (by simp only []; omega))
        clear hH2 hUp hSt
        go_wp2_with fail
        go_roundw
        case rel => exact ⟨k + 1, a, by omega, by go_num, rfl, by omega, hF1.out, hU.out, hB⟩
        case measure => simp [intOf]; omega
    · obtain rfl : k = n := by omega
      have hE := Lib.hid (hEnd.out a hak hF1.out hF2.out)
      have hv1 := hv.out.keep hB
      have hTl := hn.out
      obtain ⟨v1, w1, hrun1, ho1, hg1, hn1, _⟩ := appE pT (OwnE.nil 84 2 pE wr w.heap.size) (hv1.take a (by omega)) hB.size (by simp) (by rw [List.length_take]; omega)
      have hB1 : Below w.heap.size w w1 := hB.grown hg1 hB.size (fun j hj => by cases hj)
      have hone : EL 2 pE (w1.alloc (.cells #[.int .i64 key, .int .i64 lane] (84 : Nat))) (.slice (some ⟨w1.heap.size, 0, none⟩) 1 1) [(key, lane)] := (OwnE.lit 84 pE_len w1 [(key, lane)] #[.int .i64 key, .int .i64 lane] rfl (by simp)).el pE_len
      obtain ⟨v2, w2, hrun2, ho2, hg2, hn2, _⟩ := appE pT (ho1.alloc (.cells #[.int .i64 key, .int .i64 lane] (84 : Nat))) hone (by have := hB1.size; simp; omega) (by simp; omega) (by simp)
      have hB2 : Below w.heap.size w w2 := (hB1.alloc hB1.size _).grown hg2 (by have := hB1.size; simp; omega) (fun j hj => (ho1.lt _ hj).1)
      have hv2 := (hv.out.keep hB2).drop a (by omega)
      have hsl := run_slice_from (P := Try.prog) (ty := 51) Try.underlying51 hi0 hi2 A k cap a hak
      have hsu := run_slice_upto (P := Try.prog) (ty := 51) Try.underlying51 hi0 A k cap a (by rcases hcap.out with h | h <;> omega) wr
      generalize (Value.slice (if cap = a then A else A.map (·.add (a * 2))) (k - a) (cap - a)) = vd at *
      replace hsl := hsl w2
      obtain ⟨v3, w3, hrun3, ho3, hg3, hn3, _⟩ := appE pT ho2 hv2 hB2.size (by simp; omega) (by simp; omega)
      have hB3 : Below w.heap.size w w3 := hB2.grown hg3 hB2.size (fun j hj => (ho2.lt _ hj).1)
      have hc2 := cellK hc hB2
      have hc3 := cellK hc hB3
      have hf3 := frozK hc hf hB3
      clear hv1 hone ho1 ho2 hg1 hg2 hg3 hn1 hn2 hn3 hv2
      obtain ⟨m3, hm3⟩ : ∃ m, ((T.take a ++ [(key, lane)]) ++ T.drop a).length = m := ⟨_, rfl⟩
      obtain ⟨A3, cap3, rfl, _⟩ := (ho3.el pE_len).form hm3
      clear hm3
      replace ho3 := Lib.hid ho3
      replace hTl := Lib.hid hTl
      go_wp2_with (first
        | (at_builtin; refine wpList_append_run rfl _ _ 51 rfl _ _ _ rfl rfl hrun1 ?_)
        | (at_builtin; refine wpList_append_run rfl _ _ 51 rfl _ _ _ rfl rfl hrun2 ?_)
        | (at_builtin; refine wpList_append_run rfl _ _ 51 rfl _ _ _ rfl rfl hrun3 ?_))
      go_ret
      exact .inr ⟨hE.out.1, a, _, w3, by have := hTl.out; omega, rfl, ho3.out, hB3, rfl, hE.out.2⟩
end Go.Proofs.Ytibhahbimoiaaaa
