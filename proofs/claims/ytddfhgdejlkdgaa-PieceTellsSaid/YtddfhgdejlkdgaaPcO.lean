/-
  Arguments that came in: a list of spans, a list of bytes: what they hold, where they lie.
-/
import Derived.Test.YtddfhgdejlkdgaaPc3
import Derived.ChangeSlices
import Derived.Carry
import Derived.Deep.SlicePairs
set_option linter.unusedVariables false
namespace Go.Proofs.Ytddfhgdejlkdgaa
open Go.RowKit Go.ChangeShapes Go.WideShapes Go.Deep

theorem spot_none {W : World} {a : Addr} {v : Value} (h : W.cell? a = some v) : a.spot = none := by
  unfold World.cell? at h
  split at h
  · split at h
    · simp at h
    · rename_i hs
      simpa using hs
  · simp at h
def PI (l : List Sp) : Prop := l.length ≤ 9223372036854775807 ∧ ∀ x ∈ l, -9223372036854775808 ≤ x.1 ∧ x.1 ≤ 9223372036854775807 ∧ -9223372036854775808 ≤ x.2 ∧ x.2 ≤ 9223372036854775807
theorem spans_open {H : Type} {enc : TypeId × Value → H} {P : Program} {W : World} {t e : TypeId} {f0 f1 : Field} (ht : P.underlying t = some (.slice e)) (he : P.underlying e = some (.struct #[f0, f1]))
    (ce : P.cellsOf e = 2) (o0 : f0.offset = 0) (o1 : f1.offset = 1) (c0 : P.cellsOf f0.type = 1) (c1 : P.cellsOf f1.type = 1) (t0 : P.underlying f0.type = some (.int .i64)) (t1 : P.underlying f1.type = some (.int .i64))
    {ad : Option Addr} {len cap : Nat} {d : DataW H} {p : List MemPlace}
    (h : DataW.Trod enc P W 0 (fun _ => true) true t (.slice ad len cap) d p) : ∃ l : List Sp, PI l ∧ PL W (.slice ad len cap) l := by
  obtain ⟨fuel, hf⟩ := h
  rcases open_slice_pairs ht he ce o0 o1 c0 c1 hf with ⟨hcs, _⟩ | ⟨a, len', cap', m, n, V0, V1, D0, D1, P0, P1, hcs, _, hl, hmx, hmm, _, hi⟩
  · simp [Value.cells] at hcs
    obtain ⟨rfl, rfl, rfl⟩ := hcs
    exact ⟨[], ⟨by simp, fun x hx => by simp at hx⟩, PL.nil W _ _⟩
  · simp [Value.cells] at hcs
    obtain ⟨rfl, rfl, rfl⟩ := hcs
    simp only [if_true] at hmm
    subst hmm
    have hex : ∀ i, i < len → ∃ q : Sp, (-9223372036854775808 ≤ q.1 ∧ q.1 ≤ 9223372036854775807 ∧ -9223372036854775808 ≤ q.2 ∧ q.2 ≤ 9223372036854775807) ∧ W.cell? (a.add (i * 2)) = some (.int .i64 q.1) ∧ W.cell? (a.add (i * 2 + 1)) = some (.int .i64 q.2) := fun i hil => by
      obtain ⟨g0, g1, r0, r1⟩ := hi i (by omega)
      obtain ⟨x, hx, _, wx⟩ := DataW.trod_int t0 r0
      obtain ⟨y, hy, _, wy⟩ := DataW.trod_int t1 r1
      simp only [List.cons.injEq, and_true] at hx hy
      rw [hx] at g0
      rw [hy] at g1
      have := bounds_i64 wx
      have := bounds_i64 wy
      exact ⟨(x, y), ⟨by omega, by omega, by omega, by omega⟩, g0, g1⟩
    obtain ⟨q, hq⟩ := choose_lt hex
    have hlen : ((List.range len).map q).length = len := by simp
    refine ⟨(List.range len).map q, ⟨by rw [hlen]; unfold maxLen at hmx; omega, fun x hx => ?_⟩, some a, _, by rw [hlen], fun h0 => ?_⟩
    · obtain ⟨i, hi', rfl⟩ := List.mem_map.1 hx
      exact (hq i (List.mem_range.1 hi')).1
    · rw [hlen] at h0 ⊢
      have hc0 := (hq 0 h0).2.1
      have hsp : a.spot = none := by
        have := spot_none hc0
        unfold Addr.add at this
        simpa using this
      obtain ⟨g, off, sp⟩ := a
      simp only at hsp
      subst hsp
      refine ⟨g, off, rfl, ?_, by omega, fun i hil => ?_⟩
      · have := World.block_lt_of_cell? _ _ hc0
        simpa [add_plain] using this
      · have e : ((List.range len).map q).getD i (0, 0) = q i := by
          rw [List.getD_eq_getElem?_getD, List.getElem?_map, List.getElem?_range hil]
          rfl
        rw [e]
        obtain ⟨_, k0, k1⟩ := hq i hil
        rw [add_plain] at k0 k1
        exact ⟨k0, k1⟩
theorem bytes_open {H : Type} {enc : TypeId × Value → H} {P : Program} {W : World} {t e : TypeId} (ht : P.underlying t = some (.slice e)) (he : P.underlying e = some (.int .u8)) (hc : P.cellsOf e = 1) {ad : Option Addr} {len cap : Nat} {d : DataW H} {p : List MemPlace}
    (h : DataW.Trod enc P W 0 (fun _ => true) true t (.slice ad len cap) d p) : ∃ l : List Nat, BL l ∧ KL .u8 W (.slice ad len cap) l := by
  obtain ⟨fuel, hf⟩ := h
  rcases open_ints ht he hc hf with ⟨hcs, _⟩ | ⟨a, len', cap', zs, hcs, _, hl, hm, hz, _, hcell, hwz⟩
  · simp [Value.cells] at hcs
    obtain ⟨rfl, rfl, rfl⟩ := hcs
    exact ⟨[], fun x hx => by simp at hx, none, 0, rfl, fun h => by simp at h⟩
  · simp [Value.cells] at hcs
    obtain ⟨rfl, rfl, rfl⟩ := hcs
    simp only [if_true] at hz
    have hb : ∀ z ∈ zs, 0 ≤ z ∧ z ≤ 255 := fun z hz => bounds_u8 (hwz z hz)
    have hlen : ((zs.take len).map Int.toNat).length = len := by simp; omega
    refine ⟨(zs.take len).map Int.toNat, fun x hx => ?_, some a, cap, by rw [hlen], fun h0 => ?_⟩
    · obtain ⟨z, hz1, rfl⟩ := List.mem_map.1 hx
      have := hb z (List.mem_of_mem_take hz1)
      omega
    · rw [hlen] at h0 ⊢
      have hc0 := hcell 0 (by omega)
      have hsp : a.spot = none := by
        have := spot_none hc0
        unfold Addr.add at this
        simpa using this
      obtain ⟨g, off, sp⟩ := a
      simp only at hsp
      subst hsp
      refine ⟨g, off, rfl, ?_, by omega, fun i hil => ?_⟩
      · have := World.block_lt_of_cell? _ _ hc0
        simpa [add_plain] using this
      · have := hcell i (by omega)
        rw [add_plain] at this
        rw [this]
        have hzi : i < zs.length := by omega
        have e1 : ((zs.take len).map Int.toNat).getD i 0 = (zs[i]).toNat := by
          rw [List.getD_eq_getElem?_getD, List.getElem?_map, List.getElem?_take, if_pos hil, List.getElem?_eq_getElem hzi]
          rfl
        have e2 : zs.getD i 0 = zs[i] := by rw [List.getD_eq_getElem?_getD, List.getElem?_eq_getElem hzi]; rfl
        rw [e1, e2, Int.toNat_of_nonneg (hb _ (List.getElem_mem hzi)).1]

def WL (l : List Nat) : Prop := ∀ x ∈ l, x < 18446744073709551616
theorem wordsK_open {H : Type} {enc : TypeId × Value → H} {P : Program} {W : World} {t e : TypeId} (ht : P.underlying t = some (.slice e)) (he : P.underlying e = some (.int .u64)) (hc : P.cellsOf e = 1) {ad : Option Addr} {len cap : Nat} {d : DataW H} {p : List MemPlace}
    (h : DataW.Trod enc P W 0 (fun _ => true) true t (.slice ad len cap) d p) : ∃ l : List Nat, WL l ∧ KL .u64 W (.slice ad len cap) l := by
  obtain ⟨fuel, hf⟩ := h
  rcases open_ints ht he hc hf with ⟨hcs, _⟩ | ⟨a, len', cap', zs, hcs, _, hl, hm, hz, _, hcell, hwz⟩
  · simp [Value.cells] at hcs
    obtain ⟨rfl, rfl, rfl⟩ := hcs
    exact ⟨[], fun x hx => by simp at hx, none, 0, rfl, fun h => by simp at h⟩
  · simp [Value.cells] at hcs
    obtain ⟨rfl, rfl, rfl⟩ := hcs
    simp only [if_true] at hz
    have hb : ∀ z ∈ zs, 0 ≤ z ∧ z ≤ 18446744073709551615 := fun z hz => bounds_u64 (hwz z hz)
    have hlen : ((zs.take len).map Int.toNat).length = len := by simp; omega
    refine ⟨(zs.take len).map Int.toNat, fun x hx => ?_, some a, cap, by rw [hlen], fun h0 => ?_⟩
    · obtain ⟨z, hz1, rfl⟩ := List.mem_map.1 hx
      have := hb z (List.mem_of_mem_take hz1)
      omega
    · rw [hlen] at h0 ⊢
      have hc0 := hcell 0 (by omega)
      have hsp : a.spot = none := by
        have := spot_none hc0
        unfold Addr.add at this
        simpa using this
      obtain ⟨g, off, sp⟩ := a
      simp only at hsp
      subst hsp
      refine ⟨g, off, rfl, ?_, by omega, fun i hil => ?_⟩
      · have := World.block_lt_of_cell? _ _ hc0
        simpa [add_plain] using this
      · have := hcell i (by omega)
        rw [add_plain] at this
        rw [this]
        have hzi : i < zs.length := by omega
        have e1 : ((zs.take len).map Int.toNat).getD i 0 = (zs[i]).toNat := by
          rw [List.getD_eq_getElem?_getD, List.getElem?_map, List.getElem?_take, if_pos hil, List.getElem?_eq_getElem hzi]
          rfl
        have e2 : zs.getD i 0 = zs[i] := by rw [List.getD_eq_getElem?_getD, List.getElem?_eq_getElem hzi]; rfl
        rw [e1, e2, Int.toNat_of_nonneg (hb _ (List.getElem_mem hzi)).1]

/-- A row's end: the call has made new memory alone; its result holds none; the arguments read as they did (shown once for whatever blocks are spared). -/
theorem post_of_below_any {H : Type} {enc : TypeId × Value → H} {P : Program} {f : Func} {s : ChangeSpec} {apart fresh handsOn again : Bool} {W W' : World} {args : Array Value} {v : Value} {ds gs : List (DataW H)} {before pa pv : List MemPlace}
    (hW : DataW.Whole enc P f.params.toList s.vars apart W args.toList ds gs before)
    (hres : ∀ (b : Nat) (sp : Nat → Bool) (hd : Bool), DataW.TrodAll enc P W' b sp hd f.resultTypes.toList (v.resultList f.resultTypes.size) (s.fn H (ds ++ gs)).results [])
    (hargs : ∀ sp : Nat → Bool, (∀ p ∈ before, sp p.block = true) → DataW.TrodAll enc P W' 0 sp true f.params.toList args.toList (s.fn H (ds ++ gs)).args pa)
    (hvars : ∀ sp : Nat → Bool, (∀ p ∈ before, sp p.block = true) → DataW.TrodVars enc P W' sp s.vars (s.fn H (ds ++ gs)).vars pv)
    (hps : before = pa ++ pv) (hb : Below W.heap.size W W')
    (hok : ∀ (j : Nat) (t : TypeId) (r : Value), f.resultTypes[j]? = some t → (v.resultList f.resultTypes.size)[j]? = some r → Value.okWide P W' .any 0 t r) :
    s.post enc P f apart fresh handsOn again W args v W' :=
  post_of_below hW hres hargs hvars hps hb hok
end Go.Proofs.Ytddfhgdejlkdgaa
