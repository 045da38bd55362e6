/-
  A list of words that came in as an argument: its words, where they lie. A row's end where the call has made new memory alone, whatever its arguments.
-/
import Derived.Test.YtjmilngndoiceaaUSeal3
import Derived.ChangeSlices
import Derived.Carry
namespace Go.Proofs.Ytjmilngndoiceaa
open Go.RowKit Go.ChangeShapes Go.WideShapes

theorem words_open {H : Type} {enc : TypeId × Value → H} {P : Program} {W : World} {t e : TypeId} (ht : P.underlying t = some (.slice e)) (he : P.underlying e = some (.int .u64)) (hc : P.cellsOf e = 1) {ad : Option Addr} {len cap : Nat} {d : DataW H} {p : List MemPlace}
    (h : DataW.Trod enc P W 0 (fun _ => true) true t (.slice ad len cap) d p) : ∃ l : List Nat, WL l ∧ SL W (.slice ad len cap) l := by
  obtain ⟨fuel, hf⟩ := h
  rcases open_ints ht he hc hf with ⟨hcs, _⟩ | ⟨a, len', cap', zs, hcs, _, hl, hm, hz, _, hcell, hwz⟩
  · simp [Value.cells] at hcs
    obtain ⟨rfl, rfl, rfl⟩ := hcs
    exact ⟨[], WL0, .inl ⟨rfl, _, _, rfl⟩⟩
  · simp [Value.cells] at hcs
    obtain ⟨rfl, rfl, rfl⟩ := hcs
    simp only [if_true] at hz
    have hb : ∀ z ∈ zs, 0 ≤ z ∧ z ≤ 18446744073709551615 := fun z hz => bounds_u64 (hwz z hz)
    by_cases h0 : len = 0
    · subst h0
      exact ⟨[], WL0, .inl ⟨rfl, _, _, rfl⟩⟩
    · have hsp : a.spot = none := by
        have := hcell 0 (by omega)
        unfold World.cell? Addr.add at this
        simp only [if_true] at this
        split at this
        · split at this
          · simp at this
          · rename_i hs
            simpa using hs
        · simp at this
      obtain ⟨g, off, sp⟩ := a
      simp only at hsp
      subst hsp
      have hlen : ((zs.take len).map Int.toNat).length = len := by simp; omega
      have hcell' : ∀ i, i < len → W.cell? ⟨g, off + i, none⟩ = some (.int .u64 (((zs.take len).map Int.toNat).getD i 0 : Nat)) := by
        intro i hi
        have := hcell i (by omega)
        rw [add_plain] at this
        rw [this]
        have hzi : i < zs.length := by omega
        have e1 : ((zs.take len).map Int.toNat).getD i 0 = (zs[i]).toNat := by
          rw [List.getD_eq_getElem?_getD, List.getElem?_map, List.getElem?_take, if_pos hi, List.getElem?_eq_getElem hzi]
          rfl
        have e2 : zs.getD i 0 = zs[i] := by rw [List.getD_eq_getElem?_getD, List.getElem?_eq_getElem hzi]; rfl
        rw [e1, e2, Int.toNat_of_nonneg (hb _ (List.getElem_mem hzi)).1]
      refine ⟨(zs.take len).map Int.toNat, fun x hx => ?_, .inr ⟨g, off, cap, by rw [hlen], World.block_lt_of_cell? _ _ (hcell' 0 (by omega)), by omega, fun i hi => hcell' i (by omega)⟩⟩
      obtain ⟨z, hz1, rfl⟩ := List.mem_map.1 hx
      have := hb z (List.mem_of_mem_take hz1)
      omega

/-- A row's end: the call has made new memory alone; its result holds none; the arguments read as they did (shown once for whatever blocks are spared). -/
theorem post_of_below_any {H : Type} {enc : TypeId × Value → H} {P : Program} {f : Func} {s : ChangeSpec} {apart fresh handsOn again : Bool} {W W' : World} {args : Array Value} {v : Value} {ds gs : List (DataW H)} {before pa pv : List MemPlace}
    (hW : DataW.Whole enc P f.params.toList s.vars apart W args.toList ds gs before)
    (hres : ∀ (b : Nat) (sp : Nat → Bool) (hd : Bool), DataW.TrodAll enc P W' b sp hd f.resultTypes.toList (v.resultList f.resultTypes.size) (s.fn H (ds ++ gs)).results [])
    (hargs : ∀ sp : Nat → Bool, (∀ p ∈ before, sp p.block = true) → DataW.TrodAll enc P W' 0 sp true f.params.toList args.toList (s.fn H (ds ++ gs)).args pa)
    (hvars : ∀ sp : Nat → Bool, (∀ p ∈ before, sp p.block = true) → DataW.TrodVars enc P W' sp s.vars (s.fn H (ds ++ gs)).vars pv)
    (hps : before = pa ++ pv) (hb : Below W.heap.size W W')
    (hok : ∀ (j : Nat) (t : TypeId) (r : Value), f.resultTypes[j]? = some t → (v.resultList f.resultTypes.size)[j]? = some r → Value.okWide P W' .any 0 t r) :
    s.post enc P f apart fresh handsOn again W args v W' :=
  post_of_below hW hres hargs hvars hps hb hok
end Go.Proofs.Ytjmilngndoiceaa
