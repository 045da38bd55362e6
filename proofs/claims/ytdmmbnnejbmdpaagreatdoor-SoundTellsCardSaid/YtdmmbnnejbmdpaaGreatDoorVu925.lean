/-
  Part of the proof of SoundTells,SoundGiven.
-/
import Derived.Test.YtdmmbnnejbmdpaaGreatDoorVu91
import Derived.Test.YtdmmbnnejbmdpaaGreatDoorVu92
import Derived.Test.YtdmmbnnejbmdpaaGreatDoorVu924
import Derived.Test.YtdmmbnnejbmdpaaGreatDoorVu93
import Derived.Test.YtdmmbnnejbmdpaaGreatDoorVu94
import Derived.Deep.RegionHeld3
import Derived.Laws.CopyOwn
import Derived.Lib.AppendZerosOnto
import Derived.Lib.SliceRun
import Derived.OwnWalkIn
import Derived.RangeFuncBound
import Derived.RangeFuncBox
import Derived.RangeFuncCalls
import Derived.RangeFuncFrom
import Derived.RangeFuncLeaves
import Derived.RangeFuncNested
import Derived.RangeFuncWrites
import Derived.Test.YtdmmbnnejbmdpaaGreatDoorVu90
set_option maxRecDepth 10000
set_option maxHeartbeats 2000000
set_option linter.unusedVariables false
set_option linter.unusedSimpArgs false
section
namespace Go.Proofs.YtdmmbnnejbmdpaaGreatDoor
open Go.RowKit Go.ChangeShapes Go.WideShapes Go.Deep
def eC (x : Nat) : List Value := [.int .i64 (kN x : Nat), .int .i64 (cN x : Nat), .int .i64 (lnN x : Nat), .int .i64 (mN x : Nat), .int .u64 (bN x : Nat)]
theorem eC_len (x : Nat) : (eC x).length = 5 := rfl
theorem infoC : (Tryz.prog.info? 121).map (fun i => (i.zero, i.size, i.bytes)) = some (some (.agg #[.int .i64 0, .int .i64 0, .int .i64 0, .int .i64 0, .int .u64 0]), 5, 40) := by kernel_rfl
theorem cT : ElT Tryz.prog 117 121 5 40 eC :=
 ⟨Tryz.underlying117, by obtain ⟨i0, h1, h2, h3, h4⟩ := info_parts infoC; exact ⟨i0, _, h1, h2, h3, h4, rfl⟩, eC_len, fun x u hu => by simp only [eC, List.mem_cons, List.not_mem_nil, or_false] at hu; rcases hu with rfl | rfl | rfl | rfl | rfl <;> rfl, by decide, by decide⟩
def eB (b : Bl) : List Value := [.int .i64 (b.1 : Nat), .int .i64 (b.2.1 : Nat), .int .i64 (b.2.2 : Nat)]
theorem eB_len (x : Bl) : (eB x).length = 3 := rfl
theorem infoB : (Tryz.prog.info? 61).map (fun i => (i.zero, i.size, i.bytes)) = some (some (.agg #[.int .i64 0, .int .i64 0, .int .i64 0]), 3, 24) := by kernel_rfl
theorem bT : ElT Tryz.prog 53 61 3 24 eB :=
 ⟨Tryz.underlying53, by obtain ⟨i0, h1, h2, h3, h4⟩ := info_parts infoB; exact ⟨i0, _, h1, h2, h3, h4, rfl⟩, eB_len, fun x u hu => by simp only [eB, List.mem_cons, List.not_mem_nil, or_false] at hu; rcases hu with rfl | rfl | rfl <;> rfl, by decide, by decide⟩
abbrev CKL (w : World) (v : Value) (l : List Nat) : Prop := EL 5 eC w v l
abbrev CKO (w : World) (base : Nat) (v : Value) (l : List Nat) : Prop := OwnE 121 5 eC w base v l
abbrev BKL (w : World) (v : Value) (l : List Bl) : Prop := EL 3 eB w v l
abbrev BKO (w : World) (base : Nat) (v : Value) (l : List Bl) : Prop := OwnE 61 3 eB w base v l
theorem gN_ti (x : Nat) : getI (x : Int) 0 3 = (kN x : Nat) ∧ getI (x : Int) 3 2 = (cN x : Nat) ∧ getI (x : Int) 5 6 = (lnN x : Nat) ∧ getI (x : Int) 11 13 = (mN x : Nat) ∧ getI (x : Int) 24 8 = (bN x : Nat) := by
 obtain ⟨h0, h1, h2, h3, h4⟩ := gets (x : Int) (by omega)
 rw [h0, h1, h2, h3, h4]
 clear h0 h1 h2 h3 h4
 unfold kN cN lnN mN bN
 refine ⟨?_, ?_, ?_, ?_, ?_⟩ <;> simp only [Int.natCast_emod, Int.natCast_ediv] <;> rfl
theorem rightN_B (x : Nat) : RightN x ↔ (x < 4294967296 ∧ RightP (kN x : Nat) (cN x : Nat) (lnN x : Nat) (mN x : Nat) (bN x : Nat)) := by
 unfold RightN RightP
 generalize kN x = k
 generalize cN x = c
 generalize lnN x = l
 generalize mN x = m
 generalize bN x = b
 constructor
 ·rintro ⟨h0, h | h | h | h⟩
  ·exact ⟨h0, .inl (by omega)⟩
  ·exact ⟨h0, .inr (.inl (by omega))⟩
  ·exact ⟨h0, .inr (.inr (.inl (by omega)))⟩
  ·exact ⟨h0, .inr (.inr (.inr (by omega)))⟩
 ·rintro ⟨h0, h | h | h | h⟩
  ·exact ⟨h0, .inl (by omega)⟩
  ·exact ⟨h0, .inr (.inl (by omega))⟩
  ·exact ⟨h0, .inr (.inr (.inl (by omega)))⟩
  ·exact ⟨h0, .inr (.inr (.inr (by omega)))⟩
theorem okN_dec (x : Nat) : decB_ti (x : Int) = okN x := by
 obtain ⟨h0, h1, h2, h3, h4⟩ := gN_ti x
 unfold decB_ti rightB_ti okN
 rw [h0, h1, h2, h3, h4, Bool.eq_iff_iff, Bool.and_eq_true, decide_eq_true_iff, decide_eq_true_iff, decide_eq_true_iff, rightN_B]
 constructor
 ·rintro ⟨a, b⟩; exact ⟨by omega, a⟩
 ·rintro ⟨a, b⟩; exact ⟨b, by omega⟩
theorem dcY (x : Nat) (w : World) (hw : Lw w) (h1 : x < 18446744073709551616) (h : okN x = true) :
 Calls Tryz.prog 104 #[.int .u64 (x : Nat)] w fun e w' => e = .returned (.tuple #[.agg #[.int .i64 (kN x : Nat), .int .i64 (cN x : Nat), .int .i64 (lnN x : Nat), .int .i64 (mN x : Nat), .int .u64 (bN x : Nat)], .bool true]) ∧ Below w.heap.size w w' := by
 have := dec_yes_ti (x : Int) w hw (by omega) (by omega) ((okN_dec x).trans h)
 obtain ⟨h0, h1, h2, h3, h4⟩ := gN_ti x
 rwa [h0, h1, h2, h3, h4] at this
theorem dcN (x : Nat) (w : World) (hw : Lw w) (h1 : x < 18446744073709551616) (h : okN x = false) :
 Calls Tryz.prog 104 #[.int .u64 (x : Nat)] w fun e w' => e = .returned (.tuple #[.agg #[.int .i64 0, .int .i64 0, .int .i64 0, .int .i64 0, .int .u64 0], .bool false]) ∧ Below w.heap.size w w' :=
 dec_no_ti (x : Int) w hw (by omega) (by omega) ((okN_dec x).trans h)
theorem rdcY (x : Nat) (w : World) (hw : Lw w) (h1 : x < 18446744073709551616) (h : okN x = true) :
 Calls Tryz.prog 95 #[.int .u64 (x : Nat)] w fun e w' => e = .returned (.tuple #[.agg #[.int .i64 (kN x : Nat), .int .i64 (cN x : Nat), .int .i64 (lnN x : Nat), .int .i64 (mN x : Nat), .int .u64 (bN x : Nat)], .bool true]) ∧ Below w.heap.size w w' := by
 have := refDecode_any_ti (x : Int) w hw (by omega) (by omega)
 obtain ⟨h0, h1, h2, h3, h4⟩ := gN_ti x
 unfold decV at this
 rw [okN_dec, h, if_pos rfl] at this
 rwa [h0, h1, h2, h3, h4] at this
theorem rdcN (x : Nat) (w : World) (hw : Lw w) (h1 : x < 18446744073709551616) (h : okN x = false) :
 Calls Tryz.prog 95 #[.int .u64 (x : Nat)] w fun e w' => e = .returned (.tuple #[.agg #[.int .i64 0, .int .i64 0, .int .i64 0, .int .i64 0, .int .u64 0], .bool false]) ∧ Below w.heap.size w w' := by
 have := refDecode_any_ti (x : Int) w hw (by omega) (by omega)
 unfold decV at this
 rw [okN_dec, h, if_neg (by simp)] at this
 exact this
theorem CKL.form {w : World} {v : Value} {l : List Nat} {n : Nat} (h : CKL w v l) (hn : l.length = n) : ∃ A cap, v = .slice A n cap ∧
 ∀ w1 i, Below w.heap.size w w1 → i < n → ∃ g off, A = some ⟨g, off, none⟩ ∧ n ≤ cap ∧ g < w.heap.size ∧ g < w1.heap.size ∧ w1.cell? ⟨g, off + i * 5, none⟩ = some (.int .i64 (kN (l.getD i 0) : Nat)) ∧ w1.cell? ⟨g, off + i * 5 + 1, none⟩ = some (.int .i64 (cN (l.getD i 0) : Nat)) ∧ w1.cell? ⟨g, off + i * 5 + 2, none⟩ = some (.int .i64 (lnN (l.getD i 0) : Nat)) ∧ w1.cell? ⟨g, off + i * 5 + 3, none⟩ = some (.int .i64 (mN (l.getD i 0) : Nat)) ∧ w1.cell? ⟨g, off + i * 5 + 4, none⟩ = some (.int .u64 (bN (l.getD i 0) : Nat)) := by
 obtain ⟨A, cap, hv, h⟩ := EL.form h hn
 refine ⟨A, cap, hv, fun w1 i hb hi => ?_⟩
 obtain ⟨g, off, hA, h1, h2, h3, hc⟩ := h w1 i hb hi
 exact ⟨g, off, hA, h1, h2, h3, hc 0 (by omega), hc 1 (by omega), hc 2 (by omega), hc 3 (by omega), hc 4 (by omega)⟩
theorem BKL.form {w : World} {v : Value} {l : List Bl} {n : Nat} (h : BKL w v l) (hn : l.length = n) : ∃ A cap, v = .slice A n cap ∧
 ∀ w1 i, Below w.heap.size w w1 → i < n → ∃ g off, A = some ⟨g, off, none⟩ ∧ n ≤ cap ∧ g < w.heap.size ∧ g < w1.heap.size ∧ w1.cell? ⟨g, off + i * 3, none⟩ = some (.int .i64 ((l.getD i default).1 : Nat)) ∧ w1.cell? ⟨g, off + i * 3 + 1, none⟩ = some (.int .i64 ((l.getD i default).2.1 : Nat)) ∧ w1.cell? ⟨g, off + i * 3 + 2, none⟩ = some (.int .i64 ((l.getD i default).2.2 : Nat)) := by
 obtain ⟨A, cap, hv, h⟩ := EL.form h hn
 refine ⟨A, cap, hv, fun w1 i hb hi => ?_⟩
 obtain ⟨g, off, hA, h1, h2, h3, hc⟩ := h w1 i hb hi
 exact ⟨g, off, hA, h1, h2, h3, hc 0 (by omega), hc 1 (by omega), hc 2 (by omega)⟩
def HL (l : List Nat) : Prop := ∀ x ∈ l, x < 65536
theorem halves_open {H : Type} {enc : TypeId × Value → H} {P : Program} {W : World} {t e : TypeId} (ht : P.underlying t = some (.slice e)) (he : P.underlying e = some (.int .u16)) (hc : P.cellsOf e = 1) {ad : Option Addr} {len cap : Nat} {d : DataW H} {p : List MemPlace}
 (h : DataW.Trod enc P W 0 (fun _ => true) true t (.slice ad len cap) d p) : ∃ l : List Nat, HL l ∧ KL .u16 W (.slice ad len cap) l := by
 obtain ⟨fuel, hf⟩ := h
 rcases open_ints ht he hc hf with ⟨hcs, _⟩ | ⟨a, len', cap', zs, hcs, _, hl, hm, hz, _, hcell, hwz⟩
 ·simp [Value.cells] at hcs
  obtain ⟨rfl, rfl, rfl⟩ := hcs
  exact ⟨[], fun x hx => by simp at hx, none, 0, rfl, fun h => by simp at h⟩
 ·simp [Value.cells] at hcs
  obtain ⟨rfl, rfl, rfl⟩ := hcs
  simp only [if_true] at hz
  have hb : ∀ z ∈ zs, 0 ≤ z ∧ z ≤ 65535 := fun z hz => bounds_u16 (hwz z hz)
  have hlen : ((zs.take len).map Int.toNat).length = len := by simp; omega
  refine ⟨(zs.take len).map Int.toNat, fun x hx => ?_, some a, cap, by rw [hlen], fun h0 => ?_⟩
  ·obtain ⟨z, hz1, rfl⟩ := List.mem_map.1 hx
   have := hb z (List.mem_of_mem_take hz1)
   omega
  ·rw [hlen] at h0 ⊢
   have hc0 := hcell 0 (by omega)
   have hsp : a.spot = none := by
    have := spot_none hc0
    unfold Addr.add at this
    simpa using this
   obtain ⟨g, off, sp⟩ := a
   simp only at hsp
   subst hsp
   refine ⟨g, off, rfl, ?_, by omega, fun i hil => ?_⟩
   ·have := World.block_lt_of_cell? _ _ hc0
    simpa [add_plain] using this
   ·have := hcell i (by omega)
    rw [add_plain] at this
    rw [this]
    have hzi : i < zs.length := by omega
    have e1 : ((zs.take len).map Int.toNat).getD i 0 = (zs[i]).toNat := by
     rw [List.getD_eq_getElem?_getD, List.getElem?_map, List.getElem?_take, if_pos hil, List.getElem?_eq_getElem hzi]
     rfl
    have e2 : zs.getD i 0 = zs[i] := by rw [List.getD_eq_getElem?_getD, List.getElem?_eq_getElem hzi]; rfl
    rw [e1, e2, Int.toNat_of_nonneg (hb _ (List.getElem_mem hzi)).1]
end Go.Proofs.YtdmmbnnejbmdpaaGreatDoor
end
section
namespace Go.Proofs.YtdmmbnnejbmdpaaGreatDoor
open Go.RowKit Go.ChangeShapes Go.WideShapes Go.Deep
theorem cellK5 {w w1 : World} {b o : Nat} {v : Value} (h : w.cell? ⟨b, o, none⟩ = some v) (hb : Below w.heap.size w w1) : w1.cell? ⟨b, o, none⟩ = some v := by
 rw [(bcell hb).1 _ _ (World.block_lt_of_cell? _ _ h)]; exact h
theorem eC_new (w : World) (x : Nat) (t : TypeId) : CKL (w.alloc (.cells #[.int .i64 (kN x : Nat), .int .i64 (cN x : Nat), .int .i64 (lnN x : Nat), .int .i64 (mN x : Nat), .int .u64 (bN x : Nat)] t)) (.slice (some ⟨w.heap.size, 0, none⟩) 1 1) [x] := by
 refine ⟨_, _, rfl, fun _ => ⟨w.heap.size, 0, rfl, by simp, by simp, fun i hi j hj => ?_⟩⟩
 have hi0 : i = 0 := by simp at hi; omega
 subst hi0
 have h5 : j = 0 ∨ j = 1 ∨ j = 2 ∨ j = 3 ∨ j = 4 := by omega
 rcases h5 with rfl | rfl | rfl | rfl | rfl <;> simp [go_sem, eC]
theorem take_all {l : List Nat} {n : Nat} (h : l.length = n) : l.take n = l := List.take_of_length_le (by omega)
theorem take_snoc {l : List Nat} {k : Nat} (h : k < l.length) : l.take (k + 1) = l.take k ++ [l.getD k 0] := by
 rw [List.take_succ_eq_append_getElem h, List.getD_eq_getElem?_getD, List.getElem?_eq_getElem h]; rfl
theorem snoc_all {l : List Nat} {k n : Nat} (hn : l.length = n) (hk : k < n) (h1 : (l.take k).all okN = true) (h2 : okN (l.getD k 0) = true) : (l.take (k + 1)).all okN = true := by
 rw [take_snoc (by omega), List.all_append, h1]; simp only [List.all_cons, List.all_nil, h2, Bool.and_self]
theorem not_all {l : List Nat} {k n : Nat} (hn : l.length = n) (hk : k < n) (h2 : okN (l.getD k 0) = false) : l.all okN = false := by
 cases h : l.all okN with
 | false => rfl
 | true => rw [all_at h (by omega)] at h2; cases h2
def ChunksP (w : World) (t : List Nat) (e : Ending) (w' : World) : Prop :=
 (t.all okN = true ∧ ∃ v', e = .returned (.tuple #[v', .bool true]) ∧ CKO w' w.heap.size v' t) ∨ (t.all okN = false ∧ e = .returned (.tuple #[.slice none 0 0, .bool false]))
theorem chunks_any (v : Value) (t : List Nat) (w : World) (hw : Lw w) (hv : KL .u64 w v t) (hW : WL t) (hl : t.length ≤ 100000) :
 Calls Tryz.prog 74 #[v] w fun e w' => ChunksP w t e w' ∧ Below w.heap.size w w' := by
 obtain ⟨n, hn⟩ : ∃ n, t.length = n := ⟨_, rfl⟩
 obtain ⟨A, cap, rfl, hC⟩ := hv.form hn
 replace hC := lh hC
 have hWx := lh (fun k (hk : k < n) => show t.getD k 0 < 18446744073709551616 from hW.at k (by omega))
 have hSn := lh (fun k (hk : k < n) => snoc_all hn hk)
 have hNo := lh (fun k (hk : k < n) => not_all hn hk)
 have hTs := lh (fun k (hk : k < n) => take_snoc (l := t) (k := k) (by omega))
 have hTa := lh (take_all hn)
 have hTl := lh (fun k (hk : k ≤ n) => show (t.take k).length = k from by rw [List.length_take]; omega)
 have hn9 : n ≤ 100000 := by omega
 replace hn := lh hn
 have hwh := lh hw
 clear hv hW hl hw
 obtain ⟨i0, hi, hz0, hz1, hz2⟩ := info_parts infoC
 go_enter Tryz.func74, Tryz.ntmps74
 go_wp2_with (at_make; refine wpList_make_own _ rfl _ _ 117 rfl w.heap.size 121 i0 (.agg #[.int .i64 0, .int .i64 0, .int .i64 0, .int .i64 0, .int .u64 0]) 5 Tryz.underlying117 hi hz0 hz1 .i64 .i64 _ n rfl rfl rfl (by rw [hz2]; omega) (by unfold maxLen; omega) (Nat.le_refl _) ?_; intro w1 hown0 hgr; have hB0 : Below w.heap.size w w1 := (Below.refl _ _).grown hgr (Nat.le_refl _) (by simp); have hO0 : CKO w1 w.heap.size (.slice (some ⟨w.heap.size, 0, none⟩) 0 n) [] := hown0; clear hown0 hgr)
 go_loopw [14, 4] (fun i l wr => ∃ (j : Nat) (J : List Nat), j ≤ n ∧ i = .int .i64 j ∧ Hid (J = t.take j ∧ J.all okN = true) ∧ CKO wr w.heap.size l J ∧ Below w.heap.size w wr) (fun i _ _ => n + 1 - (intOf i).toNat)
 case atStart => exact ⟨0, [], Nat.zero_le _, rfl, ⟨by simp, by simp⟩, hO0, hB0⟩
 case round =>
  obtain ⟨j, J, hj, rfl, hJ, hown, hB⟩ := hrel
  by_cases hlt : j < n
  ·obtain ⟨g, off, rfl, hcap, hg, c0⟩ := hC.out wr j hB hlt
   have hlt' : (j : Int) < (n : Int) := by omega
   have hx := hWx.out j hlt
   have hJl : J.length = j := by rw [hJ.out.1]; exact hTl.out j hj
   have hsn := hSn.out j hlt
   have hno := hNo.out j hlt
   have hts := hTs.out j hlt
   rw [← hJ.out.1] at hts hsn
   generalize t.getD j 0 = x at *
   replace hts := lh hts
   have hlw := hwh.out.keep hB
   cases hok : okN x with
   | true =>
     have hsn2 := lh (hsn hJ.out.2 hok)
     have hD := dcY x wr hlw hx hok
     clear hsn hno hok hlw
     go_wp2_with fail
     refine hD.mono ?_
     rintro e w1 ⟨rfl, hb⟩
     have hB1 := hB.trans (hb.mono hB.size)
     have ho1 := hown.keep hb
     -- the chunk's own block, and the literal's
     have hA1 := bZ w1 (.cells #[.int .i64 (kN x : Nat), .int .i64 (cN x : Nat), .int .i64 (lnN x : Nat), .int .i64 (mN x : Nat), .int .u64 (bN x : Nat)] 121)
     generalize hw2 : w1.alloc (.cells #[.int .i64 (kN x : Nat), .int .i64 (cN x : Nat), .int .i64 (lnN x : Nat), .int .i64 (mN x : Nat), .int .u64 (bN x : Nat)] 121) = w2 at *
     obtain ⟨v', w4, hrun, ho4, hg4, _, _⟩ := appE cT ((ho1.keep hA1).alloc (.cells #[.int .i64 (kN x : Nat), .int .i64 (cN x : Nat), .int .i64 (lnN x : Nat), .int .i64 (mN x : Nat), .int .u64 (bN x : Nat)] (121 : Nat))) (eC_new w2 x (121 : Nat)) (by have := hB1.size; have := hA1.size; simp; omega) (by omega) (by simp)
     have hs2 : w2.heap.size = w1.heap.size + 1 := by rw [← hw2]; simp
     have hc5 := C5.new w1 (kN x : Nat) (cN x : Nat) (lnN x : Nat) (mN x : Nat) (bN x : Nat) 121
     rw [hw2] at hc5
     have hB4 : Below w.heap.size w w4 := ((hB1.trans (hA1.mono hB1.size)).alloc (by have := hB1.size; omega) _).trans (grown_below hg4 (by have := hB1.size; simp; omega) (fun k hk => (ho1.lt k hk).1))
     clear hA1 hg4 hD hb
     subst hw2
     simp only [World.size_alloc] at hrun
     go_wp2_with (at_builtin; refine wpList_append_run rfl _ _ 117 rfl _ _ _ rfl rfl hrun ?_)
     go_roundw
     case rel => exact ⟨j + 1, J ++ [x], by omega, by go_num, ⟨hts.out.symm, by rw [← hts.out]; exact hsn2.out⟩, ho4, hB4⟩
     case measure => first | (simp [intOf]; done) | (simp [intOf]; omega)
   | false =>
     have hno2 := lh (hno hok)
     have hD := dcN x wr hlw hx hok
     clear hsn hno hok hlw
     go_wp2_with fail
     refine hD.mono ?_
     rintro e w1 ⟨rfl, hb⟩
     have hB1 := hB.trans (hb.mono hB.size)
     go_wp2_with fail
     go_ret2
     exact ⟨.inr ⟨hno2.out, rfl⟩, hB1.alloc hB1.size _⟩
  ·obtain rfl : j = n := by omega
   have hJt := hTa.out
   rw [← hJ.out.1] at hJt
   subst hJt
   go_wp2_with fail
   go_ret2
   exact ⟨.inl ⟨hJ.out.2, _, rfl, hown⟩, hB⟩
theorem refChunks_any (v : Value) (t : List Nat) (w : World) (hw : Lw w) (hv : KL .u64 w v t) (hW : WL t) (hl : t.length ≤ 100000) :
 Calls Tryz.prog 60 #[v] w fun e w' => ChunksP w t e w' ∧ Below w.heap.size w w' := by
 obtain ⟨n, hn⟩ : ∃ n, t.length = n := ⟨_, rfl⟩
 obtain ⟨A, cap, rfl, hC⟩ := hv.form hn
 replace hC := lh hC
 have hWx := lh (fun k (hk : k < n) => show t.getD k 0 < 18446744073709551616 from hW.at k (by omega))
 have hSn := lh (fun k (hk : k < n) => snoc_all hn hk)
 have hNo := lh (fun k (hk : k < n) => not_all hn hk)
 have hTs := lh (fun k (hk : k < n) => take_snoc (l := t) (k := k) (by omega))
 have hTa := lh (take_all hn)
 have hTl := lh (fun k (hk : k ≤ n) => show (t.take k).length = k from by rw [List.length_take]; omega)
 have hn9 : n ≤ 100000 := by omega
 replace hn := lh hn
 have hwh := lh hw
 clear hv hW hl hw
 go_enter Tryz.func60, Tryz.ntmps60
 go_wp2_with fail
 go_loopw [5, 4] (fun i l wr => ∃ (j : Nat) (J : List Nat), j ≤ n ∧ i = .int .i64 j ∧ Hid (J = t.take j ∧ J.all okN = true) ∧ CKO wr w.heap.size l J ∧ Below w.heap.size w wr) (fun i _ _ => n + 1 - (intOf i).toNat)
 case atStart => exact ⟨0, [], Nat.zero_le _, rfl, ⟨by simp, by simp⟩, OwnE.nil _ _ _ _ _, Below.refl _ _⟩
 case round =>
  obtain ⟨j, J, hj, rfl, hJ, hown, hB⟩ := hrel
  by_cases hlt : j < n
  ·obtain ⟨g, off, rfl, hcap, hg, c0⟩ := hC.out wr j hB hlt
   have hlt' : (j : Int) < (n : Int) := by omega
   have hx := hWx.out j hlt
   have hJl : J.length = j := by rw [hJ.out.1]; exact hTl.out j hj
   have hsn := hSn.out j hlt
   have hno := hNo.out j hlt
   have hts := hTs.out j hlt
   rw [← hJ.out.1] at hts hsn
   generalize t.getD j 0 = x at *
   replace hts := lh hts
   have hlw := hwh.out.keep hB
   cases hok : okN x with
   | true =>
     have hsn2 := lh (hsn hJ.out.2 hok)
     have hD := rdcY x wr hlw hx hok
     clear hsn hno hok hlw
     go_wp2_with fail
     refine hD.mono ?_
     rintro e w1 ⟨rfl, hb⟩
     have hB1 := hB.trans (hb.mono hB.size)
     have ho1 := hown.keep hb
     -- the chunk's own block, and the literal's
     have hA1 := bZ w1 (.cells #[.int .i64 (kN x : Nat), .int .i64 (cN x : Nat), .int .i64 (lnN x : Nat), .int .i64 (mN x : Nat), .int .u64 (bN x : Nat)] 121)
     generalize hw2 : w1.alloc (.cells #[.int .i64 (kN x : Nat), .int .i64 (cN x : Nat), .int .i64 (lnN x : Nat), .int .i64 (mN x : Nat), .int .u64 (bN x : Nat)] 121) = w2 at *
     obtain ⟨v', w4, hrun, ho4, hg4, _, _⟩ := appE cT ((ho1.keep hA1).alloc (.cells #[.int .i64 (kN x : Nat), .int .i64 (cN x : Nat), .int .i64 (lnN x : Nat), .int .i64 (mN x : Nat), .int .u64 (bN x : Nat)] (121 : Nat))) (eC_new w2 x (121 : Nat)) (by have := hB1.size; have := hA1.size; simp; omega) (by omega) (by simp)
     have hs2 : w2.heap.size = w1.heap.size + 1 := by rw [← hw2]; simp
     have hc5 := C5.new w1 (kN x : Nat) (cN x : Nat) (lnN x : Nat) (mN x : Nat) (bN x : Nat) 121
     rw [hw2] at hc5
     have hB4 : Below w.heap.size w w4 := ((hB1.trans (hA1.mono hB1.size)).alloc (by have := hB1.size; omega) _).trans (grown_below hg4 (by have := hB1.size; simp; omega) (fun k hk => (ho1.lt k hk).1))
     clear hA1 hg4 hD hb
     subst hw2
     simp only [World.size_alloc] at hrun
     go_wp2_with (at_builtin; refine wpList_append_run rfl _ _ 117 rfl _ _ _ rfl rfl hrun ?_)
     go_roundw
     case rel => exact ⟨j + 1, J ++ [x], by omega, by go_num, ⟨hts.out.symm, by rw [← hts.out]; exact hsn2.out⟩, ho4, hB4⟩
     case measure => first | (simp [intOf]; done) | (simp [intOf]; omega)
   | false =>
     have hno2 := lh (hno hok)
     have hD := rdcN x wr hlw hx hok
     clear hsn hno hok hlw
     go_wp2_with fail
     refine hD.mono ?_
     rintro e w1 ⟨rfl, hb⟩
     have hB1 := hB.trans (hb.mono hB.size)
     go_wp2_with fail
     go_ret2
     exact ⟨.inr ⟨hno2.out, rfl⟩, hB1.alloc hB1.size _⟩
  ·obtain rfl : j = n := by omega
   have hJt := hTa.out
   rw [← hJ.out.1] at hJt
   subst hJt
   go_wp2_with fail
   go_ret2
   exact ⟨.inl ⟨hJ.out.2, _, rfl, hown⟩, hB⟩
end Go.Proofs.YtdmmbnnejbmdpaaGreatDoor
end
section
namespace Go.Proofs.YtdmmbnnejbmdpaaGreatDoor
open Go.RowKit Go.ChangeShapes Go.WideShapes Go.Deep
theorem runT_all {t : List Nat} {n k : Nat} (hn : t.length = n) (hk : k ≤ n) (h : runT t k = none) : rightT t = false := by
 unfold rightT
 rw [runT_none h _ (by omega)]
 simp
theorem right_any2 (v : Value) (t : List Nat) (w : World) (hw : Lw w) (hv : KL .u64 w v t) (hW : WL t) (hl : t.length ≤ 100000) :
 Calls Tryz.prog 72 #[v] w fun e w' => e = .returned (.bool (rightT t)) ∧ Below w.heap.size w w' := by
 have hCh := chunks_any v t w hw hv hW hl
 obtain ⟨n, hn⟩ : ∃ n, t.length = n := ⟨_, rfl⟩
 have hn9 : n ≤ 100000 := by omega
 have hTa := lh (fun (h : t.all okN = true) => show rightT t = (runT t n == some 0) from by unfold rightT; rw [h, hn, Bool.true_and])
 have hTn := lh (fun k (hk : k ≤ n) => runT_all (t := t) hn hk)
 have hTs := lh (fun k => show runT t (k + 1) = (runT t k).bind (stepT (t.getD k 0)) from rfl)
 have hT0 := lh (show runT t 0 = some 0 from rfl)
 have hTf := lh (fun (h : t.all okN = false) => show rightT t = false from by unfold rightT; rw [h]; rfl)
 have hOk := lh (fun (h : t.all okN = true) k (hk : k < n) => okN_t (all_at h (k := k) (by omega)))
 generalize hR : rightT t = R at *
 replace hR := lh hR
 replace hn := lh hn
 obtain ⟨A, cap, rfl, _⟩ := hv.form hn.out
 clear hv hW hl hw
 go_enter Tryz.func72, Tryz.ntmps72
 go_wp2_with fail
 refine hCh.mono ?_
 rintro e w1 ⟨hP, hb1⟩
 rcases hP with ⟨hok, v1, rfl, ho1⟩ | ⟨hok, rfl⟩
 ·obtain ⟨A1, c1, rfl, hC⟩ := CKL.form (ho1.el eC_len) hn.out
  replace hC := lh hC
  have hTa1 := lh (hTa.out hok)
  have hok1 := lh (hOk.out hok)
  clear hTa hTf hok hOk ho1 hCh
  go_wp2_with fail
  go_loopw [15, 5] (fun i tl wr => ∃ j T : Nat, j ≤ n ∧ i = .int .i64 j ∧ tl = .int .i64 T ∧ Hid (runT t j = some T) ∧ Hid (T ≤ 10000) ∧ Below w1.heap.size w1 wr) (fun i _ _ => n + 1 - (intOf i).toNat)
  case atStart => exact ⟨0, 0, Nat.zero_le _, rfl, rfl, hT0, lh (by omega), Below.refl _ _⟩
  case round =>
   obtain ⟨j, T, hj, rfl, rfl, hJ, hT9, hB⟩ := hrel
   have hB1 := hb1.trans (hB.mono hb1.size)
   by_cases hlt : j < n
   ·obtain ⟨g, off, rfl, hcap, hg, hg2, c0, c1, c2, c3, c4⟩ := hC.out wr j hB hlt
    have hlt' : (j : Int) < (n : Int) := by omega
    have hs := hTs.out j
    have hx := hok1.out j hlt
    rw [hJ.out, Option.bind_some] at hs
    have hbd := parts_bd (t.getD j 0)
    generalize t.getD j 0 = x at *
    have hT9' := hT9.out
    have hA1 := C5.new wr (kN x : Nat) (cN x : Nat) (lnN x : Nat) (mN x : Nat) (bN x : Nat) 121
    obtain ⟨d0, d1, d2, d3, d4⟩ := hA1
    have hBa := hB.alloc hB.size (.cells #[.int .i64 (kN x : Nat), .int .i64 (cN x : Nat), .int .i64 (lnN x : Nat), .int .i64 (mN x : Nat), .int .u64 (bN x : Nat)] 121)
    have hBr := hb1.trans (hBa.mono hb1.size)
    have hm1 : kN x = 2 → 1 ≤ mN x := fun h => by unfold RightN at hx; omega
    replace hm1 := lh hm1
    clear hx hJ hT9
    unfold stepT at hs
    obtain ⟨K, hK⟩ : ∃ K : Int, ((kN x : Nat) : Int) = K := ⟨_, rfl⟩
    by_cases k3 : kN x = 3
    ·obtain rfl : K = 3 := by omega
     rw [hK] at c0 d0
     rw [k3] at hs
     by_cases hT : 0 < T
     ·rw [decide_eq_true hT] at hs
      simp only [decide_true, if_true] at hs
      replace hs := lh hs
      have g1 : decide (0 < T) = true := decide_eq_true hT
      have g2 : IntKind.i64.wrap ((T : Int) - 1) = ((T - 1 : Nat) : Int) := by rw [IntKind.wrap_i64]; omega
      have g3 : 0 < (T : Int) := by omega
      have hT2 : Hid (T - 1 ≤ 10000) := lh (by omega)
      rw [hK] at hBa
      clear hK k3 hm1 hbd
      go_wp2_with fail
      go_roundw
      case rel => exact ⟨j + 1, T - 1, by omega, by go_num, by first | rfl | go_num | (congr 1; omega), hs, hT2, hBa⟩
      case measure => first | (simp [intOf]; done) | (simp [intOf]; omega)
     ·rw [decide_eq_false hT] at hs
      simp only [decide_true, Bool.true_eq_false, if_false, reduceCtorEq] at hs
      have hr := lh (hTn.out (j + 1) (by omega) hs)
      have g1 : decide (0 < T) = false := decide_eq_false hT
      have g3 : ¬ 0 < (T : Int) := by omega
      clear hs k3 hm1 hbd hT
      rw [hK] at hBr
      clear hK
      go_wp2_with fail
      go_ret
      exact ⟨ret_b hr.out.symm, hBr⟩
    ·have f3 : (K == 3) = false := by rw [beq_eq_false_iff_ne]; omega
     have f3' : ¬ K = 3 := by omega
     rw [hK] at c0 d0
     rw [decide_eq_false k3] at hs
     by_cases hT : 0 < T
     ·rw [decide_eq_true hT] at hs
      simp only [Bool.false_eq_true, if_false, reduceCtorEq] at hs
      have hr := lh (hTn.out (j + 1) (by omega) hs)
      have g1 : decide (0 < T) = true := decide_eq_true hT
      have g3 : 0 < (T : Int) := by omega
      clear hs k3 hm1 hbd hT
      rw [hK] at hBr
      clear hK
      go_wp2_with fail
      go_ret
      exact ⟨ret_b hr.out.symm, hBr⟩
     ·rw [decide_eq_false hT] at hs
      simp only [if_true, if_neg k3] at hs
      have g1 : decide (0 < T) = false := decide_eq_false hT
      have g3 : ¬ 0 < (T : Int) := by omega
      by_cases k2 : kN x = 2
      ·obtain rfl : K = 2 := by omega
       have hm2 := hm1.out k2
       rw [if_pos k2] at hs
       generalize mN x = M at *
       have g2 : IntKind.i64.wrap ((M : Int) - 1) = ((M - 1 : Nat) : Int) := by rw [IntKind.wrap_i64]; omega
       have hT2 : Hid (M - 1 ≤ 10000) := lh (by omega)
       replace hs := lh hs
       rw [hK] at hBa
       clear hK k3 k2 hm1 hm2 hbd f3 f3'
       go_wp2_with fail
       go_roundw
       case rel => exact ⟨j + 1, M - 1, by omega, by go_num, by first | rfl | go_num | (congr 1; omega), hs, hT2, hBa⟩
       case measure => first | (simp [intOf]; done) | (simp [intOf]; omega)
      ·have f2 : (K == 2) = false := by rw [beq_eq_false_iff_ne]; omega
       have f2' : ¬ K = 2 := by omega
       rw [if_neg k2] at hs
       replace hs := lh hs
       rw [hK] at hBa
       clear hK k3 k2 hm1 hbd
       go_wp2_with fail
       go_roundw
       case rel => exact ⟨j + 1, T, by omega, by go_num, rfl, hs, lh hT9', hBa⟩
       case measure => first | (simp [intOf]; done) | (simp [intOf]; omega)
   ·obtain rfl : j = n := by omega
    have hr : R = decide ((T : Int) = 0) := by
     rw [hTa1.out, hJ.out, Bool.eq_iff_iff, beq_iff_eq, decide_eq_true_iff, Option.some.injEq]; omega
    replace hr := lh hr
    by_cases h0 : T = 0
    ·have g1 : ((T : Int) == 0) = true := by rw [beq_iff_eq]; omega
     have hr2 : Hid (R = true) := lh (by rw [hr.out]; exact decide_eq_true (by omega))
     clear h0
     go_wp2_with fail
     go_ret
     exact ⟨ret_b (by rw [hr2.out]), hB1⟩
    ·have g1 : ((T : Int) == 0) = false := by rw [beq_eq_false_iff_ne]; omega
     have g2 : ¬ (T : Int) = 0 := by omega
     have hr2 : Hid (R = false) := lh (by rw [hr.out]; exact decide_eq_false (by omega))
     clear h0
     go_wp2_with fail
     go_ret
     exact ⟨ret_b (by rw [hr2.out]), hB1⟩
 ·have hr := lh (hTf.out hok)
  clear hTa hTf hok hOk hCh
  go_wp2_with fail
  go_loopw [15, 5] (fun i tl wr => i = .int .i64 0 ∧ tl = .int .i64 0 ∧ Below w.heap.size w wr) (fun i _ _ => 0)
  case atStart => exact ⟨rfl, rfl, hb1⟩
  case round =>
   obtain ⟨rfl, rfl, hB⟩ := hrel
   go_wp2_with fail
   go_ret
   exact ⟨ret_b (by rw [hr.out]), hB⟩
end Go.Proofs.YtdmmbnnejbmdpaaGreatDoor
end
section
namespace Go.Proofs.YtdmmbnnejbmdpaaGreatDoor
open Go.RowKit Go.ChangeShapes Go.WideShapes Go.Deep
theorem tailB_mono {t : List Nat} {k m i : Nat} (h : tailB t k i = true) (hk : k ≤ m) : tailB t m i = true := by
 rw [tailB_iff] at h ⊢
 obtain ⟨q, h1, h2⟩ := h
 exact ⟨q, by omega, h2⟩
theorem refTail_any (v : Value) (t : List Nat) (i n : Nat) (w : World) (hv : CKL w v t) (hn : t.length = n) (hi : i ≤ n) (hl : n ≤ 100000) :
 Calls Tryz.prog 81 #[v, .int .i64 (i : Nat)] w fun e w' => e = .returned (.bool (tailB t i i)) ∧ Below w.heap.size w w' := by
 obtain ⟨A, cap, rfl, hC⟩ := hv.form hn
 replace hC := lh hC
 have hS := lh (fun k => tailB_succ t k i)
 have hM := lh (fun k (hk : k ≤ i) (h : tailB t k i = true) => tailB_mono (m := i) h hk)
 have h0 := lh (show tailB t 0 i = false from rfl)
 generalize hR : tailB t i i = R at *
 replace hR := lh hR
 replace hn := lh hn
 clear hv
 go_enter Tryz.func81, Tryz.ntmps81
 go_wp2_with fail
 go_loopw [5] (fun q wr => ∃ j : Nat, j ≤ i ∧ q = .int .i64 j ∧ Hid (tailB t j i = false) ∧ Below w.heap.size w wr) (fun q _ => i + 1 - (intOf q).toNat)
 case atStart => exact ⟨0, Nat.zero_le _, rfl, h0, Below.refl _ _⟩
 case round =>
  obtain ⟨j, hj, rfl, hF, hB⟩ := hrel
  by_cases hlt : j < i
  ·obtain ⟨g, off, rfl, hcap, hg, hg2, c0, c1, c2, c3, c4⟩ := hC.out wr j hB (by omega)
   have hlt' : (j : Int) < (i : Int) := by omega
   have hlt2 : (j : Int) < (n : Int) := by omega
   have hs := hS.out j
   have hm := hM.out (j + 1) (by omega)
   rw [hF.out, Bool.false_or] at hs
   have hbd := parts_bd (t.getD j 0)
   generalize t.getD j 0 = x at *
   obtain ⟨K, hK⟩ : ∃ K : Int, ((kN x : Nat) : Int) = K := ⟨_, rfl⟩
   rw [hK] at c0
   by_cases k2 : kN x = 2
   ·obtain rfl : K = 2 := by omega
    rw [decide_eq_true k2, Bool.true_and] at hs
    generalize mN x = M at *
    have g2 : IntKind.i64.wrap ((j : Int) + (M : Int)) = (j : Int) + (M : Int) := by rw [IntKind.wrap_i64]; omega
    by_cases q : i < j + M
    ·have q' : (i : Int) < (j : Int) + (M : Int) := by omega
     rw [decide_eq_true q] at hs
     have hr := lh (hm hs)
     clear hs hm hK k2 hbd q
     go_wp2_with fail
     go_ret
     exact ⟨ret_b (by rw [hr.out]), hB⟩
    ·have q' : ¬ (i : Int) < (j : Int) + (M : Int) := by omega
     have q2 : decide ((i : Int) < (j : Int) + (M : Int)) = false := decide_eq_false q'
     rw [decide_eq_false q] at hs
     replace hs := lh hs
     clear hm hK k2 hbd q
     go_wp2_with fail
     go_roundw
     case rel => exact ⟨j + 1, by omega, by go_num, hs, hB⟩
     case measure => first | (simp [intOf]; done) | (simp [intOf]; omega)
   ·have f2 : (K == 2) = false := by rw [beq_eq_false_iff_ne]; omega
    have f2' : ¬ K = 2 := by omega
    rw [decide_eq_false k2, Bool.false_and] at hs
    replace hs := lh hs
    clear hm hK k2 hbd
    go_wp2_with fail
    go_roundw
    case rel => exact ⟨j + 1, by omega, by go_num, hs, hB⟩
    case measure => first | (simp [intOf]; done) | (simp [intOf]; omega)
  ·obtain rfl : j = i := by omega
   have hr := lh (hF.out.symm.trans hR.out)
   go_wp2_with fail
   go_ret
   exact ⟨ret_b hr.out, hB⟩
theorem refRight_any2 (v : Value) (t : List Nat) (w : World) (hw : Lw w) (hv : KL .u64 w v t) (hW : WL t) (hl : t.length ≤ 100000) :
 Calls Tryz.prog 41 #[v] w fun e w' => e = .returned (.bool (rightT t)) ∧ Below w.heap.size w w' := by
 have hCh := refChunks_any v t w hw hv hW hl
 rw [← right_same]
 obtain ⟨n, hn⟩ : ∃ n, t.length = n := ⟨_, rfl⟩
 have hn9 : n ≤ 100000 := by omega
 have hTa := lh (fun (h : t.all okN = true) => show refRightB t = refRightN t n from by unfold refRightB; rw [h, hn, Bool.true_and])
 have hTn := lh (fun (h : t.all okN = true) k (hk : k ≤ n) (hf : refRightN t k = false) => show refRightB t = false from by unfold refRightB; rw [h, hn, Bool.true_and]; exact refRightN_false hf hk)
 have hTs := lh (fun k => refRightN_succ t k)
 rw [hn] at hTs
 have hT0 := lh (show refRightN t 0 = true from rfl)
 have hTf := lh (fun (h : t.all okN = false) => show refRightB t = false from by unfold refRightB; rw [h]; rfl)
 generalize hR : refRightB t = R at *
 replace hR := lh hR
 obtain ⟨A, cap, rfl, _⟩ := hv.form hn
 clear hv hW hl hw
 go_enter Tryz.func41, Tryz.ntmps41
 go_wp2_with fail
 refine hCh.mono ?_
 rintro e w1 ⟨hP, hb1⟩
 rcases hP with ⟨hok, v1, rfl, ho1⟩ | ⟨hok, rfl⟩
 ·have hkl : CKL w1 v1 t := ho1.el eC_len
  have hTl := lh (fun wr (hb : Below w1.heap.size w1 wr) i (hi : i ≤ n) => refTail_any v1 t i n wr (hkl.keep hb) hn hi hn9)
  obtain ⟨A1, c1, rfl, hC⟩ := hkl.form hn
  replace hC := lh hC
  replace hn := lh hn
  have hTa1 := lh (hTa.out hok)
  have hTn1 := lh (hTn.out hok)
  clear hTa hTf hok hTn ho1 hCh hkl
  go_wp2_with fail
  go_loopw [5] (fun i wr => ∃ j : Nat, j ≤ n ∧ i = .int .i64 j ∧ Hid (refRightN t j = true) ∧ Below w1.heap.size w1 wr) (fun i _ => n + 1 - (intOf i).toNat)
  case atStart => exact ⟨0, Nat.zero_le _, rfl, hT0, Below.refl _ _⟩
  case round =>
   obtain ⟨j, hj, rfl, hJ, hB⟩ := hrel
   have hB1 := hb1.trans (hB.mono hb1.size)
   by_cases hlt : j < n
   ·have hlt' : (j : Int) < (n : Int) := by omega
    have hs := hTs.out j
    rw [hJ.out, Bool.true_and] at hs
    have hTw := hTl.out wr hB j hj
    have hbd := parts_bd (t.getD j 0)
    have hCw := lh (fun w2 (hb : Below w1.heap.size w1 w2) => hC.out w2 j hb hlt)
    generalize t.getD j 0 = x at *
    obtain ⟨K, hK⟩ : ∃ K : Int, ((kN x : Nat) : Int) = K := ⟨_, rfl⟩
    rw [hK] at hCw
    cases htl : tailB t j j with
    | true =>
      rw [htl] at hs hTw
      by_cases k3 : kN x = 3
      ·obtain rfl : K = 3 := by omega
       rw [decide_eq_true k3, decide_eq_false (show ¬ kN x = 2 by omega)] at hs
       replace hs : refRightN t (j + 1) = true := hs.trans rfl
       replace hs := lh hs
       clear hK k3 hbd htl
       go_wp2_with fail
       refine hTw.mono ?_
       rintro e w2 ⟨rfl, hb⟩
       have hB2 := hB.trans (hb.mono hB.size)
       obtain ⟨g, off, rfl, hcap, hg, hg2, c0, c1, c2, c3, c4⟩ := hCw.out w2 hB2
       clear hTw hb
       go_wp2_with fail
       go_roundw
       case rel => exact ⟨j + 1, by omega, by go_num, hs, hB2⟩
       case measure => first | (simp [intOf]; done) | (simp [intOf]; omega)
      ·have f3 : (K == 3) = false := by rw [beq_eq_false_iff_ne]; omega
       have f3' : ¬ K = 3 := by omega
       rw [decide_eq_false k3] at hs
       replace hs : refRightN t (j + 1) = false := hs.trans rfl
       have hr := lh (hTn1.out (j + 1) (by omega) hs)
       clear hK k3 hbd htl hs
       go_wp2_with fail
       refine hTw.mono ?_
       rintro e w2 ⟨rfl, hb⟩
       have hB2 := hB.trans (hb.mono hB.size)
       obtain ⟨g, off, rfl, hcap, hg, hg2, c0, c1, c2, c3, c4⟩ := hCw.out w2 hB2
       clear hTw hb
       go_wp2_with fail
       go_ret
       exact ⟨ret_b (by rw [hr.out]), hb1.trans (hB2.mono hb1.size)⟩
    | false =>
      rw [htl] at hs hTw
      by_cases k3 : kN x = 3
      ·obtain rfl : K = 3 := by omega
       rw [decide_eq_true k3] at hs
       replace hs : refRightN t (j + 1) = false := hs.trans rfl
       have hr := lh (hTn1.out (j + 1) (by omega) hs)
       clear hK k3 hbd htl hs
       go_wp2_with fail
       refine hTw.mono ?_
       rintro e w2 ⟨rfl, hb⟩
       have hB2 := hB.trans (hb.mono hB.size)
       obtain ⟨g, off, rfl, hcap, hg, hg2, c0, c1, c2, c3, c4⟩ := hCw.out w2 hB2
       clear hTw hb
       go_wp2_with fail
       go_ret
       exact ⟨ret_b (by rw [hr.out]), hb1.trans (hB2.mono hb1.size)⟩
      ·have f3 : (K == 3) = false := by rw [beq_eq_false_iff_ne]; omega
       have f3' : ¬ K = 3 := by omega
       rw [decide_eq_false k3] at hs
       by_cases k2 : kN x = 2
       ·obtain rfl : K = 2 := by omega
        rw [decide_eq_true k2] at hs
        generalize mN x = M at *
        have g2 : IntKind.i64.wrap ((j : Int) + (M : Int)) = (j : Int) + (M : Int) := by rw [IntKind.wrap_i64]; omega
        by_cases q : n < j + M
        ·have q' : (n : Int) < (j : Int) + (M : Int) := by omega
         rw [decide_eq_true q] at hs
         replace hs : refRightN t (j + 1) = false := hs.trans rfl
         have hr := lh (hTn1.out (j + 1) (by omega) hs)
         clear hK k3 k2 hbd htl hs q f3 f3'
         go_wp2_with fail
         refine hTw.mono ?_
         rintro e w2 ⟨rfl, hb⟩
         have hB2 := hB.trans (hb.mono hB.size)
         obtain ⟨g, off, rfl, hcap, hg, hg2, c0, c1, c2, c3, c4⟩ := hCw.out w2 hB2
         clear hTw hb
         go_wp2_with fail
         go_ret
         exact ⟨ret_b (by rw [hr.out]), hb1.trans (hB2.mono hb1.size)⟩
        ·have q' : ¬ (n : Int) < (j : Int) + (M : Int) := by omega
         have q2 : decide ((n : Int) < (j : Int) + (M : Int)) = false := decide_eq_false q'
         rw [decide_eq_false q] at hs
         replace hs : refRightN t (j + 1) = true := hs.trans rfl
         replace hs := lh hs
         clear hK k3 k2 hbd htl q f3 f3'
         go_wp2_with fail
         refine hTw.mono ?_
         rintro e w2 ⟨rfl, hb⟩
         have hB2 := hB.trans (hb.mono hB.size)
         obtain ⟨g, off, rfl, hcap, hg, hg2, c0, c1, c2, c3, c4⟩ := hCw.out w2 hB2
         clear hTw hb
         go_wp2_with fail
         go_roundw
         case rel => exact ⟨j + 1, by omega, by go_num, hs, hB2⟩
         case measure => first | (simp [intOf]; done) | (simp [intOf]; omega)
       ·have f2 : (K == 2) = false := by rw [beq_eq_false_iff_ne]; omega
        have f2' : ¬ K = 2 := by omega
        rw [decide_eq_false k2] at hs
        replace hs : refRightN t (j + 1) = true := hs.trans rfl
        replace hs := lh hs
        clear hK k3 k2 hbd htl
        go_wp2_with fail
        refine hTw.mono ?_
        rintro e w2 ⟨rfl, hb⟩
        have hB2 := hB.trans (hb.mono hB.size)
        obtain ⟨g, off, rfl, hcap, hg, hg2, c0, c1, c2, c3, c4⟩ := hCw.out w2 hB2
        clear hTw hb
        go_wp2_with fail
        go_roundw
        case rel => exact ⟨j + 1, by omega, by go_num, hs, hB2⟩
        case measure => first | (simp [intOf]; done) | (simp [intOf]; omega)
   ·obtain rfl : j = n := by omega
    have hr := lh (hTa1.out.trans hJ.out)
    go_wp2_with fail
    go_ret
    exact ⟨ret_b (by rw [hr.out]), hB1⟩
 ·have hr := lh (hTf.out hok)
  clear hTa hTf hok hTn hCh
  go_wp2_with fail
  go_ret
  exact ⟨ret_b (by rw [hr.out]), hb1⟩
end Go.Proofs.YtdmmbnnejbmdpaaGreatDoor
end
