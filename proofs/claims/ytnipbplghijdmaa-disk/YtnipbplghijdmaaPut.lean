/-
  What '(*file).put' does: the bytes go behind the file's, and a piece tells where.
-/
import Derived.Test.YtnipbplghijdmaaLaws
namespace Go.Proofs.Ytnipbplghijdmaa
open Go.RowKit Go.Maps Go.WideShapes
set_option linter.unusedVariables false

theorem piece_one (c : Nat × Nat) : ∀ u ∈ pieceCells [c], u.oneCell' = true := by
  intro u hu
  simp [pieceCells] at hu
  rcases hu with rfl | rfl <;> rfl
theorem bytes_one (l : List UInt8) : ∀ u ∈ l.map byteV, u.oneCell' = true := by
  intro u hu
  simp at hu
  obtain ⟨x, _, rfl⟩ := hu
  rfl

theorem put_end {f : Nat} {bytes src : List UInt8} {late : List (Nat × Nat)} {sf pv : Value} {w wa w2 wb w3 : World} {pb p2 p3 : Option Addr} {cb cp2 cp3 : Nat}
    (hbp : ∀ g, (Value.slice pb bytes.length cb).ownBlock = some g → g ≠ f ∧ pv.ownBlock ≠ some g) (hpf : ∀ g, pv.ownBlock = some g → g ≠ f)
    (hf : f < w.heap.size) (hb : w.ownsRow 0 5 1 (.slice pb bytes.length cb) bytes.length (bytes.map byteV))
    (ka : Keeps w wa (fun _ => False))
    (hown2 : w2.ownsRow 0 67 2 (.slice p2 (late.length + 1) cp2) (late.length + 1) (pieceCells late ++ pieceCells [(bytes.length, src.length)]))
    (hg2 : wa.grownBy w2 pv.ownBlock) (hloc2 : (Value.slice p2 (late.length + 1) cp2).ownBlock = pv.ownBlock ∨ (Value.slice p2 (late.length + 1) cp2).ownBlock = some wa.heap.size)
    (HD2 : w2.heap[f]? = some (.cells #[.slice pb bytes.length cb, sf, pv] 51 (0, 0)))
    (hwb : wb = w2.setCell ⟨f, 2, none⟩ (.slice p2 (late.length + 1) cp2))
    (hown3 : w3.ownsRow 0 5 1 (.slice p3 (bytes.length + src.length) cp3) (bytes.length + src.length) (bytes.map byteV ++ src.map byteV))
    (hg3 : wb.grownBy w3 (Value.slice pb bytes.length cb).ownBlock)
    (hloc3 : (Value.slice p3 (bytes.length + src.length) cp3).ownBlock = (Value.slice pb bytes.length cb).ownBlock ∨ (Value.slice p3 (bytes.length + src.length) cp3).ownBlock = some wb.heap.size) :
    ∃ bv' pv', (w3.setCell ⟨f, 0, none⟩ (.slice p3 (bytes.length + src.length) cp3)).heap[f]? = some (.cells #[bv', sf, pv'] 51 (0, 0)) ∧
        (w3.setCell ⟨f, 0, none⟩ (.slice p3 (bytes.length + src.length) cp3)).ownsRow 0 5 1 bv' (bytes ++ src).length ((bytes ++ src).map byteV) ∧
        (w3.setCell ⟨f, 0, none⟩ (.slice p3 (bytes.length + src.length) cp3)).ownsRow 0 67 2 pv' (late ++ [(bytes.length, src.length)]).length (pieceCells (late ++ [(bytes.length, src.length)])) ∧
        (bv'.ownBlock = (Value.slice pb bytes.length cb).ownBlock ∨ ∃ g, bv'.ownBlock = some g ∧ w.heap.size ≤ g) ∧ (pv'.ownBlock = pv.ownBlock ∨ ∃ g, pv'.ownBlock = some g ∧ w.heap.size ≤ g) ∧
        (∀ g, bv'.ownBlock = some g → pv'.ownBlock ≠ some g) ∧
        Keeps w (w3.setCell ⟨f, 0, none⟩ (.slice p3 (bytes.length + src.length) cp3)) (fun i => i = f ∨ some i = (Value.slice pb bytes.length cb).ownBlock ∨ some i = pv.ownBlock) := by
  have hs : w.heap.size ≤ wa.heap.size := ka.size
  have hs2 : wa.heap.size ≤ w2.heap.size := hg2.size
  have hsb : wb.heap.size = w2.heap.size := by rw [hwb]; simp [World.setCell]
  have hf3 : w3.heap[f]? = some (.cells #[.slice pb bytes.length cb, sf, .slice p2 (late.length + 1) cp2] 51 (0, 0)) := by
    refine (Keeps.grown hg3).same ?_ (fun e => (hbp f e.symm).1 rfl)
    rw [hwb, heap_setCell_at HD2]; rfl
  have hlt2 : ∀ g, (Value.slice p2 (late.length + 1) cp2).ownBlock = some g → g < w2.heap.size := fun g hg => (hown2.lt g hg).2
  have hbl : ∀ g, (Value.slice pb bytes.length cb).ownBlock = some g → g < w.heap.size := fun g hg => (hb.lt g hg).2
  have hapart : ∀ g, (Value.slice p3 (bytes.length + src.length) cp3).ownBlock = some g → (Value.slice p2 (late.length + 1) cp2).ownBlock ≠ some g := by
    intro g hg e
    rcases hloc3 with e3 | e3
    · have hgb := e3 ▸ hg
      have := hbl g hgb
      rcases hloc2 with e2 | e2
      · exact (hbp g hgb).2 (e2 ▸ e)
      · have := Option.some.inj (e.symm.trans e2); omega
    · have h1 := Option.some.inj (hg.symm.trans e3)
      have h2 := hlt2 g e
      omega
  refine ⟨.slice p3 (bytes.length + src.length) cp3, .slice p2 (late.length + 1) cp2, ?_, ?_, ?_, ?_, ?_, hapart, ?_⟩
  · rw [heap_setCell_at hf3]; rfl
  · rw [List.length_append, List.map_append]
    refine (Keeps.setCell w3 _ _).row hown3 (fun g hg e => ?_)
    have e4 : g = f := e
    rcases hloc3 with e2 | e2
    · exact (hbp g (e2 ▸ hg)).1 e4
    · have e3 : g = wb.heap.size := Option.some.inj (hg.symm.trans e2)
      omega
  · rw [pieceCells_snoc, List.length_append]
    have r2 : wb.ownsRow 0 67 2 (.slice p2 (late.length + 1) cp2) (late.length + 1) (pieceCells late ++ pieceCells [(bytes.length, src.length)]) := by
      rw [hwb]
      refine (Keeps.setCell w2 _ _).row hown2 (fun g hg e => ?_)
      have e4 : g = f := e
      rcases hloc2 with e2 | e2
      · exact hpf g (e2 ▸ hg) e4
      · have e3 : g = wa.heap.size := Option.some.inj (hg.symm.trans e2)
        omega
    refine (Keeps.setCell w3 _ _).row ((Keeps.grown hg3).row r2 (fun g hg e => ?_)) (fun g hg e => ?_)
    · have hgb := e.symm
      have := hbl g hgb
      rcases hloc2 with e2 | e2
      · exact (hbp g hgb).2 (e2 ▸ hg)
      · have := Option.some.inj (hg.symm.trans e2); omega
    · have e4 : g = f := e
      rcases hloc2 with e2 | e2
      · exact hpf g (e2 ▸ hg) e4
      · have e3 : g = wa.heap.size := Option.some.inj (hg.symm.trans e2)
        omega
  · rcases hloc3 with e | e
    · exact .inl e
    · exact .inr ⟨_, e, by omega⟩
  · rcases hloc2 with e | e
    · exact .inl e
    · exact .inr ⟨_, e, by omega⟩
  · have k2 : Keeps w w2 (fun i => i = f ∨ some i = (Value.slice pb bytes.length cb).ownBlock ∨ some i = pv.ownBlock) := (ka.mono (fun _ _ h => h.elim)).grow hg2 (fun k e _ => .inr (.inr e.symm))
    have kb : Keeps w wb (fun i => i = f ∨ some i = (Value.slice pb bytes.length cb).ownBlock ∨ some i = pv.ownBlock) := by rw [hwb]; exact k2.set (.inl rfl) _
    exact (kb.grow hg3 (fun k e _ => .inr (.inl e.symm))).set (.inl rfl) _

set_option maxHeartbeats 800000 in
theorem put_walk (f : Nat) (bytes src : List UInt8) (late : List (Nat × Nat)) (sf bv pv : Value) (ad : Addr) (c : Nat) (w : World)
    (h : w.heap[f]? = some (.cells #[bv, sf, pv] 51 (0, 0)))
    (hb : w.ownsRow 0 5 1 bv bytes.length (bytes.map byteV)) (hp : w.ownsRow 0 67 2 pv late.length (pieceCells late))
    (hbl : bytes.length < 1099511627776) (hll : late.length < 1099511627776) (hsl : src.length < 1099511627776) (hs0 : 0 < src.length)
    (hsrc : ∀ j u, (src.map byteV)[j]? = some u → w.cell? (ad.add j) = some u) (ha : ad.block ≠ f) (hap : pv.ownBlock ≠ some ad.block)
    (hbp : ∀ g, bv.ownBlock = some g → g ≠ f ∧ pv.ownBlock ≠ some g) (hpf : ∀ g, pv.ownBlock = some g → g ≠ f) :
    Calls Try.prog 21 #[.pointer (some ⟨f, 0, none⟩), .slice (some ad) src.length c] w fun e w' => e = .returned (.tuple #[]) ∧
      ∃ bv' pv', w'.heap[f]? = some (.cells #[bv', sf, pv'] 51 (0, 0)) ∧
        w'.ownsRow 0 5 1 bv' (bytes ++ src).length ((bytes ++ src).map byteV) ∧
        w'.ownsRow 0 67 2 pv' (late ++ [(bytes.length, src.length)]).length (pieceCells (late ++ [(bytes.length, src.length)])) ∧
        (bv'.ownBlock = bv.ownBlock ∨ ∃ g, bv'.ownBlock = some g ∧ w.heap.size ≤ g) ∧ (pv'.ownBlock = pv.ownBlock ∨ ∃ g, pv'.ownBlock = some g ∧ w.heap.size ≤ g) ∧
        (∀ g, bv'.ownBlock = some g → pv'.ownBlock ≠ some g) ∧
        Keeps w w' (fun i => i = f ∨ some i = bv.ownBlock ∨ some i = pv.ownBlock) := by
  obtain ⟨pb, cb, rfl⟩ := slice_of_row hb
  have c0 := cell_of_heap (o := 0) h
  have c2 := cell_of_heap (o := 2) h
  have f0 := frozen_of_heap (o := 0) h
  have f2 := frozen_of_heap (o := 2) h
  have hfl := lt_of_heap h
  have c2a : ∀ x, (w.alloc x).cell? ⟨f, 2, none⟩ = some pv := fun x => (cell_alloc_old (o := 2) h x)
  have c0a : ∀ x, (w.alloc x).cell? ⟨f, 0, none⟩ = some (.slice pb bytes.length cb) := fun x => (cell_alloc_old (o := 0) h x)
  simp at c0 c2
  have HD := hide h
  clear h
  obtain ⟨i0, hi, hz0, hz1, hz2⟩ := info_parts Try.infoPiece
  obtain ⟨j0, hj, hy0, hy1, hy2⟩ := info_parts Try.infoU8
  go_enter Try.func21, Try.ntmps21
  go_wp2_with fail
  go_region_law (refine step_append_own_at rfl (.tmp 11) (.tmp 20) 49 rfl 0 67 i0 pieceZ 2 16 Try.underlying49 hi hz0 hz1 hz2 rfl (by decide) pv late.length (pieceCells late) rfl (hp.alloc _) ⟨w.heap.size, 0, none⟩ 1 1 (pieceCells [(bytes.length, src.length)]) rfl rfl (cells_at (heap_alloc_top w _) rfl) (piece_one _) (by unfold maxLen; omega) (by omega) (Nat.zero_le _) ?_; intro p2 cp2 w2 hown2 hg2 hloc2; have hd2 := (Keeps.grown hg2).same (((Keeps.refl w (fun _ => False)).draw.more _).same HD.out id) (fun e => hpf f e.symm rfl); have d2' := cell_of_heap (o := 2) hd2; have f2' := frozen_of_heap (o := 2) hd2; have d0' := cell_of_heap (o := 0) hd2; have f0' := frozen_of_heap (o := 0) hd2; have HD2 := hide hd2; clear hd2; simp at d2' d0')
  all_goals
    obtain ⟨wb, hwb⟩ : ∃ wb, wb = w2.setCell ⟨f, 2, none⟩ (.slice p2 (late.length + 1) cp2) := ⟨_, rfl⟩
    have k2 : Keeps w w2 (fun i => some i = pv.ownBlock) := ((Keeps.refl w _).more _).draw.grow hg2 (fun k e _ => e.symm)
    have hsrc3 : ∀ j u, (src.map byteV)[j]? = some u → wb.cell? (ad.add j) = some u := fun j u hu => by
      rw [hwb]
      exact (Keeps.setCell w2 _ _).cell (k2.cell (hsrc j u hu) (by rw [add_block]; exact fun e => hap e.symm)) (by rw [add_block]; exact ha)
    have hb3 : wb.ownsRow 0 5 1 (.slice pb bytes.length cb) bytes.length (bytes.map byteV) := by
      rw [hwb]
      exact (Keeps.setCell w2 _ _).row (k2.row hb (fun g hg e => (hbp g hg).2 e.symm)) (fun g hg => (hbp g hg).1)
    have hdb : wb.heap[f]? = some (.cells #[.slice pb bytes.length cb, sf, .slice p2 (late.length + 1) cp2] 51 (0, 0)) := by rw [hwb, heap_setCell_at HD2.out]; rfl
    have hp3 : some f ≠ (Value.slice pb bytes.length cb).ownBlock := fun e => (hbp f e.symm).1 rfl
    rw [← hwb]
    have b0 := cell_of_heap (o := 0) hdb
    have g0 := frozen_of_heap (o := 0) hdb
    simp at b0
    have HB := hide hdb
    have HW := hide hwb
    clear hdb hwb d2' f2' d0' f0'
    go_wp2_with (first | (at_builtin; refine wpList_append_own_sl _ rfl (.tmp 28) (.tmp 29) 27 rfl 0 5 j0 (.int .u8 0) 1 1 Try.underlying27 hj hy0 hy1 hy2 rfl (by decide) _ bytes.length (bytes.map byteV) rfl hb3 ad src.length c (src.map byteV) rfl (by simp) hsrc3 (bytes_one _) (by unfold maxLen; omega) (by omega) (Nat.zero_le _) ?_; intro p3 cp3 w3 hown3 hg3 hloc3; have hd3 := (Keeps.grown hg3).same HB.out hp3; have b0' := cell_of_heap (o := 0) hd3; have g0' := frozen_of_heap (o := 0) hd3; clear hd3; simp at b0') | go_in)
    go_end0
    exact ⟨rfl, put_end hbp hpf hfl hb (((Keeps.refl w _).more _).draw) hown2 hg2 hloc2 HD2.out HW.out hown3 hg3 hloc3⟩
end Go.Proofs.Ytnipbplghijdmaa
