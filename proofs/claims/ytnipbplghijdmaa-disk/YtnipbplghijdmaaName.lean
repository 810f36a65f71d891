/-
  What '(*Disk).name' does: the change is done on the map of names, and put behind the changes that are not sure.
-/
import Derived.Test.YtnipbplghijdmaaDo
import Derived.Test.YtnipbplghijdmaaLaws
import Derived.Deep.RegionLaw
import Derived.Deep.Cut
import Derived.Deep.CutRange
import Derived.Maps.AppendAt
namespace Go.Proofs.Ytnipbplghijdmaa
open Go.RowKit Go.Maps Go.WideShapes
set_option linter.unusedVariables false

theorem name_end {d nm n : Nat} {D' : DataW Nat} {late : List ChangeA} {c : ChangeA} {sm lv x3 x4 x5 x6 : Value} {w w' wa w2 : World} {p2 : Option Addr} {cp2 : Nat}
    (hnd : nm ≠ d) (hlv : ∀ g, lv.ownBlock = some g → g ≠ d ∧ g ≠ nm) (hdl : d < w.heap.size) (hnl : nm < w.heap.size)
    (hown1 : w'.ownsMap Try.prog 9 fileElem nm (n + 1) D')
    (k1 : Keeps w w' (fun i => i = d ∨ i = nm ∨ some i = lv.ownBlock)) (ka : Keeps w' wa (fun _ => False))
    (hown2 : w2.ownsRow 0 53 4 (.slice p2 (late.length + 1) cp2) (late.length + 1) (changeCells late ++ changeCells [c]))
    (hg2 : wa.grownBy w2 lv.ownBlock) (hloc2 : (Value.slice p2 (late.length + 1) cp2).ownBlock = lv.ownBlock ∨ (Value.slice p2 (late.length + 1) cp2).ownBlock = some wa.heap.size)
    (HD2 : w2.heap[d]? = some (.cells #[.map (some nm), sm, lv, x3, x4, x5, x6] 45 (0, 0))) :
    ∃ lv', (w2.setCell ⟨d, 2, none⟩ (.slice p2 (late.length + 1) cp2)).heap[d]? = some (.cells #[.map (some nm), sm, lv', x3, x4, x5, x6] 45 (0, 0)) ∧
        (w2.setCell ⟨d, 2, none⟩ (.slice p2 (late.length + 1) cp2)).ownsMap Try.prog 9 fileElem nm (n + 1) D' ∧
        (w2.setCell ⟨d, 2, none⟩ (.slice p2 (late.length + 1) cp2)).ownsRow 0 53 4 lv' (late.length + 1) (changeCells (late ++ [c])) ∧
        (lv'.ownBlock = lv.ownBlock ∨ ∃ g, lv'.ownBlock = some g ∧ w.heap.size ≤ g) ∧
        Keeps w (w2.setCell ⟨d, 2, none⟩ (.slice p2 (late.length + 1) cp2)) (fun i => i = d ∨ i = nm ∨ some i = lv.ownBlock) := by
  have hs : w.heap.size ≤ wa.heap.size := Nat.le_trans k1.size ka.size
  refine ⟨.slice p2 (late.length + 1) cp2, ?_, ?_, ?_, ?_, ?_⟩
  · rw [heap_setCell_at HD2]; rfl
  · refine World.ownsMap.setCell ?_ hnd _
    refine (Keeps.grown hg2).map (ka.map hown1 id) (fun e => (hlv nm e.symm).2 rfl)
  · rw [changeCells_snoc]
    refine (Keeps.setCell w2 _ _).row hown2 (fun g hg e => ?_)
    rcases hloc2 with e2 | e2
    · exact (hlv g (e2 ▸ hg)).1 e
    · have e3 : g = wa.heap.size := Option.some.inj (hg.symm.trans e2)
      have e4 : g = d := e
      omega
  · rcases hloc2 with e | e
    · exact .inl e
    · exact .inr ⟨_, e, hs⟩
  · exact ((k1.trans ka (fun _ _ h => h.elim)).grow hg2 (fun k e _ => .inr (.inr e.symm))).set (.inl rfl) _

set_option maxHeartbeats 800000 in
theorem name_walk (d nm n : Nat) (D : DataW Nat) (late : List ChangeA) (mk sr ds : Str) (f : Option Nat) (sm lv x3 x4 x5 x6 : Value) (w : World)
    (h : w.heap[d]? = some (.cells #[.map (some nm), sm, lv, x3, x4, x5, x6] 45 (0, 0)))
    (hown : w.ownsMap Try.prog 9 fileElem nm n D) (hn : n < 1099511627776)
    (hm : mk.length < 1099511627776) (hf : sr.length < 1099511627776) (ht : ds.length < 1099511627776)
    (hl : w.ownsRow 0 53 4 lv late.length (changeCells late)) (hll : late.length < 1099511627776) (hnd : nm ≠ d) (hlv : ∀ g, lv.ownBlock = some g → g ≠ d ∧ g ≠ nm) :
    Calls Try.prog 20 #[.pointer (some ⟨d, 0, none⟩), .agg #[strV mk, strV sr, strV ds, ptrV f]] w fun e w' => e = .returned (.tuple #[]) ∧
      ∃ lv', w'.heap[d]? = some (.cells #[.map (some nm), sm, lv', x3, x4, x5, x6] 45 (0, 0)) ∧
        w'.ownsMap Try.prog 9 fileElem nm (n + 1) (doA D ⟨mk, sr, ds, f⟩) ∧
        w'.ownsRow 0 53 4 lv' (late.length + 1) (changeCells (late ++ [⟨mk, sr, ds, f⟩])) ∧
        (lv'.ownBlock = lv.ownBlock ∨ ∃ g, lv'.ownBlock = some g ∧ w.heap.size ≤ g) ∧ Keeps w w' (fun i => i = d ∨ i = nm ∨ some i = lv.ownBlock) := by
  have c0 := cell_of_heap (o := 0) h
  simp at c0
  have hdl := lt_of_heap h
  have hnl := hown.lt
  go_enter Try.func20, Try.ntmps20
  go_wp2_with fail
  go_region_with (go_at_call 22; refine (do_any nm n D mk sr ds f _ ?_ hn hm hf ht).mono ?_; exact hown.alloc _; rintro e w' ⟨rfl, hown1, hk1⟩)
  all_goals
    have hd1 : w'.heap[d]? = some (.cells #[.map (some nm), sm, lv, x3, x4, x5, x6] 45 (0, 0)) := hk1.same (((Keeps.refl w (fun _ => False)).more _).same h id) hnd.symm
    have hc1 : w'.heap[w.heap.size]? = some (.cells #[strV mk, strV sr, strV ds, ptrV f] 53 (0, 0)) := hk1.same (heap_alloc_top w _) (Nat.ne_of_gt hnl)
    have hl1 : w'.ownsRow 0 53 4 lv late.length (changeCells late) := hk1.row (hl.alloc _) (fun g hg => (hlv g hg).2)
    have hs1 : w.heap.size + 1 ≤ w'.heap.size := by have := hk1.size; simp at this; omega
    have k1 : Keeps w w' (fun i => i = d ∨ i = nm ∨ some i = lv.ownBlock) := Keeps.trans ((Keeps.refl w _).more _).draw hk1 (fun i _ e => .inr (.inl e))
    clear h c0 hown hl hk1
    have d2 := cell_of_heap (o := 2) hd1
    have f2 := frozen_of_heap (o := 2) hd1
    have e0 := cell_of_heap (o := 0) hc1
    have e1 := cell_of_heap (o := 1) hc1
    have e2 := cell_of_heap (o := 2) hc1
    have e3 := cell_of_heap (o := 3) hc1
    have d2a : ∀ x, (w'.alloc x).cell? ⟨d, 2, none⟩ = some lv := fun x => (cell_alloc_old (o := 2) hd1 x)
    simp at d2 e0 e1 e2 e3
    have HD := hide hd1
    have HC := hide hc1
    clear hd1 hc1
    obtain ⟨i0, hi, hz0, hz1, hz2⟩ := info_parts Try.infoChange
    go_wp2_with fail
    go_region_law (refine step_append_own_at rfl (.tmp 14) (.tmp 16) 43 rfl 0 53 i0 changeZ 4 56 Try.underlying43 hi hz0 hz1 hz2 rfl (by decide) lv late.length (changeCells late) rfl (hl1.alloc _) ⟨w'.heap.size, 0, none⟩ 1 1 (changeCells [⟨mk, sr, ds, f⟩]) rfl rfl (cells_at (heap_alloc_top w' _) rfl) (change_one _) (by unfold maxLen; omega) (by omega) (Nat.zero_le _) ?_; intro p2 cp2 w2 hown2 hg2 hloc2; have hd2 := (Keeps.grown hg2).same (((Keeps.refl w' (fun _ => False)).draw.more _).same HD.out id) (fun e => (hlv d e.symm).1 rfl); have d2' := cell_of_heap (o := 2) hd2; have f2' := frozen_of_heap (o := 2) hd2; have HD2 := hide hd2; clear hd2; simp at d2')
    all_goals
      go_end0
      exact ⟨rfl, name_end hnd hlv hdl hnl hown1 k1 (((Keeps.refl w' _).more _).draw) hown2 hg2 hloc2 HD2.out⟩
end Go.Proofs.Ytnipbplghijdmaa
