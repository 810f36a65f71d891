/-
  What 'do' (package disk: one change of names on one map) does ds the map, whatever the change.
-/
import Derived.Test.YtnipbplghijdmaaMem
namespace Go.Proofs.Ytnipbplghijdmaa
open Go.RowKit Go.Maps Go.WideShapes
set_option linter.unusedVariables false

theorem law : Keyed Try.prog 9 := string_keyed Try.underlying9

def doA (D : DataW Nat) (c : ChangeA) : DataW Nat :=
  if c.make.isEmpty = false then D.put (.string c.make) (heldD c.f)
  else if c.dst.isEmpty = false then (if c.dst ≠ c.src then (D.put (.string c.dst) (heldD c.f)).del (.string c.src) else D.put (.string c.dst) (heldD c.f))
  else D.del (.string c.src)

theorem key_str {s : Str} (h : s.length < 1099511627776) : keyOf Try.prog 9 (strV s) = some (.string s) :=
  WideMaps.keyOf_string_mk (s := ⟨s.toArray⟩) Try.underlying9 (by show s.toArray.size ≤ maxLen; unfold maxLen; simp; omega)

set_option maxHeartbeats 400000 in
theorem do_any (b n : Nat) (D : DataW Nat) (mk sr ds : Str) (f : Option Nat) (w : World) (hown : w.ownsMap Try.prog 9 fileElem b n D) (hn : n < 1099511627776)
    (hm : mk.length < 1099511627776) (hf : sr.length < 1099511627776) (ht : ds.length < 1099511627776) :
    Calls Try.prog 22 #[.map (some b), .agg #[strV mk, strV sr, strV ds, ptrV f]] w fun e w' => e = .returned (.tuple #[]) ∧
      w'.ownsMap Try.prog 9 fileElem b (n + 1) (doA D ⟨mk, sr, ds, f⟩) ∧ Keeps w w' (fun i => i = b) := by
  have hkm := key_str hm
  have hkf := key_str hf
  have hkt := key_str ht
  have hv := fileElem_ptr f
  have hbl := hown.lt
  go_enter Try.func22, Try.ntmps22
  go_wp2_with (first
    | (at_mapUpdate; refine wpList_mapUpdate_own _ rfl (.tmp 11) (.tmp 13) (.tmp 15) 42 rfl 9 48 law Try.underlying42 _ b n _ rfl (hown.alloc _) (by unfold maxLen; omega) _ _ _ rfl rfl hkm _ [] hv ?_; intro w1 hown1 hg1)
    | (at_mapUpdate; refine wpList_mapUpdate_own _ rfl (.tmp 20) (.tmp 22) (.tmp 24) 42 rfl 9 48 law Try.underlying42 _ b n _ rfl (hown.alloc _) (by unfold maxLen; omega) _ _ _ rfl rfl hkt _ [] hv ?_; intro w1 hown1 hg1; have c1 : w1.cell? ⟨w.heap.size, 1, none⟩ = some (strV sr) := (cell_grown_new hg1 hbl _); have c2 : w1.cell? ⟨w.heap.size, 2, none⟩ = some (strV ds) := (cell_grown_new hg1 hbl _))
    | (at_delete; refine wpList_delete_own _ rfl (.tmp 30) (.tmp 32) 42 9 rfl 48 law Try.underlying42 _ b _ _ rfl hown1 _ _ rfl hkf ?_; intro w2 hown2 hg2)
    | (at_delete; refine wpList_delete_own _ rfl (.tmp 4) (.tmp 6) 42 9 rfl 48 law Try.underlying42 _ b n _ rfl (hown.alloc _) _ _ rfl hkf ?_; intro w2 hown2 hg2)
    | go_in)
  all_goals go_end0
  · refine ⟨rfl, ?_, ((Keeps.refl w _).more _).grow hg1 (by simp)⟩
    have e : doA D ⟨mk, sr, ds, f⟩ = D.put (.string mk) (heldD f) := by simp_all [doA]
    rw [e]; exact hown1
  · refine ⟨rfl, ?_, (((Keeps.refl w _).more _).grow hg1 (by simp)).grow hg2.grown (by simp)⟩
    have e : doA D ⟨mk, sr, ds, f⟩ = (D.put (.string ds) (heldD f)).del (.string sr) := by simp_all [doA]
    rw [e]; exact hown2
  · refine ⟨rfl, ?_, ((Keeps.refl w _).more _).grow hg1 (by simp)⟩
    have e : doA D ⟨mk, sr, ds, f⟩ = D.put (.string ds) (heldD f) := by simp_all [doA]
    rw [e]; exact hown1
  · refine ⟨rfl, ?_, ((Keeps.refl w _).more _).grow hg2.grown (by simp)⟩
    have e : doA D ⟨mk, sr, ds, f⟩ = D.del (.string sr) := by simp_all [doA]
    rw [e]; exact hown2.mono (Nat.le_succ _)
end Go.Proofs.Ytnipbplghijdmaa
