/-
  La: ArgsA.
-/
import Derived.OpenShut
import Derived.Deep.Slices
import Derived.ChangeSlices
import Derived.SizedLaws
import Derived.Test.YtnipbplghijdmaaGreatDoorLa35
namespace Go.Proofs.YtnipbplghijdmaaGreatDoor
open Go.RowKit Go.ChangeShapes Go.WideShapes Go.ChangeAt Go.Deep
set_option linter.unusedVariables false
theorem jad : Tryz.prog.cellsOf 39 = 1 := by kernel_rfl
theorem jco : Tryz.prog.cellsOf 3 = 1 := by kernel_rfl
theorem jcp : Tryz.prog.bytesOf 3 = 8 := by kernel_rfl
theorem jae : Tryz.prog.bytesOf 39 = 24 := by kernel_rfl
theorem jbg {H : Type} {enc : TypeId × Value → H} {W : World} {fuel : Nat} {cs : List Value} {x : DataW H × List MemPlace}
   (h : DataW.trod enc Tryz.prog W 0 (fun _ => true) true fuel 39 cs = some x) (hb : ∀ n ∈ x.1.weights Tryz.prog 39, n ≤ reachBytes) : ∃ v zs, cs = [v] ∧ Zs W v zs := by
 rcases open_ints Tryz.underlying39 Tryz.underlying3 jco h with ⟨rfl, _⟩ | ⟨a, len, cap, zs, rfl, _, hlc, _, hzl, hx, hcell, hwf⟩
 · exact ⟨_, [], rfl, none, 0, rfl, fun _ => rfl, fun z hz => (by cases hz), by simp, fun j z hz => by simp at hz⟩
 · simp only [if_true] at hzl
   have hw : zs.length * 8 ≤ reachBytes := by
     have := hb ((List.length (lits (H := H) .i64 (zs.take len)) + List.length (lits (H := H) .i64 (zs.drop len))) * 8) (by rw [hx]; simp [DataW.weights, Tryz.underlying39, jcp])
     simp only [lits, List.length_map, List.length_take, List.length_drop] at this
     omega
   have hR : reachBytes = 140737488351232 := by decide
   have hlen : (zs.take len).length = len := by rw [List.length_take]; omega
   refine ⟨_, zs.take len, rfl, some a, cap, by rw [hlen], fun h => (by cases h), fun z hz => bounds_i64 (hwf z (List.mem_of_mem_take hz)), by rw [hlen]; omega, fun j z hz => ?_⟩
   have hj : j < len := by
     have := (List.getElem?_eq_some_iff.1 hz).1
     omega
   have hc := hcell j (by omega)
   have hsp : a.spot = none := by simpa [Addr.add] using World.cell?_spot (hcell 0 (by omega))
   obtain ⟨b, o, sp⟩ := a
   simp only at hsp
   subst hsp
   rw [List.getElem?_take_of_lt hj] at hz
   refine ⟨b, o, rfl, ?_⟩
   rw [add_plain] at hc
   simpa [List.getD, hz] using hc
theorem Ih {H : Type} {P : Program} {e : TypeId} {l : List (DataW H)} {d : DataW H} (h : d ∈ l) : ∀ n ∈ d.weights P e, n ∈ DataW.weightsAll P e l := by
 induction l with
 | nil => cases h
 | cons x r ih =>
   intro n hn
   simp only [DataW.weightsAll, List.mem_append]
   cases List.mem_cons.1 h with
   | inl e => subst e; exact Or.inl hn
   | inr e => exact Or.inr (ih e n hn)
theorem jca {H : Type} {enc : TypeId × Value → H} {W : World} {fuel : Nat} {cs : List Value} {x : DataW H × List MemPlace}
   (h : DataW.trod enc Tryz.prog W 0 (fun _ => true) true fuel 26 cs = some x) (hb : ∀ n ∈ x.1.weights Tryz.prog 26, n ≤ reachBytes) : ∃ v rss, cs = [v] ∧ ja0 W v rss := by
 rcases open_slice Tryz.underlying26 h with ⟨rfl, _⟩ | ⟨a, len, cap, m, n, D, Pl, rfl, _, hlc, _, hm, hx, hel⟩
 · exact ⟨_, [], rfl, none, 0, rfl, fun _ => rfl, by simp, fun j hj => by simp at hj⟩
 · simp only [if_true] at hm
   subst hm
   have hR : reachBytes = 140737488351232 := by decide
   have hw : m * 24 ≤ reachBytes := by
     have := hb ((((List.range len).map D).length + ((List.range (m - len)).map fun j => D (len + j)).length) * 24) (by rw [hx]; simp [DataW.weights, Tryz.underlying26, jae])
     simp only [List.length_map, List.length_range] at this
     omega
   have each : ∀ i, i < len → ∃ rv zs, W.cell? (a.add i) = some rv ∧ Zs W rv zs := by
     intro i hi
     obtain ⟨cs', hc, ht⟩ := hel i (by omega)
     rw [jad, Nat.mul_one] at hc
     obtain ⟨v, zs, rfl, hz⟩ := jbg ht (fun n hn => hb n (by
       rw [hx]
       simp only [DataW.weights, Tryz.underlying26, List.mem_cons, List.mem_append]
       exact Or.inr (Or.inl (Ih (List.mem_map.2 ⟨i, List.mem_range.2 hi, rfl⟩) n hn))))
     exact ⟨v, zs, cell_of_cells?_one hc, hz⟩
   have key : ∀ i, ∃ zs, i < len → ∃ rv, W.cell? (a.add i) = some rv ∧ Zs W rv zs := fun i => by
     rcases Nat.lt_or_ge i len with hi | hi
     · obtain ⟨rv, zs, h1, h2⟩ := each i hi
       exact ⟨zs, fun _ => ⟨rv, h1, h2⟩⟩
     · exact ⟨[], fun h => by omega⟩
   have hF : ∀ i, i < len → ∃ rv, W.cell? (a.add i) = some rv ∧ Zs W rv (Classical.choose (key i)) := fun i hi => Classical.choose_spec (key i) hi
   generalize hf : (fun i => Classical.choose (key i)) = F
   have hF' : ∀ i, i < len → ∃ rv, W.cell? (a.add i) = some rv ∧ Zs W rv (F i) := fun i hi => by rw [← hf]; exact hF i hi
   refine ⟨_, (List.range len).map F, rfl, some a, m, by simp, fun h => (by cases h), by simp; omega, fun j hj => ?_⟩
   have hj' : j < len := by simpa using hj
   obtain ⟨rv, h1, h2⟩ := hF' j hj'
   obtain ⟨rv0, h01, _⟩ := hF' 0 (by omega)
   have hsp : a.spot = none := by simpa [Addr.add] using World.cell?_spot h01
   obtain ⟨b, o, sp⟩ := a
   simp only at hsp
   subst hsp
   rw [add_plain] at h1
   exact ⟨b, o, rv, rfl, h1, by simpa using h2⟩
end Go.Proofs.YtnipbplghijdmaaGreatDoor
