/-
  Read of the disk, over a disk that is as told.
-/
import Derived.Test.YtnipbplghijdmaaOps3
import Derived.BigQuiet
namespace Go.Proofs.Ytnipbplghijdmaa
open Go.RowKit Go.Maps Go.WideShapes
set_option linter.unusedVariables false

theorem reads_cut {w : World} {g cap p k : Nat} {l : List UInt8} (hc : ∀ j u, (l.map byteV)[j]? = some u → w.cell? ((⟨g, 0, none⟩ : Addr).add j) = some u) (hk : p + k ≤ l.length) (hcap : l.length ≤ cap) :
    Reads w (.slice (if cap = p then some ⟨g, 0, none⟩ else some ⟨g, p, none⟩) k (cap - p)) ((l.drop p).take k) := by
  have hl : ((l.drop p).take k).length = k := by simp; omega
  by_cases hcp : cap = p
  · have h0 : k = 0 := by omega
    subst h0
    exact .inr ⟨⟨g, 0, none⟩, cap - p, by rw [if_pos hcp]; simp, fun j u hu => by simp at hu⟩
  refine .inr ⟨⟨g, p, none⟩, cap - p, by rw [hl, if_neg hcp], fun j u hu => ?_⟩
  have e : (⟨g, p, none⟩ : Addr).add j = (⟨g, 0, none⟩ : Addr).add (p + j) := by
    rw [add_zero]
    unfold Addr.add
    split <;> simp_all
  rw [e]
  refine hc (p + j) u ?_
  rw [List.getElem?_map] at hu ⊢
  rw [List.getElem?_take] at hu
  split at hu
  · rw [List.getElem?_drop] at hu; exact hu
  · simp at hu

set_option maxHeartbeats 4000000 in
theorem read_some {w : World} {ρ : Nat → Role} {d : Nat} {S : DiskA} (nm : Str) (p k : Nat) (R : Rep w ρ d S) (Z : Small S) (hn : nm.length < 1099511627776) (hB : S.bad = false) {f : Nat} {a : FileA} (hA : S.at nm = some f) (ha : S.files f = some a)
    (hp : p + k ≤ a.bytes.length) (hpos : 0 < a.bytes.length) :
    Calls Try.prog 11 #[.pointer (some ⟨d, 0, none⟩), strV nm, .int .i64 p, .int .i64 k] w fun e w' => Grew w ρ w' ρ ∧ Rep w' ρ d (S.called false) ∧
      ∃ p' c, e = .returned (.tuple #[.slice p' k c, .int .i64 0]) ∧ w'.ownsRow w.heap.size 5 1 (.slice p' k c) k (((a.bytes.drop p).take k).map byteV) := by
  have hkey := key_str hn
  have hz := (Z.files f a ha).1
  have HA := hide hA
  have HF := hide ha
  clear hA ha
  have hlen : ((a.bytes.drop p).take k).length = k := by simp; omega
  go_enter Try.func11, Try.ntmps11
  go_wp2_with fail
  refine (call_any false R).mono ?_
  rintro e w1 ⟨rfl, R1, G1⟩
  obtain ⟨nb, sm, lv, hd, rn, rs, on, _⟩ := R1.mem
  have c0 := cell_of_heap (o := 0) hd
  simp at c0
  clear hd
  obtain ⟨rf, bv, pv, hc, hb, rb, hpp, rp⟩ := R1.files f a HF.out
  have b0 := cell_of_heap (o := 0) hc
  simp at b0
  clear hc
  rcases hb.2 with ⟨rfl, h0⟩ | ⟨g, cap, cur, rfl, _, hg, hcap, hcm, hcs, htk⟩
  · omega
  · have hcells := hb.cells (g := g) rfl
    have hrd := reads_cut (p := p) (k := k) (cap := cap) hcells (by omega) (by omega)
    clear hg hcs htk hb
    unfold maxLen at hcm
    have hlt : ¬ ((a.bytes.length : Int) - (p : Int) < (k : Int)) := by omega
    have hw1 : IntKind.i64.wrap ((a.bytes.length : Int) - (p : Int)) = (a.bytes.length : Int) - (p : Int) := wrap_i64 (by omega) (by omega)
    have hw2 : IntKind.i64.wrap ((p : Int) + (k : Int)) = (p : Int) + (k : Int) := wrap_i64 (by omega) (by omega)
    have ht : ((p : Int) + (k : Int)).toNat = p + k := by omega
    have ha1 : (p : Int) ≤ (p : Int) + (k : Int) := by omega
    have ha2 : (p : Int) + (k : Int) ≤ (cap : Int) := by omega
    have ha3 : p ≤ cap := by omega
    by_cases hcp : cap = p
    · have hrd0 : Reads w1.drew (.slice (some ⟨g, 0, none⟩) 0 0) [] := .inr ⟨⟨g, 0, none⟩, 0, rfl, fun j u hu => (by simp at hu)⟩
      clear hrd
      subst hcp
      go_wp2_with (first
        | (at_lookup; refine wpList_lookup_file _ rfl _ _ rfl nb _ _ rfl on _ _ rfl hkey (.pointer (some ⟨f, 0, none⟩)) (congrArg ptrV HA.out) ?_)
        | go_in)
      go_region_with (go_at_call 23; refine (clone_any w1.drew _ [] (by simp) hrd0).mono ?_; rintro e w2 ⟨p1, c1, rfl, hown1, k1⟩)
      all_goals
        go_wp2
        go_ret2
        obtain rfl : k = 0 := by omega
        refine ⟨G1.trans (Grew.of ((Keeps.drew w1 _).trans k1 (fun _ _ h => h)) (fun _ _ h => h.elim)), R1.keep ((Keeps.drew w1 (fun _ => False)).trans k1 (fun _ _ h => h)) (fun _ h => h.elim), p1, c1, rfl, ?_⟩
        simpa using row_base hown1 G1.keeps.size
    · rw [if_neg hcp] at hrd
      go_wp2_with (first
        | (at_lookup; refine wpList_lookup_file _ rfl _ _ rfl nb _ _ rfl on _ _ rfl hkey (.pointer (some ⟨f, 0, none⟩)) (congrArg ptrV HA.out) ?_)
        | go_in)
      go_region_with (go_at_call 23; refine (clone_any w1.drew _ ((a.bytes.drop p).take k) (by rw [hlen]; omega) (by exact hrd)).mono ?_; rintro e w2 ⟨p1, c1, rfl, hown1, k1⟩)
      all_goals
        go_wp2
        go_ret2
        rw [hlen] at hown1
        exact ⟨G1.trans (Grew.of ((Keeps.drew w1 _).trans k1 (fun _ _ h => h)) (fun _ _ h => h.elim)), R1.keep ((Keeps.drew w1 (fun _ => False)).trans k1 (fun _ _ h => h)) (fun _ h => h.elim), p1, c1, rfl, row_base hown1 G1.keeps.size⟩
end Go.Proofs.Ytnipbplghijdmaa
