/-
  All and Names of the disk, over a disk that is as told: the names, in order.
-/
import Derived.Test.YtnipbplghijdmaaRange
import Derived.Test.YtnipbplghijdmaaShelf
import Derived.Sort.OwnSorted
namespace Go.Proofs.Ytnipbplghijdmaa
open Go.RowKit Go.Maps Go.WideShapes Go.Sort
set_option linter.unusedVariables false

/-- The names, in order. -/
def DiskA.keys (S : DiskA) : List Str := (strKeys S.names).mergeSort leB

theorem str_one (x : Str) : ∀ u ∈ [encStr x], u.oneCell' = true := by
  intro u hu
  simp at hu
  subst hu
  rfl

set_option maxHeartbeats 1000000 in
theorem all_any {w : World} {ρ : Nat → Role} {d : Nat} {S : DiskA} (R : Rep w ρ d S) (Z : Small S) :
    Calls Try.prog 18 #[.pointer (some ⟨d, 0, none⟩)] w fun e w' => Keeps w w' (fun _ => False) ∧
      ∃ p c, e = .returned (.slice p S.keys.length c) ∧ w'.ownsRow w.heap.size 9 1 (.slice p S.keys.length c) S.keys.length (S.keys.map encStr) := by
  obtain ⟨nb, sm, lv, hd, rn, rs, on, _⟩ := R.mem
  have c0 := cell_of_heap (o := 0) hd
  simp at c0
  clear hd
  have hL := R.namesTo
  have hz := Z.names
  obtain ⟨i0, hi, hz0, hz1, hz2⟩ := info_parts Try.infoStr
  go_enter Try.func18, Try.ntmps18
  go_wp2_with (first
    | (at_range; refine wpList_range_own _ rfl _ 42 rfl 9 48 law Try.underlying42 _ nb _ _ rfl on ?_; intro w0 hrg0 hg0 hs0)
    | go_in)
  go_frame
  go_loopw [3] (fun v wr => ∃ (left : Lit → Bool) (cnt : Nat) (ss : List Str) (p : Option Addr) (c : Nat), wr.ranges Try.prog 9 fileElem nb w.heap.size (Maps.size S.names) S.names left cnt ∧ ss.length + cnt ≤ Maps.size S.names ∧
      v = .slice p ss.length c ∧ wr.ownsRow w.heap.size 9 1 (.slice p ss.length c) ss.length (ss.map encStr) ∧ Collected S.names left ss ∧ Keeps w wr (fun _ => False))
    (fun _ wr => wr.rangeLeft nb w.heap.size)
  case atStart => exact ⟨_, _, [], none, 0, hrg0, by simp, rfl, World.ownsRow_nil _ _ _ _, Collected.start _, (Keeps.grown hg0).mono (fun _ _ h => by simp at h)⟩
  case round =>
    obtain ⟨left, cnt, ss, p, c, hrg, hcs, rfl, hrow, hC, hkw⟩ := hrel
    go_wp2_with (first
      | (at_next; refine wpList_next_files _ rfl _ rfl nb w.heap.size _ _ _ _ rfl hrg hL ?_ ?_)
      | go_in)
    · intro hc0 hl0
      have hperm := hC.perm on law Try.underlying9 hl0
      have hkeys : ss.mergeSort leB = S.keys := mergeSort_of_perm hperm
      have hlen : ss.length = S.keys.length := by rw [← hkeys]; simp
      have HK := hide hkeys
      have HL := hide hlen
      clear hkeys hlen
      rcases hrow.2 with ⟨hnil, h0⟩ | ⟨g, cap, cur, hsl, hbase, hb, h1, h2, h3, h4⟩
      · have hss : ss = [] := List.eq_nil_of_length_eq_zero h0
        subst hss
        cases hnil
        go_wp2_with (go_at_call 27; refine (Try.sort_none none 0 wr).mono ?_; rintro e w' ⟨rfl, rfl⟩)
        go_ret
        have hk0 : S.keys = [] := List.eq_nil_of_length_eq_zero (by rw [← HL.out]; rfl)
        exact ⟨hkw, none, 0, by rw [hk0]; rfl, by rw [hk0]; exact World.ownsRow_nil _ _ _ _⟩
      · cases hsl
        have hH : Holds encStr wr g 0 ss.toArray := holds_of_block hb (by simpa using h4)
        have hgl : g < wr.heap.size := lt_of_heap hb
        have hcn := Try.slices_Sort_string g 0 c ss wr hH hgl (by omega)
        go_wp2_with (go_at_call 27; refine hcn.mono ?_; rintro e w' ⟨rfl, nn, os, rfl⟩)
        go_ret
        refine ⟨hkw.grow (grownBy_sorted _) (fun k e hk => ?_), some ⟨g, 0, none⟩, c, by rw [← HL.out]; rfl, ?_⟩
        · have := Option.some.inj e; omega
        · rw [← HL.out]
          have hr := ownsRow_sorted (n := nn) (os := os) (ss := ss) (ts := ss.mergeSort leB) (by simp) hbase hb h1 h2 h3
          rw [← HK.out]
          exact hr
    · intro x f' w2 cnt2 hxl hlk fa hfa hat hrg2 hlt hg2 hs2 hen
      have hsz : w.heap.size ≤ wr.heap.size := hkw.size
      have hne := row_ne_iter hrow hrg
      have hrow2 : w2.ownsRow w.heap.size 9 1 (.slice p ss.length c) ss.length (ss.map encStr) := hrow.kept hg2 (.inr hne.symm)
      have hk2 : Keeps w w2 (fun _ => False) := hkw.trans (Keeps.grown hg2) (fun i hi e => (by have := Option.some.inj e; omega))
      have hsz2 : w.heap.size ≤ w2.heap.size := hk2.size
      clear hs2
      go_wp2_with (first
        | (at_builtin; refine wpList_append_own_sl _ rfl (.tmp 14) (.tmp 16) 37 rfl w.heap.size 9 i0 (.string ⟨#[]⟩) 1 16 Try.underlying37 hi hz0 hz1 hz2 rfl (by decide) _ ss.length (ss.map encStr) rfl (hrow2.alloc _) ⟨w2.heap.size, 0, none⟩ 1 1 [encStr x] rfl rfl (cells_at (heap_alloc_top w2 _) rfl) (str_one _) (by unfold maxLen; omega) (by omega) (by simp; omega) ?_; intro p3 cp3 w3 hown3 hg3 hloc3)
        | go_in)
      have hnb : nb < w.heap.size := on.lt
      have hrg3 := (hrg2.alloc (.cells #[encStr x] 9)).kept hg3 (row_ne_low hrow hnb) hne
      have hC3 := hC.step hlk hat
      have hk3 : Keeps w w3 (fun _ => False) := (hk2.more _).grow hg3 (fun k e hk => (by have := (hrow.lt k e).1; omega))
      have hlen3 : (ss ++ [x]).length = ss.length + 1 := by simp
      have hown4 : w3.ownsRow w.heap.size 9 1 (.slice p3 (ss ++ [x]).length cp3) (ss ++ [x]).length ((ss ++ [x]).map encStr) := by rw [hlen3]; simpa using hown3
      have H3 := hide hlen3
      clear hlen3 hown3
      go_wp2
      go_roundw
      case rel => exact ⟨_, cnt2, ss ++ [x], p3, cp3, hrg3, by rw [H3.out]; omega, by rw [H3.out], hown4, hC3, hk3⟩
      case measure => rw [hrg3.left_eq, hrg.left_eq]; exact hlt
end Go.Proofs.Ytnipbplghijdmaa
