/-
  SyncDir of the disk, over a disk that is as told.
-/
import Derived.Test.YtnipbplghijdmaaOps2
namespace Go.Proofs.Ytnipbplghijdmaa
open Go.RowKit Go.Maps Go.WideShapes
set_option linter.unusedVariables false

/-- The names that are sure, behind the first k changes. -/
def safeTo (D : DataW Nat) (l : List ChangeA) (k : Nat) : DataW Nat := (l.take k).foldl doA D
theorem safeTo_succ (D : DataW Nat) (l : List ChangeA) (k : Nat) (h : k < l.length) : safeTo D l (k + 1) = doA (safeTo D l k) l[k] := by
  unfold safeTo
  rw [List.take_succ_eq_append_getElem h, List.foldl_append]
  rfl

theorem changeCells_at (l : List ChangeA) (k : Nat) (h : k < l.length) : ∀ i, i < 4 → (changeCells l)[k * 4 + i]? = (changeCells [l[k]])[i]? := by
  induction l generalizing k with
  | nil => simp at h
  | cons c r ih =>
    intro i hi
    have e : changeCells (c :: r) = changeCells [c] ++ changeCells r := by simp [changeCells]
    have hl : (changeCells [c]).length = 4 := rfl
    rw [e]
    cases k with
    | zero => simp only [Nat.zero_mul, Nat.zero_add, List.getElem_cons_zero]; rw [List.getElem?_append_left (by omega)]
    | succ k =>
      rw [List.getElem?_append_right (by omega), hl, show (k + 1) * 4 + i - 4 = k * 4 + i by omega, ih k (by simpa using h) i hi]
      simp

theorem isMap_do {D : DataW Nat} (h : IsMap D) (c : ChangeA) : IsMap (doA D c) := by
  unfold doA
  split
  · exact h.put _ _
  · split
    · split
      · exact (h.put _ _).del _
      · exact h.put _ _
    · exact h.del _
theorem leads_fold {fs : Nat → Option FileA} : ∀ (l : List ChangeA) (D : DataW Nat), IsMap D → Leads D fs → (∀ c ∈ l, ChOk fs c) → Leads (l.foldl doA D) fs
  | [], _, _, h, _ => h
  | c :: r, D, hm, h, hc => leads_fold r (doA D c) (isMap_do hm c) (leads_do hm h (hc c (by simp))) (fun x hx => hc x (by simp [hx]))

theorem Rep.setSafe {w wr : World} {ρ : Nat → Role} {d nb sm n : Nat} {lv : Value} {T : DiskA} {D : DataW Nat} (R : Rep w ρ d T)
    (hd : w.heap[d]? = some (.cells #[.map (some nb), .map (some sm), lv, .int .i64 T.calls, .int .i64 T.fail, .int .i64 T.cut, .int .i64 T.wrote] 45 (0, 0)))
    (rn : ρ nb = .names) (rs : ρ sm = .safe) (on : w.ownsMap Try.prog 9 fileElem nb (Maps.size T.names) T.names) (hown : wr.ownsMap Try.prog 9 fileElem sm n D) (hk : Keeps w wr (fun i => i = sm)) (hL : Leads D T.files) :
    Rep (wr.setCell ⟨d, 2, none⟩ (.slice none 0 0)) ρ d { T with safe := D, late := [] } ∧ Grew w ρ (wr.setCell ⟨d, 2, none⟩ (.slice none 0 0)) ρ := by
  have rd := R.disk
  have hsd : sm ≠ d := fun e => by rw [e, rd] at rs; cases rs
  have hk2 : Keeps w (wr.setCell ⟨d, 2, none⟩ (.slice none 0 0)) (fun i => i = sm ∨ i = d) := (hk.mono (fun _ _ h => .inl h)).set (.inr rfl) _
  have hT : ∀ i, ρ i ≠ .safe → ρ i ≠ .disk → ¬ (i = sm ∨ i = d) := by
    rintro i h1 h2 (e | e)
    · exact h1 (e ▸ rs)
    · exact h2 (e ▸ rd)
  refine ⟨⟨⟨nb, sm, .slice none 0 0, ?_, rn, rs, hk2.map on (hT nb (by rw [rn]; decide) (by rw [rn]; decide)), tight (hown.setCell hsd _), World.ownsRow_nil _ _ _ _, fun g hg => (by cases hg)⟩, rd, ?_, R.namesTo, hL, fun c hc => (by cases hc), fun i hi => Nat.lt_of_lt_of_le (R.lt i hi) hk2.size, R.failBd, R.cutBd⟩, Grew.of hk2 ?_⟩
  · rw [heap_setCell_at (hk.same hd hsd.symm)]; rfl
  · intro f a hf
    have hfo := R.files f a hf
    exact hfo.keep hk2 (fun _ _ => rfl) (hT f (by rw [hfo.1]; decide) (by rw [hfo.1]; decide)) (fun i hi => hT i (by rw [hi]; exact fun h => by cases h) (by rw [hi]; exact fun h => by cases h)) (fun i hi => hT i (by rw [hi]; exact fun h => by cases h) (by rw [hi]; exact fun h => by cases h))
  · rintro i _ (e | e)
    · rw [e, rs]; decide
    · rw [e, rd]; decide

set_option maxHeartbeats 1000000 in
theorem syncdir_some {w : World} {ρ : Nat → Role} {d : Nat} {S : DiskA} (R : Rep w ρ d S) (hB : S.bad = false) (hz : Maps.size S.safe + S.late.length < 1099511627776) :
    Calls Try.prog 8 #[.pointer (some ⟨d, 0, none⟩)] w fun e w' => e = .returned (.int .i64 0) ∧ ∃ ρ', Grew w ρ w' ρ' ∧
      Rep w' ρ' d { S.called true with safe := (S.called true).late.foldl doA (S.called true).safe, late := [] } := by
  have hz1 : Maps.size (S.called true).safe + (S.called true).late.length < 1099511627776 := hz
  go_enter Try.func8, Try.ntmps8
  go_wp2_with fail
  refine (call_any true R).mono ?_
  rintro e w1 ⟨rfl, R1, G1⟩
  rw [hB]
  clear hz
  generalize hT : S.called true = T at *
  have HT := hide hT
  clear hT
  obtain ⟨nb, sm, lv, hd, rn, rs, on, os, ol, rl⟩ := R1.mem
  have c1 := cell_of_heap (o := 1) hd
  have c2 := cell_of_heap (o := 2) hd
  have f2 := frozen_of_heap (o := 2) hd
  simp at c1 c2
  have HD := hide hd
  have hdl := lt_of_heap hd
  clear hd
  obtain ⟨pl, cl, rfl⟩ := slice_of_row ol
  have hsd : sm ≠ d := fun e => by rw [e, R1.disk] at rs; cases rs
  go_wp2_with fail
  go_loopw [12] (fun i wr => ∃ k : Nat, k ≤ T.late.length ∧ i = .int .i64 k ∧ wr.ownsMap Try.prog 9 fileElem sm (Maps.size T.safe + k) (safeTo T.safe T.late k) ∧ Keeps w1 wr (fun i => i = sm))
    (fun i _ => T.late.length - (intOf i).toNat)
  case atStart => exact ⟨0, Nat.zero_le _, rfl, os, Keeps.refl _ _⟩
  case round =>
    obtain ⟨k, hk, rfl, hown, hkw⟩ := hrel
    have hd2 := hkw.same HD.out hsd.symm
    have b1 := cell_of_heap (o := 1) hd2
    have b2 := cell_of_heap (o := 2) hd2
    have g2 := frozen_of_heap (o := 2) hd2
    have b1a : ∀ x, (wr.alloc x).cell? ⟨d, 1, none⟩ = some (.map (some sm)) := fun x => (cell_alloc_old (o := 1) hd2 x)
    simp at b1 b2
    have HD2 := hide hd2
    clear hd2
    by_cases hlt : k < T.late.length
    · rcases ol.2 with ⟨e, h0⟩ | ⟨g, cap, cur, e, _, hg, hcap, hcm, hcs, htk⟩
      · exfalso; have : T.late.length = 0 := h0; omega
      · cases e
        have hcells := ol.cells (g := g) rfl
        have hgs : ¬ g = sm := fun e => by have := rl g rfl; rw [e, rs] at this; cases this
        have hcell : ∀ i u, (changeCells [T.late[k]])[i]? = some u → i < 4 → wr.cell? ⟨g, k * 4 + i, none⟩ = some u := fun i u hu hi => by
          have := hcells (k * 4 + i) u ((changeCells_at T.late k hlt i hi).trans hu)
          rw [add_zero] at this
          exact hkw.cell this hgs
        have e0 := hcell 0 _ rfl (by omega)
        have e1 := hcell 1 _ rfl (by omega)
        have e2 := hcell 2 _ rfl (by omega)
        have e3 := hcell 3 _ rfl (by omega)
        simp only [Nat.add_zero] at e0
        have hok := R1.lateOk T.late[k] (List.getElem_mem hlt)
        have hsz := hkw.size
        have hsl : sm < wr.heap.size := hown.lt
        have HOK := hide hok
        clear hcells hcell hok hg htk hcs HD c1 c2 f2
        go_wp2_with fail
        go_region_with (go_at_call 22; refine (do_any sm (Maps.size T.safe + k) (safeTo T.safe T.late k) T.late[k].make T.late[k].src T.late[k].dst T.late[k].f _ ?_ (by omega) HOK.out.1 HOK.out.2.1 HOK.out.2.2.1).mono ?_; exact hown.alloc _; rintro e w2 ⟨rfl, hown2, hk2⟩)
        all_goals
          have hk3 : Keeps w1 w2 (fun i => i = sm) := (hkw.more _).draw.trans hk2 (fun _ _ h => h)
          clear hk2 e0 e1 e2 e3 b1a
          go_wp2
          go_roundw
          case rel => exact ⟨k + 1, by omega, by go_num, by rw [safeTo_succ _ _ _ hlt]; exact hown2, hk3⟩
          case measure => simp [intOf]; omega
    · have hke : k = T.late.length := by omega
      subst hke
      have he : safeTo T.safe T.late T.late.length = T.late.foldl doA T.safe := by unfold safeTo; rw [List.take_length]
      rw [he] at hown
      go_wp2
      go_ret
      obtain ⟨R2, G2⟩ := R1.setSafe HD.out rn rs on hown hkw (leads_fold T.late T.safe os.isMap R1.safeTo R1.lateOk)
      have hT := HT.out
      subst hT
      exact ⟨rfl, ρ, G1.trans G2, R2⟩

theorem syncdir_bad {w : World} {ρ : Nat → Role} {d : Nat} {S : DiskA} (R : Rep w ρ d S) (hB : S.bad = true) :
    Calls Try.prog 8 #[.pointer (some ⟨d, 0, none⟩)] w fun e w' => e = .returned (.int .i64 1) ∧ Grew w ρ w' ρ ∧ Rep w' ρ d (S.called true) := by
  go_enter Try.func8, Try.ntmps8
  go_wp2_with (go_at_call 19; refine (call_any true R).mono ?_; rintro e w1 ⟨rfl, R1, G1⟩)
  go_ret
  exact ⟨rfl, G1, R1⟩
end Go.Proofs.Ytnipbplghijdmaa
