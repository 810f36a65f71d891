/-
  Crash of the disk, over a disk that is as told.
-/
import Derived.Test.YtnipbplghijdmaaSettleRep
namespace Go.Proofs.Ytnipbplghijdmaa
open Go.RowKit Go.Maps Go.WideShapes Go.Sort
set_option linter.unusedVariables false

/-! ### as told -/
def settleOne (S : DiskA) (ch : List Int) (x : Str) : DiskA × List Int :=
  match (S.at x).bind (fun f => (S.files f).map fun a => (f, a)) with
  | some p => (S.withFile p.1 (p.2.settled ch), p.2.left ch)
  | none => (S, ch)
def settleAll (l : List Str) (S : DiskA) (ch : List Int) : DiskA × List Int := l.foldl (fun p x => settleOne p.1 p.2 x) (S, ch)
theorem settleAll_succ (l : List Str) (S : DiskA) (ch : List Int) (k : Nat) (h : k < l.length) : settleAll (l.take (k + 1)) S ch = settleOne (settleAll (l.take k) S ch).1 (settleAll (l.take k) S ch).2 l[k] := by
  unfold settleAll
  rw [List.take_succ_eq_append_getElem h, List.foldl_append]
  rfl
/-- The names of which a crash lets the first so many changes be done. -/
def DiskA.cutTo (S : DiskA) (j : Nat) : DiskA := { S with names := safeTo S.safe S.late j, safe := safeTo S.safe S.late j, late := [] }
def DiskA.crashed (S : DiskA) (ch : List Int) : DiskA :=
  let S1 := S.cutTo (pickOf (ch.headD 0) (S.late.length + 1))
  { (settleAll S1.keys S1 ch.tail).1 with fail := -1, cut := -1 }
theorem pickOf_lt (c : Int) (n : Nat) (h : 0 < n) : pickOf c n < n := by
  unfold pickOf
  have h1 := Int.emod_lt_of_pos (if c < 0 then -(c + 1) else c) (b := (n : Int)) (by omega)
  have h2 := Int.emod_nonneg (if c < 0 then -(c + 1) else c) (b := (n : Int)) (by omega)
  omega
theorem settled_wf (a : FileA) (ch : List Int) : (a.settled ch).Wf := ⟨Nat.le_refl _, rfl⟩

theorem fill_len {bytes b0 : List UInt8} {T : List (Nat × Nat)} {s : Nat} (t : Bool) (hO : OkP s T bytes.length) (hb : b0.length ≤ s) : (fillTo bytes b0 T t T.length).length ≤ bytes.length := by
  cases hT : T.length with
  | zero => simp [fillTo]; have := hO.le; omega
  | succ k =>
    have hk : k < T.length := by omega
    obtain ⟨h1, h2, h3⟩ := fill_ok bytes t T b0 s hO hb k hk
    rw [fillTo_succ bytes b0 T t k hk, if_pos (by omega)]
    have h4 : (if t then T[k].2 / 2 else T[k].2) ≤ T[k].2 := by split <;> omega
    have := addP_length (bytes := bytes) (b := fillTo bytes b0 T t k) (x := (T[k].1, if t then T[k].2 / 2 else T[k].2)) h1 (by simp only; omega)
    simp only at this
    omega
theorem settled_len {a : FileA} (h : a.Wf) (ch : List Int) : (a.settled ch).bytes.length ≤ a.bytes.length :=
  fill_len _ (h.2.sel ch) (by simp; omega)
/-- What settling keeps. -/
structure SInv (S1 S : DiskA) : Prop where
  names : S.names = S1.names
  safe : S.safe = S1.safe
  late : S.late = S1.late
  small : Small S
  wf : ∀ f a, S.files f = some a → a.Wf
theorem SInv.one {S1 S : DiskA} (h : SInv S1 S) (ch : List Int) (x : Str) : SInv S1 (settleOne S ch x).1 := by
  unfold settleOne
  split
  · rename_i p hp
    obtain ⟨f, _, hp2⟩ := Option.bind_eq_some_iff.1 hp
    obtain ⟨a, ha, rfl⟩ := Option.map_eq_some_iff.1 hp2
    have hw := h.wf f a ha
    have hz := h.small.files f a ha
    have hl := settled_len hw ch
    refine ⟨h.names, h.safe, h.late, h.small.withFile f ⟨Nat.lt_of_le_of_lt hl hz.1, by simp [FileA.settled], ?_⟩, fun g b hb => ?_⟩
    · exact Nat.lt_of_le_of_lt hl hz.1
    · simp only [DiskA.withFile] at hb
      split at hb
      · cases hb; exact settled_wf a ch
      · exact h.wf g b hb
  · exact h
theorem SInv.all {S1 : DiskA} (ch : List Int) : ∀ (l : List Str) (S : DiskA), SInv S1 S → SInv S1 (settleAll l S ch).1 := by
  intro l
  suffices H : ∀ (p : DiskA × List Int), SInv S1 p.1 → SInv S1 (l.foldl (fun p x => settleOne p.1 p.2 x) p).1 from fun S h => H (S, ch) h
  induction l with
  | nil => intro p h; exact h
  | cons x r ih => intro p h; exact ih _ (h.one p.2 x)

theorem key_str' {s : Str} (h : s.length ≤ maxLen) : keyOf Try.prog 9 (strV s) = some (.string s) :=
  WideMaps.keyOf_string_mk (s := ⟨s.toArray⟩) Try.underlying9 (by show s.toArray.size ≤ maxLen; simpa using h)

theorem key_mem {w : World} {b n : Nat} {D : DataW Nat} (h : w.ownsMap Try.prog 9 fileElem b n D) {x : Str} (hx : x ∈ strKeys D) : Maps.has D (.string x) = true ∧ x.length ≤ maxLen := by
  refine ⟨?_, strKeys_le h Try.underlying9 x hx⟩
  obtain ⟨es, rfl, hko⟩ := h.keysOf
  obtain ⟨p, hp, rfl⟩ := List.mem_map.1 hx
  obtain ⟨v, hv⟩ := hko p hp
  obtain ⟨y, _, e, _⟩ := Maps.keyOf_str Try.underlying9 hv
  refine List.any_eq_true.2 ⟨p, hp, ?_⟩
  rw [e]
  exact WideAt.sameKey_self (by trivial)

theorem Rep.cut {w w2 : World} {ρ : Nat → Role} {d sm nbn n m : Nat} {S : DiskA} {D : DataW Nat} (R : Rep w ρ d S) (rs : ρ sm = .safe)
    (hd2 : w2.heap[d]? = some (.cells #[.map (some nbn), .map (some sm), .slice none 0 0, .int .i64 S.calls, .int .i64 S.fail, .int .i64 S.cut, .int .i64 S.wrote] 45 (0, 0))) (hnew : w.heap.size ≤ nbn)
    (hn : w2.ownsMap Try.prog 9 fileElem nbn n D) (hs : w2.ownsMap Try.prog 9 fileElem sm m D) (hL : Leads D S.files) (hk : Keeps w w2 (fun i => i = d ∨ i = sm)) :
    Rep w2 (fun i => if i = nbn then .names else ρ i) d { S with names := D, safe := D, late := [] } ∧ Grew w ρ w2 (fun i => if i = nbn then .names else ρ i) := by
  have rd := R.disk
  have hρ : ∀ i, i < w.heap.size → (if i = nbn then Role.names else ρ i) = ρ i := fun i hi => if_neg (by omega)
  have ht : ∀ i r, ρ i = r → r ≠ .none → (if i = nbn then Role.names else ρ i) = r := fun i r h hr => (hρ i (R.lt i (by rw [h]; exact hr))).trans h
  have hT : ∀ i, ρ i ≠ .safe → ρ i ≠ .disk → ¬ (i = d ∨ i = sm) := by
    rintro i h1 h2 (e | e)
    · exact h2 (e ▸ rd)
    · exact h1 (e ▸ rs)
  refine ⟨⟨⟨nbn, sm, .slice none 0 0, hd2, by simp, ht _ _ rs (by decide), tight hn, tight hs, World.ownsRow_nil _ _ _ _, fun g hg => (by cases hg)⟩, ht _ _ rd (by decide), ?_, hL, hL, fun c hc => (by cases hc), ?_, R.failBd, R.cutBd⟩, ⟨hk.mono ?_, hρ⟩⟩
  · intro f a hf
    have hfo := R.files f a hf
    exact hfo.keep hk hρ (hT f (by rw [hfo.1]; decide) (by rw [hfo.1]; decide)) (fun i hi => hT i (by rw [hi]; exact fun h => by cases h) (by rw [hi]; exact fun h => by cases h)) (fun i hi => hT i (by rw [hi]; exact fun h => by cases h) (by rw [hi]; exact fun h => by cases h))
  · intro i hi
    by_cases e : i = nbn
    · rw [e]; exact hn.lt
    · rw [if_neg e] at hi; exact Nat.lt_of_lt_of_le (R.lt i hi) hk.size
  · rintro i _ (e | e)
    · rw [e, rd]; decide
    · rw [e, rs]; decide

theorem settleOne_eq {S : DiskA} {x : Str} {f : Nat} {a : FileA} (ch : List Int) (h1 : S.at x = some f) (h2 : S.files f = some a) : settleOne S ch x = (S.withFile f (a.settled ch), a.left ch) := by
  unfold settleOne
  rw [h1]
  simp [h2]

/-- The choices, handed in. -/
def ArgPicks (w : World) (ρ : Nat → Role) (v : Value) (g : Nat) (l : List Int) : Prop :=
  g < w.heap.size ∧ ρ g = .none ∧ ∃ o c, v = .slice o l.length c ∧ l.length ≤ c ∧ c ≤ maxLen ∧ (∀ x ∈ l, -9223372036854775808 ≤ x ∧ x ≤ 9223372036854775807) ∧ (l ≠ [] → ∃ k, o = some ⟨g, k, none⟩ ∧ ∀ j, j < l.length → w.cell? ⟨g, k + j, none⟩ = some (.int .i64 (l.getD j 0)))

theorem ArgPicks.boxed {w : World} {ρ : Nat → Role} {o : Option Addr} {c g : Nat} {l : List Int} (h : ArgPicks w ρ (.slice o l.length c) g l) : PicksIn (w.alloc (.cells #[.slice o l.length c] 62 (0, 0))) w.heap.size g l := by
  obtain ⟨hg, _, o', c', e, h1, h2, h3, h4⟩ := h
  cases e
  refine ⟨by omega, o, c, heap_alloc_top w _, h1, h2, h3, fun hl => ?_⟩
  obtain ⟨k, e, hc⟩ := h4 hl
  exact ⟨k, e, fun j hj => (Keeps.alloc w _ (fun _ => False)).cell (hc j hj) id⟩

set_option maxHeartbeats 40000000 in
theorem crash_any {w : World} {ρ : Nat → Role} {d : Nat} {S : DiskA} (v : Value) (pg : Nat) (ch : List Int) (R : Rep w ρ d S) (Z : Small S) (hwf : ∀ f a, S.files f = some a → a.Wf) (hz : Maps.size S.safe + S.late.length < 1099511627776) (hv : ArgPicks w ρ v pg ch) :
    Calls Try.prog 13 #[.pointer (some ⟨d, 0, none⟩), v] w fun e w' => e = .returned (.tuple #[]) ∧ ∃ ρ', Rep w' ρ' d (S.crashed ch) ∧ Grew w ρ w' ρ' := by
  obtain ⟨hpgl, hpgr, ov, cv, e, _⟩ := id hv
  subst e
  have hpk := hv.boxed
  obtain ⟨nb, sm, lv, hd, rn, rs, on, os, ol, rl⟩ := R.mem
  have hdl := lt_of_heap hd
  have c2a : ∀ x, (w.alloc x).cell? ⟨d, 2, none⟩ = some lv := fun x => (cell_alloc_old (o := 2) hd x)
  have HD := hide hd
  clear hd hv
  have rd := R.disk
  have hsd : sm ≠ d := fun e => by rw [e, rd] at rs; cases rs
  have hsl := os.lt
  have hpgs : ¬ pg = sm := fun e => by rw [e, rs] at hpgr; cases hpgr
  have hpgd : ¬ pg = d := fun e => by rw [e, rd] at hpgr; cases hpgr
  obtain ⟨pl, cl, rfl⟩ := slice_of_row ol
  have hll : S.late.length ≤ cl ∧ cl ≤ maxLen := by
    rcases ol.2 with ⟨e, h0⟩ | ⟨g, cap, cur, e, _, hg, h1, h2, _⟩
    · injection e with e1 e2 e3; exact ⟨by omega, by unfold maxLen; omega⟩
    · injection e with e1 e2 e3; exact ⟨by omega, by omega⟩
  obtain ⟨hll1, hll2⟩ := hll
  unfold maxLen at hll2
  have hzl := Z.late
  go_enter Try.func13, Try.ntmps13
  go_wp2_with fail
  have hwr : IntKind.i64.wrap ((S.late.length : Int) + 1) = ((S.late.length + 1 : Nat) : Int) := by rw [wrap_i64 (by omega) (by omega)]; omega
  go_cut [26, 27, 28] from 14 to 25 (fun v26 v27 v28 wc => ∃ (q : Nat) (p : Option Addr) (c : Nat), Hid (q = pickOf (ch.headD 0) (S.late.length + 1)) ∧ q ≤ S.late.length ∧ v26 = .slice p q c ∧ v27 = .int .i64 q ∧ v28 = .int .i64 0 ∧ q ≤ c ∧
      (0 < q → ∃ g, p = some ⟨g, 0, none⟩ ∧ (Value.slice pl S.late.length cl).ownBlock = some g) ∧ PicksIn wc w.heap.size pg ch.tail ∧ Keeps w wc (fun _ => False))
  case first =>
    have hpkd : PicksIn (w.alloc (.cells #[.slice ov ch.length cv] 62 (0, 0))).drew w.heap.size pg ch := hpk.keep (Keeps.drew _ (fun _ => False)) id id
    go_region_with (go_at_call 25; refine (nextIn_some (S.late.length + 1) (by omega) (by omega) hpkd).mono ?_; rintro e w5 ⟨q, hq, rfl, hpk6, hkn⟩; have hqlt : q < S.late.length + 1 := (by rw [hq.out]; exact pickOf_lt _ _ (by omega)); have hq2 : (q : Int) ≤ (cl : Int) := (by omega); have hdn := hkn.same (((Keeps.alloc w _ (fun _ => False)).draw).same HD.out id) (by omega); have d2n := cell_of_heap (o := 2) hdn; simp at d2n; clear hdn)
    all_goals
      go_wp2_with fail
      go_meet
      refine ⟨q, _, cl, hq, by omega, rfl, rfl, rfl, by omega, fun h0 => ?_, hpk6, Keeps.trans (((Keeps.refl w _).more _).draw) hkn (fun i hi e => (by omega))⟩
      rcases ol.2 with ⟨e, h1⟩ | ⟨g, cap, cur, e, _⟩
      · exfalso; omega
      · injection e with e1 e2 e3
        subst e1
        exact ⟨g, by first | rfl | (split <;> rfl) | simp, rfl⟩
  case rest =>
    obtain ⟨q, p, c, hq, hql, rfl, rfl, rfl, hqc, hpa, hpk1, kc⟩ := hcut
    have hdc := kc.same HD.out id
    have HDc := hide hdc
    have osc := kc.map os id
    have hslc : sm < wc.heap.size := Nat.lt_of_lt_of_le hsl kc.size
    clear hdc
    have hszc := kc.size
    have hpbl : w.heap.size < wc.heap.size := by obtain ⟨_, _, _, h, _⟩ := hpk1; exact lt_of_heap h
    go_wp2_with fail
    go_loopw [28] (fun i wr => ∃ k : Nat, k ≤ q ∧ i = .int .i64 k ∧ wr.ownsMap Try.prog 9 fileElem sm (Maps.size S.safe + k) (safeTo S.safe S.late k) ∧ Keeps wc wr (fun i => i = sm))
      (fun i _ => q - (intOf i).toNat)
    case atStart => exact ⟨0, Nat.zero_le _, rfl, osc, Keeps.refl _ _⟩
    case round =>
      obtain ⟨k, hk, rfl, hown, hkw⟩ := hrel
      have hd2 := hkw.same HDc.out hsd.symm
      have b0 := cell_of_heap (o := 0) hd2
      have b1 := cell_of_heap (o := 1) hd2
      have b2 := cell_of_heap (o := 2) hd2
      have b1a : ∀ x, (wr.alloc x).cell? ⟨d, 1, none⟩ = some (.map (some sm)) := fun x => (cell_alloc_old (o := 1) hd2 x)
      have f0 := frozen_of_heap (o := 0) hd2
      have f2 := frozen_of_heap (o := 2) hd2
      simp at b0 b1 b2
      have HD2 := hide hd2
      clear hd2
      by_cases hlt : k < q
      · obtain ⟨g, rfl, hgo⟩ := hpa (by omega)
        have hlk : k < S.late.length := by omega
        have hcells := ol.cells (g := g) hgo
        have hgs : ¬ g = sm := fun e => by have := rl g hgo; rw [e, rs] at this; cases this
        have hcell : ∀ i u, (changeCells [S.late[k]])[i]? = some u → i < 4 → wr.cell? ⟨g, k * 4 + i, none⟩ = some u := fun i u hu hi => by
          have h1 := hcells (k * 4 + i) u ((changeCells_at S.late k hlk i hi).trans hu)
          rw [add_zero] at h1
          exact hkw.cell (kc.cell h1 id) hgs
        have e0 := hcell 0 _ rfl (by omega)
        have e1 := hcell 1 _ rfl (by omega)
        have e2 := hcell 2 _ rfl (by omega)
        have e3 := hcell 3 _ rfl (by omega)
        simp only [Nat.add_zero] at e0
        have hok := R.lateOk S.late[k] (List.getElem_mem hlk)
        have hsz := hkw.size
        have hsl2 : sm < wr.heap.size := hown.lt
        have HOK := hide hok
        clear hcells hcell hok
        go_wp2_with fail
        go_region_with (go_at_call 22; refine (do_any sm (Maps.size S.safe + k) (safeTo S.safe S.late k) S.late[k].make S.late[k].src S.late[k].dst S.late[k].f _ ?_ (by omega) HOK.out.1 HOK.out.2.1 HOK.out.2.2.1).mono ?_; exact hown.alloc _; rintro e w2 ⟨rfl, hown2, hk2⟩)
        all_goals
          have hk3 : Keeps wc w2 (fun i => i = sm) := (hkw.more _).draw.trans hk2 (fun _ _ h => h)
          clear hk2 e0 e1 e2 e3 b1a
          go_wp2
          go_roundw
          case rel => exact ⟨k + 1, by omega, by go_num, by rw [safeTo_succ _ _ _ hlk]; exact hown2, hk3⟩
          case measure => simp [intOf]; omega
      · have hke : k = q := by omega
        subst hke
        have hmm := @run_makeMap Try.prog
        have hdw : d < wr.heap.size := lt_of_heap HD2.out
        have hsw : sm < wr.heap.size := hown.lt
        have b0a : ∀ x, (wr.alloc x).cell? ⟨d, 0, none⟩ = some (.map (some nb)) := fun x => (cell_alloc_old (o := 0) HD2.out x)
        have b2a : ∀ x, (wr.alloc x).cell? ⟨d, 2, none⟩ = some (.slice pl S.late.length cl) := fun x => (cell_alloc_old (o := 2) HD2.out x)
        have f0a : ∀ x, (wr.alloc x).frozen? ⟨d, 0, none⟩ = false := fun x => frozen_of_heap ((Below.heap_alloc wr x d hdw).trans HD2.out)
        have f2a : ∀ x, (wr.alloc x).frozen? ⟨d, 2, none⟩ = false := fun x => frozen_of_heap ((Below.heap_alloc wr x d hdw).trans HD2.out)
        have hLD : Leads (safeTo S.safe S.late k) S.files := leads_fold (S.late.take k) S.safe os.isMap R.safeTo (fun x hx => R.lateOk x (List.mem_of_mem_take hx))
        have hown6 : (((wr.setCell ⟨d, 2, none⟩ (.slice none 0 0)).setCell ⟨d, 0, none⟩ (.map (some wr.heap.size))).alloc (.map #[] 0)).ownsMap Try.prog 9 fileElem sm (Maps.size S.safe + k) (safeTo S.safe S.late k) := ((hown.setCell hsd _).setCell hsd _).alloc _
        have hs6 : (((wr.setCell ⟨d, 2, none⟩ (.slice none 0 0)).setCell ⟨d, 0, none⟩ (.map (some wr.heap.size))).alloc (.map #[] 0)).heap.size = wr.heap.size + 1 := by simp [World.setCell]
        have hn6 : (((wr.setCell ⟨d, 2, none⟩ (.slice none 0 0)).setCell ⟨d, 0, none⟩ (.map (some wr.heap.size))).alloc (.map #[] 0)).ownsMap Try.prog 9 fileElem wr.heap.size 0 (.map []) := by
          have h := World.ownsMap_made (H := Nat) ((wr.setCell ⟨d, 2, none⟩ (.slice none 0 0)).setCell ⟨d, 0, none⟩ (.map (some wr.heap.size))) Try.prog 9 fileElem
          have e : ((wr.setCell ⟨d, 2, none⟩ (.slice none 0 0)).setCell ⟨d, 0, none⟩ (.map (some wr.heap.size))).heap.size = wr.heap.size := by simp [World.setCell]
          rwa [e] at h
        have k6 : Keeps wr (((wr.setCell ⟨d, 2, none⟩ (.slice none 0 0)).setCell ⟨d, 0, none⟩ (.map (some wr.heap.size))).alloc (.map #[] 0)) (fun i => i = d) := (((Keeps.setCell wr _ _).set (by exact rfl) _).more _)
        have hd6 : (((wr.setCell ⟨d, 2, none⟩ (.slice none 0 0)).setCell ⟨d, 0, none⟩ (.map (some wr.heap.size))).alloc (.map #[] 0)).heap[d]? = some (.cells #[.map (some wr.heap.size), .map (some sm), .slice none 0 0, .int .i64 S.calls, .int .i64 S.fail, .int .i64 S.cut, .int .i64 S.wrote] 45 (0, 0)) := by
          rw [Below.heap_alloc _ _ d (by simp [World.setCell]; exact hdw), heap_setCell_at (heap_setCell_at HD2.out _)]; rfl
        have HS6 := hide hs6
        have HD6 := hide hd6
        clear hs6 hd6
        go_wp2_with (first
          | (at_range; refine wpList_range_own _ rfl _ 42 rfl 9 48 law Try.underlying42 _ sm _ _ rfl hown6 ?_; intro w0 hrg0 hg0 hs0)
          | go_in)
        go_frame
        rw [HS6.out] at hrg0 ⊢
        have k0 := Keeps.grown hg0
        have hn0 := k0.map hn6 (by simp)
        have hd0 := k0.same HD6.out (by simp)
        have kw0 : Keeps w w0 (fun i => i = d ∨ i = sm) := (((kc.mono (fun _ _ h => h.elim)).trans hkw (fun _ _ h => .inr h)).trans k6 (fun _ _ h => .inl h)).trans k0 (fun _ _ h => (by simp at h))
        have hszw : wc.heap.size ≤ wr.heap.size := hkw.size
        have hw0l : wr.heap.size + 1 < w0.heap.size := hrg0.lt
        have hpk0 : PicksIn w0 w.heap.size pg ch.tail := ((hpk1.keep hkw (by omega) hpgs).keep k6 (by omega) hpgd).keep k0 (by simp) (by simp)
        obtain ⟨NB, hNB⟩ : ∃ n, n = wr.heap.size := ⟨_, rfl⟩
        rw [← hNB] at hrg0 hn0 hd0 hw0l hszw ⊢
        have hNBl : wc.heap.size ≤ NB := hszw
        have HNB := hide hNB
        have HD0 := hide hd0
        clear hd0 hs0 hNB
        go_loopw [7] (fun _ w2 => ∃ (left : Lit → Bool) (cnt : Nat) (Dout : DataW Nat) (m : Nat), w2.ranges Try.prog 9 fileElem sm (NB + 1) (Maps.size S.safe + k) (safeTo S.safe S.late k) left cnt ∧ w2.ownsMap Try.prog 9 fileElem NB m Dout ∧ m + cnt ≤ Maps.size S.safe + k ∧
            Agree Dout (safeTo S.safe S.late k) left ∧ Keeps w0 w2 (fun i => i = NB ∨ i = NB + 1))
          (fun _ w2 => w2.rangeLeft sm (NB + 1))
        case atStart => exact ⟨_, _, _, 0, hrg0, hn0, by have := hown.size_le; omega, agree_start _, Keeps.refl _ _⟩
        case round =>
          obtain ⟨left, cnt, Dout, m, hrg, hno, hmc, hA, hkq⟩ := hrel
          have hdq := hkq.same HD0.out (by omega)
          have d0 := cell_of_heap (o := 0) hdq
          simp at d0
          have HDQ := hide hdq
          clear hdq
          go_wp2_with (first
            | (at_next; refine wpList_next_files _ rfl _ rfl sm (NB + 1) _ _ _ _ rfl hrg hLD ?_ ?_)
            | go_in)
          · intro hc0 hl0
            have hDD : Dout = safeTo S.safe S.late k := agree_end hA hl0 (hno.canon law) (hrg.owns.canon law)
            rw [hDD] at hno
            have hsz1 := hrg.owns.size_le
            have kwr : Keeps w wr (fun i => i = d ∨ i = sm) := kw0.trans hkq (fun i hi e => (by omega))
            have hpk3 : PicksIn wr w.heap.size pg ch.tail := hpk0.keep hkq (by omega) (by omega)
            obtain ⟨ρ3, R3, G3, hr1, hr2⟩ : ∃ ρ3, Rep wr ρ3 d (S.cutTo k) ∧ Grew w ρ wr ρ3 ∧ ρ3 w.heap.size = .none ∧ ρ3 pg = .none := by
              obtain ⟨R3, G3⟩ := R.cut rs HDQ.out (by omega) hno hrg.owns hLD kwr
              refine ⟨_, R3, G3, ?_, ?_⟩
              · have h1 : ¬ w.heap.size = NB := by omega
                simp only [if_neg h1]
                by_cases h2 : ρ w.heap.size = .none
                · exact h2
                · exfalso
                  have := R.lt w.heap.size h2
                  omega
              · have h1 : ¬ pg = NB := by omega
                simp only [if_neg h1]
                exact hpgr
            have Z3 : Small (S.cutTo k) := ⟨by show Maps.size (safeTo S.safe S.late k) < _; omega, by show Maps.size (safeTo S.safe S.late k) < _; omega, by simp [DiskA.cutTo], Z.files⟩
            have hinv0 : SInv (S.cutTo k) (S.cutTo k) := ⟨rfl, rfl, rfl, Z3, hwf⟩
            have hNC : w.heap.size + 1 ≤ wr.heap.size := by have := hkq.size; omega
            clear hrg hno hmc hA hkq hrg0 hn0 HD0 HDQ d0 hDD hpk0 kw0 hw0l hown hkw b0 b1 b2 b1a f0 f2 HD2 hmm hdw hsw b0a b2a f0a f2a hown6 hn6 k6 HS6 HD6 hg0 k0 hl0 hc0 hpa hpk1 hpk osc HDc c2a
            go_wp2_with (first
              | (go_at_call 18; refine (all_any R3 Z3).mono ?_; rintro e w7 ⟨k7, p7, c7, rfl, hrow7⟩)
              | go_in)
            have R7 := R3.keep k7 (fun _ h => h.elim)
            have hpk7 := hpk3.keep k7 id id
            have G7 : Grew w ρ w7 ρ3 := G3.trans (Grew.of k7 (fun _ _ h => h.elim))
            obtain ⟨KS, hKS⟩ : ∃ KS, KS = (S.cutTo k).keys := ⟨_, rfl⟩
            obtain ⟨NC, hNCe⟩ : ∃ n, n = wr.heap.size := ⟨_, rfl⟩
            rw [← hKS] at hrow7 ⊢
            rw [← hNCe] at hrow7 hNC
            have hlt3 : ∀ i, ρ3 i ≠ .none → i < NC := by rw [hNCe]; exact R3.lt
            have hmem : ∀ x ∈ KS, Maps.has (S.cutTo k).names (.string x) = true ∧ x.length ≤ maxLen := by
              intro x hx
              rw [hKS] at hx
              obtain ⟨nb3, sm3, lv3, _, _, _, on3, _⟩ := R3.mem
              exact key_mem on3 ((List.mergeSort_perm _ _).mem_iff.1 hx)
            have HKS := hide hKS
            have hs7 : NC ≤ w7.heap.size := by rw [hNCe]; exact k7.size
            clear hKS hNCe k7 hpk3 R3 G3
            go_loopw [65] (fun i w8 => ∃ (j : Nat) (ρj : Nat → Role), j ≤ KS.length ∧ i = .int .i64 j ∧ Rep w8 ρj d (settleAll (KS.take j) (S.cutTo k) ch.tail).1 ∧ PicksIn w8 w.heap.size pg (settleAll (KS.take j) (S.cutTo k) ch.tail).2 ∧
                Keeps w7 w8 (fun i => ρ3 i ≠ .none ∨ i = w.heap.size) ∧ (∀ i, i < w7.heap.size → ρj i = ρ3 i))
              (fun i _ => KS.length - (intOf i).toNat)
            case atStart => exact ⟨0, ρ3, Nat.zero_le _, rfl, R7, hpk7, Keeps.refl _ _, fun _ _ => rfl⟩
            case round =>
              obtain ⟨j, ρj, hj, rfl, Rj, hpkj, hkj, hrj⟩ := hrel
              by_cases hltj : j < KS.length
              · have hinv := SInv.all ch.tail (KS.take j) (S.cutTo k) hinv0
                have hstep := settleAll_succ KS (S.cutTo k) ch.tail j hltj
                obtain ⟨Sj, hSj⟩ : ∃ Sj, Sj = (settleAll (KS.take j) (S.cutTo k) ch.tail).1 := ⟨_, rfl⟩
                obtain ⟨cj, hcj⟩ : ∃ cj, cj = (settleAll (KS.take j) (S.cutTo k) ch.tail).2 := ⟨_, rfl⟩
                rw [← hSj] at Rj hinv hstep
                rw [← hcj] at hpkj hstep
                obtain ⟨x, hx⟩ : ∃ x, x = KS[j] := ⟨_, rfl⟩
                have hxm := hmem x (by rw [hx]; exact List.getElem_mem hltj)
                have hkx := key_str' hxm.2
                have hhas : Maps.has Sj.names (.string x) = true := by rw [hinv.names]; exact hxm.1
                obtain ⟨f, fa, hf1, hf2⟩ := Rj.namesTo _ hhas
                have hatf : Sj.at x = some f := by unfold DiskA.at; rw [hf1]; rfl
                have hone := settleOne_eq cj hatf hf2
                rw [← hx, hone] at hstep
                rcases hrow7.2 with ⟨e, h0⟩ | ⟨g7, cap7, cur7, e, hg7b, hg7, hcap7, hcm7, hcs7, htk7⟩
                · exfalso; omega
                cases e
                have hcell := hrow7.cells (g := g7) rfl
                have hk0 := hcell j (encStr x) (by rw [hx]; simp [List.getElem?_eq_getElem hltj])
                rw [add_zero] at hk0
                have hkc := hkj.cell hk0 (fun h => h.elim (fun h => (by have := hlt3 g7 h; omega)) (fun e => (by have e' : g7 = w.heap.size := e; omega)))
                obtain ⟨nbj, smj, lvj, hdj, _, _, onj, _⟩ := Rj.mem
                have b0 := cell_of_heap (o := 0) hdj
                simp at b0
                have hpbj : ρj w.heap.size = .none := (hrj _ (by omega)).trans hr1
                have hpgj : ρj pg = .none := (hrj _ (by omega)).trans hr2
                have hszj := hkj.size
                have HA := hide hatf
                have HST := hide hstep
                unfold maxLen at hcm7
                clear hdj hg7 hcs7 htk7 hcell hk0 hstep hatf hone hSj hcj hf1 hhas hx
                go_wp2_with (first
                  | (at_lookup; refine wpList_lookup_file _ rfl _ _ rfl nbj _ _ rfl onj _ _ rfl hkx (.pointer (some ⟨f, 0, none⟩)) (congrArg ptrV HA.out) ?_)
                  | (go_at_call 26; refine (settle_any cj Rj hinv.small hf2 (hinv.wf f fa hf2) hpkj hpbj hpgj (by omega) (by omega)).mono ?_; rintro e w9 ⟨rfl, hpk9, ρ9, R9, k9, hr9⟩)
                  | go_in)
                go_roundw
                case rel =>
                  refine ⟨j + 1, ρ9, by omega, by go_num, by rw [HST.out]; exact R9, by rw [HST.out]; exact hpk9, ?_, fun i hi => (hr9 i (by omega)).trans (hrj i hi)⟩
                  exact hkj.trans k9 (fun i hi h => h.elim (fun h => .inl (by rw [← hrj i hi]; exact h)) .inr)
                case measure => simp [intOf]; omega
              · have hje : j = KS.length := by omega
                subst hje
                rw [List.take_length] at Rj hpkj
                obtain ⟨nbj, smj, lvj, hdj, _⟩ := Rj.mem
                have b4 := cell_of_heap (o := 4) hdj
                have b5 := cell_of_heap (o := 5) hdj
                have g4 := frozen_of_heap (o := 4) hdj
                have g5 := frozen_of_heap (o := 5) hdj
                simp at b4 b5
                clear hdj
                go_wp2
                go_end0
                obtain ⟨RF, GF⟩ := Rj.setInts (w' := (wr.setCell ⟨d, 4, none⟩ (.int .i64 (-1))).setCell ⟨d, 5, none⟩ (.int .i64 (-1))) (settleAll KS (S.cutTo k) ch.tail).1.calls (-1) (-1) (settleAll KS (S.cutTo k) ch.tail).1.wrote ((Keeps.setCell wr _ _).set (by exact rfl) _)
                  (fun _ _ _ h => by rw [heap_setCell_at (heap_setCell_at h _)]; rfl) (by omega) (by omega)
                refine ⟨rfl, ρj, ?_, ?_⟩
                · have e : S.crashed ch = { (settleAll KS (S.cutTo k) ch.tail).1 with fail := -1, cut := -1 } := by
                    unfold DiskA.crashed
                    rw [← hq.out, HKS.out]
                  rw [e]
                  exact RF
                · have G8 : Grew w ρ wr ρj := ⟨G7.keeps.trans hkj (fun i hi h => h.elim (fun h => (by rw [← G7.role i hi]; exact h)) (fun e => (by omega))), fun i hi => (hrj i (Nat.lt_of_lt_of_le hi G7.keeps.size)).trans (G7.role i hi)⟩
                  exact G8.trans GF
          · intro x f' w3 cnt3 hxl hlk fa hfa hat hrg3 hlt3 hg3 hs3 hen
            have hd3 := (Keeps.grown hg3).same HDQ.out (by simp; omega)
            have d3 := cell_of_heap (o := 0) hd3
            simp at d3
            clear hd3 hs3
            have hno3 := (Keeps.grown hg3).map hno (by simp)
            have hkx := key_str' hxl
            go_wp2_with (first
              | (at_mapUpdate; refine wpList_mapUpdate_own _ rfl (.tmp 59) (.tmp 60) (.tmp 61) 42 rfl 9 48 law Try.underlying42 _ NB m _ rfl hno3 (by unfold maxLen; omega) _ _ _ rfl rfl hkx (.held f') [] rfl ?_; intro w4 hno4 hg4)
              | go_in)
            go_frame
            go_roundw
            case rel =>
              have hrg4 := hrg3.kept hg4 (by simp; omega) (by simp)
              exact ⟨_, cnt3, _, m + 1, hrg4, hno4, by omega, agree_step hA hno.isMap (by trivial) hat, ((hkq.trans (Keeps.grown hg3) (fun i _ e => .inr (Option.some.inj e))).trans (Keeps.grown hg4) (fun i _ e => .inl (Option.some.inj e)))⟩
            case measure =>
              have hrg4 := hrg3.kept hg4 (by simp; omega) (by simp)
              rw [hrg4.left_eq, hrg.left_eq]; exact hlt3
end Go.Proofs.Ytnipbplghijdmaa
