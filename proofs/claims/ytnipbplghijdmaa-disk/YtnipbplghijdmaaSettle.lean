/-
  '(*file).settle' of the disk: what it leaves of a file.
-/
import Derived.Test.YtnipbplghijdmaaSettleA
import Derived.Test.YtnipbplghijdmaaRead
import Derived.Deep.Cut
import Derived.Deep.CutRange
namespace Go.Proofs.Ytnipbplghijdmaa
open Go.RowKit Go.Maps Go.WideShapes
set_option linter.unusedVariables false

theorem pieceCells_at (l : List (Nat × Nat)) (k : Nat) (h : k < l.length) : (pieceCells l)[k * 2]? = some (.int .i64 l[k].1) ∧ (pieceCells l)[k * 2 + 1]? = some (.int .i64 l[k].2) := by
  induction l generalizing k with
  | nil => simp at h
  | cons c r ih =>
    have e : pieceCells (c :: r) = pieceCells [c] ++ pieceCells r := by simp [pieceCells]
    have hl : (pieceCells [c]).length = 2 := rfl
    rw [e]
    cases k with
    | zero => exact ⟨rfl, rfl⟩
    | succ k =>
      rw [List.getElem?_append_right (by omega), List.getElem?_append_right (by omega), hl, show (k + 1) * 2 - 2 = k * 2 by omega, show (k + 1) * 2 + 1 - 2 = k * 2 + 1 by omega]
      simpa using ih k (by simpa using h)

theorem Picks.keep {w w' : World} {p : Nat} {l : List Int} {T : Nat → Prop} (h : Picks w p l) (hk : Keeps w w' T) (hp : ¬ T p) (hg : ∀ g o c n, w.heap[p]? = some (.cells #[.slice (some ⟨g, o, none⟩) n c] 62 (0, 0)) → ¬ T g) : Picks w' p l := by
  rcases h with ⟨rfl, a, c, h⟩ | ⟨g, o, c, h, hc, hcm, hgp, hcell, hbd⟩
  · exact .inl ⟨rfl, a, c, hk.same h hp⟩
  · exact .inr ⟨g, o, c, hk.same h hp, hc, hcm, hgp, fun j hj => hk.cell (hcell j hj) (hg g o c _ h), hbd⟩

/-- The choices lie in a block of their own. -/
def PicksIn (w : World) (p g : Nat) (l : List Int) : Prop :=
  g ≠ p ∧ ∃ o c, w.heap[p]? = some (.cells #[.slice o l.length c] 62 (0, 0)) ∧ l.length ≤ c ∧ c ≤ maxLen ∧ (∀ x ∈ l, -9223372036854775808 ≤ x ∧ x ≤ 9223372036854775807) ∧ (l ≠ [] → ∃ k, o = some ⟨g, k, none⟩ ∧ ∀ j, j < l.length → w.cell? ⟨g, k + j, none⟩ = some (.int .i64 (l.getD j 0)))

theorem PicksIn.keep {w w' : World} {p g : Nat} {l : List Int} {T : Nat → Prop} (h : PicksIn w p g l) (hk : Keeps w w' T) (hp : ¬ T p) (hg : ¬ T g) : PicksIn w' p g l := by
  obtain ⟨hgp, o, c, h1, h2, h3, h4, h5⟩ := h
  refine ⟨hgp, o, c, hk.same h1 hp, h2, h3, h4, fun hl => ?_⟩
  obtain ⟨k, e, hc⟩ := h5 hl
  exact ⟨k, e, fun j hj => hk.cell (hc j hj) hg⟩

theorem nextIn_any {w : World} {p g : Nat} {l : List Int} (n : Nat) (hn : 0 < n) (hn2 : n < 9223372036854775807) (h : PicksIn w p g l) :
    Calls Try.prog 25 #[.pointer (some ⟨p, 0, none⟩), .int .i64 n] w fun e w' => e = .returned (.int .i64 (pickOf (l.headD 0) n)) ∧ PicksIn w' p g l.tail ∧ Keeps w w' (fun i => i = p) := by
  obtain ⟨hgp, o, c, h1, h2, h3, h4, h5⟩ := h
  cases l with
  | nil =>
    refine (next_nil w p n o c h1).mono ?_
    rintro e w' ⟨rfl, rfl⟩
    exact ⟨by simp [pickOf], ⟨hgp, o, c, h1, h2, h3, h4, h5⟩, Keeps.refl _ _⟩
  | cons x r =>
    obtain ⟨k, rfl, hcell⟩ := h5 (by simp)
    refine (next_cons w p n g k c x r hn hn2 h1 h2 h3 (by simpa using hcell 0 (by simp)) (h4 x (by simp))).mono ?_
    rintro e w' ⟨rfl, rfl⟩
    refine ⟨rfl, ⟨hgp, _, c - 1, by rw [heap_setCell_at h1]; rfl, by simp at h2 ⊢; omega, by omega, fun y hy => h4 y (by simp at hy ⊢; exact .inr hy), fun hr => ?_⟩, Keeps.setCell _ _ _⟩
    have hr' : r ≠ [] := hr
    have hrl : 0 < r.length := List.length_pos_iff.2 hr'
    have hc1 : ¬ c = 1 := by simp at h2; omega
    refine ⟨k + 1, by rw [if_neg hc1], fun j hj => ?_⟩
    have h6 := hcell (j + 1) (by simpa using hj)
    rw [show k + 1 + j = k + (j + 1) by omega, (Keeps.setCell w _ _).cell h6 hgp]
    simp

theorem nextIn_some {w : World} {p g : Nat} {l : List Int} (n : Nat) (hn : 0 < n) (hn2 : n < 9223372036854775807) (h : PicksIn w p g l) :
    Calls Try.prog 25 #[.pointer (some ⟨p, 0, none⟩), .int .i64 n] w fun e w' => ∃ q : Nat, Hid (q = pickOf (l.headD 0) n) ∧ e = .returned (.int .i64 q) ∧ PicksIn w' p g l.tail ∧ Keeps w w' (fun i => i = p) :=
  (nextIn_any n hn hn2 h).mono (fun e w' h => ⟨_, rfl, h.1, h.2.1, h.2.2⟩)
theorem cut_cells {w : World} {g p k : Nat} {l : List UInt8} (hc : ∀ j u, (l.map byteV)[j]? = some u → w.cell? ((⟨g, 0, none⟩ : Addr).add j) = some u) : ∀ j u, (((l.drop p).take k).map byteV)[j]? = some u → w.cell? ((⟨g, p, none⟩ : Addr).add j) = some u := by
  intro j u hu
  have e : (⟨g, p, none⟩ : Addr).add j = (⟨g, 0, none⟩ : Addr).add (p + j) := by
    rw [add_zero]
    unfold Addr.add
    split <;> simp_all
  rw [e]
  refine hc (p + j) u ?_
  rw [List.getElem?_map] at hu ⊢
  rw [List.getElem?_take] at hu
  split at hu
  · rw [List.getElem?_drop] at hu; exact hu
  · simp at hu
theorem fill_map (B bytes : List UInt8) (G x1 N : Nat) : (B.map byteV ++ List.replicate G (Value.int .u8 0)) ++ ((bytes.drop x1).take N).map byteV = (B ++ List.replicate G 0 ++ (bytes.drop x1).take N).map byteV := by
  simp
theorem row_setCell {w : World} {base size n : Nat} {e : TypeId} {v : Value} {xs : List Value} {p : Addr} (h : w.ownsRow base e size v n xs) (hne : ∀ g, v.ownBlock = some g → ¬ g = p.block) (u : Value) : (w.setCell p u).ownsRow base e size v n xs :=
  (Keeps.setCell w p u).row h hne
theorem tail_drop (l : List Int) (k : Nat) : (l.drop k).tail = l.drop (k + 1) := by simp

set_option maxHeartbeats 40000000 in
theorem settle_walk (f pb pg : Nat) (a : FileA) (ch : List Int) (bv pv : Value) (w : World) (hwf : a.Wf) (hz : a.bytes.length < 1099511627776) (hzl : a.late.length < 1099511627776)
    (h : w.heap[f]? = some (.cells #[bv, .int .i64 a.safe, pv] 51 (0, 0)))
    (hb : w.ownsRow 0 5 1 bv a.bytes.length (a.bytes.map byteV)) (hp : w.ownsRow 0 67 2 pv a.late.length (pieceCells a.late)) (hpk : PicksIn w pb pg ch)
    (hfp : f ≠ pb) (hfg : f ≠ pg) (hbp : bv.ownBlock ≠ some pb) (hpp : pv.ownBlock ≠ some pb) (hpgl : pg < w.heap.size) (hpbl : pb < w.heap.size) :
    Calls Try.prog 26 #[.pointer (some ⟨f, 0, none⟩), .pointer (some ⟨pb, 0, none⟩)] w fun e w' => e = .returned (.tuple #[]) ∧
      ∃ bv', w'.heap[f]? = some (.cells #[bv', .int .i64 (a.settled ch).safe, .slice none 0 0] 51 (0, 0)) ∧
        w'.ownsRow w.heap.size 5 1 bv' (a.settled ch).bytes.length ((a.settled ch).bytes.map byteV) ∧ PicksIn w' pb pg (a.left ch) ∧ Keeps w w' (fun i => i = f ∨ i = pb) := by
  obtain ⟨hsafe, hchain⟩ := hwf
  have c0 := cell_of_heap (o := 0) h
  have c1 := cell_of_heap (o := 1) h
  have c2 := cell_of_heap (o := 2) h
  simp at c0 c1 c2
  have HD := hide h
  have hfl := lt_of_heap h
  clear h
  have hrd := reads_of_row hb
  go_enter Try.func26, Try.ntmps26
  go_wp2_with fail
  go_cut [4] from 10 to 19 (fun v wc => ∃ p c, v = .slice p a.safe c ∧ wc.ownsRow w.heap.size 5 1 (.slice p a.safe c) a.safe ((a.bytes.take a.safe).map byteV) ∧ Keeps w wc (fun _ => False))
  case first =>
    rcases hb.2 with ⟨rfl, h0⟩ | ⟨g, cap, cur, rfl, _, hg, hcap, hcm, hcs, htk⟩
    · have hs0 : a.safe = 0 := by omega
      have ht0 : a.bytes.take a.safe = [] := by rw [hs0]; rfl
      rw [hs0] at c1
      simp at c1
      have HS := hide hs0
      have HT := hide ht0
      clear hs0 ht0
      go_region_with (go_at_call 23; refine (clone_any w.drew _ [] (by simp) (.inl ⟨rfl, rfl⟩)).mono ?_; rintro e w2 ⟨p1, c1', rfl, hown1, k1⟩)
      all_goals
        go_wp2_with fail
        go_meet
        exact ⟨p1, c1', by rw [HS.out], by rw [HT.out, HS.out]; exact hown1, (Keeps.drew w _).trans k1 (fun _ _ h => h)⟩
    · have hcells := hb.cells (g := g) rfl
      have hrd2 := reads_cut (p := 0) (k := a.safe) (cap := cap) hcells (by omega) (by omega)
      have hrd3' : Reads w (.slice (some ⟨g, 0, none⟩) a.safe cap) (a.bytes.take a.safe) := by simpa using hrd2
      have hrd3 : Reads w.drew (.slice (some ⟨g, 0, none⟩) a.safe cap) (a.bytes.take a.safe) := hrd3'
      have hlen : (a.bytes.take a.safe).length = a.safe := by simp; omega
      have HL := hide hlen
      have ha1 : (a.safe : Int) ≤ (cap : Int) := by omega
      have ha2 : a.safe ≤ cap := by omega
      clear hg hcs htk hrd2 hrd3' hcells hrd hlen
      go_region_with (go_at_call 23; refine (clone_any w.drew _ (a.bytes.take a.safe) (by rw [HL.out]; omega) hrd3).mono ?_; rintro e w2 ⟨p1, c1', rfl, hown1, k1⟩)
      all_goals
        go_wp2_with fail
        go_meet
        rw [HL.out] at hown1
        exact ⟨p1, c1', rfl, hown1, (Keeps.drew w _).trans k1 (fun _ _ h => h)⟩
  case rest =>
    obtain ⟨p4, c4, rfl, hown4, k4⟩ := hcut
    have hd4 := k4.same HD.out id
    have d0 := cell_of_heap (o := 0) hd4
    have d1 := cell_of_heap (o := 1) hd4
    have d2 := cell_of_heap (o := 2) hd4
    simp at d0 d1 d2
    have HD4 := hide hd4
    clear hd4
    have hpk4 := hpk.keep k4 id id
    obtain ⟨pp, cp, rfl⟩ := slice_of_row hp
    have hsz4 : w.heap.size ≤ wc.heap.size := k4.size
    obtain ⟨i0, hi, hz0, hz1, hz2⟩ := info_parts Try.infoPiece
    obtain ⟨j0, hj, hy0, hy1, hy2⟩ := info_parts Try.infoU8
    go_wp2_with fail
    go_loopw [5, 25] (fun v i wr => ∃ (k : Nat) (p : Option Addr) (c : Nat), k ≤ a.late.length ∧ i = .int .i64 k ∧ v = .slice p (sel (a.late.take k) ch).length c ∧
        wr.ownsRow wc.heap.size 67 2 (.slice p (sel (a.late.take k) ch).length c) (sel (a.late.take k) ch).length (pieceCells (sel (a.late.take k) ch)) ∧ PicksIn wr pb pg (ch.drop k) ∧ Keeps wc wr (fun i => i = pb))
      (fun _ i _ => a.late.length - (intOf i).toNat)
    case atStart => exact ⟨0, none, 0, Nat.zero_le _, rfl, rfl, World.ownsRow_nil _ _ _ _, hpk4, Keeps.refl _ _⟩
    case round =>
      obtain ⟨k, p, c, hk, rfl, rfl, hrow, hpk5, hkw⟩ := hrel
      have hsz5 : wc.heap.size ≤ wr.heap.size := hkw.size
      have hsl := sel_length (a.late.take k) ch
      have hsl2 : (a.late.take k).length ≤ k := List.length_take_le _ _
      by_cases hlt : k < a.late.length
      · have hstep := sel_take_succ a.late ch k hlt
        rcases hp.2 with ⟨e, h0⟩ | ⟨g, cap, cur, e, _, hg, hcap, hcm, hcs, htk⟩
        · exfalso; omega
        cases e
        have hcells := hp.cells (g := g) rfl
        have hgp : ¬ g = pb := fun e => hpp (by rw [← e]; rfl)
        have hcell : ∀ j u, (pieceCells a.late)[j]? = some u → wr.cell? ⟨g, j, none⟩ = some u := fun j u hu => by
          have h1 := hcells j u hu
          rw [add_zero] at h1
          exact hkw.cell (k4.cell h1 id) hgp
        have e0 := hcell _ _ (pieceCells_at a.late k hlt).1
        have e1 := hcell _ _ (pieceCells_at a.late k hlt).2
        have HST := hide hstep
        clear hcell hcells hg hcs htk hstep
        have hpick : pickOf ((ch.drop k).headD 0) 2 = 1 ∨ ¬ pickOf ((ch.drop k).headD 0) 2 = 1 := by omega
        have hpt : (ch.drop k).tail = ch.drop (k + 1) := tail_drop ch k
        rcases hpick with hpick | hpick
        · have HP := hide hpick
          clear hpick
          go_wp2_with (first
            | (go_at_call 25; refine (nextIn_some 2 (by omega) (by omega) (hpk5.keep (Keeps.alloc wr _ (fun _ => False)) id id)).mono ?_; rintro e w5 ⟨q, hq, rfl, hpk6, hk6⟩; rw [hpt] at hpk6; have hq1 : ((q : Int) == 1) = true := (by rw [hq.out, HP.out]; rfl); have hbx := hk6.same (heap_alloc_top wr _) (by omega); have b0 := cell_of_heap (o := 0) hbx; have b1 := cell_of_heap (o := 1) hbx; simp at b0 b1; clear hbx; have hrow5 := hk6.row (hrow.alloc _) (fun g' hg' e => (by have := (hrow.lt g' hg').1; omega)); have hs6 := hk6.size)
            | (at_builtin; refine wpList_append_own_sl _ rfl (.tmp 32) (.tmp 34) 49 rfl wc.heap.size 67 i0 pieceZ 2 16 Try.underlying49 hi hz0 hz1 hz2 rfl (by decide) _ _ _ rfl (hrow5.alloc _) ⟨w5.heap.size, 0, none⟩ 1 1 (pieceCells [a.late[k]]) rfl rfl (cells_at (heap_alloc_top w5 _) rfl) (piece_one _) (by unfold maxLen; omega) (by omega) (by simp at hs6 ⊢; omega) ?_; intro p3 cp3 w3 hown3 hg3 hloc3)
            | go_in)
          go_roundw
          case rel =>
            have hst := HST.out
            rw [if_pos HP.out] at hst
            have hne : ∀ x, x < wc.heap.size → ¬ some x = (Value.slice p (sel (a.late.take k) ch).length c).ownBlock := fun x hx e => by have := (hrow.lt x e.symm).1; omega
            have hpk7 := (hpk6.keep (Keeps.alloc w5 _ (fun _ => False)) id id).keep (Keeps.grown hg3) (hne pb (by omega)) (hne pg (by omega))
            have hk7 : Keeps wc w3 (fun i => i = pb) := (((hkw.more _).trans hk6 (fun _ _ h => h)).more _).grow hg3 (fun x e hx => absurd e.symm (hne x hx))
            refine ⟨k + 1, p3, cp3, by omega, by go_num, by rw [hst, List.length_append]; rfl, ?_, hpk7, hk7⟩
            rw [hst, List.length_append, pieceCells_snoc]
            exact hown3
          case measure => simp [intOf]; omega
        · have HP := hide hpick
          clear hpick
          go_wp2_with (first
            | (go_at_call 25; refine (nextIn_some 2 (by omega) (by omega) (hpk5.keep (Keeps.alloc wr _ (fun _ => False)) id id)).mono ?_; rintro e w5 ⟨q, hq, rfl, hpk6, hk6⟩; rw [hpt] at hpk6; have hq1 : ((q : Int) == 1) = false := beq_eq_false_iff_ne.2 (fun e => HP.out (by rw [← hq.out]; omega)); have hrow5 := hk6.row (hrow.alloc _) (fun g' hg' e => (by have := (hrow.lt g' hg').1; omega)))
            | go_in)
          go_roundw
          case rel => 
            have hst := HST.out
            rw [if_neg HP.out, List.append_nil] at hst
            exact ⟨k + 1, p, c, by omega, by go_num, by rw [hst], by rw [hst]; exact hrow5, hpk6, ((hkw.more _).trans hk6 (fun _ _ h => h))⟩
          case measure => simp [intOf]; omega
      · have hke : k = a.late.length := by omega
        subst hke
        rw [List.take_length] at hrow hsl ⊢
        obtain ⟨T, hT⟩ : ∃ T, T = sel a.late ch := ⟨_, rfl⟩
        rw [← hT] at hrow hsl ⊢
        obtain ⟨t, ht⟩ : ∃ t : Bool, t = decide (pickOf ((ch.drop a.late.length).headD 0) 2 = 1) := ⟨_, rfl⟩
        have hok : OkP a.safe T a.bytes.length := by rw [hT]; exact hchain.sel ch
        have hfill := fill_ok a.bytes t T (a.bytes.take a.safe) a.safe hok (by simp; omega)
        have hk4r : Keeps w wr (fun i => i = pb) := (k4.mono (fun _ _ h => h.elim)).trans hkw (fun _ _ h => h)
        have hbrow := hkw.row hown4 (fun g' hg' e => (by have := (hown4.lt g' hg').1; omega))
        have hbne : ∀ g', (Value.slice p4 a.safe c4).ownBlock = some g' → (Value.slice p T.length c).ownBlock ≠ some g' := fun g' hg' e => by have h1 := (hown4.lt g' hg').2; have h2 := (hrow.lt g' e).1; omega
        have HT := hide hT
        have Ht := hide ht
        have HF := hide hfill
        clear hT ht hfill hok
        go_wp2_with fail
        go_loopw [4, 39] (fun v i wq => ∃ (k : Nat) (pq : Option Addr) (cq : Nat), k ≤ T.length ∧ i = .int .i64 k ∧ v = .slice pq (fillTo a.bytes (a.bytes.take a.safe) T t k).length cq ∧
            wq.ownsRow w.heap.size 5 1 (.slice pq (fillTo a.bytes (a.bytes.take a.safe) T t k).length cq) (fillTo a.bytes (a.bytes.take a.safe) T t k).length ((fillTo a.bytes (a.bytes.take a.safe) T t k).map byteV) ∧
            (∀ g', (Value.slice pq (fillTo a.bytes (a.bytes.take a.safe) T t k).length cq).ownBlock = some g' → (Value.slice p T.length c).ownBlock ≠ some g') ∧
            wq.ownsRow wc.heap.size 67 2 (.slice p T.length c) T.length (pieceCells T) ∧ PicksIn wq pb pg (if k < T.length ∨ T = [] then ch.drop a.late.length else (ch.drop a.late.length).tail) ∧ Keeps w wq (fun i => i = pb))
          (fun _ i _ => T.length - (intOf i).toNat)
        case atStart =>
          have hl0 : (a.bytes.take a.safe).length = a.safe := by simp; omega
          refine ⟨0, p4, c4, Nat.zero_le _, rfl, by simp [fillTo, hl0], by simp only [fillTo, List.take_zero, List.foldl_nil, hl0]; exact hbrow, by simp only [fillTo, List.take_zero, List.foldl_nil, hl0]; exact hbne, hrow, ?_, hk4r⟩
          have : (0 < T.length ∨ T = []) := by cases T <;> simp
          rw [if_pos this]
          exact hpk5
        case round =>
          obtain ⟨k, pq, cq, hk, rfl, rfl, hbr, hbn, htr, hpq, hkq⟩ := hrel
          by_cases hlt2 : k < T.length
          · have hf := HF.out k hlt2
            have hfs := fillTo_succ a.bytes (a.bytes.take a.safe) T t k hlt2
            have hpc := pieceCells_at T k hlt2
            have hif : (k < T.length ∨ T = []) := .inl hlt2
            rw [if_pos hif] at hpq
            obtain ⟨x1, hx1⟩ : ∃ x1, x1 = T[k].1 := ⟨_, rfl⟩
            obtain ⟨x2, hx2⟩ : ∃ x2, x2 = T[k].2 := ⟨_, rfl⟩
            obtain ⟨B, hB⟩ : ∃ B, B = fillTo a.bytes (a.bytes.take a.safe) T t k := ⟨_, rfl⟩
            rw [← hB] at hbr hbn hf hfs ⊢
            rw [← hx1, ← hx2] at hf
            rw [← hx1, ← hx2] at hpc
            obtain ⟨G, hG⟩ : ∃ G, x1 = B.length + G := ⟨x1 - B.length, by omega⟩
            have hsub : (x1 : Int) - (B.length : Int) = (G : Int) := by omega
            rcases htr.2 with ⟨e, h0⟩ | ⟨gt, capt, curt, e, hgtb, hgt, hcapt, hcmt, hcst, htkt⟩
            · exfalso; omega
            cases e
            rcases hb.2 with ⟨e, h0⟩ | ⟨gb, capb, curb, e, _, hgb, hcapb, hcmb, hcsb, htkb⟩
            · exfalso; omega
            subst e
            have hbcells := hb.cells (g := gb) rfl
            have hgbp : ¬ gb = pb := fun e => hbp (by rw [← e]; rfl)
            have hgbl : gb < w.heap.size := lt_of_heap hgb
            have htcells := htr.cells (g := gt) rfl
            have t0 := htcells _ _ hpc.1
            have t1 := htcells _ _ hpc.2
            rw [add_zero] at t0 t1
            have hszq : w.heap.size ≤ wr.heap.size := hkq.size
            have hdq := hkq.same HD.out hfp
            have q0 := cell_of_heap (o := 0) hdq
            simp at q0
            have HQ := hide hdq
            have HX := hide (And.intro hx1 hx2)
            have HB := hide hB
            have HG := hide hG
            have HFS := hide hfs
            obtain ⟨hf1, hf2, hf3⟩ := hf
            unfold maxLen at hcmb hcmt
            clear hdq hpc hx1 hx2 hB hG hfs htcells hgt hcst htkt hgb hcsb htkb
            by_cases hlast : k + 1 = T.length
            · have hnl : ((k : Int) == (T.length : Int) - 1) = true := beq_iff_eq.2 (by omega)
              have hneb : ¬ wr.heap.size = pb := by omega
              have hnr : ∀ g', (Value.slice pq B.length cq).ownBlock = some g' → ¬ g' = pb := fun g' hg' e => by have := (hbr.lt g' hg').1; omega
              have hntp : ∀ g', (Value.slice (some ⟨gt, 0, none⟩) T.length c).ownBlock = some g' → ¬ g' = pb := fun g' hg' e => by have := (htr.lt g' hg').1; omega
              have hpk0 : pickOf ((ch.drop a.late.length).headD 0) 2 = 1 ∨ ¬ pickOf ((ch.drop a.late.length).headD 0) 2 = 1 := by omega
              rcases hpk0 with hpk1 | hpk1
              · obtain ⟨N, hN⟩ : ∃ N, N = x2 / 2 := ⟨_, rfl⟩
                have hNd : (x2 : Int) / 2 = (N : Int) := by omega
                have hNle : N ≤ x2 := by omega
                have HN := hide hN
                clear hN
                by_cases hN0 : 0 < N
                · have hN1 : (0 : Int) < (N : Int) := by omega
                  go_wp2_with (first
                    | (go_at_call 25; refine (nextIn_some 2 (by omega) (by omega) (hpq.keep (Keeps.alloc wr _ (fun _ => False)) id id)).mono ?_; rintro e w5 ⟨q, hq, rfl, hpk6, hkn⟩; have hq1 : ((q : Int) == 1) = true := (by rw [hq.out, hpk1]; rfl); have hbx := hkn.same (heap_alloc_top wr _) hneb; have b0 := cell_of_heap (o := 0) hbx; have b1 := cell_of_heap (o := 1) hbx; have fb1 := frozen_of_heap (o := 1) hbx; simp at b0 b1; have HBX := hide hbx; clear hbx; have hbr5 := hkn.row (hbr.alloc _) hnr; have htr5 := hkn.row (htr.alloc _) hntp; have hs5 := hkn.size; simp at hs5)
                    | (at_builtin; refine wpList_append_zeros _ rfl (.tmp 61) (.tmp 66) 27 3 rfl w.heap.size 5 j0 Try.underlying27 Try.underlying3 hj hy0 hy1 hy2 _ B.length (B.map byteV) rfl (row_setCell (p := ⟨wr.heap.size, 1, none⟩) hbr5 (fun g' hg' e => (by have e' : g' = wr.heap.size := e; have := (hbr.lt g' hg').2; omega)) _) G rfl (by omega) (by first | omega | (simp; omega) | (simp [World.setCell]; omega)) ?_; intro p6 cp6 w6 hown6 hg6 hloc6)
                    | go_in)
                  have hB0 : ∀ x, x < w.heap.size → ¬ some x = (Value.slice pq B.length cq).ownBlock := fun x hx e => by have := (hbr.lt x e.symm).1; omega
                  have hBt : ¬ some wr.heap.size = (Value.slice pq B.length cq).ownBlock := fun e => by have := (hbr.lt _ e.symm).2; omega
                  have k6 := Keeps.grown hg6
                  have hk6 : Keeps w w6 (fun i => i = pb) := (((hkq.more _).trans hkn (fun _ _ h => h)).setNew (p := ⟨wr.heap.size, 1, none⟩) (by exact hszq) _).grow hg6 (fun x e hx => absurd e.symm (hB0 x hx))
                  have hbx6 := k6.same (heap_setCell_at HBX.out _) hBt
                  have y0 := cell_of_heap (o := 0) hbx6
                  have y1 := cell_of_heap (o := 1) hbx6
                  have hd6 := hk6.same HD.out hfp
                  have z0 := cell_of_heap (o := 0) hd6
                  simp at y0 y1 z0
                  have hsrc : ∀ j u, (((a.bytes.drop x1).take N).map byteV)[j]? = some u → w6.drew.cell? ((⟨gb, x1, none⟩ : Addr).add j) = some u := cut_cells (fun j u hu => hk6.cell (hbcells j u hu) (by rw [add_block]; exact hgbp))
                  have hnlen : (((a.bytes.drop x1).take N).map byteV).length = N * 1 := by simp; omega
                  have hw2 : IntKind.i64.wrap ((x1 : Int) + (N : Nat)) = (x1 : Int) + (N : Nat) := wrap_i64 (by omega) (by omega)
                  have ht2 : ((x1 : Int) + (N : Nat)).toNat = x1 + N := by omega
                  have ha1 : (x1 : Int) ≤ (x1 : Int) + (N : Nat) := by omega
                  have ha2 : (x1 : Int) + (N : Nat) ≤ (capb : Int) := by omega
                  have ha3 : x1 ≤ capb := by omega
                  have hcx : ¬ capb = x1 := by omega
                  have hown6' : w6.drew.ownsRow w.heap.size 5 1 (.slice p6 (B.length + G) cp6) (B.length + G) (B.map byteV ++ List.replicate G (.int .u8 0)) := hown6
                  have hs6 : w.heap.size ≤ w6.drew.heap.size := hk6.size
                  clear hbx6 hd6
                  go_region_law (refine step_append_own_at rfl (.tmp 68) (.tmp 80) 27 rfl w.heap.size 5 j0 (.int .u8 0) 1 1 Try.underlying27 hj hy0 hy1 hy2 rfl (by decide) (.slice p6 (B.length + G) cp6) (B.length + G) (B.map byteV ++ List.replicate G (.int .u8 0)) rfl hown6' ⟨gb, x1, none⟩ N (capb - x1) (((a.bytes.drop x1).take N).map byteV) rfl hnlen hsrc (bytes_one _) (by unfold maxLen; omega) (by omega) hs6 ?_; intro p8 cp8 w8 hown8 hg8 hloc8)
                  all_goals
                    go_wp2
                    go_roundw
                    case rel =>
                      have hfs := HFS.out
                      rw [← HX.out.1, ← HX.out.2] at hfs
                      rw [if_pos hlast] at hfs
                      have htf : t = true := by rw [Ht.out]; exact decide_eq_true hpk1
                      have hsel : (if t = true then x2 / 2 else x2) = N := by rw [htf]; exact HN.out.symm
                      rw [hsel] at hfs
                      have hG : x1 - B.length = G := by have := HG.out; omega
                      simp only [addP, hG] at hfs
                      rw [if_pos (by omega)] at hfs
                      have hB1 : ∀ x, x < w.heap.size → ¬ some x = (Value.slice p6 (B.length + G) cp6).ownBlock := fun x hx e => by have := (hown6.lt x e.symm).1; omega
                      have hk8 : Keeps w w8 (fun i => i = pb) := hk6.draw.grow hg8 (fun x e hx => absurd e.symm (hB1 x hx))
                      have hl8 : (B ++ List.replicate G 0 ++ (a.bytes.drop x1).take N).length = B.length + G + N := by simp; omega
                      have hgtl : gt < wr.heap.size := (htr.lt gt rfl).2
                      have hne6 : ∀ g', (Value.slice p6 (B.length + G) cp6).ownBlock = some g' → ¬ g' = gt := fun g' hg' e => by
                        subst e
                        rcases hloc6 with e6 | e6
                        · exact hbn g' (e6 ▸ hg') rfl
                        · have := Option.some.inj (hg'.symm.trans e6); (try simp at this); omega
                      refine ⟨k + 1, p8, cp8, by omega, by go_num, by rw [hfs, hl8], by rw [hfs, hl8, ← fill_map]; exact hown8, ?_, ?_, ?_, hk8⟩
                      · rw [hfs, hl8]
                        intro g' hg' e
                        have e' : gt = g' := Option.some.inj e
                        rcases hloc8 with e8 | e8
                        · exact hne6 g' (e8 ▸ hg') e'.symm
                        · have h9 := Option.some.inj (hg'.symm.trans e8)
                          have h10 := hg6.size
                          simp at h9 h10
                          omega
                      · refine (Keeps.grown hg8).row (k6.row (row_setCell (p := ⟨wr.heap.size, 1, none⟩) htr5 (fun g' hg' e => (by have e' : g' = wr.heap.size := e; have := (htr.lt g' hg').2; omega)) _) (fun g' hg' e => hbn g' e.symm hg')) (fun g' hg' e => hne6 g' e.symm (Option.some.inj hg').symm)
                      · rw [if_neg (by intro h; rcases h with h | h; omega; rw [h] at hlt2; simp at hlt2)]
                        exact (((hpk6.keep (Keeps.setCell w5 ⟨wr.heap.size, 1, none⟩ _) (fun e => (by have e' : pb = wr.heap.size := e; omega)) (fun e => (by have e' : pg = wr.heap.size := e; omega))).keep k6 (hB0 pb hpbl) (hB0 pg hpgl)).keep (Keeps.drew w6 (fun _ => False)) id id).keep (Keeps.grown hg8) (hB1 pb hpbl) (hB1 pg hpgl)
                    case measure => simp [intOf]; omega

                · have hN1 : ¬ (0 : Int) < (N : Int) := by omega
                  go_wp2_with (first
                    | (go_at_call 25; refine (nextIn_some 2 (by omega) (by omega) (hpq.keep (Keeps.alloc wr _ (fun _ => False)) id id)).mono ?_; rintro e w5 ⟨q, hq, rfl, hpk6, hkn⟩; have hq1 : ((q : Int) == 1) = true := (by rw [hq.out, hpk1]; rfl); have hbx := hkn.same (heap_alloc_top wr _) hneb; have b0 := cell_of_heap (o := 0) hbx; have b1 := cell_of_heap (o := 1) hbx; have fb1 := frozen_of_heap (o := 1) hbx; simp at b0 b1; have HBX := hide hbx; clear hbx; have hbr5 := hkn.row (hbr.alloc _) hnr; have htr5 := hkn.row (htr.alloc _) hntp; have hs5 := hkn.size; simp at hs5)
                    | go_in)
                  go_roundw
                  case rel =>
                    have hfs := HFS.out
                    rw [← HX.out.1, ← HX.out.2, if_pos hlast] at hfs
                    have htf : t = true := by rw [Ht.out]; exact decide_eq_true hpk1
                    have hsel : (if t = true then x2 / 2 else x2) = N := by rw [htf]; exact HN.out.symm
                    rw [hsel] at hfs
                    simp only [addP] at hfs
                    rw [if_neg (by omega)] at hfs
                    refine ⟨k + 1, pq, cq, by omega, by go_num, by rw [hfs], ?_, by rw [hfs]; exact hbn, row_setCell (p := ⟨wr.heap.size, 1, none⟩) htr5 (fun g' hg' e => (by have e' : g' = wr.heap.size := e; have := (htr.lt g' hg').2; omega)) _, ?_, (((hkq.more _).trans hkn (fun _ _ h => h)).setNew (p := ⟨wr.heap.size, 1, none⟩) (by exact hszq) _)⟩
                    · rw [hfs]; exact row_setCell (p := ⟨wr.heap.size, 1, none⟩) hbr5 (fun g' hg' e => (by have e' : g' = wr.heap.size := e; have := (hbr.lt g' hg').2; omega)) _
                    · rw [if_neg (by intro h; rcases h with h | h; omega; rw [h] at hlt2; simp at hlt2)]
                      exact hpk6.keep (Keeps.setCell w5 ⟨wr.heap.size, 1, none⟩ _) (fun e => (by have e' : pb = wr.heap.size := e; omega)) (fun e => (by have e' : pg = wr.heap.size := e; omega))
                  case measure => simp [intOf]; omega
              · have hpk2 := hpk1
                go_wp2_with (first
                  | (go_at_call 25; refine (nextIn_some 2 (by omega) (by omega) (hpq.keep (Keeps.alloc wr _ (fun _ => False)) id id)).mono ?_; rintro e w5 ⟨q, hq, rfl, hpk6, hkn⟩; have hq1 : ((q : Int) == 1) = false := beq_eq_false_iff_ne.2 (fun e => hpk1 (by rw [← hq.out]; omega)); have hbx := hkn.same (heap_alloc_top wr _) hneb; have b0 := cell_of_heap (o := 0) hbx; have b1 := cell_of_heap (o := 1) hbx; have fb1 := frozen_of_heap (o := 1) hbx; simp at b0 b1; have HBX := hide hbx; clear hbx; have hbr5 := hkn.row (hbr.alloc _) hnr; have htr5 := hkn.row (htr.alloc _) hntp; have hs5 := hkn.size; simp at hs5)
                  | (at_builtin; refine wpList_append_zeros _ rfl (.tmp 61) (.tmp 66) 27 3 rfl w.heap.size 5 j0 Try.underlying27 Try.underlying3 hj hy0 hy1 hy2 _ B.length (B.map byteV) rfl hbr5 G rfl (by omega) (by first | omega | (simp; omega) | (simp [World.setCell]; omega)) ?_; intro p6 cp6 w6 hown6 hg6 hloc6)
                  | go_in)
                have hB0 : ∀ x, x < w.heap.size → ¬ some x = (Value.slice pq B.length cq).ownBlock := fun x hx e => by have := (hbr.lt x e.symm).1; omega
                have hBt : ¬ some wr.heap.size = (Value.slice pq B.length cq).ownBlock := fun e => by have := (hbr.lt _ e.symm).2; omega
                have k6 := Keeps.grown hg6
                have hk6 : Keeps w w6 (fun i => i = pb) := ((hkq.more _).trans hkn (fun _ _ h => h)).grow hg6 (fun x e hx => absurd e.symm (hB0 x hx))
                have hbx6 := k6.same HBX.out hBt
                have y0 := cell_of_heap (o := 0) hbx6
                have y1 := cell_of_heap (o := 1) hbx6
                have hd6 := hk6.same HD.out hfp
                have z0 := cell_of_heap (o := 0) hd6
                simp at y0 y1 z0
                have hsrc : ∀ j u, (((a.bytes.drop x1).take x2).map byteV)[j]? = some u → w6.drew.cell? ((⟨gb, x1, none⟩ : Addr).add j) = some u := cut_cells (fun j u hu => hk6.cell (hbcells j u hu) (by rw [add_block]; exact hgbp))
                have hnlen : (((a.bytes.drop x1).take x2).map byteV).length = x2 * 1 := by simp; omega
                have hw2 : IntKind.i64.wrap ((x1 : Int) + (x2 : Nat)) = (x1 : Int) + (x2 : Nat) := wrap_i64 (by omega) (by omega)
                have ht2 : ((x1 : Int) + (x2 : Nat)).toNat = x1 + x2 := by omega
                have ha1 : (x1 : Int) ≤ (x1 : Int) + (x2 : Nat) := by omega
                have ha2 : (x1 : Int) + (x2 : Nat) ≤ (capb : Int) := by omega
                have ha3 : x1 ≤ capb := by omega
                have hcx : ¬ capb = x1 := by omega
                have hown6' : w6.drew.ownsRow w.heap.size 5 1 (.slice p6 (B.length + G) cp6) (B.length + G) (B.map byteV ++ List.replicate G (.int .u8 0)) := hown6
                have hs6 : w.heap.size ≤ w6.drew.heap.size := hk6.size
                clear hbx6 hd6
                go_region_law (refine step_append_own_at rfl (.tmp 68) (.tmp 80) 27 rfl w.heap.size 5 j0 (.int .u8 0) 1 1 Try.underlying27 hj hy0 hy1 hy2 rfl (by decide) (.slice p6 (B.length + G) cp6) (B.length + G) (B.map byteV ++ List.replicate G (.int .u8 0)) rfl hown6' ⟨gb, x1, none⟩ x2 (capb - x1) (((a.bytes.drop x1).take x2).map byteV) rfl hnlen hsrc (bytes_one _) (by unfold maxLen; omega) (by omega) hs6 ?_; intro p8 cp8 w8 hown8 hg8 hloc8)
                all_goals
                  go_wp2
                  go_roundw
                  case rel =>
                    have hfs := HFS.out
                    rw [← HX.out.1, ← HX.out.2] at hfs
                    rw [if_pos hlast] at hfs
                    have htf : t = false := by rw [Ht.out]; exact decide_eq_false hpk1
                    have hsel : (if t = true then x2 / 2 else x2) = x2 := by rw [htf]; rfl
                    rw [hsel] at hfs
                    have hG : x1 - B.length = G := by have := HG.out; omega
                    simp only [addP, hG] at hfs
                    rw [if_pos (by omega)] at hfs
                    have hB1 : ∀ x, x < w.heap.size → ¬ some x = (Value.slice p6 (B.length + G) cp6).ownBlock := fun x hx e => by have := (hown6.lt x e.symm).1; omega
                    have hk8 : Keeps w w8 (fun i => i = pb) := hk6.draw.grow hg8 (fun x e hx => absurd e.symm (hB1 x hx))
                    have hl8 : (B ++ List.replicate G 0 ++ (a.bytes.drop x1).take x2).length = B.length + G + x2 := by simp; omega
                    have hgtl : gt < wr.heap.size := (htr.lt gt rfl).2
                    have hne6 : ∀ g', (Value.slice p6 (B.length + G) cp6).ownBlock = some g' → ¬ g' = gt := fun g' hg' e => by
                      subst e
                      rcases hloc6 with e6 | e6
                      · exact hbn g' (e6 ▸ hg') rfl
                      · have := Option.some.inj (hg'.symm.trans e6); (try simp at this); omega
                    refine ⟨k + 1, p8, cp8, by omega, by go_num, by rw [hfs, hl8], by rw [hfs, hl8, ← fill_map]; exact hown8, ?_, ?_, ?_, hk8⟩
                    · rw [hfs, hl8]
                      intro g' hg' e
                      have e' : gt = g' := Option.some.inj e
                      rcases hloc8 with e8 | e8
                      · exact hne6 g' (e8 ▸ hg') e'.symm
                      · have h9 := Option.some.inj (hg'.symm.trans e8)
                        have h10 := hg6.size
                        simp at h9 h10
                        omega
                    · refine (Keeps.grown hg8).row (k6.row htr5 (fun g' hg' e => hbn g' e.symm hg')) (fun g' hg' e => hne6 g' e.symm (Option.some.inj hg').symm)
                    · rw [if_neg (by intro h; rcases h with h | h; omega; rw [h] at hlt2; simp at hlt2)]
                      exact ((hpk6.keep k6 (hB0 pb hpbl) (hB0 pg hpgl)).keep (Keeps.drew w6 (fun _ => False)) id id).keep (Keeps.grown hg8) (hB1 pb hpbl) (hB1 pg hpgl)
                  case measure => simp [intOf]; omega

            · have hnl : ((k : Int) == (T.length : Int) - 1) = false := beq_eq_false_iff_ne.2 (by omega)
              go_wp2_with (first
                | (at_builtin; refine wpList_append_zeros _ rfl (.tmp 61) (.tmp 66) 27 3 rfl w.heap.size 5 j0 Try.underlying27 Try.underlying3 hj hy0 hy1 hy2 _ B.length (B.map byteV) rfl (hbr.alloc _) G rfl (by omega) (by first | omega | (simp; omega) | (simp [World.setCell]; omega)) ?_; intro p6 cp6 w6 hown6 hg6 hloc6)
                | go_in)
              have hB0 : ∀ x, x < w.heap.size → ¬ some x = (Value.slice pq B.length cq).ownBlock := fun x hx e => by have := (hbr.lt x e.symm).1; omega
              have hBt : ¬ some wr.heap.size = (Value.slice pq B.length cq).ownBlock := fun e => by have := (hbr.lt _ e.symm).2; omega
              have k6 := Keeps.grown hg6
              have hk6 : Keeps w w6 (fun i => i = pb) := (hkq.more _).grow hg6 (fun x e hx => absurd e.symm (hB0 x hx))
              have hbx6 := k6.same (heap_alloc_top wr _) hBt
              have y0 := cell_of_heap (o := 0) hbx6
              have y1 := cell_of_heap (o := 1) hbx6
              have hd6 := hk6.same HD.out hfp
              have z0 := cell_of_heap (o := 0) hd6
              simp at y0 y1 z0
              have hsrc : ∀ j u, (((a.bytes.drop x1).take x2).map byteV)[j]? = some u → w6.drew.cell? ((⟨gb, x1, none⟩ : Addr).add j) = some u := cut_cells (fun j u hu => hk6.cell (hbcells j u hu) (by rw [add_block]; exact hgbp))
              have hnlen : (((a.bytes.drop x1).take x2).map byteV).length = x2 * 1 := by simp; omega
              have hw2 : IntKind.i64.wrap ((x1 : Int) + (x2 : Nat)) = (x1 : Int) + (x2 : Nat) := wrap_i64 (by omega) (by omega)
              have ht2 : ((x1 : Int) + (x2 : Nat)).toNat = x1 + x2 := by omega
              have ha1 : (x1 : Int) ≤ (x1 : Int) + (x2 : Nat) := by omega
              have ha2 : (x1 : Int) + (x2 : Nat) ≤ (capb : Int) := by omega
              have ha3 : x1 ≤ capb := by omega
              have hcx : ¬ capb = x1 := by omega
              have hown6' : w6.drew.ownsRow w.heap.size 5 1 (.slice p6 (B.length + G) cp6) (B.length + G) (B.map byteV ++ List.replicate G (.int .u8 0)) := hown6
              have hs6 : w.heap.size ≤ w6.drew.heap.size := hk6.size
              clear hbx6 hd6
              go_region_law (refine step_append_own_at rfl (.tmp 68) (.tmp 80) 27 rfl w.heap.size 5 j0 (.int .u8 0) 1 1 Try.underlying27 hj hy0 hy1 hy2 rfl (by decide) (.slice p6 (B.length + G) cp6) (B.length + G) (B.map byteV ++ List.replicate G (.int .u8 0)) rfl hown6' ⟨gb, x1, none⟩ x2 (capb - x1) (((a.bytes.drop x1).take x2).map byteV) rfl hnlen hsrc (bytes_one _) (by unfold maxLen; omega) (by omega) hs6 ?_; intro p8 cp8 w8 hown8 hg8 hloc8)
              all_goals
                go_wp2
                go_roundw
                case rel =>
                  have hfs := HFS.out
                  rw [← HX.out.1, ← HX.out.2] at hfs
                  rw [if_neg hlast] at hfs
                  have hTk : T[k] = (x1, x2) := by rw [HX.out.1, HX.out.2]
                  rw [hTk] at hfs
                  have hG : x1 - B.length = G := by have := HG.out; omega
                  simp only [addP, hG] at hfs
                  rw [if_pos (by omega)] at hfs
                  have hB1 : ∀ x, x < w.heap.size → ¬ some x = (Value.slice p6 (B.length + G) cp6).ownBlock := fun x hx e => by have := (hown6.lt x e.symm).1; omega
                  have hk8 : Keeps w w8 (fun i => i = pb) := hk6.draw.grow hg8 (fun x e hx => absurd e.symm (hB1 x hx))
                  have hl8 : (B ++ List.replicate G 0 ++ (a.bytes.drop x1).take x2).length = B.length + G + x2 := by simp; omega
                  have hgtl : gt < wr.heap.size := (htr.lt gt rfl).2
                  have hne6 : ∀ g', (Value.slice p6 (B.length + G) cp6).ownBlock = some g' → ¬ g' = gt := fun g' hg' e => by
                    subst e
                    rcases hloc6 with e6 | e6
                    · exact hbn g' (e6 ▸ hg') rfl
                    · have := Option.some.inj (hg'.symm.trans e6); (try simp at this); omega
                  refine ⟨k + 1, p8, cp8, by omega, by go_num, by rw [hfs, hl8], by rw [hfs, hl8, ← fill_map]; exact hown8, ?_, ?_, ?_, hk8⟩
                  · rw [hfs, hl8]
                    intro g' hg' e
                    have e' : gt = g' := Option.some.inj e
                    rcases hloc8 with e8 | e8
                    · exact hne6 g' (e8 ▸ hg') e'.symm
                    · have h9 := Option.some.inj (hg'.symm.trans e8)
                      have h10 := hg6.size
                      simp at h9 h10
                      omega
                  · refine (Keeps.grown hg8).row (k6.row (htr.alloc _) (fun g' hg' e => hbn g' e.symm hg')) (fun g' hg' e => hne6 g' e.symm (Option.some.inj hg').symm)
                  · rw [if_pos (Or.inl (by omega))]
                    exact (((hpq.keep (Keeps.alloc wr _ (fun _ => False)) id id).keep k6 (hB0 pb hpbl) (hB0 pg hpgl)).keep (Keeps.drew w6 (fun _ => False)) id id).keep (Keeps.grown hg8) (hB1 pb hpbl) (hB1 pg hpgl)
                case measure => simp [intOf]; omega
          · have hke : k = T.length := by omega
            subst hke
            have hdq := hkq.same HD.out hfp
            have q0 := cell_of_heap (o := 0) hdq
            have q1 := cell_of_heap (o := 1) hdq
            have q2 := cell_of_heap (o := 2) hdq
            have g0 := frozen_of_heap (o := 0) hdq
            have g1 := frozen_of_heap (o := 1) hdq
            have g2 := frozen_of_heap (o := 2) hdq
            simp at q0 q1 q2
            have HQ := hide hdq
            clear hdq
            have hend : a.settled ch = ⟨fillTo a.bytes (a.bytes.take a.safe) T t T.length, (fillTo a.bytes (a.bytes.take a.safe) T t T.length).length, []⟩ := by rw [HT.out, Ht.out]; rfl
            have hleft : a.left ch = (if T.length < T.length ∨ T = [] then ch.drop a.late.length else (ch.drop a.late.length).tail) := by
              unfold FileA.left
              rw [← HT.out]
              simp
            have HE := hide hend
            have HLf := hide hleft
            clear hend hleft
            go_wp2
            go_end0
            have kf := ((Keeps.setCell wr ⟨f, 0, none⟩ (.slice pq (fillTo a.bytes (a.bytes.take a.safe) T t T.length).length cq)).set (p := ⟨f, 1, none⟩) (by exact rfl) (.int .i64 (fillTo a.bytes (a.bytes.take a.safe) T t T.length).length)).set (p := ⟨f, 2, none⟩) (by exact rfl) (.slice none 0 0)
            rw [HE.out, HLf.out]
            exact ⟨rfl, _, by rw [heap_setCell_at (heap_setCell_at (heap_setCell_at HQ.out _) _)]; rfl, kf.row hbr (fun g' hg' e => (by have := (hbr.lt g' hg').1; have e' : g' = f := e; omega)), hpq.keep kf hfp.symm hfg.symm, ((hkq.mono (fun _ _ h => .inr h)).trans kf (fun _ _ h => .inl h))⟩
end Go.Proofs.Ytnipbplghijdmaa
