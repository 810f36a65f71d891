/-
  Sync, Rename, Remove and Size of the disk, over a disk that is as told.
-/
import Derived.Test.YtnipbplghijdmaaOps1
import Derived.Test.YtnipbplghijdmaaPut
namespace Go.Proofs.Ytnipbplghijdmaa
open Go.RowKit Go.Maps Go.WideShapes
set_option linter.unusedVariables false

/-- 'd.names[name]' (without 'ok'). -/
theorem wpList_lookup_file (w : World) {ops : Array Oper} {rest : List Oper} {o : Oper} {a : Act} {Q : Exit → Act → World → Prop}
    (hg : o.guard = none) (m x : Operand) (hop : o.op = Op.lookup 42 m x false) (b n : Nat) (D : DataW Nat)
    (hm : a.eval m = .map (some b)) (hown : w.ownsMap Try.prog 9 fileElem b n D) (key : Value) (kl : Lit) (hx : a.eval x = key) (hkey : keyOf Try.prog 9 key = some kl)
    (u : Value) (hu : ptrV (fileOf (D.atKey kl .nil)) = u)
    (hK : wpList Try.prog ops Q rest (a.put o.dst u) w) :
    wpList Try.prog ops Q (o :: rest) a w := by
  refine wpList_plain hg fun K' hK' => ?_
  obtain ⟨v, ps, hrun, hv⟩ := hown.lookup law Try.underlying42 (zeroPFile w) (zd := .nil) (zp := []) rfl hkey
  obtain ⟨e, _⟩ := fileElem_inv hv
  have e2 : v = u := e.trans hu
  subst e2
  unfold Oper.wp
  simp [execOp, hop, hm, hx, hrun, Result.andThen]
  exact hK' _ _ hK

/-- The file of a name. -/
def DiskA.at (S : DiskA) (nm : Str) : Option Nat := fileOf (S.names.atKey (.string nm) .nil)

theorem Rep.at {w : World} {ρ : Nat → Role} {d : Nat} {S : DiskA} (R : Rep w ρ d S) {nm : Str} {f : Nat} (h : S.at nm = some f) : ∃ a, S.files f = some a := by
  have hh : Maps.has S.names (.string nm) = true := by
    cases e : Maps.has S.names (.string nm)
    · unfold DiskA.at at h; rw [atKey_of_not_has e] at h; cases h
    · rfl
  obtain ⟨f', a, h1, h2⟩ := R.namesTo _ hh
  unfold DiskA.at at h
  rw [h1] at h
  cases h
  exact ⟨a, h2⟩

theorem Rep.setFile {w w' : World} {ρ ρ' : Nat → Role} {d f : Nat} {S : DiskA} {a a' : FileA} {T : Nat → Prop} (R : Rep w ρ d S) (hf : S.files f = some a) (hk : Keeps w w' T)
    (hT : ∀ i, i < w.heap.size → T i → i = f ∨ ρ i = .bytes f ∨ ρ i = .pieces f) (hρ : ∀ i, i < w.heap.size → ρ' i = ρ i) (hlt' : ∀ i, ρ' i ≠ .none → i < w'.heap.size) (hok : FileOk w' ρ' f a') :
    Rep w' ρ' d (S.withFile f a') ∧ Grew w ρ w' ρ' := by
  obtain ⟨⟨nm, sm, lv, hd, rn, rs, on, os, ol, rl⟩, rd, rf, nt, st, lo, hlt, fb, cb⟩ := R
  have hff := (rf f a hf).1
  have hn : ∀ i, i < w.heap.size → ρ i ≠ .file → ρ i ≠ .bytes f → ρ i ≠ .pieces f → ¬ T i := by
    intro i hi h1 h2 h3 ht
    rcases hT i hi ht with e | e | e
    · exact h1 (e ▸ hff)
    · exact h2 e
    · exact h3 e
  have hm : ∀ g b, S.files g = some b → ∃ b', (S.withFile f a').files g = some b' := by
    intro g b h
    by_cases e : g = f
    · exact ⟨a', by simp [DiskA.withFile, e]⟩
    · exact ⟨b, by simp [DiskA.withFile, e, h]⟩
  have ht : ∀ i r, ρ i = r → r ≠ .none → ρ' i = r := fun i r h hr => (hρ i (hlt i (by rw [h]; exact hr))).trans h
  have ld := hlt d (by rw [rd]; decide)
  have ln := hlt nm (by rw [rn]; decide)
  have ls := hlt sm (by rw [rs]; decide)
  refine ⟨⟨⟨nm, sm, lv, hk.same hd (hn d ld (by rw [rd]; decide) (by rw [rd]; exact fun h => by cases h) (by rw [rd]; exact fun h => by cases h)), ht _ _ rn (by decide), ht _ _ rs (by decide),
    hk.map on (hn nm ln (by rw [rn]; decide) (by rw [rn]; exact fun h => by cases h) (by rw [rn]; exact fun h => by cases h)), hk.map os (hn sm ls (by rw [rs]; decide) (by rw [rs]; exact fun h => by cases h) (by rw [rs]; exact fun h => by cases h)),
    hk.row ol (fun g hg => hn g (ol.lt g hg).2 (by rw [rl g hg]; decide) (by rw [rl g hg]; exact fun h => by cases h) (by rw [rl g hg]; exact fun h => by cases h)), fun g hg => ht _ _ (rl g hg) (by decide)⟩,
    ht _ _ rd (by decide), ?_, nt.mono hm, st.mono hm, fun c hc => (lo c hc).mono hm, hlt', fb, cb⟩, ⟨hk.mono (fun i hi h => ?_), hρ⟩⟩
  · intro g b hb
    simp only [DiskA.withFile] at hb
    split at hb
    · rename_i e
      cases hb
      subst e
      exact hok
    · rename_i e
      have hgo := rf g b hb
      have hgf := hgo.1
      refine hgo.keep hk hρ ?_ ?_ ?_
      · intro h
        rcases hT g (hlt g (by rw [hgf]; decide)) h with e1 | e1 | e1
        · exact e e1
        · rw [hgf] at e1; cases e1
        · rw [hgf] at e1; cases e1
      · intro i hi h
        rcases hT i (hlt i (by rw [hi]; exact fun h => by cases h)) h with e1 | e1 | e1
        · rw [e1, hff] at hi; cases hi
        · rw [hi] at e1; cases e1; exact e rfl
        · rw [hi] at e1; cases e1
      · intro i hi h
        rcases hT i (hlt i (by rw [hi]; exact fun h => by cases h)) h with e1 | e1 | e1
        · rw [e1, hff] at hi; cases hi
        · rw [hi] at e1; cases e1
        · rw [hi] at e1; cases e1; exact e rfl
  · rcases hT i hi h with e | e | e
    · rw [e, hff]; decide
    · rw [e]; exact fun h => by cases h
    · rw [e]; exact fun h => by cases h

/-! ### Sync -/
def FileA.synced (a : FileA) : FileA := { a with safe := a.bytes.length, late := [] }

set_option maxHeartbeats 400000 in
theorem sync_any {w : World} {ρ : Nat → Role} {d : Nat} {S : DiskA} (nm : Str) (R : Rep w ρ d S) (hn : nm.length < 1099511627776) :
    Calls Try.prog 7 #[.pointer (some ⟨d, 0, none⟩), strV nm] w fun e w' => ∃ ρ', Grew w ρ w' ρ' ∧
      ((S.bad = true ∧ e = .returned (.int .i64 1) ∧ Rep w' ρ' d (S.called true)) ∨
       (S.bad = false ∧ S.at nm = none ∧ e = .returned (.int .i64 2) ∧ Rep w' ρ' d (S.called true)) ∨
       (S.bad = false ∧ e = .returned (.int .i64 0) ∧ ∃ f a, S.at nm = some f ∧ S.files f = some a ∧ Rep w' ρ' d ((S.called true).withFile f a.synced))) := by
  have hkey := key_str hn
  have hB : S.bad = true ∨ S.bad = false := by cases S.bad <;> simp
  rcases hB with hB | hB
  · go_enter Try.func7, Try.ntmps7
    go_wp2_with (go_at_call 19; refine (call_any true R).mono ?_; rintro e w1 ⟨rfl, R1, G1⟩)
    go_ret
    exact ⟨ρ, G1, .inl ⟨hB, rfl, R1⟩⟩
  · have hAt : S.at nm = none ∨ ∃ f, S.at nm = some f := by cases S.at nm <;> simp
    rcases hAt with hA | ⟨f, hA⟩
    · have HA := hide hA
      clear hA
      go_enter Try.func7, Try.ntmps7
      go_wp2_with (first
        | (go_at_call 19; refine (call_any true R).mono ?_; rintro e w1 ⟨rfl, R1, G1⟩; obtain ⟨nb, sm, lv, hd, rn, rs, on, _⟩ := R1.mem; have c0 := cell_of_heap (o := 0) hd; simp at c0; clear hd)
        | (at_lookup; refine wpList_lookup_file _ rfl _ _ rfl nb _ _ rfl on _ _ rfl hkey (.pointer none) (congrArg ptrV HA.out) ?_)
        | go_in)
      go_ret
      exact ⟨ρ, G1, .inr (.inl ⟨hB, HA.out, rfl, R1⟩)⟩
    · obtain ⟨a, ha⟩ := R.at hA
      have HA := hide hA
      have HF := hide ha
      clear hA ha
      go_enter Try.func7, Try.ntmps7
      go_wp2_with (first
        | (go_at_call 19; refine (call_any true R).mono ?_; rintro e w1 ⟨rfl, R1, G1⟩; obtain ⟨nb, sm, lv, hd, rn, rs, on, _⟩ := R1.mem; have c0 := cell_of_heap (o := 0) hd; simp at c0; clear hd; obtain ⟨rf, bv, pv, hc, hb, rb, hp, rp⟩ := R1.files f a HF.out; obtain ⟨pb, cb, rfl⟩ := slice_of_row hb; have b0 := cell_of_heap (o := 0) hc; have b1 := cell_of_heap (o := 1) hc; have b2 := cell_of_heap (o := 2) hc; have g1 := frozen_of_heap (o := 1) hc; have g2 := frozen_of_heap (o := 2) hc; simp at b0 b1 b2; have HC := hide hc; clear hc)
        | (at_lookup; refine wpList_lookup_file _ rfl _ _ rfl nb _ _ rfl on _ _ rfl hkey (.pointer (some ⟨f, 0, none⟩)) (congrArg ptrV HA.out) ?_)
        | go_in)
      go_ret
      have k2 : Keeps w1 ((w1.setCell ⟨f, 1, none⟩ (.int .i64 a.bytes.length)).setCell ⟨f, 2, none⟩ (.slice none 0 0)) (fun i => i = f) := ((Keeps.refl w1 _).set (by exact rfl) _).set (by exact rfl) _
      have hn2 : ∀ g, (Value.slice pb a.bytes.length cb).ownBlock = some g → ¬ g = f := fun g hg e => by have := rb g hg; rw [e, rf] at this; cases this
      obtain ⟨R2, G2⟩ := R1.setFile (a' := a.synced) HF.out k2 (fun i _ h => .inl h) (fun _ _ => rfl) (fun i hi => Nat.lt_of_lt_of_le (R1.lt i hi) k2.size)
        ⟨rf, _, _, by rw [heap_setCell_at (heap_setCell_at HC.out _)]; rfl, k2.row hb hn2, rb, World.ownsRow_nil _ _ _ _, fun g hg => (by cases hg)⟩
      exact ⟨ρ, G1.trans G2, .inr (.inr ⟨hB, rfl, f, a, HA.out, HF.out, R2⟩)⟩

/-! ### Rename -/
set_option maxHeartbeats 400000 in
theorem rename_any {w : World} {ρ : Nat → Role} {d : Nat} {S : DiskA} (sr ds : Str) (R : Rep w ρ d S) (Z : Small S) (hs : sr.length < 1099511627776) (ht : ds.length < 1099511627776) :
    Calls Try.prog 9 #[.pointer (some ⟨d, 0, none⟩), strV sr, strV ds] w fun e w' => ∃ ρ', Grew w ρ w' ρ' ∧
      ((S.bad = true ∧ e = .returned (.int .i64 1) ∧ Rep w' ρ' d (S.called true)) ∨
       (S.bad = false ∧ (S.at sr = none ∨ ds = []) ∧ e = .returned (.int .i64 2) ∧ Rep w' ρ' d (S.called true)) ∨
       (S.bad = false ∧ ds ≠ [] ∧ e = .returned (.int .i64 0) ∧ ∃ f, S.at sr = some f ∧ Rep w' ρ' d ((S.called true).named ⟨[], sr, ds, some f⟩))) := by
  have hkey := key_str hs
  have hB : S.bad = true ∨ S.bad = false := by cases S.bad <;> simp
  rcases hB with hB | hB
  · go_enter Try.func9, Try.ntmps9
    go_wp2_with (go_at_call 19; refine (call_any true R).mono ?_; rintro e w1 ⟨rfl, R1, G1⟩)
    go_ret
    exact ⟨ρ, G1, .inl ⟨hB, rfl, R1⟩⟩
  · have hAt : S.at sr = none ∨ ∃ f, S.at sr = some f := by cases S.at sr <;> simp
    have hN : ds.isEmpty = true ∨ ds.isEmpty = false := by cases ds.isEmpty <;> simp
    rcases hAt with hA | ⟨f, hA⟩
    · have HA := hide hA
      clear hA hN
      go_enter Try.func9, Try.ntmps9
      go_wp2_with (first
        | (go_at_call 19; refine (call_any true R).mono ?_; rintro e w1 ⟨rfl, R1, G1⟩; obtain ⟨nb, sm, lv, hd, rn, rs, on, _⟩ := R1.mem; have c0 := cell_of_heap (o := 0) hd; simp at c0; clear hd)
        | (at_lookup; refine wpList_lookup_file _ rfl _ _ rfl nb _ _ rfl on _ _ rfl hkey (.pointer none) (congrArg ptrV HA.out) ?_)
        | go_in)
      go_ret
      exact ⟨ρ, G1, .inr (.inl ⟨hB, .inl HA.out, rfl, R1⟩)⟩
    · obtain ⟨a, ha⟩ := R.at hA
      have HA := hide hA
      have HF := hide ha
      clear hA ha
      rcases hN with hN | hN
      · go_enter Try.func9, Try.ntmps9
        go_wp2_with (first
          | (go_at_call 19; refine (call_any true R).mono ?_; rintro e w1 ⟨rfl, R1, G1⟩; obtain ⟨nb, sm, lv, hd, rn, rs, on, _⟩ := R1.mem; have c0 := cell_of_heap (o := 0) hd; simp at c0; clear hd)
          | (at_lookup; refine wpList_lookup_file _ rfl _ _ rfl nb _ _ rfl on _ _ rfl hkey (.pointer (some ⟨f, 0, none⟩)) (congrArg ptrV HA.out) ?_)
          | go_in)
        go_ret
        exact ⟨ρ, G1, .inr (.inl ⟨hB, .inr (by simpa using hN), rfl, R1⟩)⟩
      · go_enter Try.func9, Try.ntmps9
        go_wp2_with (first
          | (go_at_call 19; refine (call_any true R).mono ?_; rintro e w1 ⟨rfl, R1, G1⟩; obtain ⟨nb, sm, lv, hd, rn, rs, on, _⟩ := R1.mem; have c0 := cell_of_heap (o := 0) hd; simp at c0; clear hd)
          | (at_lookup; refine wpList_lookup_file _ rfl _ _ rfl nb _ _ rfl on _ _ rfl hkey (.pointer (some ⟨f, 0, none⟩)) (congrArg ptrV HA.out) ?_)
          | (go_at_call 20; refine (name_any [] sr ds (some f) R1 (Z.called true) ⟨by simp, hs, ht, fun _ => ⟨f, a, rfl, HF.out⟩⟩).mono ?_; rintro e w2 ⟨rfl, ρ2, R3, G3⟩)
          | go_in)
        go_ret
        exact ⟨ρ2, G1.trans G3, .inr (.inr ⟨hB, by simpa using hN, rfl, f, HA.out, R3⟩)⟩

/-! ### Remove -/
set_option maxHeartbeats 400000 in
theorem remove_any {w : World} {ρ : Nat → Role} {d : Nat} {S : DiskA} (nm : Str) (R : Rep w ρ d S) (Z : Small S) (hn : nm.length < 1099511627776) :
    Calls Try.prog 16 #[.pointer (some ⟨d, 0, none⟩), strV nm] w fun e w' => ∃ ρ', Grew w ρ w' ρ' ∧
      ((S.bad = true ∧ e = .returned (.int .i64 1) ∧ Rep w' ρ' d (S.called true)) ∨
       (S.bad = false ∧ S.at nm = none ∧ e = .returned (.int .i64 2) ∧ Rep w' ρ' d (S.called true)) ∨
       (S.bad = false ∧ e = .returned (.int .i64 0) ∧ ∃ f, S.at nm = some f ∧ Rep w' ρ' d ((S.called true).named ⟨[], nm, [], none⟩))) := by
  have hkey := key_str hn
  have hB : S.bad = true ∨ S.bad = false := by cases S.bad <;> simp
  rcases hB with hB | hB
  · go_enter Try.func16, Try.ntmps16
    go_wp2_with (go_at_call 19; refine (call_any true R).mono ?_; rintro e w1 ⟨rfl, R1, G1⟩)
    go_ret
    exact ⟨ρ, G1, .inl ⟨hB, rfl, R1⟩⟩
  · have hAt : S.at nm = none ∨ ∃ f, S.at nm = some f := by cases S.at nm <;> simp
    rcases hAt with hA | ⟨f, hA⟩
    · have HA := hide hA
      clear hA
      go_enter Try.func16, Try.ntmps16
      go_wp2_with (first
        | (go_at_call 19; refine (call_any true R).mono ?_; rintro e w1 ⟨rfl, R1, G1⟩; obtain ⟨nb, sm, lv, hd, rn, rs, on, _⟩ := R1.mem; have c0 := cell_of_heap (o := 0) hd; simp at c0; clear hd)
        | (at_lookup; refine wpList_lookup_file _ rfl _ _ rfl nb _ _ rfl on _ _ rfl hkey (.pointer none) (congrArg ptrV HA.out) ?_)
        | go_in)
      go_ret
      exact ⟨ρ, G1, .inr (.inl ⟨hB, HA.out, rfl, R1⟩)⟩
    · have HA := hide hA
      clear hA
      go_enter Try.func16, Try.ntmps16
      go_wp2_with (first
        | (go_at_call 19; refine (call_any true R).mono ?_; rintro e w1 ⟨rfl, R1, G1⟩; obtain ⟨nb, sm, lv, hd, rn, rs, on, _⟩ := R1.mem; have c0 := cell_of_heap (o := 0) hd; simp at c0; clear hd)
        | (at_lookup; refine wpList_lookup_file _ rfl _ _ rfl nb _ _ rfl on _ _ rfl hkey (.pointer (some ⟨f, 0, none⟩)) (congrArg ptrV HA.out) ?_)
        | (go_at_call 20; refine (name_any [] nm [] none R1 (Z.called true) ⟨by simp, hn, by simp, fun h => (by simp at h)⟩).mono ?_; rintro e w2 ⟨rfl, ρ2, R3, G3⟩)
        | go_in)
      go_ret
      exact ⟨ρ2, G1.trans G3, .inr (.inr ⟨hB, rfl, f, HA.out, R3⟩)⟩

/-! ### Size -/
set_option maxHeartbeats 400000 in
theorem size_any {w : World} {ρ : Nat → Role} {d : Nat} {S : DiskA} (nm : Str) (R : Rep w ρ d S) (hn : nm.length < 1099511627776) :
    Calls Try.prog 10 #[.pointer (some ⟨d, 0, none⟩), strV nm] w fun e w' => Grew w ρ w' ρ ∧ Rep w' ρ d (S.called false) ∧
      ((S.bad = true ∧ e = .returned (.tuple #[.int .i64 0, .int .i64 1])) ∨
       (S.bad = false ∧ S.at nm = none ∧ e = .returned (.tuple #[.int .i64 0, .int .i64 2])) ∨
       (S.bad = false ∧ ∃ f a, S.at nm = some f ∧ S.files f = some a ∧ e = .returned (.tuple #[.int .i64 a.bytes.length, .int .i64 0]))) := by
  have hkey := key_str hn
  have hB : S.bad = true ∨ S.bad = false := by cases S.bad <;> simp
  rcases hB with hB | hB
  · go_enter Try.func10, Try.ntmps10
    go_wp2_with (go_at_call 19; refine (call_any false R).mono ?_; rintro e w1 ⟨rfl, R1, G1⟩)
    go_ret2
    exact ⟨G1, R1, .inl ⟨hB, rfl⟩⟩
  · have hAt : S.at nm = none ∨ ∃ f, S.at nm = some f := by cases S.at nm <;> simp
    rcases hAt with hA | ⟨f, hA⟩
    · have HA := hide hA
      clear hA
      go_enter Try.func10, Try.ntmps10
      go_wp2_with (first
        | (go_at_call 19; refine (call_any false R).mono ?_; rintro e w1 ⟨rfl, R1, G1⟩; obtain ⟨nb, sm, lv, hd, rn, rs, on, _⟩ := R1.mem; have c0 := cell_of_heap (o := 0) hd; simp at c0; clear hd)
        | (at_lookup; refine wpList_lookup_file _ rfl _ _ rfl nb _ _ rfl on _ _ rfl hkey (.pointer none) (congrArg ptrV HA.out) ?_)
        | go_in)
      go_ret2
      exact ⟨G1, R1, .inr (.inl ⟨hB, HA.out, rfl⟩)⟩
    · obtain ⟨a, ha⟩ := R.at hA
      have HA := hide hA
      have HF := hide ha
      clear hA ha
      go_enter Try.func10, Try.ntmps10
      go_wp2_with (first
        | (go_at_call 19; refine (call_any false R).mono ?_; rintro e w1 ⟨rfl, R1, G1⟩; obtain ⟨nb, sm, lv, hd, rn, rs, on, _⟩ := R1.mem; have c0 := cell_of_heap (o := 0) hd; simp at c0; clear hd; obtain ⟨rf, bv, pv, hc, hb, rb, hp, rp⟩ := R1.files f a HF.out; obtain ⟨pb, cb, rfl⟩ := slice_of_row hb; have b0 := cell_of_heap (o := 0) hc; simp at b0; clear hc)
        | (at_lookup; refine wpList_lookup_file _ rfl _ _ rfl nb _ _ rfl on _ _ rfl hkey (.pointer (some ⟨f, 0, none⟩)) (congrArg ptrV HA.out) ?_)
        | go_in)
      go_ret2
      exact ⟨G1, R1, .inr (.inr ⟨hB, f, a, HA.out, HF.out, rfl⟩)⟩
end Go.Proofs.Ytnipbplghijdmaa
