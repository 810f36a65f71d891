/-
  What a crash leaves of a file, in plain lists: nothing of the program is in here.
-/
import Derived.Test.YtnipbplghijdmaaZeros
import Derived.Test.YtnipbplghijdmaaNext
import Derived.Test.YtnipbplghijdmaaOps3
namespace Go.Proofs.Ytnipbplghijdmaa
open Go.RowKit Go.Maps Go.WideShapes
set_option linter.unusedVariables false

theorem wpList_append_zeros {P : Program} (w : World) {ops : Array Oper} {rest : List Oper} {o : Oper} {a : Act} {Q : Exit → Act → World → Prop} (hgd : o.guard = none) (s x : Operand) (t ti : TypeId)
    (ho : o.op = .call { callee := .builtin .append, args := #[s, x], argTypes := #[t, ti] })
    (base : Nat) (e : TypeId) (i : TypeInfo) (ht : P.underlying t = some (.slice e)) (hti : P.underlying ti = some (.int .i64)) (hi : P.info? e = some i) (hz : i.zero = some (.int .u8 0)) (hsize : i.size = 1) (hby : i.bytes = 1)
    (v : Value) (n : Nat) (xs : List Value) (hs : a.eval s = v) (hown : w.ownsRow base e 1 v n xs) (k : Nat) (hx : a.eval x = .int .i64 k) (hnk : n + k ≤ 1099511627776) (hbase : base ≤ w.heap.size)
    (hK : ∀ (p : Option Addr) (cp : Nat) (w' : World), w'.ownsRow base e 1 (.slice p (n + k) cp) (n + k) (xs ++ List.replicate k (.int .u8 0)) → w.grownBy w' v.ownBlock → ((Value.slice p (n + k) cp).ownBlock = v.ownBlock ∨ (Value.slice p (n + k) cp).ownBlock = some w.heap.size) → wpList P ops Q rest (a.put o.dst (.slice p (n + k) cp)) w') :
    wpList P ops Q (o :: rest) a w := by
  refine wpList_plain hgd fun K' hK' => ?_
  obtain ⟨v', w', hr, h2, h3, h5⟩ := run_append_zeros (P := P) w base t ti o.type e i ht hti hi hz hsize hby v n xs hown k hnk hbase
  obtain ⟨p, cp, rfl⟩ := slice_of_row h2
  unfold Oper.wp
  simp [execOp, ho, resolve, invoke, builtin, hs, hx, hr, Result.andThen]
  exact hK' _ _ (hK p cp w' h2 h3 h5)

/-! ### which pieces are there -/
def sel : List (Nat × Nat) → List Int → List (Nat × Nat)
  | [], _ => []
  | x :: r, ch => (if pickOf (ch.headD 0) 2 = 1 then [x] else []) ++ sel r ch.tail
theorem sel_snoc : ∀ (l : List (Nat × Nat)) (x : Nat × Nat) (ch : List Int), sel (l ++ [x]) ch = sel l ch ++ if pickOf ((ch.drop l.length).headD 0) 2 = 1 then [x] else []
  | [], x, ch => by simp [sel]
  | y :: r, x, ch => by
    have ih := sel_snoc r x ch.tail
    simp only [List.cons_append, sel, ih, List.append_assoc, List.length_cons]
    congr 3
    cases ch <;> simp
theorem sel_take_succ (l : List (Nat × Nat)) (ch : List Int) (k : Nat) (h : k < l.length) : sel (l.take (k + 1)) ch = sel (l.take k) ch ++ if pickOf ((ch.drop k).headD 0) 2 = 1 then [l[k]] else [] := by
  rw [List.take_succ_eq_append_getElem h, sel_snoc]
  simp [Nat.min_eq_left (Nat.le_of_lt h)]
theorem sel_length (l : List (Nat × Nat)) (ch : List Int) : (sel l ch).length ≤ l.length := by
  induction l generalizing ch with
  | nil => simp [sel]
  | cons x r ih =>
    have := ih ch.tail
    simp only [sel, List.length_append, List.length_cons]
    split <;> simp <;> omega

/-! ### pieces one behind the other -/
def Chain : Nat → List (Nat × Nat) → Nat → Prop
  | s, [], e => s = e
  | s, x :: r, e => x.1 = s ∧ 0 < x.2 ∧ Chain (s + x.2) r e
def OkP : Nat → List (Nat × Nat) → Nat → Prop
  | s, [], e => s ≤ e
  | s, x :: r, e => s ≤ x.1 ∧ 0 < x.2 ∧ OkP (x.1 + x.2) r e
theorem Chain.le : ∀ {l : List (Nat × Nat)} {s e : Nat}, Chain s l e → s ≤ e
  | [], _, _, h => Nat.le_of_eq h
  | x :: r, s, e, h => by have := h.2.2.le; omega
theorem OkP.mono : ∀ {l : List (Nat × Nat)} {s s' e : Nat}, OkP s l e → s' ≤ s → OkP s' l e
  | [], _, _, _, h, hs => Nat.le_trans hs h
  | x :: r, _, _, _, h, hs => ⟨Nat.le_trans hs h.1, h.2.1, h.2.2⟩
theorem OkP.le : ∀ {l : List (Nat × Nat)} {s e : Nat}, OkP s l e → s ≤ e
  | [], _, _, h => h
  | x :: r, s, e, h => by have := h.2.2.le; have := h.1; omega
theorem Chain.sel : ∀ {l : List (Nat × Nat)} {s e : Nat} (ch : List Int), Chain s l e → OkP s (sel l ch) e
  | [], _, _, _, h => Nat.le_of_eq h
  | x :: r, s, e, ch, h => by
    have ih := h.2.2.sel ch.tail
    unfold Go.Proofs.Ytnipbplghijdmaa.sel
    split
    · exact ⟨by rw [h.1]; exact Nat.le_refl _, h.2.1, by rw [h.1]; exact ih⟩
    · exact ih.mono (by omega)
theorem Chain.snoc : ∀ {l : List (Nat × Nat)} {s e : Nat} (n : Nat), Chain s l e → 0 < n → Chain s (l ++ [(e, n)]) (e + n)
  | [], s, e, n, h, hn => ⟨h.symm, hn, by rw [h]; rfl⟩
  | x :: r, s, e, n, h, hn => ⟨h.1, h.2.1, h.2.2.snoc n hn⟩

/-! ### filled -/
def addP (bytes : List UInt8) (b : List UInt8) (x : Nat × Nat) : List UInt8 := if 0 < x.2 then b ++ List.replicate (x.1 - b.length) 0 ++ (bytes.drop x.1).take x.2 else b
/-- The last one, torn or not. -/
def torn : List (Nat × Nat) → Bool → List (Nat × Nat)
  | [], _ => []
  | [x], t => [(x.1, if t then x.2 / 2 else x.2)]
  | x :: y :: r, t => x :: torn (y :: r) t
theorem torn_length : ∀ (l : List (Nat × Nat)) (t : Bool), (torn l t).length = l.length
  | [], _ => rfl
  | [_], _ => rfl
  | x :: y :: r, t => by simp [torn, torn_length (y :: r) t]
theorem torn_get : ∀ (l : List (Nat × Nat)) (t : Bool) (k : Nat) (h : k < l.length), (torn l t)[k]? = some (if k + 1 = l.length then (l[k].1, if t then l[k].2 / 2 else l[k].2) else l[k])
  | [x], t, 0, _ => by simp [torn]
  | x :: y :: r, t, 0, _ => by simp [torn]
  | x :: y :: r, t, k + 1, h => by
    have := torn_get (y :: r) t k (by simpa using h)
    simp only [torn, List.getElem?_cons_succ, this]
    simp
def fillTo (bytes b0 : List UInt8) (T : List (Nat × Nat)) (t : Bool) (k : Nat) : List UInt8 := ((torn T t).take k).foldl (addP bytes) b0
theorem fillTo_succ (bytes b0 : List UInt8) (T : List (Nat × Nat)) (t : Bool) (k : Nat) (h : k < T.length) :
    fillTo bytes b0 T t (k + 1) = addP bytes (fillTo bytes b0 T t k) (if k + 1 = T.length then (T[k].1, if t then T[k].2 / 2 else T[k].2) else T[k]) := by
  have hk : k < (torn T t).length := by rw [torn_length]; exact h
  have e := torn_get T t k h
  rw [List.getElem?_eq_getElem hk] at e
  unfold fillTo
  rw [List.take_succ_eq_append_getElem hk, List.foldl_append, Option.some.inj e]
  rfl
theorem addP_length {bytes b : List UInt8} {x : Nat × Nat} (hb : b.length ≤ x.1) (hx : x.1 + x.2 ≤ bytes.length) : (addP bytes b x).length ≤ x.1 + x.2 := by
  unfold addP
  split
  · simp; omega
  · omega
/-- Each piece begins behind what is there already, and lies in the file. -/
theorem fill_ok (bytes : List UInt8) (t : Bool) : ∀ (T : List (Nat × Nat)) (b0 : List UInt8) (s : Nat), OkP s T bytes.length → b0.length ≤ s → ∀ k (h : k < T.length), (fillTo bytes b0 T t k).length ≤ T[k].1 ∧ 0 < T[k].2 ∧ T[k].1 + T[k].2 ≤ bytes.length
  | [], _, _, _, _, k, h => by simp at h
  | x :: r, b0, s, hO, hb, 0, _ => by
    have := hO.2.2.le
    exact ⟨by simp [fillTo]; exact Nat.le_trans hb hO.1, hO.2.1, this⟩
  | [x], b0, s, hO, hb, k + 1, h => by simp at h
  | x :: y :: r, b0, s, hO, hb, k + 1, h => by
    have hle := hO.2.2.le
    have hl := addP_length (bytes := bytes) (b := b0) (x := x) (Nat.le_trans hb hO.1) hle
    have ih := fill_ok bytes t (y :: r) (addP bytes b0 x) (x.1 + x.2) hO.2.2 hl k (by simpa using h)
    simpa [fillTo, torn] using ih

/-- What a crash leaves of a file; and the choices that are left. -/
def FileA.settled (a : FileA) (ch : List Int) : FileA :=
  let T := sel a.late ch
  let b := fillTo a.bytes (a.bytes.take a.safe) T (pickOf ((ch.drop a.late.length).headD 0) 2 = 1) T.length
  ⟨b, b.length, []⟩
def FileA.left (a : FileA) (ch : List Int) : List Int := if sel a.late ch = [] then ch.drop a.late.length else (ch.drop a.late.length).tail
/-- Its pieces are those behind what is sure. -/
def FileA.Wf (a : FileA) : Prop := a.safe ≤ a.bytes.length ∧ Chain a.safe a.late a.bytes.length
end Go.Proofs.Ytnipbplghijdmaa
