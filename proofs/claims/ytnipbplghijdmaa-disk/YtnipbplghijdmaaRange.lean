/-
  Ranging over a map of names: the step, with the values written out; sums over what has come.
-/
import Derived.Test.YtnipbplghijdmaaOps2
import Derived.Sort.KeysCollected
namespace Go.Proofs.Ytnipbplghijdmaa
open Go.RowKit Go.Maps Go.WideShapes
set_option linter.unusedVariables false

theorem wpList_next_files (w : World) {ops : Array Oper} {rest : List Oper} {o : Oper} {a : Act} {Q : Exit → Act → World → Prop}
    (hg : o.guard = none) (it : Operand) (hop : o.op = Op.next it false) (b r n : Nat) (D : DataW Nat) (left : Lit → Bool) (cnt : Nat)
    (hit : a.eval it = .pointer (some ⟨r, 0, none⟩)) (h : w.ranges Try.prog 9 fileElem b r n D left cnt) {fs : Nat → Option FileA} (hL : Leads D fs)
    (hDone : cnt = 0 → (∀ kl, left kl = false) → wpList Try.prog ops Q rest (a.put o.dst (.tuple #[.bool false])) w)
    (hMore : ∀ (x : Str) (f : Nat) (w' : World) (cnt' : Nat), x.length ≤ maxLen → left (.string x) = true → (∃ fa, fs f = some fa) → (∀ zd, D.atKey (.string x) zd = .held f) →
      w'.ranges Try.prog 9 fileElem b r n D (fun z => left z && !z.sameKey (.string x)) cnt' → cnt' < cnt → w.grownBy w' (some r) → w'.heap.size = w.heap.size →
      (Instr.entry (.pointer (some ⟨r, 0, none⟩))).run Try.prog w' = .ok (.tuple #[strV x, .pointer (some ⟨f, 0, none⟩)]) w' →
      wpList Try.prog ops Q rest (a.put o.dst (.tuple #[.bool true, strV x, .pointer (some ⟨f, 0, none⟩)])) w') :
    wpList Try.prog ops Q (o :: rest) a w := by
  refine wpList_plain hg fun K' hK' => ?_
  unfold Oper.wp
  rcases h.next law o.type with ⟨h0, hl, hrun⟩ | ⟨key, v, kl, y, w', cnt', hkey, hlk, hv, hat, hrun, hrg, hlt, hgr, hsz, hen⟩
  · simp [execOp, hop, hit, hrun, Result.andThen]
    exact hK' _ _ (hDone h0 hl)
  · obtain ⟨x, hx, rfl, hxl⟩ := Maps.keyOf_str Try.underlying9 hkey
    obtain ⟨f, fa, e1, e2⟩ := hL (.string x) (has_true_of_atKey hat)
    obtain ⟨e3, _⟩ := fileElem_inv hv
    have e4 : y.1 = .held f := (hat .nil).symm.trans e1
    rw [e4] at e3
    have e5 : v = .pointer (some ⟨f, 0, none⟩) := e3
    have hx' : key = strV x := hx
    subst e5 hx'
    simp [execOp, hop, hit, hrun, Result.andThen]
    exact hK' _ _ (hMore x f w' cnt' hxl hlk ⟨fa, e2⟩ (fun zd => (hat zd).trans e4) hrg hlt hgr hsz hen)

def entriesOf : DataW Nat → List (Lit × DataW Nat)
  | .map es => es
  | _ => []
def lenAt (fs : Nat → Option FileA) (y : DataW Nat) : Nat := ((fileOf y).bind fs).elim 0 (fun a => a.bytes.length)
/-- How many bytes the files hold of whose names none is still to come. -/
def sumTo (fs : Nat → Option FileA) (D : DataW Nat) (left : Lit → Bool) : Nat := ((entriesOf D).map fun p => if left p.1 then 0 else lenAt fs p.2).sum
def total (fs : Nat → Option FileA) (D : DataW Nat) : Nat := ((entriesOf D).map fun p => lenAt fs p.2).sum

theorem sum_strike (g : Lit × DataW Nat → Nat) (left : Lit → Bool) (kl : Lit) (hk : WideAt.IsKeyLit kl) (hl : left kl = true) : ∀ es : List (Lit × DataW Nat), es.Pairwise (fun p q => p.1 ≠ q.1) → ∀ p ∈ es, p.1 = kl →
    (es.map fun q => if (left q.1 && !q.1.sameKey kl) then 0 else g q).sum = (es.map fun q => if left q.1 then 0 else g q).sum + g p := by
  have other : ∀ es : List (Lit × DataW Nat), (∀ q ∈ es, q.1 ≠ kl) → (es.map fun q => if (left q.1 && !q.1.sameKey kl) then 0 else g q) = es.map fun q => if left q.1 then 0 else g q := by
    intro es h
    apply List.map_congr_left
    intro q hq
    rw [sameKey_ne (h q hq)]
    simp
  intro es
  induction es with
  | nil => intro _ p hp; cases hp
  | cons y r ih =>
    intro hpw p hp he
    obtain ⟨h1, h2⟩ := List.pairwise_cons.1 hpw
    rcases List.mem_cons.1 hp with e | hp'
    · subst e
      have h3 : ∀ q ∈ r, q.1 ≠ kl := fun q hq e => h1 q hq (he.trans e.symm)
      have e1 : p.1.sameKey kl = true := by rw [he]; exact WideAt.sameKey_self hk
      have e2 : left p.1 = true := by rw [he]; exact hl
      simp only [List.map_cons, List.sum_cons, other r h3, e1, e2]
      simp
      omega
    · have e1 : y.1 ≠ kl := fun e => h1 p hp' (e.trans he.symm)
      have e2 : (left y.1 && !y.1.sameKey kl) = left y.1 := by rw [sameKey_ne e1]; simp
      simp only [List.map_cons, List.sum_cons, ih h2 p hp' he, e2]
      omega

theorem sumTo_step {fs : Nat → Option FileA} {D : DataW Nat} {left : Lit → Bool} {x : Str} {f : Nat} {a : FileA} (hT : Tidy D) (hl : left (.string x) = true) (hat : ∀ zd, D.atKey (.string x) zd = .held f) (hf : fs f = some a) :
    sumTo fs D (fun z => left z && !z.sameKey (.string x)) = sumTo fs D left + a.bytes.length := by
  obtain ⟨es, rfl, hp⟩ := hT
  have hh := has_true_of_atKey hat
  obtain ⟨p, hp', hs⟩ := List.any_eq_true.1 hh
  have e1 : p.1 = .string x := WideAt.sameKey_eq hs
  have e2 : p.2 = .held f := by rw [← hat .nil, ← e1]; exact (WideAt.atKey_mem .nil (by rw [e1]; trivial) hp hp').symm
  have := sum_strike (fun q => lenAt fs q.2) left (.string x) (by trivial) hl es hp p hp' e1
  simp only [sumTo, entriesOf]
  rw [this, e2]
  simp [lenAt, fileOf, hf]

theorem sumTo_start {fs : Nat → Option FileA} {D : DataW Nat} (hC : Canon D) : sumTo fs D (Maps.has D) = 0 := by
  obtain ⟨es, rfl, _, hk⟩ := hC
  simp only [sumTo, entriesOf]
  have h : (es.map fun p => if Maps.has (.map es) p.1 = true then 0 else lenAt fs p.2) = es.map fun _ => 0 := by
    apply List.map_congr_left
    intro p hp
    have h1 : Maps.has (.map es) p.1 = true := List.any_eq_true.2 ⟨p, hp, WideAt.sameKey_self (hk p hp)⟩
    rw [if_pos h1]
  rw [h]
  generalize es = l
  induction l with
  | nil => rfl
  | cons y r ih => simpa using ih
theorem sumTo_end {fs : Nat → Option FileA} {D : DataW Nat} {left : Lit → Bool} (h : ∀ k, left k = false) : sumTo fs D left = total fs D := by
  simp [sumTo, total, h]
theorem sumTo_le {fs : Nat → Option FileA} {D : DataW Nat} (left : Lit → Bool) : sumTo fs D left ≤ total fs D := by
  unfold sumTo total
  generalize entriesOf D = l
  induction l with
  | nil => simp
  | cons y r ih =>
    simp only [List.map_cons, List.sum_cons]
    split <;> omega
end Go.Proofs.Ytnipbplghijdmaa
