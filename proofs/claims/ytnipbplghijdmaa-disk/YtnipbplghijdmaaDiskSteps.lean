/-
  The steps of the closed sentence on the disk, each as it is told.
-/
import Derived.Test.YtnipbplghijdmaaCrash
import Derived.Test.YtnipbplghijdmaaAppend
import Derived.Test.YtnipbplghijdmaaHolds
namespace Go.Proofs.Ytnipbplghijdmaa
open Go.RowKit Go.Maps Go.WideShapes Go.Sort
set_option linter.unusedVariables false

/-- Where we are: nothing that was there in W has turned; block G, if it is told, is no part of the disk. -/
structure Cur (W w : World) (ρ : Nat → Role) (d : Nat) (S : DiskA) (G : Option Nat) : Prop where
  rep : Rep w ρ d S
  keeps : Keeps W w (fun _ => False)
  low : ∀ i, i < W.heap.size → ρ i = .none
  spare : ∀ g, G = some g → g < w.heap.size ∧ ρ g = .none

theorem Cur.step {W w w' : World} {ρ ρ' : Nat → Role} {d : Nat} {S S' : DiskA} {O : Option Nat} (C : Cur W w ρ d S O) (R : Rep w' ρ' d S') (G : Grew w ρ w' ρ') : Cur W w' ρ' d S' O :=
  ⟨R, C.keeps.trans G.keeps (fun i hi h => h (C.low i hi)), fun i hi => (G.role i (Nat.lt_of_lt_of_le hi C.keeps.size)).trans (C.low i hi), fun g hg => ⟨Nat.lt_of_lt_of_le (C.spare g hg).1 G.keeps.size, (G.role g (C.spare g hg).1).trans (C.spare g hg).2⟩⟩
theorem Cur.other {W w w' : World} {ρ : Nat → Role} {d : Nat} {S : DiskA} {O : Option Nat} (C : Cur W w ρ d S O) (k : Keeps w w' (fun _ => False)) : Cur W w' ρ d S O :=
  ⟨C.rep.keep k (fun _ h => h.elim), C.keeps.trans k (fun _ _ h => h), C.low, fun g hg => ⟨Nat.lt_of_lt_of_le (C.spare g hg).1 k.size, (C.spare g hg).2⟩⟩
theorem Cur.fresh {W w : World} {ρ : Nat → Role} {d : Nat} {S : DiskA} {O : Option Nat} (C : Cur W w ρ d S O) : ρ w.heap.size = .none := by
  by_cases h : ρ w.heap.size = .none
  · exact h
  · exfalso
    have := C.rep.lt w.heap.size h
    omega
/-- A block that is laid now is no part of the disk. -/
theorem Cur.laid {W w : World} {ρ : Nat → Role} {d : Nat} {S : DiskA} {O : Option Nat} (C : Cur W w ρ d S O) (o : Obj) : Cur W (w.alloc o) ρ d S (some w.heap.size) :=
  have C1 := C.other (Keeps.alloc w o (fun _ => False))
  ⟨C1.rep, C1.keeps, C1.low, fun g hg => by cases hg; exact ⟨by simp, C.fresh⟩⟩

/-- A disk with one file, told. -/
structure Is (S : DiskA) (f : Nat) (a : FileA) (N F : DataW Nat) (L : List ChangeA) (fl ct : Int) : Prop where
  names : S.names = N
  safe : S.safe = F
  late : S.late = L
  fail : S.fail = fl
  cut : S.cut = ct
  file : S.files f = some a
  only : ∀ g b, S.files g = some b → g = f

/-- One name alone. -/
abbrev E1 (nm : Str) (f : Nat) : DataW Nat := .map [(.string nm, .held f)]

section
variable {S : DiskA} {f : Nat} {a : FileA} {N F : DataW Nat} {L : List ChangeA} {fl ct : Int}
theorem Is.bad (I : Is S f a N F L fl ct) : S.bad = (fl == 0 || ct == 0) := by unfold DiskA.bad; rw [I.fail, I.cut]
theorem Is.called (I : Is S f a N F L fl ct) (ch : Bool) : Is (S.called ch) f a N F L (if 0 ≤ fl then fl - 1 else fl) (if 0 < ct then ct - 1 else ct) :=
  ⟨I.names, I.safe, I.late, by simp only [DiskA.called, I.fail], by simp only [DiskA.called, I.cut], I.file, I.only⟩
theorem Is.withFile (I : Is S f a N F L fl ct) (a' : FileA) : Is (S.withFile f a') f a' N F L fl ct := by
  refine ⟨I.names, I.safe, I.late, I.fail, I.cut, by simp [DiskA.withFile], fun g b h => ?_⟩
  simp only [DiskA.withFile] at h
  split at h
  · assumption
  · exact I.only g b h
theorem Is.named (I : Is S f a N F L fl ct) (c : ChangeA) : Is (S.named c) f a (doA N c) F (L ++ [c]) fl ct :=
  ⟨by simp only [DiskA.named, I.names], I.safe, by simp only [DiskA.named, I.late], I.fail, I.cut, I.file, I.only⟩
theorem Is.small (I : Is S f a N F L fl ct) (h1 : Maps.size N < 1099511627776) (h2 : Maps.size F < 1099511627776) (h3 : L.length < 1099511627776) (h4 : a.bytes.length < 1099511627776 ∧ a.late.length < 1099511627776 ∧ a.safe < 1099511627776) : Small S :=
  ⟨by rw [I.names]; exact h1, by rw [I.safe]; exact h2, by rw [I.late]; exact h3, fun g b hb => by
    have := I.only g b hb
    subst this
    rw [I.file] at hb
    cases hb
    exact h4⟩
theorem Is.at (I : Is S f a N F L fl ct) (nm : Str) : S.at nm = fileOf (N.atKey (.string nm) .nil) := by unfold DiskA.at; rw [I.names]
theorem Is.keys (I : Is S f a N F L fl ct) : S.keys = (strKeys N).mergeSort leB := by unfold DiskA.keys; rw [I.names]
theorem Is.total {nm : Str} (I : Is S f a (E1 nm f) F L fl ct) : Go.Proofs.Ytnipbplghijdmaa.total S.files S.names = a.bytes.length := by
  rw [I.names]
  simp [Go.Proofs.Ytnipbplghijdmaa.total, entriesOf, lenAt, fileOf, I.file]
theorem Is.wf (I : Is S f a N F L fl ct) (h : a.Wf) : ∀ g b, S.files g = some b → b.Wf := fun g b hb => by
  have := I.only g b hb
  subst this
  rw [I.file] at hb
  cases hb
  exact h
end

theorem at_E1 (nm : Str) (f : Nat) : fileOf ((E1 nm f).atKey (.string nm) .nil) = some f := by
  have : (Lit.string nm).sameKey (.string nm) = true := WideAt.sameKey_self (by trivial)
  simp [DataW.atKey, this, fileOf]
theorem at_E1_ne {nm x : Str} (f : Nat) (h : nm ≠ x) : fileOf ((E1 nm f).atKey (.string x) .nil) = none := by
  have : (Lit.string nm).sameKey (.string x) = false := sameKey_ne (fun e => h (by cases e; rfl))
  simp [DataW.atKey, this, fileOf]
theorem keys_E1 (nm : Str) (f : Nat) : (strKeys (E1 nm f)).mergeSort leB = [nm] := by simp [strKeys, strOf]
theorem do_make (nm : Str) (f : Nat) (h : nm.isEmpty = false) : doA (.map []) ⟨nm, [], [], some f⟩ = E1 nm f := by
  unfold doA
  rw [if_pos h]
  rfl
theorem do_ab (f : Nat) : doA (E1 [97] f) ⟨[], [97], [98], some f⟩ = E1 [98] f := by rfl
theorem do_bc (f : Nat) : doA (E1 [98] f) ⟨[], [98], [99], some f⟩ = E1 [99] f := by rfl
theorem do_rm (nm : Str) (f : Nat) : doA (E1 nm f) ⟨[], nm, [], none⟩ = .map [] := by
  have : (Lit.string nm).sameKey (.string nm) = true := WideAt.sameKey_self (by trivial)
  unfold doA
  rw [if_neg (by simp), if_neg (by simp)]
  simp [DataW.del, this]
end Go.Proofs.Ytnipbplghijdmaa
