/-
  Words for the disk's memory (blocks by their roles) and what is kept of a world: nothing is proved of the program here.
-/
import Derived.Test.YtnipbplghijdmaaRows
import Derived.WalkKit
import Derived.ProofKit
import Derived.Maps.OwnSet
import Derived.Maps.RangeWalk
import Derived.Maps.Ext
namespace Go.Proofs.Ytnipbplghijdmaa
open Go.RowKit Go.Maps
set_option linter.unusedVariables false

theorem hide {p : Prop} (h : p) : Hid p := h
/-- Outside T the blocks of w are in w' as they were. -/
structure Keeps (w w' : World) (T : Nat → Prop) : Prop where
  os : w'.os = w.os
  tape : w'.tape = w.tape
  output : w'.output = w.output
  size : w.heap.size ≤ w'.heap.size
  block : ∀ k, k < w.heap.size → ¬ T k → w'.heap[k]? = w.heap[k]?

theorem Keeps.refl (w : World) (T : Nat → Prop) : Keeps w w T := ⟨rfl, rfl, rfl, Nat.le_refl _, fun _ _ _ => rfl⟩
theorem Keeps.trans {a b c : World} {T U : Nat → Prop} (h : Keeps a b T) (k : Keeps b c U) (hU : ∀ i, i < a.heap.size → U i → T i) : Keeps a c T :=
  ⟨k.os.trans h.os, k.tape.trans h.tape, k.output.trans h.output, Nat.le_trans h.size k.size,
   fun i hi ht => (k.block i (Nat.lt_of_lt_of_le hi h.size) (fun hu => ht (hU i hi hu))).trans (h.block i hi ht)⟩
theorem Keeps.mono {a b : World} {T U : Nat → Prop} (h : Keeps a b T) (hT : ∀ i, i < a.heap.size → T i → U i) : Keeps a b U :=
  ⟨h.os, h.tape, h.output, h.size, fun i hi hu => h.block i hi (fun ht => hu (hT i hi ht))⟩
theorem Keeps.grown {w w' : World} {row : Option Nat} (h : w.grownBy w' row) : Keeps w w' (fun i => some i = row) :=
  ⟨h.os, h.tape, h.output, h.size, fun i hi ht => h.block i hi ht⟩
theorem Keeps.alloc (w : World) (o : Obj) (T : Nat → Prop) : Keeps w (w.alloc o) T :=
  ⟨rfl, rfl, rfl, by simp, fun k hk _ => Below.heap_alloc w o k hk⟩
theorem Keeps.drew (w : World) (T : Nat → Prop) : Keeps w w.drew T := ⟨rfl, rfl, rfl, Nat.le_refl _, fun _ _ _ => rfl⟩
theorem Keeps.setCell (w : World) (a : Addr) (u : Value) : Keeps w (w.setCell a u) (fun i => i = a.block) :=
  ⟨rfl, rfl, rfl, by simp [World.setCell], fun k _ hk => Below.heap_setCell _ _ _ _ hk⟩

theorem Keeps.set {a w : World} {T : Nat → Prop} (h : Keeps a w T) {p : Addr} (hp : T p.block) (u : Value) : Keeps a (w.setCell p u) T := h.trans (Keeps.setCell w p u) (fun i _ hi => hi ▸ hp)
theorem Keeps.setNew {a w : World} {T : Nat → Prop} (h : Keeps a w T) {p : Addr} (hp : a.heap.size ≤ p.block) (u : Value) : Keeps a (w.setCell p u) T := h.trans (Keeps.setCell w p u) (fun i hi e => by omega)
theorem Keeps.more {a w : World} {T : Nat → Prop} (h : Keeps a w T) (o : Obj) : Keeps a (w.alloc o) T := h.trans (Keeps.alloc w o T) (fun _ _ h => h)
theorem Keeps.draw {a w : World} {T : Nat → Prop} (h : Keeps a w T) : Keeps a w.drew T := h.trans (Keeps.drew w T) (fun _ _ h => h)
theorem Keeps.grow {a w w' : World} {T : Nat → Prop} {row : Option Nat} (h : Keeps a w T) (hg : w.grownBy w' row) (hr : ∀ k, row = some k → k < a.heap.size → T k) : Keeps a w' T :=
  h.trans (Keeps.grown hg) (fun i hi e => hr i e.symm hi)

theorem Keeps.at {w w' : World} {b : Nat} (h : Keeps w w' (fun i => i = b)) {k : Nat} (hk : k < w.heap.size) (hne : k ≠ b) : w'.heap[k]? = w.heap[k]? := h.block k hk hne
theorem Keeps.same {w w' : World} {T : Nat → Prop} (h : Keeps w w' T) {k : Nat} {o : Obj} (hk : w.heap[k]? = some o) (hne : ¬ T k) : w'.heap[k]? = some o := (h.block k (Array.getElem?_eq_some_iff.1 hk).1 hne).trans hk
theorem Keeps.row {w w' : World} {T : Nat → Prop} {base size n : Nat} {e : TypeId} {v : Value} {xs : List Value} (hk : Keeps w w' T) (h : w.ownsRow base e size v n xs) (hne : ∀ g, v.ownBlock = some g → ¬ T g) : w'.ownsRow base e size v n xs := by
  refine ⟨h.1, ?_⟩
  rcases h.2 with hn | ⟨g, cap, cur, rfl, hb, hgg, rest⟩
  · exact .inl hn
  · exact .inr ⟨g, cap, cur, rfl, hb, hk.same hgg (hne g rfl), rest⟩
theorem Keeps.map {w w' : World} {T : Nat → Prop} {P : Program} {k : TypeId} {R : Value → Option (DataW Nat × List MemPlace)} {b n : Nat} {D : DataW Nat} (hk : Keeps w w' T) (h : w.ownsMap P k R b n D) (hne : ¬ T b) : w'.ownsMap P k R b n D := by
  obtain ⟨es, clock, hb, r⟩ := h
  exact ⟨es, clock, hk.same hb hne, r⟩

theorem Keeps.cell {w w' : World} {T : Nat → Prop} (hk : Keeps w w' T) {a : Addr} {v : Value} (h : w.cell? a = some v) (hne : ¬ T a.block) : w'.cell? a = some v :=
  (World.cell?_of_block (hk.block a.block (World.block_lt_of_cell? w a h) hne)).trans h
theorem add_block (a : Addr) (j : Nat) : (a.add j).block = a.block := by unfold Addr.add; split <;> rfl

theorem heap_setCell_at {w : World} {b o : Nat} {c : Array Value} {e : TypeId} {sr : Nat × Nat} (h : w.heap[b]? = some (.cells c e sr)) (v : Value) :
    (w.setCell ⟨b, o, none⟩ v).heap[b]? = some (.cells (c.setIfInBounds o v) e sr) := by
  simp [World.setCell, Array.getElem?_modify, h]

theorem cell_of_heap {w : World} {b o : Nat} {c : Array Value} {e : TypeId} {sr : Nat × Nat} (h : w.heap[b]? = some (.cells c e sr)) : w.cell? ⟨b, o, none⟩ = c[o]? := by
  simp [World.cell?, h]
theorem frozen_of_heap {w : World} {b o : Nat} {c : Array Value} {e : TypeId} (h : w.heap[b]? = some (.cells c e (0, 0))) : w.frozen? ⟨b, o, none⟩ = false := by
  simp [World.frozen?, h]
theorem lt_of_heap {w : World} {b : Nat} {o : Obj} (h : w.heap[b]? = some o) : b < w.heap.size := (Array.getElem?_eq_some_iff.1 h).1

theorem heap_alloc_top (w : World) (o : Obj) : (w.alloc o).heap[w.heap.size]? = some o := (MapKept.heap_alloc w o).1
theorem cell_grown_new {w w1 : World} {c : Array Value} {e : TypeId} {sr : Nat × Nat} {b : Nat} (hg : (w.alloc (.cells c e sr)).grownBy w1 (some b)) (hb : b < w.heap.size) (j : Nat) : w1.cell? ⟨w.heap.size, j, none⟩ = c[j]? := by
  have h := hg.block w.heap.size (by simp) (by simp; omega)
  rw [heap_alloc_top] at h
  exact cell_of_heap h

theorem cell_alloc_old {w : World} {b o : Nat} {c : Array Value} {e : TypeId} {sr : Nat × Nat} (h : w.heap[b]? = some (.cells c e sr)) (x : Obj) : (w.alloc x).cell? ⟨b, o, none⟩ = c[o]? :=
  cell_of_heap ((Below.heap_alloc w x b (lt_of_heap h)).trans h)

theorem row_base {w : World} {base base' size n : Nat} {e : TypeId} {v : Value} {xs : List Value} (h : w.ownsRow base e size v n xs) (hb : base' ≤ base) : w.ownsRow base' e size v n xs := by
  refine ⟨h.1, ?_⟩
  rcases h.2 with hn | ⟨g, cap, cur, rfl, hb', rest⟩
  · exact .inl hn
  · exact .inr ⟨g, cap, cur, rfl, Nat.le_trans hb hb', rest⟩

/-! ### the disk, as told -/
/-- A text's bytes. -/
abbrev Str := List UInt8
abbrev strV (s : Str) : Value := .string ⟨s.toArray⟩
abbrev byteV (x : UInt8) : Value := .int .u8 x.toNat
/-- A file: what it holds, how much of it is sure, the pieces that are not. -/
structure FileA where
  bytes : List UInt8
  safe : Nat
  late : List (Nat × Nat)
/-- A change of names. -/
structure ChangeA where
  make : Str
  src : Str
  dst : Str
  f : Option Nat
/-- A disk: names and sure names lead to files by their blocks' numbers. -/
structure DiskA where
  names : DataW Nat
  safe : DataW Nat
  late : List ChangeA
  files : Nat → Option FileA
  calls : Int
  fail : Int
  cut : Int
  wrote : Int

abbrev ptrV (o : Option Nat) : Value := .pointer (o.map fun b => ⟨b, 0, none⟩)
/-- How an element of the maps of names reads: a pointer to a file. -/
def fileElem : Value → Option (DataW Nat × List MemPlace)
  | .pointer (some ⟨b, 0, none⟩) => some (.held b, [])
  | .pointer none => some (.nil, [])
  | _ => none
def fileOf : DataW Nat → Option Nat
  | .held b => some b
  | _ => none
def heldD : Option Nat → DataW Nat
  | some b => .held b
  | none => .nil
theorem fileElem_ptr (o : Option Nat) : fileElem (ptrV o) = some (heldD o, []) := by cases o <;> rfl
theorem fileElem_inv {v : Value} {z : DataW Nat × List MemPlace} (h : fileElem v = some z) : v = ptrV (fileOf z.1) ∧ z = (heldD (fileOf z.1), []) := by
  unfold fileElem at h
  split at h
  · cases h; exact ⟨rfl, rfl⟩
  · cases h; exact ⟨rfl, rfl⟩
  · cases h

def pieceCells (l : List (Nat × Nat)) : List Value := l.flatMap fun p => [.int .i64 p.1, .int .i64 p.2]
def changeCells (l : List ChangeA) : List Value := l.flatMap fun c => [strV c.make, strV c.src, strV c.dst, ptrV c.f]

/-! ### whose a block is -/
abbrev Role := Nat × Nat
abbrev Role.none : Role := (0, 0)
abbrev Role.disk : Role := (1, 0)
abbrev Role.names : Role := (2, 0)
abbrev Role.safe : Role := (3, 0)
abbrev Role.late : Role := (4, 0)
abbrev Role.file : Role := (5, 0)
abbrev Role.bytes (f : Nat) : Role := (6, f)
abbrev Role.pieces (f : Nat) : Role := (7, f)

/-- Block f is a file that holds this. -/
def FileOk (w : World) (ρ : Nat → Role) (f : Nat) (a : FileA) : Prop :=
  ρ f = .file ∧ ∃ bv pv, w.heap[f]? = some (.cells #[bv, .int .i64 a.safe, pv] 51 (0, 0)) ∧
    w.ownsRow 0 5 1 bv a.bytes.length (a.bytes.map byteV) ∧ (∀ g, bv.ownBlock = some g → ρ g = .bytes f) ∧
    w.ownsRow 0 67 2 pv a.late.length (pieceCells a.late) ∧ (∀ g, pv.ownBlock = some g → ρ g = .pieces f)

/-- A map of names leads to files that are there. -/
def Leads (D : DataW Nat) (files : Nat → Option FileA) : Prop := ∀ k, Maps.has D k = true → ∃ f a, D.atKey k .nil = .held f ∧ files f = some a
/-- A change that may be done. -/
def ChOk (files : Nat → Option FileA) (c : ChangeA) : Prop :=
  c.make.length < 1099511627776 ∧ c.src.length < 1099511627776 ∧ c.dst.length < 1099511627776 ∧ (c.make ≠ [] ∨ c.dst ≠ [] → ∃ f a, c.f = some f ∧ files f = some a)

/-- Block d is a disk that is as told; its blocks are those that have a role. -/
structure Rep (w : World) (ρ : Nat → Role) (d : Nat) (S : DiskA) : Prop where
  mem : ∃ nm sm lv, w.heap[d]? = some (.cells #[.map (some nm), .map (some sm), lv, .int .i64 S.calls, .int .i64 S.fail, .int .i64 S.cut, .int .i64 S.wrote] 45 (0, 0)) ∧
    ρ nm = .names ∧ ρ sm = .safe ∧ w.ownsMap Try.prog 9 fileElem nm (Maps.size S.names) S.names ∧ w.ownsMap Try.prog 9 fileElem sm (Maps.size S.safe) S.safe ∧
    w.ownsRow 0 53 4 lv S.late.length (changeCells S.late) ∧ (∀ g, lv.ownBlock = some g → ρ g = .late)
  disk : ρ d = .disk
  files : ∀ f a, S.files f = some a → FileOk w ρ f a
  namesTo : Leads S.names S.files
  safeTo : Leads S.safe S.files
  lateOk : ∀ c ∈ S.late, ChOk S.files c
  lt : ∀ i, ρ i ≠ .none → i < w.heap.size
  failBd : -1 ≤ S.fail ∧ S.fail ≤ 9223372036854775807
  cutBd : -1 ≤ S.cut ∧ S.cut ≤ 9223372036854775807

/-- What is asked of sizes. -/
structure Small (S : DiskA) : Prop where
  names : Maps.size S.names < 1099511627776
  safe : Maps.size S.safe < 1099511627776
  late : S.late.length < 1099511627776
  files : ∀ f a, S.files f = some a → a.bytes.length < 1099511627776 ∧ a.late.length < 1099511627776 ∧ a.safe < 1099511627776

/-- From (w, ρ) to (w', ρ'): only blocks that have a role were written, and roles were given to new blocks alone. -/
structure Grew (w : World) (ρ : Nat → Role) (w' : World) (ρ' : Nat → Role) : Prop where
  keeps : Keeps w w' (fun i => ρ i ≠ .none)
  role : ∀ i, i < w.heap.size → ρ' i = ρ i

theorem Grew.refl (w : World) (ρ : Nat → Role) : Grew w ρ w ρ := ⟨Keeps.refl _ _, fun _ _ => rfl⟩
theorem Grew.trans {a b c : World} {r s t : Nat → Role} (h : Grew a r b s) (k : Grew b s c t) : Grew a r c t :=
  ⟨h.keeps.trans k.keeps (fun i hi hs => by rw [← h.role i hi]; exact hs), fun i hi => (k.role i (Nat.lt_of_lt_of_le hi h.keeps.size)).trans (h.role i hi)⟩
theorem Grew.of {w w' : World} {ρ : Nat → Role} {T : Nat → Prop} (h : Keeps w w' T) (hT : ∀ i, i < w.heap.size → T i → ρ i ≠ .none) : Grew w ρ w' ρ := ⟨h.mono hT, fun _ _ => rfl⟩

theorem tight {w : World} {P : Program} {k : TypeId} {R : Value → Option (DataW Nat × List MemPlace)} {b n : Nat} {D : DataW Nat} (h : w.ownsMap P k R b n D) : w.ownsMap P k R b (Maps.size D) D := by
  obtain ⟨es, clock, hb, F, hs, rfl⟩ := h
  refine ⟨es, clock, hb, F, ?_, rfl⟩
  simp [Maps.size, length_sorted]

/-- The same roles on what was there. -/
theorem FileOk.keep {w w' : World} {ρ ρ' : Nat → Role} {f : Nat} {a : FileA} {T : Nat → Prop} (h : FileOk w ρ f a) (hk : Keeps w w' T) (hρ : ∀ i, i < w.heap.size → ρ' i = ρ i)
    (h1 : ¬ T f) (h2 : ∀ i, ρ i = .bytes f → ¬ T i) (h3 : ∀ i, ρ i = .pieces f → ¬ T i) : FileOk w' ρ' f a := by
  obtain ⟨rf, bv, pv, hc, hb, rb, hp, rp⟩ := h
  refine ⟨(hρ f (lt_of_heap hc)).trans rf, bv, pv, hk.same hc h1, hk.row hb (fun g hg => h2 g (rb g hg)), fun g hg => (hρ g (hb.lt g hg).2).trans (rb g hg), hk.row hp (fun g hg => h3 g (rp g hg)), fun g hg => (hρ g (hp.lt g hg).2).trans (rp g hg)⟩

/-- What is written besides the disk's blocks is nothing to it. -/
theorem Rep.keep {w w' : World} {ρ : Nat → Role} {d : Nat} {S : DiskA} {T : Nat → Prop} (R : Rep w ρ d S) (hk : Keeps w w' T) (hT : ∀ i, T i → i < w.heap.size → ρ i = .none) : Rep w' ρ d S := by
  obtain ⟨⟨nm, sm, lv, hd, rn, rs, on, os, ol, rl⟩, rd, rf, nt, st, lo, hlt, fb, cb⟩ := R
  have hn : ∀ i, ρ i ≠ .none → ¬ T i := fun i hi ht => hi (hT i ht (hlt i hi))
  refine ⟨⟨nm, sm, lv, hk.same hd (hn d (by rw [rd]; decide)), rn, rs, hk.map on (hn nm (by rw [rn]; decide)), hk.map os (hn sm (by rw [rs]; decide)), hk.row ol (fun g hg => hn g (by rw [rl g hg]; decide)), rl⟩, rd, ?_, nt, st, lo, fun i hi => Nat.lt_of_lt_of_le (hlt i hi) hk.size, fb, cb⟩
  intro f a hf
  exact (rf f a hf).keep hk (fun _ _ => rfl) (hn f (by rw [(rf f a hf).1]; decide)) (fun i hi => hn i (by rw [hi]; exact fun h => by cases h)) (fun i hi => hn i (by rw [hi]; exact fun h => by cases h))

theorem Leads.mono {D : DataW Nat} {fs fs' : Nat → Option FileA} (h : Leads D fs) (hf : ∀ f a, fs f = some a → ∃ a', fs' f = some a') : Leads D fs' := by
  intro k hk
  obtain ⟨f, a, h1, h2⟩ := h k hk
  obtain ⟨a', h3⟩ := hf f a h2
  exact ⟨f, a', h1, h3⟩
theorem ChOk.mono {c : ChangeA} {fs fs' : Nat → Option FileA} (h : ChOk fs c) (hf : ∀ f a, fs f = some a → ∃ a', fs' f = some a') : ChOk fs' c := by
  obtain ⟨h1, h2, h3, h4⟩ := h
  refine ⟨h1, h2, h3, fun h => ?_⟩
  obtain ⟨f, a, e, h5⟩ := h4 h
  obtain ⟨a', h6⟩ := hf f a h5
  exact ⟨f, a', e, h6⟩

end Go.Proofs.Ytnipbplghijdmaa
