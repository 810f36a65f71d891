/-
  La: Mem Call Do.
-/
import Derived.Test.YtnipbplghijdmaaGreatDoorProg
import GoSem.Claim
import GoSem.ClaimJoined
import GoSem.ClaimMapViews
import Derived.JoinedTies
import Derived.KernelRfl
import Derived.RowKit
import Derived.WalkKit
import Derived.ProofKit
import Derived.Maps.OwnSet
import Derived.Maps.RangeWalk
import Derived.Maps.Ext
namespace Go.Proofs.YtnipbplghijdmaaGreatDoor
open Go.RowKit Go.Maps
set_option linter.unusedVariables false
theorem hide {p : Prop} (h : p) : Hid p := h
structure ja (w w' : World) (T : Nat → Prop) : Prop where
 os : w'.os = w.os
 tape : w'.tape = w.tape
 output : w'.output = w.output
 size : w.heap.size ≤ w'.heap.size
 block : ∀ k, k < w.heap.size → ¬ T k → w'.heap[k]? = w.heap[k]?
theorem ja.refl (w : World) (T : Nat → Prop) : ja w w T := ⟨rfl, rfl, rfl, Nat.le_refl _, fun _ _ _ => rfl⟩
theorem ja.trans {a b c : World} {T U : Nat → Prop} (h : ja a b T) (k : ja b c U) (hU : ∀ i, i < a.heap.size → U i → T i) : ja a c T :=
 ⟨k.os.trans h.os, k.tape.trans h.tape, k.output.trans h.output, Nat.le_trans h.size k.size,
  fun i hi ht => (k.block i (Nat.lt_of_lt_of_le hi h.size) (fun hu => ht (hU i hi hu))).trans (h.block i hi ht)⟩
theorem ja.mono {a b : World} {T U : Nat → Prop} (h : ja a b T) (hT : ∀ i, i < a.heap.size → T i → U i) : ja a b U :=
 ⟨h.os, h.tape, h.output, h.size, fun i hi hu => h.block i hi (fun ht => hu (hT i hi ht))⟩
theorem ja.grown {w w' : World} {row : Option Nat} (h : w.grownBy w' row) : ja w w' (fun i => some i = row) :=
 ⟨h.os, h.tape, h.output, h.size, fun i hi ht => h.block i hi ht⟩
theorem ja.alloc (w : World) (o : Obj) (T : Nat → Prop) : ja w (w.alloc o) T :=
 ⟨rfl, rfl, rfl, by simp, fun k hk _ => Below.heap_alloc w o k hk⟩
theorem ja.drew (w : World) (T : Nat → Prop) : ja w w.drew T := ⟨rfl, rfl, rfl, Nat.le_refl _, fun _ _ _ => rfl⟩
theorem ja.setCell (w : World) (a : Addr) (u : Value) : ja w (w.setCell a u) (fun i => i = a.block) :=
 ⟨rfl, rfl, rfl, by simp [World.setCell], fun k _ hk => Below.heap_setCell _ _ _ _ hk⟩
theorem ja.set {a w : World} {T : Nat → Prop} (h : ja a w T) {p : Addr} (hp : T p.block) (u : Value) : ja a (w.setCell p u) T := h.trans (ja.setCell w p u) (fun i _ hi => hi ▸ hp)
theorem ja.Xk {a w : World} {T : Nat → Prop} (h : ja a w T) {p : Addr} (hp : a.heap.size ≤ p.block) (u : Value) : ja a (w.setCell p u) T := h.trans (ja.setCell w p u) (fun i hi e => by omega)
theorem ja.more {a w : World} {T : Nat → Prop} (h : ja a w T) (o : Obj) : ja a (w.alloc o) T := h.trans (ja.alloc w o T) (fun _ _ h => h)
theorem ja.draw {a w : World} {T : Nat → Prop} (h : ja a w T) : ja a w.drew T := h.trans (ja.drew w T) (fun _ _ h => h)
theorem ja.grow {a w w' : World} {T : Nat → Prop} {row : Option Nat} (h : ja a w T) (hg : w.grownBy w' row) (hr : ∀ k, row = some k → k < a.heap.size → T k) : ja a w' T :=
 h.trans (ja.grown hg) (fun i hi e => hr i e.symm hi)
theorem ja.same {w w' : World} {T : Nat → Prop} (h : ja w w' T) {k : Nat} {o : Obj} (hk : w.heap[k]? = some o) (hne : ¬ T k) : w'.heap[k]? = some o := (h.block k (Array.getElem?_eq_some_iff.1 hk).1 hne).trans hk
theorem ja.row {w w' : World} {T : Nat → Prop} {base size n : Nat} {e : TypeId} {v : Value} {xs : List Value} (hk : ja w w' T) (h : w.ownsRow base e size v n xs) (hne : ∀ g, v.ownBlock = some g → ¬ T g) : w'.ownsRow base e size v n xs := by
 refine ⟨h.1, ?_⟩
 rcases h.2 with hn | ⟨g, cap, cur, rfl, hb, hgg, rest⟩
 · exact .inl hn
 · exact .inr ⟨g, cap, cur, rfl, hb, hk.same hgg (hne g rfl), rest⟩
theorem ja.map {w w' : World} {T : Nat → Prop} {P : Program} {k : TypeId} {R : Value → Option (DataW Nat × List MemPlace)} {b n : Nat} {D : DataW Nat} (hk : ja w w' T) (h : w.ownsMap P k R b n D) (hne : ¬ T b) : w'.ownsMap P k R b n D := by
 obtain ⟨es, clock, hb, r⟩ := h
 exact ⟨es, clock, hk.same hb hne, r⟩
theorem ja.cell {w w' : World} {T : Nat → Prop} (hk : ja w w' T) {a : Addr} {v : Value} (h : w.cell? a = some v) (hne : ¬ T a.block) : w'.cell? a = some v :=
 (World.cell?_of_block (hk.block a.block (World.block_lt_of_cell? w a h) hne)).trans h
theorem add_block (a : Addr) (j : Nat) : (a.add j).block = a.block := by unfold Addr.add; split <;> rfl
theorem jb {w : World} {b o : Nat} {c : Array Value} {e : TypeId} {sr : Nat × Nat} (h : w.heap[b]? = some (.cells c e sr)) (v : Value) :
   (w.setCell ⟨b, o, none⟩ v).heap[b]? = some (.cells (c.setIfInBounds o v) e sr) := by
 simp [World.setCell, Array.getElem?_modify, h]
theorem cell_of_heap {w : World} {b o : Nat} {c : Array Value} {e : TypeId} {sr : Nat × Nat} (h : w.heap[b]? = some (.cells c e sr)) : w.cell? ⟨b, o, none⟩ = c[o]? := by
 simp [World.cell?, h]
theorem frozen_of_heap {w : World} {b o : Nat} {c : Array Value} {e : TypeId} (h : w.heap[b]? = some (.cells c e (0, 0))) : w.frozen? ⟨b, o, none⟩ = false := by
 simp [World.frozen?, h]
theorem lt_of_heap {w : World} {b : Nat} {o : Obj} (h : w.heap[b]? = some o) : b < w.heap.size := (Array.getElem?_eq_some_iff.1 h).1
theorem jd (w : World) (o : Obj) : (w.alloc o).heap[w.heap.size]? = some o := (MapKept.heap_alloc w o).1
theorem Aw {w w1 : World} {c : Array Value} {e : TypeId} {sr : Nat × Nat} {b : Nat} (hg : (w.alloc (.cells c e sr)).grownBy w1 (some b)) (hb : b < w.heap.size) (j : Nat) : w1.cell? ⟨w.heap.size, j, none⟩ = c[j]? := by
 have h := hg.block w.heap.size (by simp) (by simp; omega)
 rw [jd] at h
 exact cell_of_heap h
theorem Xd {w : World} {b o : Nat} {c : Array Value} {e : TypeId} {sr : Nat × Nat} (h : w.heap[b]? = some (.cells c e sr)) (x : Obj) : (w.alloc x).cell? ⟨b, o, none⟩ = c[o]? :=
 cell_of_heap ((Below.heap_alloc w x b (lt_of_heap h)).trans h)
theorem xx {w : World} {base base' size n : Nat} {e : TypeId} {v : Value} {xs : List Value} (h : w.ownsRow base e size v n xs) (hb : base' ≤ base) : w.ownsRow base' e size v n xs := by
 refine ⟨h.1, ?_⟩
 rcases h.2 with hn | ⟨g, cap, cur, rfl, hb', rest⟩
 · exact .inl hn
 · exact .inr ⟨g, cap, cur, rfl, Nat.le_trans hb hb', rest⟩
abbrev Str := List UInt8
abbrev jc (s : Str) : Value := .string ⟨s.toArray⟩
abbrev qg (x : UInt8) : Value := .int .u8 x.toNat
structure yw where
 bytes : List UInt8
 safe : Nat
 late : List (Nat × Nat)
structure Jl where
 make : Str
 src : Str
 dst : Str
 f : Option Nat
structure je where
 names : DataW Nat
 safe : DataW Nat
 late : List Jl
 files : Nat → Option yw
 calls : Int
 fail : Int
 cut : Int
 wrote : Int
abbrev ig (o : Option Nat) : Value := .pointer (o.map fun b => ⟨b, 0, none⟩)
def Jc : Value → Option (DataW Nat × List MemPlace)
 | .pointer (some ⟨b, 0, none⟩) => some (.held b, [])
 | .pointer none => some (.nil, [])
 | _ => none
def fileOf : DataW Nat → Option Nat
 | .held b => some b
 | _ => none
def Aq : Option Nat → DataW Nat
 | some b => .held b
 | none => .nil
theorem Sl (o : Option Nat) : Jc (ig o) = some (Aq o, []) := by cases o <;> rfl
theorem En {v : Value} {z : DataW Nat × List MemPlace} (h : Jc v = some z) : v = ig (fileOf z.1) ∧ z = (Aq (fileOf z.1), []) := by
 unfold Jc at h
 split at h
 · cases h; exact ⟨rfl, rfl⟩
 · cases h; exact ⟨rfl, rfl⟩
 · cases h
def zx (l : List (Nat × Nat)) : List Value := l.flatMap fun p => [.int .i64 p.1, .int .i64 p.2]
def qz (l : List Jl) : List Value := l.flatMap fun c => [jc c.make, jc c.src, jc c.dst, ig c.f]
abbrev jw := Nat × Nat
abbrev jw.none : jw := (0, 0)
abbrev jw.disk : jw := (1, 0)
abbrev jw.names : jw := (2, 0)
abbrev jw.safe : jw := (3, 0)
abbrev jw.late : jw := (4, 0)
abbrev jw.file : jw := (5, 0)
abbrev jw.bytes (f : Nat) : jw := (6, f)
abbrev jw.pieces (f : Nat) : jw := (7, f)
def Mk (w : World) (ρ : Nat → jw) (f : Nat) (a : yw) : Prop :=
 ρ f = .file ∧ ∃ bv pv, w.heap[f]? = some (.cells #[bv, .int .i64 a.safe, pv] 154 (0, 0)) ∧
   w.ownsRow 0 5 1 bv a.bytes.length (a.bytes.map qg) ∧ (∀ g, bv.ownBlock = some g → ρ g = .bytes f) ∧
   w.ownsRow 0 192 2 pv a.late.length (zx a.late) ∧ (∀ g, pv.ownBlock = some g → ρ g = .pieces f)
def df (D : DataW Nat) (files : Nat → Option yw) : Prop := ∀ k, Maps.has D k = true → ∃ f a, D.atKey k .nil = .held f ∧ files f = some a
def ja7 (files : Nat → Option yw) (c : Jl) : Prop :=
 c.make.length < 1099511627776 ∧ c.src.length < 1099511627776 ∧ c.dst.length < 1099511627776 ∧ (c.make ≠ [] ∨ c.dst ≠ [] → ∃ f a, c.f = some f ∧ files f = some a)
structure Rep (w : World) (ρ : Nat → jw) (d : Nat) (S : je) : Prop where
 mem : ∃ nm sm lv, w.heap[d]? = some (.cells #[.map (some nm), .map (some sm), lv, .int .i64 S.calls, .int .i64 S.fail, .int .i64 S.cut, .int .i64 S.wrote] 101 (0, 0)) ∧
   ρ nm = .names ∧ ρ sm = .safe ∧ w.ownsMap Tryz.prog 9 Jc nm (Maps.size S.names) S.names ∧ w.ownsMap Tryz.prog 9 Jc sm (Maps.size S.safe) S.safe ∧
   w.ownsRow 0 148 4 lv S.late.length (qz S.late) ∧ (∀ g, lv.ownBlock = some g → ρ g = .late)
 disk : ρ d = .disk
 files : ∀ f a, S.files f = some a → Mk w ρ f a
 Jj : df S.names S.files
 o5 : df S.safe S.files
 jeq : ∀ c ∈ S.late, ja7 S.files c
 lt : ∀ i, ρ i ≠ .none → i < w.heap.size
 jg8 : -1 ≤ S.fail ∧ S.fail ≤ 9223372036854775807
 jhm : -1 ≤ S.cut ∧ S.cut ≤ 9223372036854775807
structure Small (S : je) : Prop where
 names : Maps.size S.names < 1099511627776
 safe : Maps.size S.safe < 1099511627776
 late : S.late.length < 1099511627776
 files : ∀ f a, S.files f = some a → a.bytes.length < 1099511627776 ∧ a.late.length < 1099511627776 ∧ a.safe < 1099511627776
structure yf (w : World) (ρ : Nat → jw) (w' : World) (ρ' : Nat → jw) : Prop where
 keeps : ja w w' (fun i => ρ i ≠ .none)
 role : ∀ i, i < w.heap.size → ρ' i = ρ i
theorem yf.refl (w : World) (ρ : Nat → jw) : yf w ρ w ρ := ⟨ja.refl _ _, fun _ _ => rfl⟩
theorem yf.trans {a b c : World} {r s t : Nat → jw} (h : yf a r b s) (k : yf b s c t) : yf a r c t :=
 ⟨h.keeps.trans k.keeps (fun i hi hs => by rw [← h.role i hi]; exact hs), fun i hi => (k.role i (Nat.lt_of_lt_of_le hi h.keeps.size)).trans (h.role i hi)⟩
theorem yf.of {w w' : World} {ρ : Nat → jw} {T : Nat → Prop} (h : ja w w' T) (hT : ∀ i, i < w.heap.size → T i → ρ i ≠ .none) : yf w ρ w' ρ := ⟨h.mono hT, fun _ _ => rfl⟩
theorem tight {w : World} {P : Program} {k : TypeId} {R : Value → Option (DataW Nat × List MemPlace)} {b n : Nat} {D : DataW Nat} (h : w.ownsMap P k R b n D) : w.ownsMap P k R b (Maps.size D) D := by
 obtain ⟨es, clock, hb, F, hs, rfl⟩ := h
 refine ⟨es, clock, hb, F, ?_, rfl⟩
 simp [Maps.size, length_sorted]
theorem Mk.keep {w w' : World} {ρ ρ' : Nat → jw} {f : Nat} {a : yw} {T : Nat → Prop} (h : Mk w ρ f a) (hk : ja w w' T) (hρ : ∀ i, i < w.heap.size → ρ' i = ρ i)
   (h1 : ¬ T f) (h2 : ∀ i, ρ i = .bytes f → ¬ T i) (h3 : ∀ i, ρ i = .pieces f → ¬ T i) : Mk w' ρ' f a := by
 obtain ⟨rf, bv, pv, hc, hb, rb, hp, rp⟩ := h
 refine ⟨(hρ f (lt_of_heap hc)).trans rf, bv, pv, hk.same hc h1, hk.row hb (fun g hg => h2 g (rb g hg)), fun g hg => (hρ g (hb.lt g hg).2).trans (rb g hg), hk.row hp (fun g hg => h3 g (rp g hg)), fun g hg => (hρ g (hp.lt g hg).2).trans (rp g hg)⟩
theorem Rep.keep {w w' : World} {ρ : Nat → jw} {d : Nat} {S : je} {T : Nat → Prop} (R : Rep w ρ d S) (hk : ja w w' T) (hT : ∀ i, T i → i < w.heap.size → ρ i = .none) : Rep w' ρ d S := by
 obtain ⟨⟨nm, sm, lv, hd, rn, rs, on, os, ol, rl⟩, rd, rf, nt, st, lo, hlt, fb, cb⟩ := R
 have hn : ∀ i, ρ i ≠ .none → ¬ T i := fun i hi ht => hi (hT i ht (hlt i hi))
 refine ⟨⟨nm, sm, lv, hk.same hd (hn d (by rw [rd]; decide)), rn, rs, hk.map on (hn nm (by rw [rn]; decide)), hk.map os (hn sm (by rw [rs]; decide)), hk.row ol (fun g hg => hn g (by rw [rl g hg]; decide)), rl⟩, rd, ?_, nt, st, lo, fun i hi => Nat.lt_of_lt_of_le (hlt i hi) hk.size, fb, cb⟩
 intro f a hf
 exact (rf f a hf).keep hk (fun _ _ => rfl) (hn f (by rw [(rf f a hf).1]; decide)) (fun i hi => hn i (by rw [hi]; exact fun h => by cases h)) (fun i hi => hn i (by rw [hi]; exact fun h => by cases h))
theorem df.mono {D : DataW Nat} {fs fs' : Nat → Option yw} (h : df D fs) (hf : ∀ f a, fs f = some a → ∃ a', fs' f = some a') : df D fs' := by
 intro k hk
 obtain ⟨f, a, h1, h2⟩ := h k hk
 obtain ⟨a', h3⟩ := hf f a h2
 exact ⟨f, a', h1, h3⟩
theorem ja7.mono {c : Jl} {fs fs' : Nat → Option yw} (h : ja7 fs c) (hf : ∀ f a, fs f = some a → ∃ a', fs' f = some a') : ja7 fs' c := by
 obtain ⟨h1, h2, h3, h4⟩ := h
 refine ⟨h1, h2, h3, fun h => ?_⟩
 obtain ⟨f, a, e, h5⟩ := h4 h
 obtain ⟨a', h6⟩ := hf f a h5
 exact ⟨f, a', e, h6⟩
def je.bad (S : je) : Bool := S.fail == 0 || S.cut == 0
set_option maxHeartbeats 400000 in
set_option maxRecDepth 100000 in
theorem jc2 (d : Nat) (nm sm lv : Value) (cs fl ct wr : Int) (ch : Bool) (w : World)
   (h : w.heap[d]? = some (.cells #[nm, sm, lv, .int .i64 cs, .int .i64 fl, .int .i64 ct, .int .i64 wr] 101 (0, 0)))
   (hf : -1 ≤ fl ∧ fl ≤ 9223372036854775807) (hc : -1 ≤ ct ∧ ct ≤ 9223372036854775807) :
   Calls Tryz.prog 102 #[.pointer (some ⟨d, 0, none⟩), .bool ch] w fun e w' => e = .returned (.bool (fl == 0 || ct == 0)) ∧
     w'.heap[d]? = some (.cells #[nm, sm, lv, .int .i64 (wrap64 (cs + 1)), .int .i64 (if 0 ≤ fl then fl - 1 else fl), .int .i64 (if 0 < ct then ct - 1 else ct), .int .i64 (if ch then wrap64 (wr + 1) else wr)] 101 (0, 0)) ∧
     ja w w' (fun i => i = d) := by
 have c3 := cell_of_heap (o := 3) h
 have c4 := cell_of_heap (o := 4) h
 have c5 := cell_of_heap (o := 5) h
 have c6 := cell_of_heap (o := 6) h
 have f3 := frozen_of_heap (o := 3) h
 have f4 := frozen_of_heap (o := 4) h
 have f5 := frozen_of_heap (o := 5) h
 have f6 := frozen_of_heap (o := 6) h
 simp at c3 c4 c5 c6
 obtain ⟨hf1, hf2⟩ := hf
 obtain ⟨hc1, hc2⟩ := hc
 have H : Hid (w.heap[d]? = _) := h
 clear h
 go_enter Tryz.func102, Tryz.ntmps102
 go_wp2
 all_goals go_ret
 all_goals exact ⟨rfl, by have h := H.out; simp [World.setCell, Array.getElem?_modify, h], by repeat (first | exact ja.refl _ _ | refine ja.set ?_ (by exact rfl) _)⟩
def je.called (S : je) (ch : Bool) : je :=
 { S with calls := wrap64 (S.calls + 1), fail := if 0 ≤ S.fail then S.fail - 1 else S.fail, cut := if 0 < S.cut then S.cut - 1 else S.cut, wrote := if ch then wrap64 (S.wrote + 1) else S.wrote }
theorem z8 {w : World} {ρ : Nat → jw} {d : Nat} {S : je} (ch : Bool) (R : Rep w ρ d S) :
   Calls Tryz.prog 102 #[.pointer (some ⟨d, 0, none⟩), .bool ch] w fun e w' => e = .returned (.bool S.bad) ∧ Rep w' ρ d (S.called ch) ∧ yf w ρ w' ρ := by
 obtain ⟨⟨nm, sm, lv, hd, rn, rs, on, os, ol, rl⟩, rd, rf, nt, st, lo, hlt, fb, cb⟩ := R
 refine (jc2 d _ _ lv S.calls S.fail S.cut S.wrote ch w hd fb cb).mono ?_
 rintro e w' ⟨rfl, hd', hk⟩
 have hn : ∀ i, ρ i ≠ .disk → ¬ i = d := fun i hi e => hi (e ▸ rd)
 refine ⟨rfl, ⟨⟨nm, sm, lv, hd', rn, rs, hk.map on (hn nm (by rw [rn]; decide)), hk.map os (hn sm (by rw [rs]; decide)), hk.row ol (fun g hg => hn g (by rw [rl g hg]; decide)), rl⟩, rd, ?_, nt, st, lo, fun i hi => Nat.lt_of_lt_of_le (hlt i hi) hk.size, ?_, ?_⟩, ?_⟩
 · intro f a hf
   exact (rf f a hf).keep hk (fun _ _ => rfl) (hn f (by rw [(rf f a hf).1]; decide)) (fun i hi => hn i (by rw [hi]; exact fun h => by cases h)) (fun i hi => hn i (by rw [hi]; exact fun h => by cases h))
 · simp only [je.called]; split <;> omega
 · simp only [je.called]; split <;> omega
 · exact yf.of hk (fun i _ e => by rw [e, rd]; decide)
theorem Small.called {S : je} (h : Small S) (ch : Bool) : Small (S.called ch) := ⟨h.names, h.safe, h.late, h.files⟩
end Go.Proofs.YtnipbplghijdmaaGreatDoor
namespace Go.Proofs.YtnipbplghijdmaaGreatDoor
open Go.RowKit Go.Maps Go.WideShapes
set_option linter.unusedVariables false
theorem law : Keyed Tryz.prog 9 := string_keyed Tryz.underlying9
def doA (D : DataW Nat) (c : Jl) : DataW Nat :=
 if c.make.isEmpty = false then D.put (.string c.make) (Aq c.f)
 else if c.dst.isEmpty = false then (if c.dst ≠ c.src then (D.put (.string c.dst) (Aq c.f)).del (.string c.src) else D.put (.string c.dst) (Aq c.f))
 else D.del (.string c.src)
theorem Yz {s : Str} (h : s.length < 1099511627776) : keyOf Tryz.prog 9 (jc s) = some (.string s) :=
 WideMaps.keyOf_string_mk (s := ⟨s.toArray⟩) Tryz.underlying9 (by show s.toArray.size ≤ maxLen; unfold maxLen; simp; omega)
set_option maxHeartbeats 400000 in
set_option maxRecDepth 100000 in
theorem je3 (b n : Nat) (D : DataW Nat) (mk sr ds : Str) (f : Option Nat) (w : World) (hown : w.ownsMap Tryz.prog 9 Jc b n D) (hn : n < 1099511627776)
   (hm : mk.length < 1099511627776) (hf : sr.length < 1099511627776) (ht : ds.length < 1099511627776) :
   Calls Tryz.prog 81 #[.map (some b), .agg #[jc mk, jc sr, jc ds, ig f]] w fun e w' => e = .returned (.tuple #[]) ∧
     w'.ownsMap Tryz.prog 9 Jc b (n + 1) (doA D ⟨mk, sr, ds, f⟩) ∧ ja w w' (fun i => i = b) := by
 have hkm := Yz hm
 have hkf := Yz hf
 have hkt := Yz ht
 have hv := Sl f
 have hbl := hown.lt
 go_enter Tryz.func81, Tryz.ntmps81
 go_wp2_with (first
   | (at_mapUpdate; refine wpList_mapUpdate_own _ rfl (.tmp 11) (.tmp 13) (.tmp 15) 98 rfl 9 146 law Tryz.underlying98 _ b n _ rfl (hown.alloc _) (by unfold maxLen; omega) _ _ _ rfl rfl hkm _ [] hv ?_; intro w1 hown1 hg1)
   | (at_mapUpdate; refine wpList_mapUpdate_own _ rfl (.tmp 20) (.tmp 22) (.tmp 24) 98 rfl 9 146 law Tryz.underlying98 _ b n _ rfl (hown.alloc _) (by unfold maxLen; omega) _ _ _ rfl rfl hkt _ [] hv ?_; intro w1 hown1 hg1; have c1 : w1.cell? ⟨w.heap.size, 1, none⟩ = some (jc sr) := (Aw hg1 hbl _); have c2 : w1.cell? ⟨w.heap.size, 2, none⟩ = some (jc ds) := (Aw hg1 hbl _))
   | (at_delete; refine wpList_delete_own _ rfl (.tmp 30) (.tmp 32) 98 9 rfl 146 law Tryz.underlying98 _ b _ _ rfl hown1 _ _ rfl hkf ?_; intro w2 hown2 hg2)
   | (at_delete; refine wpList_delete_own _ rfl (.tmp 4) (.tmp 6) 98 9 rfl 146 law Tryz.underlying98 _ b n _ rfl (hown.alloc _) _ _ rfl hkf ?_; intro w2 hown2 hg2)
   | go_in)
 all_goals go_end0
 · refine ⟨rfl, ?_, ((ja.refl w _).more _).grow hg1 (by simp)⟩
   have e : doA D ⟨mk, sr, ds, f⟩ = D.put (.string mk) (Aq f) := by simp_all [doA]
   rw [e]; exact hown1
 · refine ⟨rfl, ?_, (((ja.refl w _).more _).grow hg1 (by simp)).grow hg2.grown (by simp)⟩
   have e : doA D ⟨mk, sr, ds, f⟩ = (D.put (.string ds) (Aq f)).del (.string sr) := by simp_all [doA]
   rw [e]; exact hown2
 · refine ⟨rfl, ?_, ((ja.refl w _).more _).grow hg1 (by simp)⟩
   have e : doA D ⟨mk, sr, ds, f⟩ = D.put (.string ds) (Aq f) := by simp_all [doA]
   rw [e]; exact hown1
 · refine ⟨rfl, ?_, ((ja.refl w _).more _).grow hg2.grown (by simp)⟩
   have e : doA D ⟨mk, sr, ds, f⟩ = D.del (.string sr) := by simp_all [doA]
   rw [e]; exact hown2.mono (Nat.le_succ _)
end Go.Proofs.YtnipbplghijdmaaGreatDoor
