/-
  La: LaidA.
-/
import Derived.Test.YtnipbplghijdmaaGreatDoorRows
import Derived.Lib.LaidTab
import Derived.Stop.LaidErr
import Derived.Test.YtnipbplghijdmaaGreatDoorLa16
namespace Go.Proofs.YtnipbplghijdmaaGreatDoor
open Go.RowKit Go.ChangeShapes Go.WideShapes
set_option linter.unusedVariables false
abbrev Lf : List (String × DataW Unit) := Rows.partsRow.laid
theorem X5 {P : Program} {n nm : String} {text : List UInt8} {r : List (String × DataW Unit)} {W : World} {g : Nat} {ti tp te ts : TypeId} {ms : Array (String × TypeId)} {f : Field}
   (h : laidMet P ((n, .iface nm (.ptr (.agg [.lit (.string text)]))) :: r) W)
   (hg : P.globalNamed n = some g) (ht : (P.globals[g]?).map (·.type) = some ti) (hi : P.underlying ti = some (.interface ms)) (hrow : ∀ u, P.typeName? 3 u = some nm → u = tp)
   (hp : P.underlying tp = some (.pointer te)) (he : P.underlying te = some (.struct #[f])) (hft : f.type = ts) (hfo : f.offset = 0) (hs : P.underlying ts = some .string) (hc : P.cellsOf te = 1) (hcs : P.cellsOf ts = 1) :
   ∃ (a : Addr) (s : ByteArray), W.cell? ⟨g, 0, none⟩ = some (.iface tp (.pointer (some a))) ∧ W.cell? a = some (.string s) ∧ s.data.toList = text ∧ a.spot = none ∧ ∃ c t, W.heap[a.block]? = some (.cells c t (0, 0)) := by
 obtain ⟨ps, ⟨g0, t0, cs0, f0, p0, q0, hg0, ht0, hv0, hd0, _, e0⟩, _, hrows⟩ := h
 obtain rfl := Option.some.inj (hg.symm.trans hg0)
 obtain rfl := Option.some.inj (ht.symm.trans ht0)
 subst e0
 obtain ⟨l0⟩ := cs0
 have ok0 : ∀ u v, l0 = [.iface u v] → Value.okWide P W .any 0 u v := fun u v e => by
   subst e
   exact (hrows g 0 (by simp [MemPlace.row])).2 u v (by simpa using World.var?_cell hg0 hv0 0)
 obtain ⟨a0, s0, rfl, hc0, hs0, hz0, hp0⟩ := errorString_of_trod hi hrow hp he hft hfo hs hc hcs hd0 ok0
 refine ⟨a0, s0, by simpa using World.var?_cell hg0 hv0 0, hc0, hs0, World.cell?_spot hc0, (hrows a0.block a0.off ?_).1⟩
 rw [hp0]
 simp [MemPlace.row]
theorem jbo : "*" ++ "errors.errorString" = "*errors.errorString" := by decide
theorem C8 (u : TypeId) (h : Tryz.prog.typeName? 3 u = some "*errors.errorString") : u = 371 :=
 typeName_ptr_named (nm := "errors.errorString") (by rw [jbo]; kernel_rfl) (by kernel_rfl) (by decide) u (by rw [jbo]; exact h)
def Y3 : DataW Unit → List UInt8
 | .iface _ (.ptr (.agg [.lit (.string t)])) => t
 | _ => []
def E8 (g : Nat) : List UInt8 := if g = 7 then Y3 Rows.laid_sediment_fault_ErrShort else if g = 8 then Y3 Rows.laid_sediment_fault_ErrSum else if g = 4 then Y3 Rows.laid_sediment_fault_ErrValue
 else if g = 3 then Y3 Rows.laid_sediment_fault_ErrTail else if g = 2 then Y3 Rows.laid_sediment_fault_ErrMissing else if g = 1 then Y3 Rows.laid_sediment_fault_ErrDisk else Y3 Rows.laid_sediment_fault_ErrFull
theorem G9 : ∀ g ∈ sentinels, ∀ k ∈ sentinels, E8 g = E8 k → g = k := by decide
theorem bn : Tryz.prog.cellsOf 393 = 1 := by kernel_rfl
theorem Z9 : Tryz.prog.cellsOf 9 = 1 := by kernel_rfl
def SentAt (W : World) (g : Nat) (a : Addr) : Prop :=
 ∃ s : ByteArray, W.cell? ⟨g, 0, none⟩ = some (.iface 371 (.pointer (some a))) ∧ W.cell? a = some (.string s) ∧ s.data.toList = E8 g ∧ a.spot = none ∧ ∃ c t, W.heap[a.block]? = some (.cells c t (0, 0))
theorem jdl {W : World} (h : laidMet Tryz.prog Lf W) : ∀ g ∈ sentinels, ∃ a, SentAt W g a := by
 have h3 := h.tail.tail.tail
 have h4 := h3.tail
 have h5 := h4.tail
 have h6 := h5.tail
 have h7 := h6.tail
 have h8 := h7.tail
 have h9 := h8.tail
 intro g hg
 simp only [sentinels, List.mem_cons, List.not_mem_nil, or_false] at hg
 rcases hg with rfl | rfl | rfl | rfl | rfl | rfl | rfl
 · obtain ⟨a, s, r⟩ := X5 (g := 7) (tp := 371) h3 (by kernel_rfl) (by kernel_rfl) Tryz.underlying128 C8 Tryz.underlying371 Tryz.underlying393 rfl rfl Tryz.underlying9 bn Z9
   exact ⟨a, s, r⟩
 · obtain ⟨a, s, r⟩ := X5 (g := 8) (tp := 371) h4 (by kernel_rfl) (by kernel_rfl) Tryz.underlying128 C8 Tryz.underlying371 Tryz.underlying393 rfl rfl Tryz.underlying9 bn Z9
   exact ⟨a, s, r⟩
 · obtain ⟨a, s, r⟩ := X5 (g := 4) (tp := 371) h5 (by kernel_rfl) (by kernel_rfl) Tryz.underlying128 C8 Tryz.underlying371 Tryz.underlying393 rfl rfl Tryz.underlying9 bn Z9
   exact ⟨a, s, r⟩
 · obtain ⟨a, s, r⟩ := X5 (g := 3) (tp := 371) h6 (by kernel_rfl) (by kernel_rfl) Tryz.underlying128 C8 Tryz.underlying371 Tryz.underlying393 rfl rfl Tryz.underlying9 bn Z9
   exact ⟨a, s, r⟩
 · obtain ⟨a, s, r⟩ := X5 (g := 2) (tp := 371) h7 (by kernel_rfl) (by kernel_rfl) Tryz.underlying128 C8 Tryz.underlying371 Tryz.underlying393 rfl rfl Tryz.underlying9 bn Z9
   exact ⟨a, s, r⟩
 · obtain ⟨a, s, r⟩ := X5 (g := 1) (tp := 371) h8 (by kernel_rfl) (by kernel_rfl) Tryz.underlying128 C8 Tryz.underlying371 Tryz.underlying393 rfl rfl Tryz.underlying9 bn Z9
   exact ⟨a, s, r⟩
 · obtain ⟨a, s, r⟩ := X5 (g := 0) (tp := 371) h9 (by kernel_rfl) (by kernel_rfl) Tryz.underlying128 C8 Tryz.underlying371 Tryz.underlying393 rfl rfl Tryz.underlying9 bn Z9
   exact ⟨a, s, r⟩
theorem Us {W : World} {a : Addr} {v : Value} (h : W.cell? a = some v) : a.block < W.heap.size := by
 rcases Nat.lt_or_ge a.block W.heap.size with h' | h'
 · exact h'
 · simp [World.cell?, Array.getElem?_eq_none h'] at h
theorem Wp : Rows.laid_internal_strconv_uint64pow10 (H := Unit) = Lib.tabData .u64 Lib.pow10Tab := by kernel_rfl
theorem Vl {W : World} (h : laidMet Tryz.prog Lf W) : ∃ E, Env E W.heap.size W := by
 have hs := jdl h
 have key : ∀ g, ∃ a, g ∈ sentinels → SentAt W g a := fun g => by
   rcases Classical.em (g ∈ sentinels) with hg | hg
   · obtain ⟨a, ha⟩ := hs g hg
     exact ⟨a, fun _ => ha⟩
   · exact ⟨default, fun h => absurd h hg⟩
 have hE : ∀ g ∈ sentinels, SentAt W g (Classical.choose (key g)) := fun g hg => Classical.choose_spec (key g) hg
 generalize he : (fun g => Classical.choose (key g)) = E
 have hE' : ∀ g ∈ sentinels, SentAt W g (E g) := fun g hg => by rw [← he]; exact hE g hg
 have h2 := h.tail.tail
 have ht : Lib.TabIs Tryz.prog W "internal/strconv.uint64pow10" .u64 Lib.pow10Tab := Lib.tabIs_of_head (g := 5) (by kernel_rfl) (by kernel_rfl) Tryz.underlying338 Tryz.underlying172 (by kernel_rfl) (by kernel_rfl) (by rw [← Wp]; exact h2)
 have hg : Tryz.prog.globalNamed "internal/strconv.uint64pow10" = some 5 := by kernel_rfl
 have htab : ∃ t fz, W.heap[5]? = some (.cells (Lib.pow10Tab.map fun z => Value.int .u64 z).toArray t fz) := by
   unfold Lib.TabIs World.var? at ht
   rw [hg] at ht
   simp only [Option.bind_some] at ht
   split at ht
   · rename_i cs t fz hh
     simp only [Option.some.injEq] at ht
     exact ⟨t, fz, by rw [hh, ht]⟩
   · cases ht
 refine ⟨E, ⟨?_, ?_, ?_, ?_, ?_, ?_⟩, htab, ?_⟩
 · intro g hg
   obtain ⟨s, h1, _⟩ := hE' g hg
   exact h1
 · intro g hg
   obtain ⟨s, h1, _⟩ := hE' g hg
   exact Us h1
 · intro g hg
   obtain ⟨s, h1, h2, h3, h4, h5⟩ := hE' g hg
   exact h5
 · intro g hg
   obtain ⟨s, h1, h2, _⟩ := hE' g hg
   exact Us h2
 · intro g hg
   obtain ⟨s, h1, h2, h3, h4, _⟩ := hE' g hg
   exact h4
 · intro g hg k hk e
   obtain ⟨s, _, h2, h3, _⟩ := hE' g hg
   obtain ⟨s', _, h2', h3', _⟩ := hE' k hk
   rw [e, h2'] at h2
   cases h2
   exact G9 g hg k hk (h3.symm.trans h3')
 · obtain ⟨t, fz, hh⟩ := htab
   exact (Array.getElem?_eq_some_iff.1 hh).1
def Mh : DataW Unit → Array Value
 | .agg ds => (ds.map fun | .lit (.int k n) => Value.int k n | _ => Value.nilIface).toArray
 | _ => #[]
def ai (d : DataW Unit) : Obj := .cells #[.string ⟨(Y3 d).toArray⟩] 393
def Fw (P : Program) (os : Os) : World :=
 let N := (World.settled P os).heap.size
 let w0 := World.holding P os ⟨#[ai Rows.laid_sediment_fault_ErrShort, ai Rows.laid_sediment_fault_ErrSum, ai Rows.laid_sediment_fault_ErrValue, ai Rows.laid_sediment_fault_ErrTail, ai Rows.laid_sediment_fault_ErrMissing,
   ai Rows.laid_sediment_fault_ErrDisk, ai Rows.laid_sediment_fault_ErrFull], #[], []⟩
 let put (h : Array Obj) (g : Nat) (cs : Array Value) : Array Obj := h.modify g fun
   | .cells _ t frozen => .cells cs t frozen
   | o => o
 let sent (h : Array Obj) (g k : Nat) : Array Obj := put h g #[.iface 371 (.pointer (some ⟨N + k, 0, none⟩))]
 let h0 := put w0.heap 9 (Mh Rows.laid_math_bits_deBruijn32tab)
 let h1 := put h0 10 (Mh Rows.laid_math_bits_deBruijn64tab)
 let h2 := put h1 5 (Mh Rows.laid_internal_strconv_uint64pow10)
 { w0 with heap := sent (sent (sent (sent (sent (sent (sent h2 7 0) 8 1) 4 2) 3 3) 2 4) 1 5) 0 6 }
end Go.Proofs.YtnipbplghijdmaaGreatDoor
