/-
  La: Name NameRep Put Ops1 Ops2.
-/
import Derived.Deep.RegionLaw
import Derived.Deep.Cut
import Derived.Deep.CutRange
import Derived.Maps.AppendAt
import Derived.Test.YtnipbplghijdmaaGreatDoorLa03
import Derived.Test.YtnipbplghijdmaaGreatDoorLa04
namespace Go.Proofs.YtnipbplghijdmaaGreatDoor
open Go.RowKit Go.Maps Go.WideShapes
set_option linter.unusedVariables false
theorem jed {d nm n : Nat} {D' : DataW Nat} {late : List Jl} {c : Jl} {sm lv x3 x4 x5 x6 : Value} {w w' wa w2 : World} {p2 : Option Addr} {cp2 : Nat}
   (hnd : nm ≠ d) (hlv : ∀ g, lv.ownBlock = some g → g ≠ d ∧ g ≠ nm) (hdl : d < w.heap.size) (hnl : nm < w.heap.size)
   (hown1 : w'.ownsMap Tryz.prog 9 Jc nm (n + 1) D')
   (k1 : ja w w' (fun i => i = d ∨ i = nm ∨ some i = lv.ownBlock)) (ka : ja w' wa (fun _ => False))
   (hown2 : w2.ownsRow 0 148 4 (.slice p2 (late.length + 1) cp2) (late.length + 1) (qz late ++ qz [c]))
   (hg2 : wa.grownBy w2 lv.ownBlock) (hloc2 : (Value.slice p2 (late.length + 1) cp2).ownBlock = lv.ownBlock ∨ (Value.slice p2 (late.length + 1) cp2).ownBlock = some wa.heap.size)
   (HD2 : w2.heap[d]? = some (.cells #[.map (some nm), sm, lv, x3, x4, x5, x6] 101 (0, 0))) :
   ∃ lv', (w2.setCell ⟨d, 2, none⟩ (.slice p2 (late.length + 1) cp2)).heap[d]? = some (.cells #[.map (some nm), sm, lv', x3, x4, x5, x6] 101 (0, 0)) ∧
       (w2.setCell ⟨d, 2, none⟩ (.slice p2 (late.length + 1) cp2)).ownsMap Tryz.prog 9 Jc nm (n + 1) D' ∧
       (w2.setCell ⟨d, 2, none⟩ (.slice p2 (late.length + 1) cp2)).ownsRow 0 148 4 lv' (late.length + 1) (qz (late ++ [c])) ∧
       (lv'.ownBlock = lv.ownBlock ∨ ∃ g, lv'.ownBlock = some g ∧ w.heap.size ≤ g) ∧
       ja w (w2.setCell ⟨d, 2, none⟩ (.slice p2 (late.length + 1) cp2)) (fun i => i = d ∨ i = nm ∨ some i = lv.ownBlock) := by
 have hs : w.heap.size ≤ wa.heap.size := Nat.le_trans k1.size ka.size
 refine ⟨.slice p2 (late.length + 1) cp2, ?_, ?_, ?_, ?_, ?_⟩
 · rw [jb HD2]; rfl
 · refine World.ownsMap.setCell ?_ hnd _
   refine (ja.grown hg2).map (ka.map hown1 id) (fun e => (hlv nm e.symm).2 rfl)
 · rw [F4]
   refine (ja.setCell w2 _ _).row hown2 (fun g hg e => ?_)
   rcases hloc2 with e2 | e2
   · exact (hlv g (e2 ▸ hg)).1 e
   · have e3 : g = wa.heap.size := Option.some.inj (hg.symm.trans e2)
     have e4 : g = d := e
     omega
 · rcases hloc2 with e | e
   · exact .inl e
   · exact .inr ⟨_, e, hs⟩
 · exact ((k1.trans ka (fun _ _ h => h.elim)).grow hg2 (fun k e _ => .inr (.inr e.symm))).set (.inl rfl) _
set_option maxHeartbeats 800000 in
set_option maxRecDepth 100000 in
theorem jce (d nm n : Nat) (D : DataW Nat) (late : List Jl) (mk sr ds : Str) (f : Option Nat) (sm lv x3 x4 x5 x6 : Value) (w : World)
   (h : w.heap[d]? = some (.cells #[.map (some nm), sm, lv, x3, x4, x5, x6] 101 (0, 0)))
   (hown : w.ownsMap Tryz.prog 9 Jc nm n D) (hn : n < 1099511627776)
   (hm : mk.length < 1099511627776) (hf : sr.length < 1099511627776) (ht : ds.length < 1099511627776)
   (hl : w.ownsRow 0 148 4 lv late.length (qz late)) (hll : late.length < 1099511627776) (hnd : nm ≠ d) (hlv : ∀ g, lv.ownBlock = some g → g ≠ d ∧ g ≠ nm) :
   Calls Tryz.prog 194 #[.pointer (some ⟨d, 0, none⟩), .agg #[jc mk, jc sr, jc ds, ig f]] w fun e w' => e = .returned (.tuple #[]) ∧
     ∃ lv', w'.heap[d]? = some (.cells #[.map (some nm), sm, lv', x3, x4, x5, x6] 101 (0, 0)) ∧
       w'.ownsMap Tryz.prog 9 Jc nm (n + 1) (doA D ⟨mk, sr, ds, f⟩) ∧
       w'.ownsRow 0 148 4 lv' (late.length + 1) (qz (late ++ [⟨mk, sr, ds, f⟩])) ∧
       (lv'.ownBlock = lv.ownBlock ∨ ∃ g, lv'.ownBlock = some g ∧ w.heap.size ≤ g) ∧ ja w w' (fun i => i = d ∨ i = nm ∨ some i = lv.ownBlock) := by
 have c0 := cell_of_heap (o := 0) h
 simp at c0
 have hdl := lt_of_heap h
 have hnl := hown.lt
 go_enter Tryz.func194, Tryz.ntmps194
 go_wp2_with fail
 go_region_with (go_at_call 81; refine (je3 nm n D mk sr ds f _ ?_ hn hm hf ht).mono ?_; exact hown.alloc _; rintro e w' ⟨rfl, hown1, hk1⟩)
 all_goals
   have hd1 : w'.heap[d]? = some (.cells #[.map (some nm), sm, lv, x3, x4, x5, x6] 101 (0, 0)) := hk1.same (((ja.refl w (fun _ => False)).more _).same h id) hnd.symm
   have hc1 : w'.heap[w.heap.size]? = some (.cells #[jc mk, jc sr, jc ds, ig f] 148 (0, 0)) := hk1.same (jd w _) (Nat.ne_of_gt hnl)
   have hl1 : w'.ownsRow 0 148 4 lv late.length (qz late) := hk1.row (hl.alloc _) (fun g hg => (hlv g hg).2)
   have hs1 : w.heap.size + 1 ≤ w'.heap.size := by have := hk1.size; simp at this; omega
   have k1 : ja w w' (fun i => i = d ∨ i = nm ∨ some i = lv.ownBlock) := ja.trans ((ja.refl w _).more _).draw hk1 (fun i _ e => .inr (.inl e))
   clear h c0 hown hl hk1
   have d2 := cell_of_heap (o := 2) hd1
   have f2 := frozen_of_heap (o := 2) hd1
   have e0 := cell_of_heap (o := 0) hc1
   have e1 := cell_of_heap (o := 1) hc1
   have e2 := cell_of_heap (o := 2) hc1
   have e3 := cell_of_heap (o := 3) hc1
   have d2a : ∀ x, (w'.alloc x).cell? ⟨d, 2, none⟩ = some lv := fun x => (Xd (o := 2) hd1 x)
   simp at d2 e0 e1 e2 e3
   have HD := hide hd1
   have HC := hide hc1
   clear hd1 hc1
   obtain ⟨i0, hi, hz0, hz1, hz2⟩ := info_parts Tryz.jai
   go_wp2_with fail
   go_region_law (refine zn rfl (.tmp 14) (.tmp 16) 99 rfl 0 148 i0 jbp 4 56 Tryz.underlying99 hi hz0 hz1 hz2 rfl (by decide) lv late.length (qz late) rfl (hl1.alloc _) ⟨w'.heap.size, 0, none⟩ 1 1 (qz [⟨mk, sr, ds, f⟩]) rfl rfl (Qc (jd w' _) rfl) (jau _) (by unfold maxLen; omega) (by omega) (Nat.zero_le _) ?_; intro p2 cp2 w2 hown2 hg2 hloc2; have hd2 := (ja.grown hg2).same (((ja.refl w' (fun _ => False)).draw.more _).same HD.out id) (fun e => (hlv d e.symm).1 rfl); have d2' := cell_of_heap (o := 2) hd2; have f2' := frozen_of_heap (o := 2) hd2; have HD2 := hide hd2; clear hd2; simp at d2')
   all_goals
     go_end0
     exact ⟨rfl, jed hnd hlv hdl hnl hown1 k1 (((ja.refl w' _).more _).draw) hown2 hg2 hloc2 HD2.out⟩
theorem Fv {D : DataW Nat} {fs : Nat → Option yw} {f : Nat} {a : yw} (hD : IsMap D) (h : df D fs) (hf : fs f = some a) (s : Str) : df (D.put (.string s) (.held f)) fs := by
 intro k hk
 by_cases e : k = .string s
 · subst e
   exact ⟨f, a, atKey_put_same (k := .string s) hD (by trivial) _ _, hf⟩
 · rw [has_put_other e] at hk
   obtain ⟨f', a', h1, h2⟩ := h k hk
   exact ⟨f', a', by rw [atKey_put_other e]; exact h1, h2⟩
theorem Ov {D : DataW Nat} {fs : Nat → Option yw} (h : df D fs) (s : Str) : df (D.del (.string s)) fs := by
 intro k hk
 by_cases e : k = .string s
 · subst e
   rw [has_del_same] at hk; cases hk
 · rw [has_del_other e] at hk
   obtain ⟨f', a', h1, h2⟩ := h k hk
   exact ⟨f', a', by rw [atKey_del_other e]; exact h1, h2⟩
theorem Uw {D : DataW Nat} {fs : Nat → Option yw} {c : Jl} (hD : IsMap D) (h : df D fs) (hc : ja7 fs c) : df (doA D c) fs := by
 obtain ⟨_, _, _, h4⟩ := hc
 unfold doA
 split
 · rename_i hm
   obtain ⟨f, a, e, hf⟩ := h4 (.inl (by intro e; rw [e] at hm; cases hm))
   rw [e]; exact Fv hD h hf _
 · split
   · rename_i hm
     obtain ⟨f, a, e, hf⟩ := h4 (.inr (by intro e; rw [e] at hm; cases hm))
     rw [e]
     split
     · exact Ov (Fv hD h hf _) _
     · exact Fv hD h hf _
   · exact Ov h _
def je.named (S : je) (c : Jl) : je := { S with names := doA S.names c, late := S.late ++ [c] }
theorem K8 {w : World} {ρ : Nat → jw} {d : Nat} {S : je} (mk sr ds : Str) (f : Option Nat) (R : Rep w ρ d S) (Z : Small S) (hc : ja7 S.files ⟨mk, sr, ds, f⟩) :
   Calls Tryz.prog 194 #[.pointer (some ⟨d, 0, none⟩), .agg #[jc mk, jc sr, jc ds, ig f]] w fun e w' => e = .returned (.tuple #[]) ∧ ∃ ρ', Rep w' ρ' d (S.named ⟨mk, sr, ds, f⟩) ∧ yf w ρ w' ρ' := by
 obtain ⟨⟨nm, sm, lv, hd, rn, rs, on, os, ol, rl⟩, rd, rf, nt, st, lo, hlt, fb, cb⟩ := R
 have hnd : nm ≠ d := fun e => by rw [e, rd] at rn; cases rn
 have hlv : ∀ g, lv.ownBlock = some g → g ≠ d ∧ g ≠ nm := fun g hg => by
   have hr := rl g hg
   exact ⟨fun e => (by rw [e, rd] at hr; cases hr), fun e => (by rw [e, rn] at hr; cases hr)⟩
 refine (jce d nm (Maps.size S.names) S.names S.late mk sr ds f _ lv _ _ _ _ w hd on Z.names hc.1 hc.2.1 hc.2.2.1 ol Z.late hnd hlv).mono ?_
 rintro e w' ⟨rfl, lv', hd', on', ol', hloc, hk⟩
 have hT : ∀ i, ρ i ≠ .disk → ρ i ≠ .names → ρ i ≠ .late → ¬ (i = d ∨ i = nm ∨ some i = lv.ownBlock) := by
   rintro i h1 h2 h3 (e | e | e)
   · exact h1 (e ▸ rd)
   · exact h2 (e ▸ rn)
   · exact h3 (rl i e.symm)
 have hTn : ∀ i, i < w.heap.size → (i = d ∨ i = nm ∨ some i = lv.ownBlock) → ρ i ≠ .none := by
   rintro i _ (e | e | e)
   · rw [e, rd]; decide
   · rw [e, rn]; decide
   · rw [rl i e.symm]; decide
 refine ⟨rfl, fun i => if some i = lv'.ownBlock then .late else ρ i, ?_, ⟨hk.mono hTn, fun i hi => ?_⟩⟩
 · have hρ : ∀ i, i < w.heap.size → (if some i = lv'.ownBlock then jw.late else ρ i) = ρ i := by
     intro i hi
     split
     · rename_i e
       rcases hloc with e1 | ⟨g, e1, hg⟩
       · rw [e1] at e; exact (rl i e.symm).symm
       · rw [e1] at e; have := Option.some.inj e; omega
     · rfl
   refine ⟨⟨nm, sm, lv', hd', ?_, ?_, tight on', hk.map os (hT sm (by rw [rs]; decide) (by rw [rs]; decide) (by rw [rs]; decide)), ?_, ?_⟩, ?_, ?_, ?_, ?_, ?_, ?_, fb, cb⟩
   · exact (hρ nm (hlt nm (by rw [rn]; decide))).trans rn
   · exact (hρ sm (hlt sm (by rw [rs]; decide))).trans rs
   · simpa [je.named] using ol'
   · intro g hg; simp [hg]
   · exact (hρ d (hlt d (by rw [rd]; decide))).trans rd
   · intro f' a hf'
     have hfo := rf f' a hf'
     exact hfo.keep hk hρ (hT f' (by rw [hfo.1]; decide) (by rw [hfo.1]; decide) (by rw [hfo.1]; decide)) (fun i hi => hT i (by rw [hi]; exact fun h => by cases h) (by rw [hi]; exact fun h => by cases h) (by rw [hi]; exact fun h => by cases h)) (fun i hi => hT i (by rw [hi]; exact fun h => by cases h) (by rw [hi]; exact fun h => by cases h) (by rw [hi]; exact fun h => by cases h))
   · exact Uw on.isMap nt hc
   · exact st
   · intro c hc'
     rcases List.mem_append.1 hc' with h | h
     · exact lo c h
     · rw [List.mem_singleton.1 h]; exact hc
   · intro i hi
     by_cases e : some i = lv'.ownBlock
     · exact (ol'.lt i e.symm).2
     · rw [if_neg e] at hi; exact Nat.lt_of_lt_of_le (hlt i hi) hk.size
 · split
   · rename_i e
     rcases hloc with e1 | ⟨g, e1, hg⟩
     · rw [e1] at e; exact (rl i e.symm).symm
     · rw [e1] at e; have := Option.some.inj e; omega
   · rfl
theorem jb6 (c : Nat × Nat) : ∀ u ∈ zx [c], u.oneCell' = true := by
 intro u hu
 simp [zx] at hu
 rcases hu with rfl | rfl <;> rfl
theorem F5 (l : List UInt8) : ∀ u ∈ l.map qg, u.oneCell' = true := by
 intro u hu
 simp at hu
 obtain ⟨x, _, rfl⟩ := hu
 rfl
theorem jfx {f : Nat} {bytes src : List UInt8} {late : List (Nat × Nat)} {sf pv : Value} {w wa w2 wb w3 : World} {pb p2 p3 : Option Addr} {cb cp2 cp3 : Nat}
   (hbp : ∀ g, (Value.slice pb bytes.length cb).ownBlock = some g → g ≠ f ∧ pv.ownBlock ≠ some g) (hpf : ∀ g, pv.ownBlock = some g → g ≠ f)
   (hf : f < w.heap.size) (hb : w.ownsRow 0 5 1 (.slice pb bytes.length cb) bytes.length (bytes.map qg))
   (ka : ja w wa (fun _ => False))
   (hown2 : w2.ownsRow 0 192 2 (.slice p2 (late.length + 1) cp2) (late.length + 1) (zx late ++ zx [(bytes.length, src.length)]))
   (hg2 : wa.grownBy w2 pv.ownBlock) (hloc2 : (Value.slice p2 (late.length + 1) cp2).ownBlock = pv.ownBlock ∨ (Value.slice p2 (late.length + 1) cp2).ownBlock = some wa.heap.size)
   (HD2 : w2.heap[f]? = some (.cells #[.slice pb bytes.length cb, sf, pv] 154 (0, 0)))
   (hwb : wb = w2.setCell ⟨f, 2, none⟩ (.slice p2 (late.length + 1) cp2))
   (hown3 : w3.ownsRow 0 5 1 (.slice p3 (bytes.length + src.length) cp3) (bytes.length + src.length) (bytes.map qg ++ src.map qg))
   (hg3 : wb.grownBy w3 (Value.slice pb bytes.length cb).ownBlock)
   (hloc3 : (Value.slice p3 (bytes.length + src.length) cp3).ownBlock = (Value.slice pb bytes.length cb).ownBlock ∨ (Value.slice p3 (bytes.length + src.length) cp3).ownBlock = some wb.heap.size) :
   ∃ bv' pv', (w3.setCell ⟨f, 0, none⟩ (.slice p3 (bytes.length + src.length) cp3)).heap[f]? = some (.cells #[bv', sf, pv'] 154 (0, 0)) ∧
       (w3.setCell ⟨f, 0, none⟩ (.slice p3 (bytes.length + src.length) cp3)).ownsRow 0 5 1 bv' (bytes ++ src).length ((bytes ++ src).map qg) ∧
       (w3.setCell ⟨f, 0, none⟩ (.slice p3 (bytes.length + src.length) cp3)).ownsRow 0 192 2 pv' (late ++ [(bytes.length, src.length)]).length (zx (late ++ [(bytes.length, src.length)])) ∧
       (bv'.ownBlock = (Value.slice pb bytes.length cb).ownBlock ∨ ∃ g, bv'.ownBlock = some g ∧ w.heap.size ≤ g) ∧ (pv'.ownBlock = pv.ownBlock ∨ ∃ g, pv'.ownBlock = some g ∧ w.heap.size ≤ g) ∧
       (∀ g, bv'.ownBlock = some g → pv'.ownBlock ≠ some g) ∧
       ja w (w3.setCell ⟨f, 0, none⟩ (.slice p3 (bytes.length + src.length) cp3)) (fun i => i = f ∨ some i = (Value.slice pb bytes.length cb).ownBlock ∨ some i = pv.ownBlock) := by
 have hs : w.heap.size ≤ wa.heap.size := ka.size
 have hs2 : wa.heap.size ≤ w2.heap.size := hg2.size
 have hsb : wb.heap.size = w2.heap.size := by rw [hwb]; simp [World.setCell]
 have hf3 : w3.heap[f]? = some (.cells #[.slice pb bytes.length cb, sf, .slice p2 (late.length + 1) cp2] 154 (0, 0)) := by
   refine (ja.grown hg3).same ?_ (fun e => (hbp f e.symm).1 rfl)
   rw [hwb, jb HD2]; rfl
 have hlt2 : ∀ g, (Value.slice p2 (late.length + 1) cp2).ownBlock = some g → g < w2.heap.size := fun g hg => (hown2.lt g hg).2
 have hbl : ∀ g, (Value.slice pb bytes.length cb).ownBlock = some g → g < w.heap.size := fun g hg => (hb.lt g hg).2
 have hapart : ∀ g, (Value.slice p3 (bytes.length + src.length) cp3).ownBlock = some g → (Value.slice p2 (late.length + 1) cp2).ownBlock ≠ some g := by
   intro g hg e
   rcases hloc3 with e3 | e3
   · have hgb := e3 ▸ hg
     have := hbl g hgb
     rcases hloc2 with e2 | e2
     · exact (hbp g hgb).2 (e2 ▸ e)
     · have := Option.some.inj (e.symm.trans e2); omega
   · have h1 := Option.some.inj (hg.symm.trans e3)
     have h2 := hlt2 g e
     omega
 refine ⟨.slice p3 (bytes.length + src.length) cp3, .slice p2 (late.length + 1) cp2, ?_, ?_, ?_, ?_, ?_, hapart, ?_⟩
 · rw [jb hf3]; rfl
 · rw [List.length_append, List.map_append]
   refine (ja.setCell w3 _ _).row hown3 (fun g hg e => ?_)
   have e4 : g = f := e
   rcases hloc3 with e2 | e2
   · exact (hbp g (e2 ▸ hg)).1 e4
   · have e3 : g = wb.heap.size := Option.some.inj (hg.symm.trans e2)
     omega
 · rw [Hd, List.length_append]
   have r2 : wb.ownsRow 0 192 2 (.slice p2 (late.length + 1) cp2) (late.length + 1) (zx late ++ zx [(bytes.length, src.length)]) := by
     rw [hwb]
     refine (ja.setCell w2 _ _).row hown2 (fun g hg e => ?_)
     have e4 : g = f := e
     rcases hloc2 with e2 | e2
     · exact hpf g (e2 ▸ hg) e4
     · have e3 : g = wa.heap.size := Option.some.inj (hg.symm.trans e2)
       omega
   refine (ja.setCell w3 _ _).row ((ja.grown hg3).row r2 (fun g hg e => ?_)) (fun g hg e => ?_)
   · have hgb := e.symm
     have := hbl g hgb
     rcases hloc2 with e2 | e2
     · exact (hbp g hgb).2 (e2 ▸ hg)
     · have := Option.some.inj (hg.symm.trans e2); omega
   · have e4 : g = f := e
     rcases hloc2 with e2 | e2
     · exact hpf g (e2 ▸ hg) e4
     · have e3 : g = wa.heap.size := Option.some.inj (hg.symm.trans e2)
       omega
 · rcases hloc3 with e | e
   · exact .inl e
   · exact .inr ⟨_, e, by omega⟩
 · rcases hloc2 with e | e
   · exact .inl e
   · exact .inr ⟨_, e, by omega⟩
 · have k2 : ja w w2 (fun i => i = f ∨ some i = (Value.slice pb bytes.length cb).ownBlock ∨ some i = pv.ownBlock) := (ka.mono (fun _ _ h => h.elim)).grow hg2 (fun k e _ => .inr (.inr e.symm))
   have kb : ja w wb (fun i => i = f ∨ some i = (Value.slice pb bytes.length cb).ownBlock ∨ some i = pv.ownBlock) := by rw [hwb]; exact k2.set (.inl rfl) _
   exact (kb.grow hg3 (fun k e _ => .inr (.inl e.symm))).set (.inl rfl) _
set_option maxHeartbeats 800000 in
set_option maxRecDepth 100000 in
theorem jdx (f : Nat) (bytes src : List UInt8) (late : List (Nat × Nat)) (sf bv pv : Value) (ad : Addr) (c : Nat) (w : World)
   (h : w.heap[f]? = some (.cells #[bv, sf, pv] 154 (0, 0)))
   (hb : w.ownsRow 0 5 1 bv bytes.length (bytes.map qg)) (hp : w.ownsRow 0 192 2 pv late.length (zx late))
   (hbl : bytes.length < 1099511627776) (hll : late.length < 1099511627776) (hsl : src.length < 1099511627776) (hs0 : 0 < src.length)
   (hsrc : ∀ j u, (src.map qg)[j]? = some u → w.cell? (ad.add j) = some u) (ha : ad.block ≠ f) (hap : pv.ownBlock ≠ some ad.block)
   (hbp : ∀ g, bv.ownBlock = some g → g ≠ f ∧ pv.ownBlock ≠ some g) (hpf : ∀ g, pv.ownBlock = some g → g ≠ f) :
   Calls Tryz.prog 103 #[.pointer (some ⟨f, 0, none⟩), .slice (some ad) src.length c] w fun e w' => e = .returned (.tuple #[]) ∧
     ∃ bv' pv', w'.heap[f]? = some (.cells #[bv', sf, pv'] 154 (0, 0)) ∧
       w'.ownsRow 0 5 1 bv' (bytes ++ src).length ((bytes ++ src).map qg) ∧
       w'.ownsRow 0 192 2 pv' (late ++ [(bytes.length, src.length)]).length (zx (late ++ [(bytes.length, src.length)])) ∧
       (bv'.ownBlock = bv.ownBlock ∨ ∃ g, bv'.ownBlock = some g ∧ w.heap.size ≤ g) ∧ (pv'.ownBlock = pv.ownBlock ∨ ∃ g, pv'.ownBlock = some g ∧ w.heap.size ≤ g) ∧
       (∀ g, bv'.ownBlock = some g → pv'.ownBlock ≠ some g) ∧
       ja w w' (fun i => i = f ∨ some i = bv.ownBlock ∨ some i = pv.ownBlock) := by
 obtain ⟨pb, cb, rfl⟩ := jh hb
 have c0 := cell_of_heap (o := 0) h
 have c2 := cell_of_heap (o := 2) h
 have f0 := frozen_of_heap (o := 0) h
 have f2 := frozen_of_heap (o := 2) h
 have hfl := lt_of_heap h
 have c2a : ∀ x, (w.alloc x).cell? ⟨f, 2, none⟩ = some pv := fun x => (Xd (o := 2) h x)
 have c0a : ∀ x, (w.alloc x).cell? ⟨f, 0, none⟩ = some (.slice pb bytes.length cb) := fun x => (Xd (o := 0) h x)
 simp at c0 c2
 have HD := hide h
 clear h
 obtain ⟨i0, hi, hz0, hz1, hz2⟩ := info_parts Tryz.jcs
 obtain ⟨j0, hj, hy0, hy1, hy2⟩ := info_parts Tryz.Ap
 go_enter Tryz.func103, Tryz.ntmps103
 go_wp2_with fail
 go_region_law (refine zn rfl (.tmp 11) (.tmp 20) 152 rfl 0 192 i0 jd3 2 16 Tryz.underlying152 hi hz0 hz1 hz2 rfl (by decide) pv late.length (zx late) rfl (hp.alloc _) ⟨w.heap.size, 0, none⟩ 1 1 (zx [(bytes.length, src.length)]) rfl rfl (Qc (jd w _) rfl) (jb6 _) (by unfold maxLen; omega) (by omega) (Nat.zero_le _) ?_; intro p2 cp2 w2 hown2 hg2 hloc2; have hd2 := (ja.grown hg2).same (((ja.refl w (fun _ => False)).draw.more _).same HD.out id) (fun e => hpf f e.symm rfl); have d2' := cell_of_heap (o := 2) hd2; have f2' := frozen_of_heap (o := 2) hd2; have d0' := cell_of_heap (o := 0) hd2; have f0' := frozen_of_heap (o := 0) hd2; have HD2 := hide hd2; clear hd2; simp at d2' d0')
 all_goals
   obtain ⟨wb, hwb⟩ : ∃ wb, wb = w2.setCell ⟨f, 2, none⟩ (.slice p2 (late.length + 1) cp2) := ⟨_, rfl⟩
   have k2 : ja w w2 (fun i => some i = pv.ownBlock) := ((ja.refl w _).more _).draw.grow hg2 (fun k e _ => e.symm)
   have hsrc3 : ∀ j u, (src.map qg)[j]? = some u → wb.cell? (ad.add j) = some u := fun j u hu => by
     rw [hwb]
     exact (ja.setCell w2 _ _).cell (k2.cell (hsrc j u hu) (by rw [add_block]; exact fun e => hap e.symm)) (by rw [add_block]; exact ha)
   have hb3 : wb.ownsRow 0 5 1 (.slice pb bytes.length cb) bytes.length (bytes.map qg) := by
     rw [hwb]
     exact (ja.setCell w2 _ _).row (k2.row hb (fun g hg e => (hbp g hg).2 e.symm)) (fun g hg => (hbp g hg).1)
   have hdb : wb.heap[f]? = some (.cells #[.slice pb bytes.length cb, sf, .slice p2 (late.length + 1) cp2] 154 (0, 0)) := by rw [hwb, jb HD2.out]; rfl
   have hp3 : some f ≠ (Value.slice pb bytes.length cb).ownBlock := fun e => (hbp f e.symm).1 rfl
   rw [← hwb]
   have b0 := cell_of_heap (o := 0) hdb
   have g0 := frozen_of_heap (o := 0) hdb
   simp at b0
   have HB := hide hdb
   have HW := hide hwb
   clear hdb hwb d2' f2' d0' f0'
   go_wp2_with (first | (at_builtin; refine jm _ rfl (.tmp 28) (.tmp 29) 84 rfl 0 5 j0 (.int .u8 0) 1 1 Tryz.underlying84 hj hy0 hy1 hy2 rfl (by decide) _ bytes.length (bytes.map qg) rfl hb3 ad src.length c (src.map qg) rfl (by simp) hsrc3 (F5 _) (by unfold maxLen; omega) (by omega) (Nat.zero_le _) ?_; intro p3 cp3 w3 hown3 hg3 hloc3; have hd3 := (ja.grown hg3).same HB.out hp3; have b0' := cell_of_heap (o := 0) hd3; have g0' := frozen_of_heap (o := 0) hd3; clear hd3; simp at b0') | go_in)
   go_end0
   exact ⟨rfl, jfx hbp hpf hfl hb (((ja.refl w _).more _).draw) hown2 hg2 hloc2 HD2.out HW.out hown3 hg3 hloc3⟩
def je.new : je := { names := .map [], safe := .map [], late := [], files := fun _ => none, calls := 0, fail := -1, cut := -1, wrote := 0 }
def pz (n : Nat) (i : Nat) : jw := if i = n then .names else if i = n + 1 then .safe else if i = n + 2 then .disk else .none
set_option maxRecDepth 100000 in
theorem jea (w : World) : Calls Tryz.prog 16 #[] w fun e w' => e = .returned (.pointer (some ⟨w.heap.size + 2, 0, none⟩)) ∧
   w' = ((w.alloc (.map #[] 0)).alloc (.map #[] 0)).alloc (.cells #[.map (some w.heap.size), .map (some (w.heap.size + 1)), .slice none 0 0, .int .i64 0, .int .i64 (-1), .int .i64 (-1), .int .i64 0] 101 (0, 0)) := by
 have hmm := @run_makeMap Tryz.prog
 go_enter Tryz.func16, Tryz.ntmps16
 go_wp2
 go_ret
 exact ⟨rfl, rfl⟩
theorem jf0 (w : World) : Calls Tryz.prog 16 #[] w fun e w' => e = .returned (.pointer (some ⟨w.heap.size + 2, 0, none⟩)) ∧
   Rep w' (pz w.heap.size) (w.heap.size + 2) je.new ∧ ja w w' (fun _ => False) := by
 refine (jea w).mono ?_
 rintro e w' ⟨rfl, rfl⟩
 have s1 : (w.alloc (.map #[] 0)).heap.size = w.heap.size + 1 := by simp
 have s2 : ((w.alloc (.map #[] 0)).alloc (.map #[] 0)).heap.size = w.heap.size + 2 := by simp
 refine ⟨rfl, ⟨⟨w.heap.size, w.heap.size + 1, .slice none 0 0, ?_, ?_, ?_, ?_, ?_, World.ownsRow_nil _ _ _ _, fun g hg => (by cases hg)⟩, ?_, fun f a h => (by cases h), fun k hk => (by cases hk), fun k hk => (by cases hk), fun c hc => (by cases hc), ?_, ?_, ?_⟩, ((ja.refl w _).more _).more _ |>.more _⟩
 · have := jd ((w.alloc (.map #[] 0)).alloc (.map #[] 0)) (.cells #[.map (some w.heap.size), .map (some (w.heap.size + 1)), .slice none 0 0, .int .i64 0, .int .i64 (-1), .int .i64 (-1), .int .i64 0] 101 (0, 0))
   rw [s2] at this; exact this
 · simp [pz]
 · simp [pz]
 · exact ((World.ownsMap_made w _ _ _).alloc _).alloc _
 · have := World.ownsMap_made (H := Nat) (w.alloc (.map #[] 0)) Tryz.prog 9 Jc
   rw [s1] at this
   exact this.alloc _
 · simp [pz]
 · intro i hi
   unfold pz at hi
   simp
   split at hi
   · omega
   · split at hi
     · omega
     · split at hi
       · omega
       · exact absurd rfl hi
 · simp [je.new]
 · simp [je.new]
def Jt : yw := ⟨[], 0, []⟩
def je.withFile (S : je) (f : Nat) (a : yw) : je := { S with files := fun i => if i = f then some a else S.files i }
theorem Small.withFile {S : je} (h : Small S) (f : Nat) {a : yw} (ha : a.bytes.length < 1099511627776 ∧ a.late.length < 1099511627776 ∧ a.safe < 1099511627776) : Small (S.withFile f a) := by
 refine ⟨h.names, h.safe, h.late, fun g b hb => ?_⟩
 simp only [je.withFile] at hb
 split at hb
 · cases hb; exact ha
 · exact h.files g b hb
theorem Rep.jgf {w : World} {ρ : Nat → jw} {d : Nat} {S : je} (R : Rep w ρ d S) :
   Rep (w.alloc (.cells #[.slice none 0 0, .int .i64 0, .slice none 0 0] 154 (0, 0))) (fun i => if i = w.heap.size then .file else ρ i) d (S.withFile w.heap.size Jt) ∧ S.files w.heap.size = none ∧
   yf w ρ (w.alloc (.cells #[.slice none 0 0, .int .i64 0, .slice none 0 0] 154 (0, 0))) (fun i => if i = w.heap.size then .file else ρ i) := by
 obtain ⟨⟨nm, sm, lv, hd, rn, rs, on, os, ol, rl⟩, rd, rf, nt, st, lo, hlt, fb, cb⟩ := R
 have hnone : S.files w.heap.size = none := by
   cases h : S.files w.heap.size with
   | none => rfl
   | some a =>
     have := hlt w.heap.size (by rw [(rf _ a h).1]; decide)
     omega
 have hρ : ∀ i, i < w.heap.size → (if i = w.heap.size then jw.file else ρ i) = ρ i := fun i hi => if_neg (by omega)
 have hk := ja.alloc w (.cells #[.slice none 0 0, .int .i64 0, .slice none 0 0] 154 (0, 0)) (fun _ => False)
 have hm : ∀ f a, S.files f = some a → ∃ a', (S.withFile w.heap.size Jt).files f = some a' := by
   intro f a h
   exact ⟨a, by simp only [je.withFile]; rw [if_neg (fun e => by rw [e, hnone] at h; cases h)]; exact h⟩
 have hof : ∀ g, g < w.heap.size → ∀ r, ρ g = r → (if g = w.heap.size then jw.file else ρ g) = r := fun g hg r hr => (hρ g hg).trans hr
 refine ⟨⟨⟨nm, sm, lv, hk.same hd id, hof nm (hlt nm (by rw [rn]; decide)) _ rn, hof sm (hlt sm (by rw [rs]; decide)) _ rs, hk.map on id, hk.map os id, hk.row ol (fun _ _ => id), fun g hg => hof g (ol.lt g hg).2 _ (rl g hg)⟩, hof d (hlt d (by rw [rd]; decide)) _ rd, ?_, nt.mono hm, st.mono hm, fun c hc => (lo c hc).mono hm, ?_, fb, cb⟩, hnone, ⟨hk.mono (fun _ _ h => h.elim), hρ⟩⟩
 · intro f a hf
   simp only [je.withFile] at hf
   split at hf
   · rename_i e
     cases hf
     subst e
     exact ⟨by simp, .slice none 0 0, .slice none 0 0, jd w _, World.ownsRow_nil _ _ _ _, fun g hg => (by cases hg), World.ownsRow_nil _ _ _ _, fun g hg => (by cases hg)⟩
   · exact (rf f a hf).keep hk hρ id (fun _ _ => id) (fun _ _ => id)
 · intro i hi
   simp
   by_cases e : i = w.heap.size
   · omega
   · rw [if_neg e] at hi
     have := hlt i hi
     omega
set_option maxRecDepth 100000 in
theorem jar {w : World} {ρ : Nat → jw} {d : Nat} {S : je} (nm : Str) (R : Rep w ρ d S) (Z : Small S) (hn : nm.length < 1099511627776) :
   Calls Tryz.prog 161 #[.pointer (some ⟨d, 0, none⟩), jc nm] w fun e w' => ∃ ρ', yf w ρ w' ρ' ∧
     ((S.bad = true ∧ e = .returned (.int .i64 1) ∧ Rep w' ρ' d (S.called true)) ∨
      (S.bad = false ∧ nm = [] ∧ e = .returned (.int .i64 2) ∧ Rep w' ρ' d (S.called true)) ∨
      (S.bad = false ∧ nm ≠ [] ∧ e = .returned (.int .i64 0) ∧ ∃ f, S.files f = none ∧ Rep w' ρ' d (((S.called true).withFile f Jt).named ⟨nm, [], [], some f⟩))) := by
 have hN : nm.isEmpty = true ∨ nm.isEmpty = false := by cases nm.isEmpty <;> simp
 have hB : S.bad = true ∨ S.bad = false := by cases S.bad <;> simp
 rcases hB with hB | hB
 · go_enter Tryz.func161, Tryz.ntmps161
   go_wp2_with (go_at_call 102; refine (z8 true R).mono ?_; rintro e w1 ⟨rfl, R1, G1⟩)
   go_ret
   exact ⟨ρ, G1, .inl ⟨hB, rfl, R1⟩⟩
 · rcases hN with hN | hN
   · go_enter Tryz.func161, Tryz.ntmps161
     go_wp2_with (go_at_call 102; refine (z8 true R).mono ?_; rintro e w1 ⟨rfl, R1, G1⟩)
     go_ret
     exact ⟨ρ, G1, .inr (.inl ⟨hB, by simpa using hN, rfl, R1⟩)⟩
   · go_enter Tryz.func161, Tryz.ntmps161
     go_wp2_with (first
       | (go_at_call 102; refine (z8 true R).mono ?_; rintro e w1 ⟨rfl, R1, G1⟩)
       | (go_at_call 194; obtain ⟨R2, hnone, G2⟩ := R1.jgf; refine (K8 nm [] [] (some w1.heap.size) R2 ((Z.called true).withFile _ (by simp [Jt])) ⟨hn, by simp, by simp, fun _ => ⟨_, Jt, rfl, by simp [je.withFile]⟩⟩).mono ?_; rintro e w2 ⟨rfl, ρ2, R3, G3⟩))
     go_ret
     exact ⟨ρ2, (G1.trans G2).trans G3, .inr (.inr ⟨hB, by simpa using hN, rfl, _, hnone, R3⟩)⟩
theorem xq (w : World) {ops : Array Oper} {rest : List Oper} {o : Oper} {a : Act} {Q : Exit → Act → World → Prop}
   (hg : o.guard = none) (m x : Operand) (hop : o.op = Op.lookup 98 m x false) (b n : Nat) (D : DataW Nat)
   (hm : a.eval m = .map (some b)) (hown : w.ownsMap Tryz.prog 9 Jc b n D) (key : Value) (kl : Lit) (hx : a.eval x = key) (hkey : keyOf Tryz.prog 9 key = some kl)
   (u : Value) (hu : ig (fileOf (D.atKey kl .nil)) = u)
   (hK : wpList Tryz.prog ops Q rest (a.put o.dst u) w) :
   wpList Tryz.prog ops Q (o :: rest) a w := by
 refine wpList_plain hg fun K' hK' => ?_
 obtain ⟨v, ps, hrun, hv⟩ := hown.lookup law Tryz.underlying98 (jbu w) (zd := .nil) (zp := []) rfl hkey
 obtain ⟨e, _⟩ := En hv
 have e2 : v = u := e.trans hu
 subst e2
 unfold Oper.wp
 simp [execOp, hop, hm, hx, hrun, Result.andThen]
 exact hK' _ _ hK
def je.at (S : je) (nm : Str) : Option Nat := fileOf (S.names.atKey (.string nm) .nil)
theorem Rep.at {w : World} {ρ : Nat → jw} {d : Nat} {S : je} (R : Rep w ρ d S) {nm : Str} {f : Nat} (h : S.at nm = some f) : ∃ a, S.files f = some a := by
 have hh : Maps.has S.names (.string nm) = true := by
   cases e : Maps.has S.names (.string nm)
   · unfold je.at at h; rw [atKey_of_not_has e] at h; cases h
   · rfl
 obtain ⟨f', a, h1, h2⟩ := R.Jj _ hh
 unfold je.at at h
 rw [h1] at h
 cases h
 exact ⟨a, h2⟩
theorem Rep.jbc {w w' : World} {ρ ρ' : Nat → jw} {d f : Nat} {S : je} {a a' : yw} {T : Nat → Prop} (R : Rep w ρ d S) (hf : S.files f = some a) (hk : ja w w' T)
   (hT : ∀ i, i < w.heap.size → T i → i = f ∨ ρ i = .bytes f ∨ ρ i = .pieces f) (hρ : ∀ i, i < w.heap.size → ρ' i = ρ i) (hlt' : ∀ i, ρ' i ≠ .none → i < w'.heap.size) (hok : Mk w' ρ' f a') :
   Rep w' ρ' d (S.withFile f a') ∧ yf w ρ w' ρ' := by
 obtain ⟨⟨nm, sm, lv, hd, rn, rs, on, os, ol, rl⟩, rd, rf, nt, st, lo, hlt, fb, cb⟩ := R
 have hff := (rf f a hf).1
 have hn : ∀ i, i < w.heap.size → ρ i ≠ .file → ρ i ≠ .bytes f → ρ i ≠ .pieces f → ¬ T i := by
   intro i hi h1 h2 h3 ht
   rcases hT i hi ht with e | e | e
   · exact h1 (e ▸ hff)
   · exact h2 e
   · exact h3 e
 have hm : ∀ g b, S.files g = some b → ∃ b', (S.withFile f a').files g = some b' := by
   intro g b h
   by_cases e : g = f
   · exact ⟨a', by simp [je.withFile, e]⟩
   · exact ⟨b, by simp [je.withFile, e, h]⟩
 have ht : ∀ i r, ρ i = r → r ≠ .none → ρ' i = r := fun i r h hr => (hρ i (hlt i (by rw [h]; exact hr))).trans h
 have ld := hlt d (by rw [rd]; decide)
 have ln := hlt nm (by rw [rn]; decide)
 have ls := hlt sm (by rw [rs]; decide)
 refine ⟨⟨⟨nm, sm, lv, hk.same hd (hn d ld (by rw [rd]; decide) (by rw [rd]; exact fun h => by cases h) (by rw [rd]; exact fun h => by cases h)), ht _ _ rn (by decide), ht _ _ rs (by decide),
   hk.map on (hn nm ln (by rw [rn]; decide) (by rw [rn]; exact fun h => by cases h) (by rw [rn]; exact fun h => by cases h)), hk.map os (hn sm ls (by rw [rs]; decide) (by rw [rs]; exact fun h => by cases h) (by rw [rs]; exact fun h => by cases h)),
   hk.row ol (fun g hg => hn g (ol.lt g hg).2 (by rw [rl g hg]; decide) (by rw [rl g hg]; exact fun h => by cases h) (by rw [rl g hg]; exact fun h => by cases h)), fun g hg => ht _ _ (rl g hg) (by decide)⟩,
   ht _ _ rd (by decide), ?_, nt.mono hm, st.mono hm, fun c hc => (lo c hc).mono hm, hlt', fb, cb⟩, ⟨hk.mono (fun i hi h => ?_), hρ⟩⟩
 · intro g b hb
   simp only [je.withFile] at hb
   split at hb
   · rename_i e
     cases hb
     subst e
     exact hok
   · rename_i e
     have hgo := rf g b hb
     have hgf := hgo.1
     refine hgo.keep hk hρ ?_ ?_ ?_
     · intro h
       rcases hT g (hlt g (by rw [hgf]; decide)) h with e1 | e1 | e1
       · exact e e1
       · rw [hgf] at e1; cases e1
       · rw [hgf] at e1; cases e1
     · intro i hi h
       rcases hT i (hlt i (by rw [hi]; exact fun h => by cases h)) h with e1 | e1 | e1
       · rw [e1, hff] at hi; cases hi
       · rw [hi] at e1; cases e1; exact e rfl
       · rw [hi] at e1; cases e1
     · intro i hi h
       rcases hT i (hlt i (by rw [hi]; exact fun h => by cases h)) h with e1 | e1 | e1
       · rw [e1, hff] at hi; cases hi
       · rw [hi] at e1; cases e1
       · rw [hi] at e1; cases e1; exact e rfl
 · rcases hT i hi h with e | e | e
   · rw [e, hff]; decide
   · rw [e]; exact fun h => by cases h
   · rw [e]; exact fun h => by cases h
def yw.synced (a : yw) : yw := { a with safe := a.bytes.length, late := [] }
set_option maxHeartbeats 400000 in
set_option maxRecDepth 100000 in
theorem jdg {w : World} {ρ : Nat → jw} {d : Nat} {S : je} (nm : Str) (R : Rep w ρ d S) (hn : nm.length < 1099511627776) :
   Calls Tryz.prog 193 #[.pointer (some ⟨d, 0, none⟩), jc nm] w fun e w' => ∃ ρ', yf w ρ w' ρ' ∧
     ((S.bad = true ∧ e = .returned (.int .i64 1) ∧ Rep w' ρ' d (S.called true)) ∨
      (S.bad = false ∧ S.at nm = none ∧ e = .returned (.int .i64 2) ∧ Rep w' ρ' d (S.called true)) ∨
      (S.bad = false ∧ e = .returned (.int .i64 0) ∧ ∃ f a, S.at nm = some f ∧ S.files f = some a ∧ Rep w' ρ' d ((S.called true).withFile f a.synced))) := by
 have hkey := Yz hn
 have hB : S.bad = true ∨ S.bad = false := by cases S.bad <;> simp
 rcases hB with hB | hB
 · go_enter Tryz.func193, Tryz.ntmps193
   go_wp2_with (go_at_call 102; refine (z8 true R).mono ?_; rintro e w1 ⟨rfl, R1, G1⟩)
   go_ret
   exact ⟨ρ, G1, .inl ⟨hB, rfl, R1⟩⟩
 · have hAt : S.at nm = none ∨ ∃ f, S.at nm = some f := by cases S.at nm <;> simp
   rcases hAt with hA | ⟨f, hA⟩
   · have HA := hide hA
     clear hA
     go_enter Tryz.func193, Tryz.ntmps193
     go_wp2_with (first
       | (go_at_call 102; refine (z8 true R).mono ?_; rintro e w1 ⟨rfl, R1, G1⟩; obtain ⟨nb, sm, lv, hd, rn, rs, on, _⟩ := R1.mem; have c0 := cell_of_heap (o := 0) hd; simp at c0; clear hd)
       | (at_lookup; refine xq _ rfl _ _ rfl nb _ _ rfl on _ _ rfl hkey (.pointer none) (congrArg ig HA.out) ?_)
       | go_in)
     go_ret
     exact ⟨ρ, G1, .inr (.inl ⟨hB, HA.out, rfl, R1⟩)⟩
   · obtain ⟨a, ha⟩ := R.at hA
     have HA := hide hA
     have HF := hide ha
     clear hA ha
     go_enter Tryz.func193, Tryz.ntmps193
     go_wp2_with (first
       | (go_at_call 102; refine (z8 true R).mono ?_; rintro e w1 ⟨rfl, R1, G1⟩; obtain ⟨nb, sm, lv, hd, rn, rs, on, _⟩ := R1.mem; have c0 := cell_of_heap (o := 0) hd; simp at c0; clear hd; obtain ⟨rf, bv, pv, hc, hb, rb, hp, rp⟩ := R1.files f a HF.out; obtain ⟨pb, cb, rfl⟩ := jh hb; have b0 := cell_of_heap (o := 0) hc; have b1 := cell_of_heap (o := 1) hc; have b2 := cell_of_heap (o := 2) hc; have g1 := frozen_of_heap (o := 1) hc; have g2 := frozen_of_heap (o := 2) hc; simp at b0 b1 b2; have HC := hide hc; clear hc)
       | (at_lookup; refine xq _ rfl _ _ rfl nb _ _ rfl on _ _ rfl hkey (.pointer (some ⟨f, 0, none⟩)) (congrArg ig HA.out) ?_)
       | go_in)
     go_ret
     have k2 : ja w1 ((w1.setCell ⟨f, 1, none⟩ (.int .i64 a.bytes.length)).setCell ⟨f, 2, none⟩ (.slice none 0 0)) (fun i => i = f) := ((ja.refl w1 _).set (by exact rfl) _).set (by exact rfl) _
     have hn2 : ∀ g, (Value.slice pb a.bytes.length cb).ownBlock = some g → ¬ g = f := fun g hg e => by have := rb g hg; rw [e, rf] at this; cases this
     obtain ⟨R2, G2⟩ := R1.jbc (a' := a.synced) HF.out k2 (fun i _ h => .inl h) (fun _ _ => rfl) (fun i hi => Nat.lt_of_lt_of_le (R1.lt i hi) k2.size)
       ⟨rf, _, _, by rw [jb (jb HC.out _)]; rfl, k2.row hb hn2, rb, World.ownsRow_nil _ _ _ _, fun g hg => (by cases hg)⟩
     exact ⟨ρ, G1.trans G2, .inr (.inr ⟨hB, rfl, f, a, HA.out, HF.out, R2⟩)⟩
set_option maxHeartbeats 400000 in
set_option maxRecDepth 100000 in
theorem Wl {w : World} {ρ : Nat → jw} {d : Nat} {S : je} (sr ds : Str) (R : Rep w ρ d S) (Z : Small S) (hs : sr.length < 1099511627776) (ht : ds.length < 1099511627776) :
   Calls Tryz.prog 196 #[.pointer (some ⟨d, 0, none⟩), jc sr, jc ds] w fun e w' => ∃ ρ', yf w ρ w' ρ' ∧
     ((S.bad = true ∧ e = .returned (.int .i64 1) ∧ Rep w' ρ' d (S.called true)) ∨
      (S.bad = false ∧ (S.at sr = none ∨ ds = []) ∧ e = .returned (.int .i64 2) ∧ Rep w' ρ' d (S.called true)) ∨
      (S.bad = false ∧ ds ≠ [] ∧ e = .returned (.int .i64 0) ∧ ∃ f, S.at sr = some f ∧ Rep w' ρ' d ((S.called true).named ⟨[], sr, ds, some f⟩))) := by
 have hkey := Yz hs
 have hB : S.bad = true ∨ S.bad = false := by cases S.bad <;> simp
 rcases hB with hB | hB
 · go_enter Tryz.func196, Tryz.ntmps196
   go_wp2_with (go_at_call 102; refine (z8 true R).mono ?_; rintro e w1 ⟨rfl, R1, G1⟩)
   go_ret
   exact ⟨ρ, G1, .inl ⟨hB, rfl, R1⟩⟩
 · have hAt : S.at sr = none ∨ ∃ f, S.at sr = some f := by cases S.at sr <;> simp
   have hN : ds.isEmpty = true ∨ ds.isEmpty = false := by cases ds.isEmpty <;> simp
   rcases hAt with hA | ⟨f, hA⟩
   · have HA := hide hA
     clear hA hN
     go_enter Tryz.func196, Tryz.ntmps196
     go_wp2_with (first
       | (go_at_call 102; refine (z8 true R).mono ?_; rintro e w1 ⟨rfl, R1, G1⟩; obtain ⟨nb, sm, lv, hd, rn, rs, on, _⟩ := R1.mem; have c0 := cell_of_heap (o := 0) hd; simp at c0; clear hd)
       | (at_lookup; refine xq _ rfl _ _ rfl nb _ _ rfl on _ _ rfl hkey (.pointer none) (congrArg ig HA.out) ?_)
       | go_in)
     go_ret
     exact ⟨ρ, G1, .inr (.inl ⟨hB, .inl HA.out, rfl, R1⟩)⟩
   · obtain ⟨a, ha⟩ := R.at hA
     have HA := hide hA
     have HF := hide ha
     clear hA ha
     rcases hN with hN | hN
     · go_enter Tryz.func196, Tryz.ntmps196
       go_wp2_with (first
         | (go_at_call 102; refine (z8 true R).mono ?_; rintro e w1 ⟨rfl, R1, G1⟩; obtain ⟨nb, sm, lv, hd, rn, rs, on, _⟩ := R1.mem; have c0 := cell_of_heap (o := 0) hd; simp at c0; clear hd)
         | (at_lookup; refine xq _ rfl _ _ rfl nb _ _ rfl on _ _ rfl hkey (.pointer (some ⟨f, 0, none⟩)) (congrArg ig HA.out) ?_)
         | go_in)
       go_ret
       exact ⟨ρ, G1, .inr (.inl ⟨hB, .inr (by simpa using hN), rfl, R1⟩)⟩
     · go_enter Tryz.func196, Tryz.ntmps196
       go_wp2_with (first
         | (go_at_call 102; refine (z8 true R).mono ?_; rintro e w1 ⟨rfl, R1, G1⟩; obtain ⟨nb, sm, lv, hd, rn, rs, on, _⟩ := R1.mem; have c0 := cell_of_heap (o := 0) hd; simp at c0; clear hd)
         | (at_lookup; refine xq _ rfl _ _ rfl nb _ _ rfl on _ _ rfl hkey (.pointer (some ⟨f, 0, none⟩)) (congrArg ig HA.out) ?_)
         | (go_at_call 194; refine (K8 [] sr ds (some f) R1 (Z.called true) ⟨by simp, hs, ht, fun _ => ⟨f, a, rfl, HF.out⟩⟩).mono ?_; rintro e w2 ⟨rfl, ρ2, R3, G3⟩)
         | go_in)
       go_ret
       exact ⟨ρ2, G1.trans G3, .inr (.inr ⟨hB, by simpa using hN, rfl, f, HA.out, R3⟩)⟩
set_option maxHeartbeats 400000 in
set_option maxRecDepth 100000 in
theorem Wm {w : World} {ρ : Nat → jw} {d : Nat} {S : je} (nm : Str) (R : Rep w ρ d S) (Z : Small S) (hn : nm.length < 1099511627776) :
   Calls Tryz.prog 168 #[.pointer (some ⟨d, 0, none⟩), jc nm] w fun e w' => ∃ ρ', yf w ρ w' ρ' ∧
     ((S.bad = true ∧ e = .returned (.int .i64 1) ∧ Rep w' ρ' d (S.called true)) ∨
      (S.bad = false ∧ S.at nm = none ∧ e = .returned (.int .i64 2) ∧ Rep w' ρ' d (S.called true)) ∨
      (S.bad = false ∧ e = .returned (.int .i64 0) ∧ ∃ f, S.at nm = some f ∧ Rep w' ρ' d ((S.called true).named ⟨[], nm, [], none⟩))) := by
 have hkey := Yz hn
 have hB : S.bad = true ∨ S.bad = false := by cases S.bad <;> simp
 rcases hB with hB | hB
 · go_enter Tryz.func168, Tryz.ntmps168
   go_wp2_with (go_at_call 102; refine (z8 true R).mono ?_; rintro e w1 ⟨rfl, R1, G1⟩)
   go_ret
   exact ⟨ρ, G1, .inl ⟨hB, rfl, R1⟩⟩
 · have hAt : S.at nm = none ∨ ∃ f, S.at nm = some f := by cases S.at nm <;> simp
   rcases hAt with hA | ⟨f, hA⟩
   · have HA := hide hA
     clear hA
     go_enter Tryz.func168, Tryz.ntmps168
     go_wp2_with (first
       | (go_at_call 102; refine (z8 true R).mono ?_; rintro e w1 ⟨rfl, R1, G1⟩; obtain ⟨nb, sm, lv, hd, rn, rs, on, _⟩ := R1.mem; have c0 := cell_of_heap (o := 0) hd; simp at c0; clear hd)
       | (at_lookup; refine xq _ rfl _ _ rfl nb _ _ rfl on _ _ rfl hkey (.pointer none) (congrArg ig HA.out) ?_)
       | go_in)
     go_ret
     exact ⟨ρ, G1, .inr (.inl ⟨hB, HA.out, rfl, R1⟩)⟩
   · have HA := hide hA
     clear hA
     go_enter Tryz.func168, Tryz.ntmps168
     go_wp2_with (first
       | (go_at_call 102; refine (z8 true R).mono ?_; rintro e w1 ⟨rfl, R1, G1⟩; obtain ⟨nb, sm, lv, hd, rn, rs, on, _⟩ := R1.mem; have c0 := cell_of_heap (o := 0) hd; simp at c0; clear hd)
       | (at_lookup; refine xq _ rfl _ _ rfl nb _ _ rfl on _ _ rfl hkey (.pointer (some ⟨f, 0, none⟩)) (congrArg ig HA.out) ?_)
       | (go_at_call 194; refine (K8 [] nm [] none R1 (Z.called true) ⟨by simp, hn, by simp, fun h => (by simp at h)⟩).mono ?_; rintro e w2 ⟨rfl, ρ2, R3, G3⟩)
       | go_in)
     go_ret
     exact ⟨ρ2, G1.trans G3, .inr (.inr ⟨hB, rfl, f, HA.out, R3⟩)⟩
end Go.Proofs.YtnipbplghijdmaaGreatDoor
