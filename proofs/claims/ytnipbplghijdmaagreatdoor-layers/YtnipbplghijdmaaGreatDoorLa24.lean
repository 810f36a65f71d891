/-
  La: Gather.
-/
import Derived.Sort.Walk0
import Derived.Test.YtnipbplghijdmaaGreatDoorLa23
import Derived.Test.YtnipbplghijdmaaGreatDoorLa14
namespace Go.Proofs.YtnipbplghijdmaaGreatDoor
open Go.RowKit Go.Maps Go.WideShapes Go.Shelf
set_option linter.unusedVariables false
attribute [local go_sem] Oper.semAt_some
def Ej (hi : Str) (c : Ref.Ch) : Bool := decide (hi = []) || decide (c.key < hi)
def upTo (hi : Str) (l : List Ref.Ch) : List Ref.Ch := l.takeWhile (Ej hi)
theorem jbw {hi : Str} {l : List Ref.Ch} {m : Nat} {x : Ref.Ch} (h : ∀ c ∈ l.take m, Ej hi c = true) (hx : l[m]? = some x) (hn : Ej hi x = false) : upTo hi l = l.take m := by
 have hm := (List.getElem?_eq_some_iff.1 hx).1
 have e : l = l.take m ++ x :: l.drop (m + 1) := by
   have e1 : l[m] = x := (List.getElem?_eq_some_iff.1 hx).2
   rw [← e1, List.getElem_cons_drop, List.take_append_drop]
 unfold upTo
 conv => lhs; rw [e]
 rw [List.takeWhile_append_of_pos h, List.takeWhile_cons_of_neg (by rw [hn]; decide), List.append_nil]
theorem Ik {hi : Str} {l : List Ref.Ch} (h : ∀ c ∈ l, Ej hi c = true) : upTo hi l = l := by
 unfold upTo
 have := List.takeWhile_append_of_pos (p := Ej hi) (l₁ := l) (l₂ := []) h
 simpa using this
def Dh (E : Nat → Addr) (B : Nat) (ρ : Nat → jw) (d : Nat) (S' : je) (l : List Ref.Ch) (err : Option Bool) (hi : Str) (w : World) (e : Ending) (w' : World) : Prop :=
 ∃ v ev, e = .returned (.tuple #[v, ev]) ∧ ja w w' (j6 ρ) ∧ Dk E B w' ρ d S' ∧
 ((ev = .nilIface ∧ w'.ownsRow w.heap.size 88 3 v (upTo hi l).length (jg (upTo hi l)) ∧ (err = none ∨ (upTo hi l).length < l.length)) ∨
  (∃ bad, err = some bad ∧ upTo hi l = l ∧ v = .slice none 0 0 ∧ ve E w' ev bad))
set_option maxRecDepth 100000 in
set_option maxHeartbeats 2000000 in
theorem Cz {E : Nat → Addr} {B : Nat} {ρ : Nat → jw} {d : Nat} {S' : je} {w : World} {gf : Nat} {rv lb : Array Value} (eg : ∀ ys w, (callFunc gf ys).run Tryz.prog w = .ok (.enter gf ys) w)
   {Needs : Nat → Prop} {Start : World → Prop} {l : List Ref.Ch} {err : Option Bool}
   (hG : ∀ n, Gives Fence.wide n Tryz.prog gf rv lb encI (j6 ρ) Needs Start (jfn E l err) (jfm E B ρ d S' l err) (Og E B ρ d S'))
   (hN : ∀ i, Needs i → i < w.heap.size) (hStart : ∀ W, ja w W (fun _ => False) → Start W) (hρ : ∀ i, ρ i ≠ .none → i < w.heap.size) (hB : B ≤ w.heap.size) (hi : Str) (hl : l.length < 1048576) :
   Calls Tryz.prog 111 #[.func (.func gf) rv lb, jc hi] w (Dh E B ρ d S' l err hi w) := by
 refine (callsIn_wide (n := 9)).1 ?_
 refine callsIn_of_wp_marks Tryz.func111 rfl trivial ?_ rfl
 simp only [Tryz.ntmps111, List.size_toArray, List.length_cons, List.length_nil, Nat.reduceAdd, Nat.reduceSub, Array.replicate_succ, Array.replicate_zero, List.push_toArray, List.append_toArray, List.nil_append, List.cons_append]
 gi_wp2
 obtain ⟨W0, hW0⟩ : ∃ W0, ((((w.alloc (.cells #[jc hi] 9)).alloc (.cells #[.slice none 0 0] 38)).alloc (.cells #[.nilIface] 128)).alloc (.cells #[.slice none 0 0] 38)) = W0 := ⟨_, rfl⟩
 rw [hW0]
 have kW : ja w W0 (fun _ => False) := by rw [← hW0]; exact (((ja.alloc w _ _).more _).more _).more _
 have sW : W0.heap.size = w.heap.size + 1 + 1 + 1 + 1 := by rw [← hW0]; simp
 have b0 : W0.heap[w.heap.size]? = some (.cells #[jc hi] 9 (0, 0)) := by
   rw [← hW0]; exact ((((ja.alloc _ _ (fun _ => False)).more _).more _)).same (jd w _) id
 have b1 : W0.heap[w.heap.size + 1]? = some (.cells #[.slice none 0 0] 38 (0, 0)) := by
   rw [← hW0]; have := jd (w.alloc (.cells #[jc hi] 9)) (.cells #[.slice none 0 0] 38)
   rw [World.size_alloc] at this
   exact ((ja.alloc _ _ (fun _ => False)).more _).same this id
 have b2 : W0.heap[w.heap.size + 1 + 1]? = some (.cells #[.nilIface] 128 (0, 0)) := by
   rw [← hW0]; have := jd ((w.alloc (.cells #[jc hi] 9)).alloc (.cells #[.slice none 0 0] 38)) (.cells #[.nilIface] 128)
   rw [World.size_alloc, World.size_alloc] at this
   exact (ja.alloc _ _ (fun _ => False)).same this id
 have b3 : W0.heap[w.heap.size + 1 + 1 + 1]? = some (.cells #[.slice none 0 0] 38 (0, 0)) := by
   rw [← hW0]; have := jd (((w.alloc (.cells #[jc hi] 9)).alloc (.cells #[.slice none 0 0] 38)).alloc (.cells #[.nilIface] 128)) (.cells #[.slice none 0 0] 38)
   rw [World.size_alloc, World.size_alloc, World.size_alloc] at this
   exact this
 clear hW0
 have nT : ∀ i, w.heap.size ≤ i → ¬ j6 ρ i := fun i hi h => by have := hρ i h; omega
 have leave : ∀ {W : World} {D m : Nat} {pv : Option Addr} {cpv : Nat}, upTo hi l = l.take m → (err = none ∨ m < l.length) → m ≤ l.length → W0.heap.size ≤ D → ¬ (Value.slice pv m cpv).ownBlock = some D → W.heap[D]? = some (.deferred (some [])) → Dk E B W ρ d S' →
     W.heap[w.heap.size + 1]? = some (.cells #[.slice none 0 0] 38 (0, 0)) → W.heap[w.heap.size + 1 + 1]? = some (.cells #[.nilIface] 128 (0, 0)) → W.ownsRow w.heap.size 88 3 (.slice pv m cpv) m (jg (l.take m)) → (∀ g, (Value.slice pv m cpv).ownBlock = some g → w.heap.size + 4 ≤ g) → ja w W (j6 ρ) →
     (((W.setCell ⟨w.heap.size + 1, 0, none⟩ (.slice pv m cpv)).setCell ⟨w.heap.size + 1 + 1, 0, none⟩ .nilIface)).heap[D]? = some (.deferred (some [])) ∧
     ((((W.setCell ⟨w.heap.size + 1, 0, none⟩ (.slice pv m cpv)).setCell ⟨w.heap.size + 1 + 1, 0, none⟩ .nilIface)).putObj D (.deferred none)).cell? ⟨w.heap.size + 1, 0, none⟩ = some (.slice pv m cpv) ∧
     ((((W.setCell ⟨w.heap.size + 1, 0, none⟩ (.slice pv m cpv)).setCell ⟨w.heap.size + 1 + 1, 0, none⟩ .nilIface)).putObj D (.deferred none)).cell? ⟨w.heap.size + 1 + 1, 0, none⟩ = some .nilIface ∧
     Dh E B ρ d S' l err hi w (.returned (.tuple #[.slice pv m cpv, .nilIface])) ((((W.setCell ⟨w.heap.size + 1, 0, none⟩ (.slice pv m cpv)).setCell ⟨w.heap.size + 1 + 1, 0, none⟩ .nilIface)).putObj D (.deferred none)) := by
   intro W D m pv cpv h1 h2 hm hD hnd hK DK g1 g2 hrow hown hkw
   have k1 := ja.setCell W ⟨w.heap.size + 1, 0, none⟩ (.slice pv m cpv)
   have k2 := ja.setCell (W.setCell ⟨w.heap.size + 1, 0, none⟩ (.slice pv m cpv)) ⟨w.heap.size + 1 + 1, 0, none⟩ .nilIface
   have k3 := ja.putObj ((W.setCell ⟨w.heap.size + 1, 0, none⟩ (.slice pv m cpv)).setCell ⟨w.heap.size + 1 + 1, 0, none⟩ .nilIface) D (.deferred none)
   have kk : ja W ((((W.setCell ⟨w.heap.size + 1, 0, none⟩ (.slice pv m cpv)).setCell ⟨w.heap.size + 1 + 1, 0, none⟩ .nilIface)).putObj D (.deferred none)) (fun i => i = w.heap.size + 1 ∨ i = w.heap.size + 1 + 1 ∨ i = D) :=
     ((k1.mono (fun _ _ h => .inl h)).trans k2 (fun _ _ h => .inr (.inl h))).trans k3 (fun _ _ h => .inr (.inr h))
   have e1 := k2.same (jb (o := 0) g1 (.slice pv m cpv)) (by simp)
   have e2 := jb (o := 0) (k1.same g2 (by simp)) Value.nilIface
   refine ⟨k2.same (k1.same hK (by simp; omega)) (by simp; omega), (cell_of_heap (k3.same e1 (by omega))).trans rfl, (cell_of_heap (k3.same e2 (by omega))).trans rfl, _, _, rfl, hkw.trans kk (fun i hi h => by omega), ?_, .inl ⟨rfl, ?_, ?_⟩⟩
   · refine DK.apart kk (fun i hi h => ?_)
     rcases h with h | h | h
     · exact ⟨nT i (by omega), by omega⟩
     · exact ⟨nT i (by omega), by omega⟩
     · exact ⟨nT i (by omega), by omega⟩
   · rw [h1, List.length_take, Nat.min_eq_left hm]
     refine kk.row hrow (fun g hg h => ?_)
     have := hown g hg
     rcases h with h | h | h
     · omega
     · omega
     · exact hnd (h ▸ hg)
   · rw [h1, List.length_take, Nat.min_eq_left hm]; exact h2
 refine Z7 rfl (by decide) (gf := gf) (rv := rv) (lb := lb) rfl trivial eg (hG 8) (fun _ => rfl) (fun i h => by have := hρ i h; omega) (fun i h => by have := hN i h; omega) (fun W1 k => hStart W1 (kW.trans k (fun _ _ h => h)))
   (fun pre C W => ∃ (m : Nat) (v : Value), pre = (l.take m).map Jd ∧ m ≤ l.length ∧ (∀ c ∈ l.take m, Ej hi c = true) ∧ W.heap[w.heap.size]? = some (.cells #[jc hi] 9 (0, 0)) ∧ W.heap[w.heap.size + 1]? = some (.cells #[.slice none 0 0] 38 (0, 0)) ∧
     W.heap[w.heap.size + 1 + 1]? = some (.cells #[.nilIface] 128 (0, 0)) ∧ W.heap[w.heap.size + 1 + 1 + 1]? = some (.cells #[v] 38 (0, 0)) ∧ W.ownsRow w.heap.size 88 3 v m (jg (l.take m)) ∧ (∀ g, v.ownBlock = some g → w.heap.size + 4 ≤ g) ∧
     ja w W (j6 ρ) ∧ (∀ i, C i ↔ i = w.heap.size + 1 ∨ i = w.heap.size + 1 + 1 ∨ i = w.heap.size + 1 + 1 + 1 ∨ v.ownBlock = some i))
   (fun c pre C W => (c = .ret ∧ ∃ bad ev, err = some bad ∧ upTo hi l = l ∧ ve E W ev bad ∧ W.heap[w.heap.size + 1]? = some (.cells #[.slice none 0 0] 38 (0, 0)) ∧ W.heap[w.heap.size + 1 + 1]? = some (.cells #[ev] 128 (0, 0)) ∧ ja w W (j6 ρ)) ∨
     (c = .exit 0 ∧ ∃ (m : Nat) (v : Value), upTo hi l = l.take m ∧ m < l.length ∧ W.heap[w.heap.size + 1]? = some (.cells #[.slice none 0 0] 38 (0, 0)) ∧
       W.heap[w.heap.size + 1 + 1]? = some (.cells #[.nilIface] 128 (0, 0)) ∧ W.heap[w.heap.size + 1 + 1 + 1]? = some (.cells #[v] 38 (0, 0)) ∧ W.ownsRow w.heap.size 88 3 v m (jg (l.take m)) ∧ (∀ g, v.ownBlock = some g → C g ∧ w.heap.size + 4 ≤ g) ∧ ja w W (j6 ρ)))
   ?hI ?hIx (fun i => i = w.heap.size + 1 ∨ i = w.heap.size + 1 + 1 ∨ i = w.heap.size + 1 + 1 + 1) ?hC0 ?h0 ?round ?done ?stop
 case hI =>
   rintro pre C A B' ⟨m, v, e, hm, hin, g0, g1, g2, g3, hrow, hown, hkw, hC⟩ hk
   have out : ∀ i, w.heap.size ≤ i → (i < w.heap.size + 4 ∨ v.ownBlock = some i) → ¬ (j6 ρ i ∨ (W0.heap.size ≤ i ∧ ¬ C i)) := by
     rintro i h1 h2 (h3 | ⟨h3, h4⟩)
     · exact nT i h1 h3
     · rcases h2 with h2 | h2
       · omega
       · exact h4 ((hC i).2 (.inr (.inr (.inr h2))))
   refine ⟨m, v, e, hm, hin, ja.same hk g0 (out _ (Nat.le_refl _) (.inl (by omega))), ja.same hk g1 (out _ (by omega) (.inl (by omega))), ja.same hk g2 (out _ (by omega) (.inl (by omega))), ja.same hk g3 (out _ (by omega) (.inl (by omega))),
     ja.row hk hrow (fun g hg => out g (by have := hown g hg; omega) (.inr hg)), hown, hkw.trans hk (fun i hi h => ?_), hC⟩
   rcases h with h | ⟨h, _⟩
   · exact h
   · omega
 case hIx =>
   rintro c pre C A B' lp r (⟨rfl, bad, ev, h1, h2, h3, h4, h5, h6⟩ | ⟨rfl, m, v, h1, h2, h3, h4, h5, h6, h7, h8⟩) hlp hnc hr hk
   · have hne : ∀ i, i < w.heap.size + 4 → ¬ i = lp := fun i hi => by omega
     refine .inl ⟨rfl, bad, ev, h1, h2, ?_, hk.same h4 (hne _ (by omega)), hk.same h5 (hne _ (by omega)), h6.trans hk (fun i hi e => by omega)⟩
     obtain ⟨g, he, hg⟩ := h3
     exact ⟨g, he.keep hk (fun i c e hc => by rw [e, hr] at hc; cases hc), hg⟩
   · have hne : ∀ i, i < w.heap.size + 4 → ¬ i = lp := fun i hi => by omega
     exact .inr ⟨rfl, m, v, h1, h2, hk.same h3 (hne _ (by omega)), hk.same h4 (hne _ (by omega)), hk.same h5 (hne _ (by omega)), hk.row h6 (fun g hg e => hnc (e ▸ (h7 g hg).1)), h7, h8.trans hk (fun i hi e => by omega)⟩
 case hC0 =>
   rintro i (h | h | h)
   all_goals exact ⟨by omega, nT i (by omega), fun h => by have := hN i h; omega⟩
 case h0 => exact ⟨0, .slice none 0 0, rfl, Nat.zero_le _, fun c hc => (by simp at hc), b0, b1, b2, b3, World.ownsRow_nil _ _ _ _, fun g hg => (by cases hg), kW.mono (fun _ _ h => h.elim), fun i => by simp [Value.ownBlock]⟩
 case round =>
   rintro lp pre x C W hlp ⟨rl, hrl⟩ hnl hbd ⟨m, v, rfl, hm, hin, g0, g1, g2, g3, hrow, hown, hkw, hC⟩ hcan
   have hlt := lt_of_heap hrl
   rcases hcan with ⟨k, c, e, hk, rfl⟩ | ⟨bad, he, e, hx1, hx2⟩
   · have hk2 := (List.getElem?_eq_some_iff.1 hk).1
     obtain rfl : m = k := by
       have := congrArg List.length e
       simp at this
       omega
     clear e
     obtain ⟨ck, cv, cg⟩ := c
     dsimp only [encI, Jd]
     gi_wp2
     refine ⟨ja.alloc W _ _, ?_⟩
     intro W2 k2 _
     have ka : ja W W2 (fun i => i = lp) := ((ja.alloc W _ (fun _ => False)).mono (fun _ _ h => h.elim)).trans k2 (fun _ _ h => h)
     have hne : ∀ i, i < w.heap.size + 4 → ¬ i = lp := fun i hi => by omega
     have hb := k2.same (jd W _) (by omega)
     have q0 := cell_of_heap (o := 0) hb
     have q1 := cell_of_heap (o := 1) hb
     have q2 := cell_of_heap (o := 2) hb
     have a0 := cell_of_heap (o := 0) (ka.same g0 (hne _ (by omega)))
     have HG0 := hide (ka.same g0 (hne _ (by omega)))
     have g1' := ka.same g1 (hne _ (by omega))
     have g2' := ka.same g2 (hne _ (by omega))
     have g3' := ka.same g3 (hne _ (by omega))
     have a3 := cell_of_heap (o := 0) g3'
     have f3 := frozen_of_heap (o := 0) g3'
     simp at q0 q1 q2 a0 a3
     have hrow' := ka.row hrow (fun g hg e => hnl ((hC lp).2 (.inr (.inr (.inr (e ▸ hg))))))
     have hHC := hide hC
     have hkw' : ja w W2 (j6 ρ) := hkw.trans ka (fun i hi e => by omega)
     have HG1 := hide g1'
     have HG2 := hide g2'
     have HG3 := hide g3'
     have HB := hide hb
     clear g0 g1 g2 g3 g1' g2' g3' hb hC
     have hsW : W.heap.size + 1 ≤ W2.heap.size := by have := k2.size; simpa using this
     obtain ⟨pv, cpv, rfl⟩ := jh hrow'
     have fin : Ej hi ⟨ck, cv, cg⟩ = true → ∀ (p3 : Option Addr) (cp3 : Nat) (W3 : World), W3.ownsRow w.heap.size 88 3 (.slice p3 (m + 1) cp3) (m + 1) (jg (l.take m) ++ jg [⟨ck, cv, cg⟩]) →
         (W2.alloc (.cells #[jc ck, jc cv, .bool cg] 88)).grownBy W3 (Value.slice pv m cpv).ownBlock → ((Value.slice p3 (m + 1) cp3).ownBlock = (Value.slice pv m cpv).ownBlock ∨ (Value.slice p3 (m + 1) cp3).ownBlock = some (W2.alloc (.cells #[jc ck, jc cv, .bool cg] 88)).heap.size) →
         ∃ C' : Nat → Prop, (∀ i, C' i → C i ∨ W.heap.size ≤ i) ∧ (∀ i, C' i → i < (W3.setCell ⟨w.heap.size + 1 + 1 + 1, 0, none⟩ (.slice p3 (m + 1) cp3)).heap.size) ∧ ja W2 (W3.setCell ⟨w.heap.size + 1 + 1 + 1, 0, none⟩ (.slice p3 (m + 1) cp3)) C ∧
           ∃ (m' : Nat) (v : Value), (l.take m).map Jd ++ [Jd ⟨ck, cv, cg⟩] = (l.take m').map Jd ∧ m' ≤ l.length ∧ (∀ c ∈ l.take m', Ej hi c = true) ∧ (W3.setCell ⟨w.heap.size + 1 + 1 + 1, 0, none⟩ (.slice p3 (m + 1) cp3)).heap[w.heap.size]? = some (.cells #[jc hi] 9 (0, 0)) ∧
             (W3.setCell ⟨w.heap.size + 1 + 1 + 1, 0, none⟩ (.slice p3 (m + 1) cp3)).heap[w.heap.size + 1]? = some (.cells #[.slice none 0 0] 38 (0, 0)) ∧ (W3.setCell ⟨w.heap.size + 1 + 1 + 1, 0, none⟩ (.slice p3 (m + 1) cp3)).heap[w.heap.size + 1 + 1]? = some (.cells #[.nilIface] 128 (0, 0)) ∧
             (W3.setCell ⟨w.heap.size + 1 + 1 + 1, 0, none⟩ (.slice p3 (m + 1) cp3)).heap[w.heap.size + 1 + 1 + 1]? = some (.cells #[v] 38 (0, 0)) ∧ (W3.setCell ⟨w.heap.size + 1 + 1 + 1, 0, none⟩ (.slice p3 (m + 1) cp3)).ownsRow w.heap.size 88 3 v m' (jg (l.take m')) ∧ (∀ g, v.ownBlock = some g → w.heap.size + 4 ≤ g) ∧
             ja w (W3.setCell ⟨w.heap.size + 1 + 1 + 1, 0, none⟩ (.slice p3 (m + 1) cp3)) (j6 ρ) ∧ (∀ i, C' i ↔ i = w.heap.size + 1 ∨ i = w.heap.size + 1 + 1 ∨ i = w.heap.size + 1 + 1 + 1 ∨ v.ownBlock = some i) := by
       intro hin1 p3 cp3 W3 hr3 hg3 hl3
       have kA : ja W2 (W2.alloc (.cells #[jc ck, jc cv, .bool cg] 88)) (fun _ => False) := ja.alloc _ _ _
       have k3 : ja W2 W3 (fun i => (Value.slice pv m cpv).ownBlock = some i) := (kA.mono (fun _ _ h => h.elim)).trans (ja.grown hg3) (fun i _ e => e.symm)
       have k4 := ja.setCell W3 ⟨w.heap.size + 1 + 1 + 1, 0, none⟩ (.slice p3 (m + 1) cp3)
       have hlow : ∀ i, i < w.heap.size + 4 → ¬ (Value.slice pv m cpv).ownBlock = some i := fun i hi e => by have := hown i e; omega
       have h33 := k3.same HG3.out (hlow _ (by omega))
       have hs3 := k3.size
       have hw0 := kW.size
       have hWs : w.heap.size + 4 ≤ W.heap.size := by omega
       have hg3' : ∀ g, (Value.slice p3 (m + 1) cp3).ownBlock = some g → (Value.slice pv m cpv).ownBlock = some g ∨ W2.heap.size ≤ g := by
         intro g hg
         rcases hl3 with h | h
         · exact .inl (h ▸ hg)
         · rw [h] at hg
           cases hg
           exact .inr (by simp)
       have e1 : (l.take m).map Jd ++ [Jd ⟨ck, cv, cg⟩] = (l.take (m + 1)).map Jd := (lh hk).symm
       have e2 : l.take (m + 1) = l.take m ++ [⟨ck, cv, cg⟩] := by rw [List.take_add_one, hk]; rfl
       have hrow4 := k4.row hr3 (fun g hg e => by
         have e' : g = w.heap.size + 1 + 1 + 1 := e
         rcases hg3' g hg with h | h
         · exact hlow g (by omega) h
         · omega)
       refine ⟨fun i => i = w.heap.size + 1 ∨ i = w.heap.size + 1 + 1 ∨ i = w.heap.size + 1 + 1 + 1 ∨ (Value.slice p3 (m + 1) cp3).ownBlock = some i, ?_, ?_, ?_, m + 1, .slice p3 (m + 1) cp3, e1, hk2, ?_, ?_, ?_, ?_, ?_, ?_, ?_, ?_, fun _ => Iff.rfl⟩
       · rintro i (h | h | h | h)
         · exact .inl ((hHC.out i).2 (.inl h))
         · exact .inl ((hHC.out i).2 (.inr (.inl h)))
         · exact .inl ((hHC.out i).2 (.inr (.inr (.inl h))))
         · rcases hg3' i h with h | h
           · exact .inl ((hHC.out i).2 (.inr (.inr (.inr h))))
           · exact .inr (by omega)
       · intro i h
         have hsz : (W3.setCell ⟨w.heap.size + 1 + 1 + 1, 0, none⟩ (.slice p3 (m + 1) cp3)).heap.size = W3.heap.size := by simp [World.setCell]
         rw [hsz]
         rcases h with h | h | h | h
         · omega
         · omega
         · omega
         · exact (hr3.lt i h).2
       · exact (k3.mono (fun i _ h => (hHC.out i).2 (.inr (.inr (.inr h))))).trans k4 (fun i _ e => (hHC.out i).2 (.inr (.inr (.inl e))))
       · rw [e2]
         intro c hc
         rcases List.mem_append.1 hc with hc | hc
         · exact hin c hc
         · rw [List.mem_singleton.1 hc]; exact hin1
       · exact k4.same (k3.same HG0.out (hlow _ (by omega))) (by simp; omega)
       · exact k4.same (k3.same HG1.out (hlow _ (by omega))) (by simp)
       · exact k4.same (k3.same HG2.out (hlow _ (by omega))) (by simp)
       · exact (jb h33 _).trans rfl
       · rw [e2, Zy]; exact hrow4
       · intro g hg
         rcases hg3' g hg with h | h
         · exact hown g h
         · omega
       · exact (hkw'.trans k3 (fun i hi e => by have := hown i e; omega)).trans k4 (fun i hi e => by have e' : i = w.heap.size + 1 + 1 + 1 := e; omega)
     have h63 : m + 1 ≤ maxLen := by unfold maxLen; omega
     have hbs : (m + 1) * 40 ≤ 140737488355328 := by omega
     have hbb : w.heap.size ≤ (W2.alloc (.cells #[jc ck, jc cv, .bool cg] 88)).heap.size := by simp; have := kW.size; omega
     have hnew : ∀ j u, (jg [⟨ck, cv, cg⟩])[j]? = some u → (W2.alloc (.cells #[jc ck, jc cv, .bool cg] 88)).cell? ((⟨W2.heap.size, 0, none⟩ : Addr).add j) = some u := Qc (jd W2 _) rfl
     have hone := tu [⟨ck, cv, cg⟩]
     obtain ⟨j0, hj, hy0, hy1, hy2⟩ := info_parts Tryz.Z8
     have hst : ∀ W3 : World, (W2.alloc (.cells #[jc ck, jc cv, .bool cg] 88)).grownBy W3 (Value.slice pv m cpv).ownBlock → W3.cell? ⟨w.heap.size + 1 + 1 + 1, 0, none⟩ = some (.slice pv m cpv) ∧ W3.frozen? ⟨w.heap.size + 1 + 1 + 1, 0, none⟩ = false := by
       intro W3 hg3
       have h33 := (ja.grown hg3).same ((ja.alloc W2 (.cells #[jc ck, jc cv, .bool cg] 88) (fun _ => False)).same HG3.out id) (fun e => by have := hown _ e.symm; omega)
       exact ⟨(cell_of_heap h33).trans rfl, frozen_of_heap h33⟩
     have HST := hide hst
     clear hst
     have HFIN := hide fin
     have H63 := hide h63
     have HBS := hide hbs
     have HBBB := hide hbb
     have HNEW := hide hnew
     have HONE := hide hone
     have HROW := hide (hrow'.alloc (.cells #[jc ck, jc cv, .bool cg] 88))
     clear fin h63 hbs hbb hnew hone
     by_cases h0 : hi = []
     · subst h0
       gi_wp2_with (gi_at_builtin; refine Qu _ rfl (.tmp 23) (.tmp 25) 38 rfl w.heap.size 88 j0 A8 3 40 Tryz.underlying38 hj hy0 hy1 hy2 rfl (Nat.zero_lt_succ 2) (.slice pv m cpv) m (jg (l.take m)) rfl HROW.out ⟨W2.heap.size, 0, none⟩ 1 1 (jg [⟨ck, cv, cg⟩]) rfl rfl HNEW.out HONE.out H63.out HBS.out HBBB.out ?_; intro p3 cp3 W3 hr3 hg3 hl3; obtain ⟨c33, f33⟩ := HST.out W3 hg3)
       exact HFIN.out rfl p3 cp3 W3 hr3 hg3 hl3
     · have hE : List.isEmpty hi = false := by cases hi <;> simp_all
       clear h0
       by_cases h1 : ck < hi
       · have hin1 : Ej hi ⟨ck, cv, cg⟩ = true := by simp [Ej, h1]
         have HIN := hide hin1
         have hBL : Op.bytesLess ck hi = true := by rw [bytesLess_eq]; simpa using h1
         clear h1 hin1
         gi_wp2_with (gi_at_builtin; refine Qu _ rfl (.tmp 23) (.tmp 25) 38 rfl w.heap.size 88 j0 A8 3 40 Tryz.underlying38 hj hy0 hy1 hy2 rfl (Nat.zero_lt_succ 2) (.slice pv m cpv) m (jg (l.take m)) rfl HROW.out ⟨W2.heap.size, 0, none⟩ 1 1 (jg [⟨ck, cv, cg⟩]) rfl rfl HNEW.out HONE.out H63.out HBS.out HBBB.out ?_; intro p3 cp3 W3 hr3 hg3 hl3; obtain ⟨c33, f33⟩ := HST.out W3 hg3)
         exact HFIN.out HIN.out p3 cp3 W3 hr3 hg3 hl3
       · have hno : Ej hi ⟨ck, cv, cg⟩ = false := by
           have : hi ≠ [] := fun e => by rw [e] at hE; cases hE
           simp [Ej, h1, this]
         have hup := jbw hin hk hno
         have HUP := hide hup
         have hBL : Op.bytesLess ck hi = false := by rw [bytesLess_eq]; simpa using h1
         clear h1 hno hup
         gi_wp2
         refine ⟨C, fun i h => .inl h, fun i h => Nat.lt_of_lt_of_le (hbd i h) (by omega), ja.refl _ _, .inr ⟨rfl, m, _, HUP.out, hk2, HG1.out, HG2.out, HG3.out, hrow', fun g hg => ⟨(hHC.out g).2 (.inr (.inr (.inr hg))), hown g hg⟩, hkw'⟩⟩
   · obtain ⟨x1, ev⟩ := x
     simp only at hx1 hx2
     subst hx1
     obtain ⟨tv, av, rfl⟩ := hx2.shape
     have hmm : m = l.length := by
       have := congrArg List.length e
       simp at this
       omega
     subst hmm
     rw [List.take_length] at hin
     have HUP := hide (Ik hin)
     dsimp only [encI, ak]
     gi_wp2
     refine ⟨ja.alloc W _ _, ?_⟩
     intro W2 k2 _
     have ka : ja W W2 (fun i => i = lp) := ((ja.alloc W _ (fun _ => False)).mono (fun _ _ h => h.elim)).trans k2 (fun _ _ h => h)
     have hne : ∀ i, i < w.heap.size + 4 → ¬ i = lp := fun i hi => by omega
     have g1' := ka.same g1 (hne _ (by omega))
     have g2' := ka.same g2 (hne _ (by omega))
     have a1 := cell_of_heap (o := 0) g1'
     have f1 := frozen_of_heap (o := 0) g1'
     have a2 := cell_of_heap (o := 0) g2'
     have f2 := frozen_of_heap (o := 0) g2'
     simp at a1 a2
     have HG1 := hide g1'
     have HG2 := hide g2'
     have HH1 := hide g1
     have HH2 := hide g2
     have HC := hide hC
     clear g0 g1 g2 g3 g1' g2' hC
     have hkw' : ja w W2 (j6 ρ) := hkw.trans ka (fun i hi e => by omega)
     have hsW : W.heap.size + 1 ≤ W2.heap.size := by have := k2.size; simpa using this
     have hfin : ve E ((W2.setCell ⟨w.heap.size + 1, 0, none⟩ (.slice none 0 0)).setCell ⟨w.heap.size + 1 + 1, 0, none⟩ (.iface tv (.pointer (some av)))) (.iface tv (.pointer (some av))) bad := by
       obtain ⟨g, hg, hg2⟩ := hx2
       have k3 : ja W ((W2.setCell ⟨w.heap.size + 1, 0, none⟩ (.slice none 0 0)).setCell ⟨w.heap.size + 1 + 1, 0, none⟩ (.iface tv (.pointer (some av)))) (fun i => i = lp ∨ i = w.heap.size + 1 ∨ i = w.heap.size + 1 + 1) :=
         ((ka.mono (fun _ _ h => .inl h)).set (p := ⟨w.heap.size + 1, 0, none⟩) (.inr (.inl rfl)) _).set (p := ⟨w.heap.size + 1 + 1, 0, none⟩) (.inr (.inr rfl)) _
       refine ⟨g, hg.keep k3 (fun i c h hc => ?_), hg2⟩
       rcases h with h | h | h
       · rw [h, hrl] at hc; cases hc
       · rw [h, HH1.out] at hc; cases hc
       · rw [h, HH2.out] at hc; cases hc
     have HE := hide hfin
     clear hx2 hfin
     gi_wp2
     refine ⟨C, fun i h => .inl h, fun i h => ?_, ?_, .inl ⟨rfl, bad, _, he, HUP.out, HE.out, ?_, ?_, ?_⟩⟩
     · have := hbd i h
       have hsz : ((W2.setCell ⟨w.heap.size + 1, 0, none⟩ (.slice none 0 0)).setCell ⟨w.heap.size + 1 + 1, 0, none⟩ (.iface tv (.pointer (some av)))).heap.size = W2.heap.size := by simp [World.setCell]
       omega
     · exact ((ja.refl W2 C).set (p := ⟨w.heap.size + 1, 0, none⟩) ((HC.out _).2 (.inl rfl)) _).set (p := ⟨w.heap.size + 1 + 1, 0, none⟩) ((HC.out _).2 (.inr (.inl rfl))) _
     · exact (ja.setCell _ _ _).same ((jb HG1.out _).trans rfl) (by simp)
     · exact (jb ((ja.setCell W2 ⟨w.heap.size + 1, 0, none⟩ (.slice none 0 0)).same HG2.out (by simp)) _).trans rfl
     · exact (hkw'.Xk (p := ⟨w.heap.size + 1, 0, none⟩) (by simp) _).Xk (p := ⟨w.heap.size + 1 + 1, 0, none⟩) (by simp; omega) _
 case done =>
   rintro D lp C xs W2 W hD hlp hne hnd hnl ⟨DK, hfin⟩ hk ⟨m, v, e, hm, hin, g0, g1, g2, g3, hrow, hown, hkw, hC⟩ hK
   obtain ⟨pv, cpv, rfl⟩ := jh hrow
   have a1 := cell_of_heap (o := 0) g1
   have f1 := frozen_of_heap (o := 0) g1
   have a2 := cell_of_heap (o := 0) g2
   have f2 := frozen_of_heap (o := 0) g2
   have a3 := cell_of_heap (o := 0) g3
   simp at a1 a2 a3
   have HG1 := hide g1
   have HG2 := hide g2
   have HG3 := hide g3
   have HC := hide hC
   clear g0 g1 g2 g3 hC
   have hml : m = l.length ∧ err = none := by
     rcases hfin with ⟨h1, h2⟩ | ⟨bad, ev, h1, ⟨t, a, rfl⟩, h2⟩
     · rw [e] at h2
       have := congrArg List.length h2
       simp at this
       exact ⟨by omega, h1⟩
     · rw [e] at h2
       have h3 : (ak, Value.iface t (.pointer (some a))) ∈ (l.take m).map Jd := by rw [h2]; simp
       obtain ⟨c, _, h4⟩ := List.mem_map.1 h3
       cases h4
   obtain ⟨rfl, herr⟩ := hml
   rw [List.take_length] at hin hrow
   have HUP := hide (Ik hin)
   have HDK := hide DK
   clear hfin DK e
   gi_wp2
   have hup := HUP.out
   rw [← List.take_length (l := l)] at hrow
   obtain ⟨z1, z2, z3, z4⟩ := leave (W := W) (D := D) (m := l.length) (pv := pv) (cpv := cpv) (by rw [List.take_length]; exact hup) (.inl herr) (Nat.le_refl _) hD (fun h => hnd ((HC.out D).2 (.inr (.inr (.inr h))))) hK (HDK.out.apart hk (fun i hi e => by rw [e]; exact ⟨nT lp (by omega), by omega⟩)) HG1.out HG2.out (by simpa using hrow) hown hkw
   refine ⟨by simp, .inl ⟨_, _, rfl, run_takeDeferred z1, ?_⟩⟩
   exact ⟨.tuple #[.slice pv l.length cpv, .nilIface], (by simp [results, Tryz.results111, go_sem, z2, z3]), z4⟩
 case stop =>
   rintro D lp C c pre W2 W hD hlp hne hnd hnl DK hk (⟨rfl, bad, ev, h1, h2, h3, h4, h5, h6⟩ | ⟨rfl, m, v, h1, h2, h3, h4, h5, h6, h7, h8⟩) hK
   · gi_wp2
     have k9 := ja.putObj W D (.deferred none)
     have r4 := cell_of_heap (o := 0) (k9.same h4 (by omega))
     have r5 := cell_of_heap (o := 0) (k9.same h5 (by omega))
     simp at r4 r5
     refine ⟨by simp, .inl ⟨_, _, rfl, run_takeDeferred hK, ?_⟩⟩
     refine ⟨.tuple #[.slice none 0 0, ev], (by simp [results, Tryz.results111, go_sem, r4, r5]), _, _, rfl, h6.trans k9 (fun i hi e => by omega), ?_, .inr ⟨bad, h1, h2, rfl, ?_⟩⟩
     · exact (DK.apart hk (fun i hi e => by rw [e]; exact ⟨nT lp (by omega), by omega⟩)).apart k9 (fun i hi e => by rw [e]; exact ⟨nT D (by omega), by omega⟩)
     · obtain ⟨g, he, hg⟩ := h3
       exact ⟨g, he.keep k9 (fun i c e hc => by rw [e, hK] at hc; cases hc), hg⟩
   · obtain ⟨pv, cpv, rfl⟩ := jh h6
     have a1 := cell_of_heap (o := 0) h3
     have f1 := frozen_of_heap (o := 0) h3
     have a2 := cell_of_heap (o := 0) h4
     have f2 := frozen_of_heap (o := 0) h4
     have a3 := cell_of_heap (o := 0) h5
     simp at a1 a2 a3
     have H1 := hide h1
     have H3 := hide h3
     have H4 := hide h4
     clear h1 h3 h4 h5
     gi_wp2
     obtain ⟨z1, z2, z3, z4⟩ := leave (W := W) (D := D) (m := m) (pv := pv) (cpv := cpv) H1.out (.inr h2) (by omega) hD (fun h => hnd (h7 D h).1) hK (DK.apart hk (fun i hi e => by rw [e]; exact ⟨nT lp (by omega), by omega⟩)) H3.out H4.out h6 (fun g hg => (h7 g hg).2) h8
     refine ⟨by simp, .inl ⟨_, _, rfl, run_takeDeferred z1, ?_⟩⟩
     exact ⟨.tuple #[.slice pv m cpv, .nilIface], (by simp [results, Tryz.results111, go_sem, z2, z3]), z4⟩
end Go.Proofs.YtnipbplghijdmaaGreatDoor
