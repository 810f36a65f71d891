/-
  La: Iter.
-/
import Derived.RangeFuncNested
import Derived.Test.YtnipbplghijdmaaGreatDoorLa03
namespace Go.Proofs.YtnipbplghijdmaaGreatDoor
open Go.RowKit Go.Maps
set_option linter.unusedVariables false
def Aside (n₀ : Nat) (T C : Nat → Prop) (A B : World) : Prop := ja A B (fun i => T i ∨ (n₀ ≤ i ∧ ¬ C i))
theorem cu {n₀ : Nat} {T C U : Nat → Prop} {A B : World} (h : ja A B U) (hU : ∀ i, i < A.heap.size → U i → T i ∨ (n₀ ≤ i ∧ ¬ C i)) : Aside n₀ T C A B := h.mono hU
theorem Qn {n₀ : Nat} {T C : Nat → Prop} {A B : World} (h : ja A B (fun _ => False)) : Aside n₀ T C A B := h.mono (fun _ _ h => h.elim)
def Gives {α : Type} (F : Fence) (n : Nat) (P : Program) (g : Nat) (rv lb : Array Value) (encs : α → Array Value) (T Needs : Nat → Prop) (Start : World → Prop) (Can : List α → α → World → Prop) (Fin Og : List α → World → Prop) : Prop :=
 ∀ (l n₀ : Nat) (J Jx : List α → (Nat → Prop) → World → Prop),
   (∀ pre C A B, J pre C A → Aside n₀ T C A B → J pre C B) →
   (∀ pre x C W1, J pre C W1 → (∀ i, C i → i < W1.heap.size) → Can pre x W1 → YieldAt F (n - 1) P l (encs x) W1 fun e W' =>
     ∃ C' : Nat → Prop, (∀ i, C' i → C i ∨ W1.heap.size ≤ i) ∧ (∀ i, C' i → i < W'.heap.size) ∧ ja W1 W' C ∧
       ((e = .returned (.bool true) ∧ J (pre ++ [x]) C' W') ∨ (e = .returned (.bool false) ∧ Jx (pre ++ [x]) C' W'))) →
   ∀ (C : Nat → Prop) (W : World), (∀ i, C i → i < W.heap.size) → (∀ i, C i → ¬ T i ∧ ¬ Needs i) → n₀ ≤ W.heap.size → Start W → J [] C W →
     CallsIn F n P g (rv ++ #[.func (.yield l) #[] #[]] ++ lb) W fun e W' => ∃ C' : Nat → Prop, (∀ i, C' i → C i ∨ W.heap.size ≤ i) ∧ (∀ i, C' i → i < W'.heap.size) ∧ (∃ v, e = .returned v) ∧
       ((∃ xs, Fin xs W' ∧ J xs C' W') ∨ (∃ pre, Og pre W' ∧ Jx pre C' W'))
def jhe {α : Type} (I : List α → (Nat → Prop) → World → Prop) (Ix : Code → List α → (Nat → Prop) → World → Prop) (xs : List α) (C : Nat → Prop) (n : Nat) (W : World) : Exit → Act → World → Prop
 | .normal, _, W' => ∃ C' : Nat → Prop, (∀ i, C' i → C i ∨ n ≤ i) ∧ (∀ i, C' i → i < W'.heap.size) ∧ ja W W' C ∧ I xs C' W'
 | .ret, _, W' => ∃ C' : Nat → Prop, (∀ i, C' i → C i ∨ n ≤ i) ∧ (∀ i, C' i → i < W'.heap.size) ∧ ja W W' C ∧ Ix .ret xs C' W'
 | .exit id, _, W' => ∃ C' : Nat → Prop, (∀ i, C' i → C i ∨ n ≤ i) ∧ (∀ i, C' i → i < W'.heap.size) ∧ ja W W' C ∧ Ix (.exit id) xs C' W'
 | .goto t, _, W' => ∃ C' : Nat → Prop, (∀ i, C' i → C i ∨ n ≤ i) ∧ (∀ i, C' i → i < W'.heap.size) ∧ ja W W' C ∧ Ix (.goto t) xs C' W'
 | .panic _, _, _ => False
 | .outgrown, _, _ => False
theorem ja.putObj (W : World) (l : Nat) (o : Obj) : ja W (W.putObj l o) (fun i => i = l) :=
 ⟨rfl, rfl, rfl, by simp, fun k _ hk => World.putObj_heap_other hk⟩
theorem Z7 {α : Type} {F : Fence} {n : Nat} {P : Program} {g : Operand} {ps : Array Tmp} {assign body : Code} {Q : Exit → Act → World → Prop} {a : Act} {w : World}
   (hro : F.round = none) (h1 : 1 ≤ n) {gf : Nat} {rv lb : Array Value} (hg : a.eval g = .func (.func gf) rv lb) (hFg : F.fn gf) (eg : ∀ args w, (callFunc gf args).run P w = .ok (.enter gf args) w)
   {encs : α → Array Value} {T Needs : Nat → Prop} {Start : World → Prop} {Can : List α → α → World → Prop} {Fin Og : List α → World → Prop} (hseq : Gives F (n - 1) P gf rv lb encs T Needs Start Can Fin Og) (hps : ∀ x, (encs x).size = ps.size)
   (hT : ∀ i, T i → i < w.heap.size) (hN : ∀ i, Needs i → i < w.heap.size) (hStart : ∀ W1, ja w W1 (fun _ => False) → Start W1)
   (I : List α → (Nat → Prop) → World → Prop) (Ix : Code → List α → (Nat → Prop) → World → Prop)
   (hI : ∀ pre C A B, I pre C A → Aside w.heap.size T C A B → I pre C B) (hIx : ∀ c pre C A B l r, Ix c pre C A → w.heap.size ≤ l → ¬ C l → A.heap[l]? = some (.loop r) → ja A B (fun i => i = l) → Ix c pre C B)
   (C0 : Nat → Prop) (hC0 : ∀ i, C0 i → i < w.heap.size ∧ ¬ T i ∧ ¬ Needs i) (h0 : I [] C0 w)
   (hround : ∀ (l : Nat) (pre : List α) (x : α) (C : Nat → Prop) (W : World), w.heap.size ≤ l → (∃ r, W.heap[l]? = some (.loop r)) → ¬ C l → (∀ i, C i → i < W.heap.size) → I pre C W → Can pre x W →
     assign.wpIn (F.inRound l) (n - 1 - 1) P (Exit.then (fun a' W' => ja W W' (fun _ => False) ∧ ∀ W2, ja W' W2 (fun i => i = l) → I pre C W2 → body.wpIn (F.inRound l) (n - 1 - 1) P (jhe I Ix (pre ++ [x]) C W.heap.size W2) a' W2) (fun _ _ _ => False))
       { tmps := (ps.zip (encs x)).foldl (fun t (p, v) => t.setIfInBounds p v) a.tmps, defers := [] } W)
   (hdone : ∀ (D l : Nat) (C : Nat → Prop) (xs : List α) (W2 W : World), w.heap.size ≤ D → w.heap.size ≤ l → D ≠ l → ¬ C D → ¬ C l → Fin xs W2 → ja W2 W (fun i => i = l) → I xs C W → W.heap[D]? = some (.deferred (some [])) →
     Q .normal { a with defers := { target := .collected D, args := #[] } :: a.defers } W)
   (hstop : ∀ (D l : Nat) (C : Nat → Prop) (c : Code) (pre : List α) (W2 W : World), w.heap.size ≤ D → w.heap.size ≤ l → D ≠ l → ¬ C D → ¬ C l → Og pre W2 → ja W2 W (fun i => i = l) → Ix c pre C W → W.heap[D]? = some (.deferred (some [])) →
     c.wpIn F n P Q { a with defers := { target := .collected D, args := #[] } :: a.defers } W) :
   (Code.rangeFunc g ps assign body).wpIn F n P Q a w := by
 refine wpIn_rangeFunc ?_
 intro fn hfn
 rw [hro]
 obtain ⟨D, hD⟩ : ∃ D, w.heap.size = D := ⟨_, rfl⟩
 obtain ⟨rec, hrec⟩ : ∃ rec : LoopState → Option Code → Loop, rec = fun st pe => { state := st, pending := pe, fn, tmps := a.tmps, params := ps, assign, body, defers := w.heap.size } := ⟨_, rfl⟩
 obtain ⟨W1, hW1⟩ : ∃ W1, (w.alloc (.deferred (some []))).alloc (.loop (rec .ready none)) = W1 := ⟨_, rfl⟩
 have hk1 : ja w W1 (fun _ => False) := by rw [← hW1]; exact (ja.alloc w _ _).more _
 have hL1 : W1.heap[w.heap.size + 1]? = some (.loop (rec .ready none)) := by
   rw [← hW1]; have := World.alloc_heap_new (w.alloc (.deferred (some []))) (.loop (rec .ready none)); rwa [World.size_alloc] at this
 have hD1 : W1.heap[w.heap.size]? = some (.deferred (some [])) := by
   rw [← hW1]; exact (Below.heap_alloc _ _ _ (by simp)).trans (World.alloc_heap_new w _)
 refine ⟨w.heap.size + 1, [{ target := .collected w.heap.size, args := #[] }], W1, { target := .fn (.func gf) lb, args := rv ++ #[.func (.yield (w.heap.size + 1)) #[] #[]] }, W1, gf,
   rv ++ #[.func (.yield (w.heap.size + 1)) #[] #[]] ++ lb, W1, ?_, ?_, ?_, ?_, fun _ => h1, ?_⟩
 · rw [← hW1, hrec]; exact run_enterLoop_outer _ _ _ _ _
 · simp only [resolve, hg]
   simp [go_sem]
 · intro f' hf'; simp [Target.leads] at hf'; subst hf'; exact hFg
 · simp [invoke, go_sem, eg]
 rw [hD] at hT hN hI hIx hC0 hround hdone hstop hL1 hD1 hrec ⊢
 have side : ∀ {C : Nat → Prop} {A B : World} (h : ¬ C (D + 1)) (k : ja A B (fun i => i = D + 1)), Aside D T C A B := fun h k => cu k (fun i _ e => .inr ⟨by rw [e]; omega, by rw [e]; exact h⟩)
 have wide : ∀ {C : Nat → Prop} {A B : World}, Aside D T (fun i => C i ∨ i = D ∨ i = D + 1) A B → Aside D T C A B := fun k => cu k (fun i _ h => h.imp id (fun h => ⟨h.1, fun hc => h.2 (.inl hc)⟩))
 have out : ∀ {C : Nat → Prop} {i : Nat}, D ≤ i → C i → ¬ (T i ∨ (D ≤ i ∧ ¬ C i)) := fun hi hc h => h.elim (fun h => by have := hT _ h; omega) (fun h => h.2 hc)
 refine (hseq (D + 1) D
   (fun pre C W => ∃ C0 : Nat → Prop, (∀ i, C i ↔ C0 i ∨ i = D ∨ i = D + 1) ∧ ¬ C0 D ∧ ¬ C0 (D + 1) ∧ I pre C0 W ∧ W.heap[D + 1]? = some (.loop (rec .ready none)) ∧ W.heap[D]? = some (.deferred (some [])))
   (fun pre C W => ∃ (C0 : Nat → Prop) (c : Code), (∀ i, C i ↔ C0 i ∨ i = D ∨ i = D + 1) ∧ ¬ C0 D ∧ ¬ C0 (D + 1) ∧ Ix c pre C0 W ∧ W.heap[D + 1]? = some (.loop (rec .done (some c))) ∧ W.heap[D]? = some (.deferred (some [])))
   ?_ ?_ (fun i => C0 i ∨ i = D ∨ i = D + 1) W1 ?_ ?_ ?_ (hStart W1 hk1) ?_).mono ?_
 · rintro pre C A B ⟨E, hE, n1, n2, hi, hl, hd⟩ hk
   refine ⟨E, hE, n1, n2, hI _ _ _ _ hi (cu hk (fun i _ h => h.imp id (fun h => ⟨h.1, fun hc => h.2 ((hE i).2 (.inl hc))⟩))), ?_, ?_⟩
   · exact ja.same hk hl (out (by omega) ((hE _).2 (.inr (.inr rfl))))
   · exact ja.same hk hd (out (Nat.le_refl _) ((hE _).2 (.inr (.inl rfl))))
 · -- one round
   rintro pre x C W ⟨E, hE, n1, n2, hi, hl, hd⟩ hbd hcan
   have hlt : D + 1 < W.heap.size := (Array.getElem?_eq_some_iff.1 hl).1
   have hy := run_yield (P := P) (args := encs x) hl (by rw [hrec]; exact hps x)
   rw [hrec] at hy
   refine ⟨fn, _, assign, body, hy, roundIn_of_wpIn hfn (wpIn_mono (hround (D + 1) pre x E W (by omega) ⟨_, hl⟩ n2 (fun i h => hbd i ((hE i).2 (.inl h))) hi hcan) ?_)⟩
   clear hy
   rintro e a' Wa hp
   cases e with
   | normal =>
     obtain ⟨ka, hb⟩ := hp
     have hla := ka.same hl (fun h => h)
     have hda := ka.same hd (fun h => h)
     have hlta : D + 1 < Wa.heap.size := lt_of_heap hla
     refine ⟨_, run_beginRound hla (by rw [hrec]), ?_⟩
     have kb := ja.putObj Wa (D + 1) (.loop { rec .ready none with state := .busy })
     have hl2 : (Wa.putObj (D + 1) (.loop { rec .ready none with state := .busy })).heap[D + 1]? = some (.loop { rec .ready none with state := .busy }) := World.putObj_heap_same hlta
     have hd2 := kb.same hda (by omega)
     have hi2 := hI _ _ _ _ (hI _ _ _ _ hi (Qn ka)) (side n2 kb)
     refine wpIn_mono (hb _ kb hi2) ?_
     have fin : ∀ (jump : Option Code) (W3 : World), ja (Wa.putObj (D + 1) (.loop { rec .ready none with state := .busy })) W3 E →
         (Instr.endRound (D + 1) jump).run P W3 = .ok (.bool jump.isNone) (W3.putObj (D + 1) (.loop (rec (if jump.isNone then .ready else .done) jump))) ∧
         (W3.putObj (D + 1) (.loop (rec (if jump.isNone then .ready else .done) jump))).heap[D + 1]? = some (.loop (rec (if jump.isNone then .ready else .done) jump)) ∧
         (W3.putObj (D + 1) (.loop (rec (if jump.isNone then .ready else .done) jump))).heap[D]? = some (.deferred (some [])) ∧
         ja W (W3.putObj (D + 1) (.loop (rec (if jump.isNone then .ready else .done) jump))) C := fun jump W3 k3 => by
       have hl3 := k3.same hl2 n2
       have hd3 := k3.same hd2 n1
       have he := run_endRound (P := P) jump hl3
       have kc := ja.putObj W3 (D + 1) (.loop (rec (if jump.isNone then .ready else .done) jump))
       refine ⟨by rw [he, hrec], World.putObj_heap_same (lt_of_heap hl3), kc.same hd3 (by omega), ?_⟩
       exact (((ka.mono (fun _ _ h => h.elim)).trans kb (fun i _ e => (hE i).2 (.inr (.inr e)))).trans k3 (fun i _ h => (hE i).2 (.inl h))).trans kc (fun i _ e => (hE i).2 (.inr (.inr e)))
     have grow : ∀ (C' : Nat → Prop) (jump : Option Code) (W3 : World), ja (Wa.putObj (D + 1) (.loop { rec .ready none with state := .busy })) W3 E → (∀ i, C' i → E i ∨ W.heap.size ≤ i) → (∀ i, C' i → i < W3.heap.size) →
         (∀ i, (C' i ∨ i = D ∨ i = D + 1) → C i ∨ W.heap.size ≤ i) ∧ (∀ i, (C' i ∨ i = D ∨ i = D + 1) → i < (W3.putObj (D + 1) (.loop (rec (if jump.isNone then .ready else .done) jump))).heap.size) ∧ ¬ C' D ∧ ¬ C' (D + 1) := fun C' jump W3 k3 hsub hbd' => by
       have hs3 : Wa.heap.size ≤ W3.heap.size := by have := k3.size; simpa using this
       refine ⟨fun i h => ?_, fun i h => ?_, fun h => ?_, fun h => ?_⟩
       · rcases h with h | h | h
         · exact (hsub i h).imp (fun h => (hE i).2 (.inl h)) id
         · exact .inl ((hE i).2 (.inr (.inl h)))
         · exact .inl ((hE i).2 (.inr (.inr h)))
       · simp only [World.putObj_size]
         rcases h with h | h | h
         · exact hbd' i h
         · omega
         · omega
       · rcases hsub _ h with h | h
         · exact n1 h
         · omega
       · rcases hsub _ h with h | h
         · exact n2 h
         · omega
     rintro e a3 W3 hp
     cases e with
     | normal =>
       obtain ⟨C', hsub, hbd', k3, hi3⟩ := hp
       obtain ⟨hr, hl4, hd4, k4⟩ := fin none W3 k3
       obtain ⟨g1, g2, g3, g4⟩ := grow C' none W3 k3 hsub hbd'
       exact ⟨_, _, hr, _, g1, g2, k4, .inl ⟨rfl, C', fun _ => Iff.rfl, g3, g4, hI _ _ _ _ hi3 (side g4 (ja.putObj W3 _ _)), hl4, hd4⟩⟩
     | ret =>
       obtain ⟨C', hsub, hbd', k3, hi3⟩ := hp
       obtain ⟨hr, hl4, hd4, k4⟩ := fin (some .ret) W3 k3
       obtain ⟨g1, g2, g3, g4⟩ := grow C' (some .ret) W3 k3 hsub hbd'
       exact ⟨_, _, hr, _, g1, g2, k4, .inr ⟨rfl, C', .ret, fun _ => Iff.rfl, g3, g4, hIx _ _ _ _ _ _ _ hi3 (by omega) g4 (k3.same hl2 n2) (ja.putObj W3 _ _), hl4, hd4⟩⟩
     | exit id =>
       obtain ⟨C', hsub, hbd', k3, hi3⟩ := hp
       obtain ⟨hr, hl4, hd4, k4⟩ := fin (some (.exit id)) W3 k3
       obtain ⟨g1, g2, g3, g4⟩ := grow C' (some (.exit id)) W3 k3 hsub hbd'
       exact ⟨_, _, hr, _, g1, g2, k4, .inr ⟨rfl, C', .exit id, fun _ => Iff.rfl, g3, g4, hIx _ _ _ _ _ _ _ hi3 (by omega) g4 (k3.same hl2 n2) (ja.putObj W3 _ _), hl4, hd4⟩⟩
     | goto t =>
       obtain ⟨C', hsub, hbd', k3, hi3⟩ := hp
       obtain ⟨hr, hl4, hd4, k4⟩ := fin (some (.goto t)) W3 k3
       obtain ⟨g1, g2, g3, g4⟩ := grow C' (some (.goto t)) W3 k3 hsub hbd'
       exact ⟨_, _, hr, _, g1, g2, k4, .inr ⟨rfl, C', .goto t, fun _ => Iff.rfl, g3, g4, hIx _ _ _ _ _ _ _ hi3 (by omega) g4 (k3.same hl2 n2) (ja.putObj W3 _ _), hl4, hd4⟩⟩
     | panic ch => exact hp.elim
     | outgrown => exact hp.elim
   | ret => exact hp.elim
   | exit id => exact hp.elim
   | goto t => exact hp.elim
   | panic ch => exact hp.elim
   | outgrown => exact hp.elim
 · intro i h
   have := hk1.size
   rcases h with h | h | h
   · have := (hC0 i h).1; omega
   · have := lt_of_heap hD1; omega
   · have := lt_of_heap hL1; omega
 · intro i h
   rcases h with h | h | h
   · exact (hC0 i h).2
   · subst h; exact ⟨fun h => by have := hT _ h; omega, fun h => by have := hN _ h; omega⟩
   · subst h; exact ⟨fun h => by have := hT _ h; omega, fun h => by have := hN _ h; omega⟩
 · have := hk1.size; omega
 · exact ⟨C0, fun _ => Iff.rfl, fun h => by have := (hC0 _ h).1; omega, fun h => by have := (hC0 _ h).1; omega, hI _ _ _ _ h0 (Qn hk1), hL1, hD1⟩
 · -- behind the iterator
   rintro e W2 ⟨C', _, _, ⟨v, rfl⟩, (⟨xs, hS, E, hE, n1, n2, hi, hl, hd⟩ | ⟨pre, hS, E, c, hE, n1, n2, hi, hl, hd⟩)⟩
   · have kb := ja.putObj W2 (D + 1) (.loop { rec .ready none with state := .exhausted })
     refine ⟨none, _, by have := run_endLoop (P := P) hl (by rw [hrec]; simp); rw [hrec] at this; exact this, ?_⟩
     have := hdone D (D + 1) E xs W2 _ (Nat.le_refl _) (by omega) (by omega) n1 n2 hS kb (hI _ _ _ _ hi (side n2 kb)) (kb.same hd (by omega))
     rw [hrec] at this
     exact this
   · have kb := ja.putObj W2 (D + 1) (.loop { rec .done (some c) with state := .exhausted })
     refine ⟨some c, _, by have := run_endLoop (P := P) hl (by rw [hrec]; simp); rw [hrec] at this; exact this, ?_⟩
     have := hstop D (D + 1) E c pre W2 _ (Nat.le_refl _) (by omega) (by omega) n1 n2 hS kb (hIx _ _ _ _ _ _ _ hi (by omega) n2 hl kb) (kb.same hd (by omega))
     rw [hrec] at this
     exact this
end Go.Proofs.YtnipbplghijdmaaGreatDoor
