/-
  La: MakeRunA MakeRunB WellA WholeF StoreW WriteW.
-/
import Derived.Deep.DeepMust
import Derived.Test.YtnipbplghijdmaaGreatDoorLa31
import Derived.Test.YtnipbplghijdmaaGreatDoorLa30
import Derived.Test.YtnipbplghijdmaaGreatDoorLa29
import Derived.Test.YtnipbplghijdmaaGreatDoorLa10
import Derived.Test.YtnipbplghijdmaaGreatDoorLa21
import Derived.Test.YtnipbplghijdmaaGreatDoorLa23
import Derived.Test.YtnipbplghijdmaaGreatDoorLa20
namespace Go.Proofs.YtnipbplghijdmaaGreatDoor
open Go.RowKit Go.Maps Go.WideShapes Go.Shelf
set_option linter.unusedVariables false
theorem wrap_u64 {x : Int} (h1 : 0 ≤ x) (h2 : x ≤ 18446744073709551615) : IntKind.u64.wrap x = x := by
 simp [IntKind.wrap, IntKind.bits, IntKind.signed]
 omega
theorem Bl {F : Fence} {n : Nat} {P : Program} (w : World) {ops : Array Oper} {rest : List Oper} {o : Oper} {a : Act} {Q : Exit → Act → World → Prop}
   (hg : o.guard = none) (s x : Operand) (t tx : TypeId) (hop : o.op = Op.call { callee := Callee.builtin Builtin.append, args := #[s, x], argTypes := #[t, tx] })
   (base : Nat) (e : TypeId) (i : TypeInfo) (z : Value) (size bytes : Nat) (h1 : P.underlying t = some (.slice e)) (h2 : P.info? e = some i) (h3 : i.zero = some z) (h4 : i.size = size) (h5 : i.bytes = bytes) (h6 : z.cells.size = size) (h7 : 0 < size)
   (v : Value) (k : Nat) (xs : List Value) (hs : a.eval s = v) (hown : w.ownsRow base e size v k xs) (u : Value) (m : Nat) (news : List Value) (hx : a.eval x = u) (hsrc : Src P size tx u m news w)
   (b1 : k + m ≤ maxLen) (b2 : (k + m) * bytes ≤ 140737488355328) (b3 : base ≤ w.heap.size)
   (hK : ∀ (p : Option Addr) (cp : Nat) (w' : World), w'.ownsRow base e size (.slice p (k + m) cp) (k + m) (xs ++ news) → w.grownBy w' v.ownBlock → ((Value.slice p (k + m) cp).ownBlock = v.ownBlock ∨ (Value.slice p (k + m) cp).ownBlock = some w.heap.size) → wpListIn F n P ops Q rest (a.put o.dst (.slice p (k + m) cp)) w') :
   wpListIn F n P ops Q (o :: rest) a w := by
 refine wpListIn_plain hg fun K hK' => ?_
 obtain ⟨v', w', hrun, r1, r2, r4⟩ := Xy (P := P) w base t tx o.type e i z size bytes h1 h2 h3 h4 h5 h6 h7 v k xs hown u m news hsrc b1 b2 b3
 obtain ⟨p, cp, rfl⟩ := jh r1
 unfold Oper.wpIn
 refine ⟨?_, ?_⟩
 · simp [Oper.about, hop, resolve, Target.leads, Sem.run_pure]
 · rw [Oper.semAt_plain F _ _ (by rw [hop]; intro c hc'; cases hc')]
   simp [execOp, hop, resolve, invoke, builtin, hs, hx, hrun, Result.andThen]
   exact hK' _ _ (hK p cp w' r1 r2 r4)
def V6 (n : Nat) (vb vp : Value) (i : Nat) : Prop := i = n ∨ i = n + 1 ∨ i = n + 2 ∨ vb.ownBlock = some i ∨ vp.ownBlock = some i
structure Q3 (w : World) (X Y : List UInt8) (M : Nat) (vb vp : Value) (W : World) : Prop where
 b3 : W.heap[w.heap.size]? = some (.cells #[vb] 84 (0, 0))
 b4 : W.heap[w.heap.size + 1]? = some (.cells #[vp] 84 (0, 0))
 b5 : W.heap[w.heap.size + 2]? = some (.cells #[.int .u64 M] 172 (0, 0))
 rb : W.ownsRow w.heap.size 5 1 vb X.length (X.map qg)
 rp : W.ownsRow w.heap.size 5 1 vp Y.length (Y.map qg)
 nb : ∀ g, vb.ownBlock = some g → w.heap.size + 5 ≤ g
 np : ∀ g, vp.ownBlock = some g → w.heap.size + 5 ≤ g
 ap : ∀ g, vb.ownBlock = some g → ¬ vp.ownBlock = some g
 kw : ja w W (fun _ => False)
def Mi (n : Nat) (vb vp : Value) (W : World) (vb' vp' : Value) (W' : World) : Prop := ja W W' (V6 n vb vp) ∧ ∀ i, V6 n vb' vp' i → V6 n vb vp i ∨ W.heap.size ≤ i
theorem Mi.trans {n : Nat} {vb vp vb1 vp1 vb2 vp2 : Value} {W W1 W2 : World} (h : Mi n vb vp W vb1 vp1 W1) (k : Mi n vb1 vp1 W1 vb2 vp2 W2) : Mi n vb vp W vb2 vp2 W2 := by
 refine ⟨h.1.trans k.1 (fun i hi hf => ?_), fun i hf => ?_⟩
 · rcases h.2 i hf with h' | h'
   · exact h'
   · omega
 · rcases k.2 i hf with h' | h'
   · exact h.2 i h'
   · exact .inr (Nat.le_trans h.1.size h')
theorem Mi.same {n : Nat} {vb vp : Value} {W W' : World} (k : ja W W' (fun _ => False)) : Mi n vb vp W vb vp W' := ⟨k.mono (fun _ _ h => h.elim), fun i h => .inl h⟩
theorem Q3.same {w W W' : World} {X Y : List UInt8} {M : Nat} {vb vp : Value} (h : Q3 w X Y M vb vp W) (k : ja W W' (fun _ => False)) : Q3 w X Y M vb vp W' :=
 ⟨k.same h.b3 id, k.same h.b4 id, k.same h.b5 id, k.row h.rb (fun _ _ h => h), k.row h.rp (fun _ _ h => h), h.nb, h.np, h.ap, h.kw.trans k (fun _ _ h => h)⟩
theorem Q3.aside {w W W' : World} {X Y : List UInt8} {M : Nat} {vb vp : Value} {T : Nat → Prop} (h : Q3 w X Y M vb vp W) (k : ja W W' T) (hT : ∀ i, T i → w.heap.size ≤ i ∧ ¬ V6 w.heap.size vb vp i) : Q3 w X Y M vb vp W' :=
 ⟨k.same h.b3 (fun t => (hT _ t).2 (.inl rfl)), k.same h.b4 (fun t => (hT _ t).2 (.inr (.inl rfl))), k.same h.b5 (fun t => (hT _ t).2 (.inr (.inr (.inl rfl)))), k.row h.rb (fun g hg t => (hT _ t).2 (.inr (.inr (.inr (.inl hg))))), k.row h.rp (fun g hg t => (hT _ t).2 (.inr (.inr (.inr (.inr hg))))), h.nb, h.np, h.ap,
   h.kw.trans k (fun i hi t => by have := (hT i t).1; omega)⟩
theorem Q3.places {w W W' : World} {X Y Y' : List UInt8} {M : Nat} {vb vp vp' : Value} (h : Q3 w X Y M vb vp W) (hW : w.heap.size + 5 ≤ W.heap.size) (g : Grown W vp W' vp') (r : W'.ownsRow w.heap.size 5 1 vp' Y'.length (Y'.map qg)) :
   Q3 w X Y' M vb vp' (W'.setCell ⟨w.heap.size + 1, 0, none⟩ vp') ∧ Mi w.heap.size vb vp W vb vp' (W'.setCell ⟨w.heap.size + 1, 0, none⟩ vp') := by
 obtain ⟨g1, k⟩ := g
 have kc := ja.setCell W' ⟨w.heap.size + 1, 0, none⟩ vp'
 have np' : ∀ q, vp'.ownBlock = some q → vp.ownBlock = some q ∨ W.heap.size ≤ q := fun q hq => by
   rcases g1 with e | ⟨q', e, hq'⟩
   · exact .inl (e ▸ hq)
   · rw [hq] at e; cases e; exact .inr hq'
 have lo : ∀ i, i < w.heap.size + 5 → ¬ some i = vp.ownBlock := fun i hi e => by have := h.np i e.symm; omega
 have hb4 := k.same h.b4 (lo _ (by omega))
 refine ⟨⟨kc.same (k.same h.b3 (lo _ (by omega))) (by show ¬ w.heap.size = w.heap.size + 1; omega), (jb hb4 _).trans rfl, kc.same (k.same h.b5 (lo _ (by omega))) (by show ¬ w.heap.size + 2 = w.heap.size + 1; omega),
   kc.row (k.row h.rb (fun q hq e => h.ap q hq e.symm)) (fun q hq e => by have := h.nb q hq; have e' : q = w.heap.size + 1 := e; omega), kc.row r (fun q hq e => ?_), h.nb, fun q hq => ?_, fun q hq hq' => ?_, ?_⟩, ?_, ?_⟩
 · have e' : q = w.heap.size + 1 := e
   rcases np' q hq with h' | h'
   · have := h.np q h'; omega
   · omega
 · rcases np' q hq with h' | h'
   · exact h.np q h'
   · omega
 · rcases np' q hq' with h' | h'
   · exact h.ap q hq h'
   · have := (h.rb.lt q hq).2; omega
 · exact (h.kw.trans k (fun i hi e => by have := h.np i e.symm; omega)).Xk (by show w.heap.size ≤ w.heap.size + 1; omega) _
 · exact (k.mono (fun i _ e => .inr (.inr (.inr (.inr e.symm))))).trans kc (fun i _ e => .inr (.inl e))
 · rintro i (h1 | h1 | h1 | h1 | h1)
   · exact .inl (.inl h1)
   · exact .inl (.inr (.inl h1))
   · exact .inl (.inr (.inr (.inl h1)))
   · exact .inl (.inr (.inr (.inr (.inl h1))))
   · rcases np' i h1 with h' | h'
     · exact .inl (.inr (.inr (.inr (.inr h'))))
     · exact .inr h'
theorem Q3.blocks {w W W' : World} {X X' Y : List UInt8} {M : Nat} {vb vp vb' : Value} (h : Q3 w X Y M vb vp W) (hW : w.heap.size + 5 ≤ W.heap.size) (g : Grown W vb W' vb') (r : W'.ownsRow w.heap.size 5 1 vb' X'.length (X'.map qg)) :
   Q3 w X' Y M vb' vp (W'.setCell ⟨w.heap.size, 0, none⟩ vb') ∧ Mi w.heap.size vb vp W vb' vp (W'.setCell ⟨w.heap.size, 0, none⟩ vb') := by
 obtain ⟨g1, k⟩ := g
 have kc := ja.setCell W' ⟨w.heap.size, 0, none⟩ vb'
 have np' : ∀ q, vb'.ownBlock = some q → vb.ownBlock = some q ∨ W.heap.size ≤ q := fun q hq => by
   rcases g1 with e | ⟨q', e, hq'⟩
   · exact .inl (e ▸ hq)
   · rw [hq] at e; cases e; exact .inr hq'
 have lo : ∀ i, i < w.heap.size + 5 → ¬ some i = vb.ownBlock := fun i hi e => by have := h.nb i e.symm; omega
 have hb3 := k.same h.b3 (lo _ (by omega))
 refine ⟨⟨(jb hb3 _).trans rfl, kc.same (k.same h.b4 (lo _ (by omega))) (by show ¬ w.heap.size + 1 = w.heap.size; omega), kc.same (k.same h.b5 (lo _ (by omega))) (by show ¬ w.heap.size + 2 = w.heap.size; omega),
   kc.row r (fun q hq e => ?_), kc.row (k.row h.rp (fun q hq e => h.ap q e.symm hq)) (fun q hq e => by have := h.np q hq; have e' : q = w.heap.size := e; omega), fun q hq => ?_, h.np, fun q hq hq' => ?_, ?_⟩, ?_, ?_⟩
 · have e' : q = w.heap.size := e
   rcases np' q hq with h' | h'
   · have := h.nb q h'; omega
   · omega
 · rcases np' q hq with h' | h'
   · exact h.nb q h'
   · omega
 · rcases np' q hq with h' | h'
   · exact h.ap q h' hq'
   · have := (h.rp.lt q hq').2; omega
 · exact (h.kw.trans k (fun i hi e => by have := h.nb i e.symm; omega)).Xk (by show w.heap.size ≤ w.heap.size; omega) _
 · exact (k.mono (fun i _ e => .inr (.inr (.inr (.inl e.symm))))).trans kc (fun i _ e => .inl e)
 · rintro i (h1 | h1 | h1 | h1 | h1)
   · exact .inl (.inl h1)
   · exact .inl (.inr (.inl h1))
   · exact .inl (.inr (.inr (.inl h1)))
   · rcases np' i h1 with h' | h'
     · exact .inl (.inr (.inr (.inr (.inl h'))))
     · exact .inr h'
   · exact .inl (.inr (.inr (.inr (.inr h1))))
theorem Q3.counted {w W : World} {X Y : List UInt8} {M N : Nat} {vb vp : Value} (h : Q3 w X Y M vb vp W) : Q3 w X Y N vb vp (W.setCell ⟨w.heap.size + 2, 0, none⟩ (.int .u64 N)) ∧ Mi w.heap.size vb vp W vb vp (W.setCell ⟨w.heap.size + 2, 0, none⟩ (.int .u64 N)) := by
 have kc := ja.setCell W ⟨w.heap.size + 2, 0, none⟩ (.int .u64 N)
 refine ⟨⟨kc.same h.b3 (by show ¬ w.heap.size = w.heap.size + 2; omega), kc.same h.b4 (by show ¬ w.heap.size + 1 = w.heap.size + 2; omega), (jb h.b5 _).trans rfl,
   kc.row h.rb (fun q hq e => by have := h.nb q hq; have e' : q = w.heap.size + 2 := e; omega), kc.row h.rp (fun q hq e => by have := h.np q hq; have e' : q = w.heap.size + 2 := e; omega), h.nb, h.np, h.ap, h.kw.Xk (by show w.heap.size ≤ w.heap.size + 2; omega) _⟩, ?_, fun i hi => .inl hi⟩
 exact kc.mono (fun i _ e => .inr (.inr (.inl e)))
end Go.Proofs.YtnipbplghijdmaaGreatDoor
namespace Go.Proofs.YtnipbplghijdmaaGreatDoor
open Go.RowKit Go.Maps Go.WideShapes Go.Shelf
set_option linter.unusedVariables false
set_option linter.unusedSimpArgs false
attribute [local go_sem] Oper.semAt_some
theorem Zo (ys : Array Value) (w : World) : (callFunc 106 ys).run Tryz.prog w = .ok (.enter 106 ys) w := by kernel_rfl
theorem X6 (ys : Array Value) (w : World) : (callFunc 107 ys).run Tryz.prog w = .ok (.enter 107 ys) w := by kernel_rfl
theorem Xu (ys : Array Value) (w : World) : (callFunc 105 ys).run Tryz.prog w = .ok (.enter 105 ys) w := by kernel_rfl
set_option maxRecDepth 100000 in
set_option maxHeartbeats 2000000 in
theorem Gi (b o c : Nat) (l : List Ref.Ch) (w : World) (hv : Chs w (.slice (some ⟨b, o, none⟩) l.length c) l) (hne : l ≠ []) (hok : ∀ c ∈ l, Ref.allowed c = true) (hl : l.length < 65536) :
   Calls Tryz.prog 116 #[.slice (some ⟨b, o, none⟩) l.length c] w fun e w' => ∃ p c', e = .returned (.slice p (Ref.ql l).length c') ∧ w'.ownsRow w.heap.size 5 1 (.slice p (Ref.ql l).length c') (Ref.ql l).length ((Ref.ql l).map qg) ∧ ja w w' (fun _ => False) := by
 have hbl : b < w.heap.size := hv.lt hne
 obtain ⟨j0, hj, hy0, hy1, hy2⟩ := info_parts Tryz.Ap
 have HV := hide hv
 have HOK := hide hok
 have HNE := hide hne
 clear hv hok hne
 refine (callsIn_wide (n := 9)).1 ?_
 refine callsIn_of_wp_marks Tryz.func116 rfl trivial ?_ rfl
 simp only [Tryz.ntmps116, List.size_toArray, List.length_cons, List.length_nil, Nat.reduceAdd, Nat.reduceSub, Array.replicate_succ, Array.replicate_zero, List.push_toArray, List.append_toArray, List.nil_append, List.cons_append]
 gi_wp2_with fail
 refine ⟨trivial, (callsIn_wide.2 (jcz _ _ rfl)).mono ?_⟩
 rintro e W0 ⟨rfl, hW0⟩
 have kW : ja w W0 (fun _ => False) := by rw [hW0]; exact (((((ja.alloc w _ _).more _).more _).more _).more _)
 have hsz : W0.heap.size = w.heap.size + 5 := by rw [hW0]; simp
 have top : ∀ (V : World) (x : Obj) (k : Nat), V.heap.size = k → (V.alloc x).heap[k]? = some x := fun V x k e => by rw [← e]; exact jd V x
 have b3 : W0.heap[w.heap.size]? = some (.cells #[.slice none 0 0] 84 (0, 0)) := by
   rw [hW0]; exact (((((ja.alloc _ _ (fun _ => False)).more _).more _).more _)).same (top w _ _ rfl) id
 have b4 : W0.heap[w.heap.size + 1]? = some (.cells #[.slice none 0 0] 84 (0, 0)) := by
   rw [hW0]; exact ((((ja.alloc _ _ (fun _ => False)).more _).more _)).same (top _ _ _ (by simp)) id
 have b5 : W0.heap[w.heap.size + 2]? = some (.cells #[.int .u64 0] 172 (0, 0)) := by
   rw [hW0]; exact (((ja.alloc _ _ (fun _ => False)).more _)).same (top _ _ _ (by simp)) id
 have b6 : W0.heap[w.heap.size + 1 + 1 + 1]? = some (.cells #[.slice (some ⟨b, o, none⟩) l.length c] 38 (0, 0)) := by
   rw [hW0]; exact (ja.alloc _ _ (fun _ => False)).same (top _ _ _ (by simp)) id
 have b7 : W0.heap[w.heap.size + 1 + 1 + 1 + 1]? = some (.cells #[.int .i64 4] 3 (0, 0)) := by
   rw [hW0]; exact top _ _ _ (by simp)
 clear hW0
 have hS0 : jfc b o c (w.heap.size + 1 + 1 + 1) (w.heap.size + 1 + 1 + 1 + 1) l W0 := ⟨HV.out.same kW, b6, b7⟩
 have hM0 : Q3 w (Ref.zq l 0) (Ref.Jr l 0) 0 (.slice none 0 0) (.slice none 0 0) W0 := ⟨b3, b4, b5, World.ownsRow_nil _ _ _ _, World.ownsRow_nil _ _ _ _, fun g hg => (by cases hg), fun g hg => (by cases hg), fun g hg => (by cases hg), kW⟩
 clear b3 b4 b5 b6 b7
 have HS0 := hide hS0
 have HM0 := hide hM0
 clear hS0 hM0
 gi_wp2
 refine Z7 rfl (by decide) (gf := 195) (rv := #[]) (lb := #[.pointer (some ⟨w.heap.size + 1 + 1 + 1, 0, none⟩), .pointer (some ⟨w.heap.size + 1 + 1 + 1 + 1, 0, none⟩)]) rfl trivial Hw
   (Hy b o c (w.heap.size + 1 + 1 + 1) (w.heap.size + 1 + 1 + 1 + 1) l (by omega)) (fun _ => rfl) (fun _ h => h.elim) (fun i h => by rcases h with h | h | h <;> omega)
   (fun W1 k => ⟨HS0.out.1.same k, k.same HS0.out.2.1 id, k.same HS0.out.2.2 id⟩)
   (fun pre C W => ∃ (m : Nat) (vb vp : Value), pre = List.range m ∧ Hid (4 * m < l.length + 4) ∧ Q3 w (Ref.zq l m) (Ref.Jr l m) m vb vp W ∧ (∀ i, C i ↔ V6 w.heap.size vb vp i))
   (fun _ _ _ _ => False)
   ?hI ?hIx (fun i => i = w.heap.size ∨ i = w.heap.size + 1 ∨ i = w.heap.size + 2) ?hC0 ?h0 ?round ?done ?stop
 case hI =>
   rintro pre C A B' ⟨m, vb, vp, e, h4, hM, hC⟩ hk
   refine ⟨m, vb, vp, e, h4, hM.aside hk (fun i h => ?_), hC⟩
   rcases h with h | ⟨h1, h2⟩
   · exact h.elim
   · exact ⟨by omega, fun hf => h2 ((hC i).2 hf)⟩
 case hIx =>
   rintro c pre C A B' lp r h
   exact h.elim
 case hC0 =>
   rintro i (h | h | h)
   all_goals exact ⟨by omega, id, fun hn => by rcases hn with hn | hn | hn <;> omega⟩
 case h0 => exact ⟨0, _, _, rfl, (show 4 * 0 < l.length + 4 from by omega), HM0.out, fun i => by simp [V6, Value.ownBlock]⟩
 case round =>
   rintro lp pre x C W hlp ⟨rl, hrl⟩ hnl hbd ⟨m, vb, vp, rfl, HM4, hM, hC⟩ ⟨e, hx4⟩
   have hlt := lt_of_heap hrl
   obtain rfl : m = x := by
     have := congrArg List.length e
     simpa using this
   have HX4 := hide hx4
   clear e hx4
   dsimp only [jg9]
   gi_wp2
   refine ⟨ja.refl _ _, ?_⟩
   intro W2 k2 _
   have hM2 : Q3 w (Ref.zq l m) (Ref.Jr l m) m vb vp W2 := hM.aside k2 (fun i e => ⟨by have e' : i = lp := e; omega, fun hf => hnl (by have e' : i = lp := e; rw [← e']; exact (hC i).2 hf)⟩)
   have hW2 : w.heap.size + 5 ≤ W2.heap.size := by have := k2.size; omega
   have HC := hide hC
   have hbX := Ref.Xx HOK.out m
   have hbY := Ref.Xt HOK.out m HM4.out
   have hm5 : m < 20000 := by have := HM4.out; omega
   have ks : Hid ((Ref.zq l m).length < 1099511627776 ∧ (Ref.Jr l m).length < 1099511627776) := (show _ ∧ _ from ⟨by omega, by omega⟩)
   have ks2 : Hid ((Ref.Jr l m).length < 1099511620000) := (show (Ref.Jr l m).length < 1099511620000 from by omega)
   clear hC hM hbX hbY
   obtain ⟨X, hX⟩ : ∃ X, X = Ref.zq l m := ⟨_, rfl⟩
   obtain ⟨Y, hY⟩ : ∃ Y, Y = Ref.Jr l m := ⟨_, rfl⟩
   rw [← hX, ← hY] at hM2 ks
   rw [← hY] at ks2
   have HXX := hide hX
   have HYY := hide hY
   clear hX hY
   have c3 := cell_of_heap (o := 0) hM2.b3
   have c4 := cell_of_heap (o := 0) hM2.b4
   have f4 := frozen_of_heap (o := 0) hM2.b4
   simp at c3 c4
   obtain ⟨pb, cb, rfl⟩ := jh hM2.rb
   have hXw : IntKind.u64.wrap (X.length : Int) = (X.length : Int) := wrap_u64 (by omega) (by have := ks.out; omega)
   gi_wp2_with fail
   refine ⟨trivial, ((callsIn_wide.2 (zw vp Y.length Y X.length 4 w.heap.size W2 rfl (by have := ks.out; omega) (by decide) ks.out.2 (by omega) hM2.rp)).inRound lp).mono ?_⟩
   rintro e W3 ⟨p3, cp3, rfl, hr3, hg3⟩
   have hY1 : (Y ++ Ref.big X.length 4).length = Y.length + 4 := by rw [List.length_append, Ref.jk]
   rw [← hY1] at hr3 hg3
   obtain ⟨hM4, hW4⟩ := hM2.places hW2 hg3 hr3
   rw [hY1] at hM4 hW4
   have HMM := hide hM4
   have HWW := hide hW4
   have c4' := hg3.keeps.cell c4 (fun e => by have := hM2.np _ e.symm; simp at this)
   have f4' := frozen_of_heap (o := 0) (hg3.keeps.same hM2.b4 (fun e => by have := hM2.np _ e.symm; omega))
   clear hM4 hW4
   gi_wp2
   obtain ⟨W4, hW4e⟩ : ∃ W4, W4 = W3.setCell ⟨w.heap.size + 1, 0, none⟩ (.slice p3 (Y.length + 4) cp3) := ⟨_, rfl⟩
   rw [← hW4e] at HMM HWW ⊢
   have hq0 : Qw l.length (4 * m) ≤ 4 ∧ 1 ≤ Qw l.length (4 * m) := by have := HX4.out; unfold Qw; omega
   have hkey : W4.cell? ⟨b, o + 4 * m * 3, none⟩ = some (jc (Ref.Jv (partAt l (4 * m)))) := by
     have := HX4.out
     have hch := HV.out.same HMM.out.kw
     obtain ⟨b', o', e, e0, _⟩ := hch.at (k := 4 * m) HX4.out
     cases e
     rw [e0]
     unfold partAt Ref.Jv
     rw [List.head?_take, List.head?_drop, List.getElem?_eq_getElem HX4.out]
     rfl
   obtain ⟨q, hq⟩ : ∃ q, q = Qw l.length (4 * m) := ⟨_, rfl⟩
   obtain ⟨FK, hFK⟩ : ∃ FK, FK = Ref.Jv (partAt l (4 * m)) := ⟨_, rfl⟩
   rw [← hFK] at hkey
   have HFK := hide hFK
   have HQ := hide hq
   have hpv : jbe b o l.length (4 * m) = .slice (some ⟨b, o + 4 * m * 3, none⟩) q q := by rw [hq]; rfl
   have hq1 : (0 : Int) < (q : Int) := by omega
   have hq2 : 0 < q := by omega
   rw [hpv]
   have d4 := cell_of_heap (o := 0) HMM.out.b4
   have g4 := frozen_of_heap (o := 0) HMM.out.b4
   simp at d4
   have d4d : W4.drew.cell? ⟨w.heap.size + 1, 0, none⟩ = some (.slice p3 (Y.length + 4) cp3) := d4
   have hkeyd : W4.drew.cell? ⟨b, o + 4 * m * 3, none⟩ = some (jc FK) := hkey
   have hFK2 : FK.length ≤ 16 := by
     rw [hFK]
     unfold Ref.Jv
     cases hh : (partAt l (4 * m)).head? with
     | none => simp
     | some x =>
       have hx' : x ∈ partAt l (4 * m) := List.mem_of_mem_head? hh
       have hx := (Ref.Jo x).1 (HOK.out x (List.mem_of_mem_drop (List.mem_of_mem_take hx')))
       simp
       omega
   have hM4d := hide (HMM.out.same (ja.drew W4 _))
   have hW5 : w.heap.size + 5 ≤ W4.heap.size := Nat.le_trans hW2 HWW.out.1.size
   have htxt := Ym (.slice p3 (Y.length + 4) cp3) (Y.length + 4) (Y ++ Ref.big X.length 4) FK w.heap.size W4.drew hY1 (by have := ks2.out; omega) (by omega) (by show w.heap.size ≤ W4.heap.size; omega) (by have := hM4d.out.rp; rw [hY1] at this; exact this)
   have HTXT := hide htxt
   clear htxt hq hFK hq0 hW4e
   refine uo (by kernel_rfl) (by kernel_rfl) (fun h => ?_) ?_
   · obtain ⟨_, _, h⟩ := h
     exact h
   refine wpAny_take (i := 1) (v := ?_) rfl (by kernel_rfl) (by kernel_rfl) (by kernel_rfl) (fun _ _ _ h => h) (Or.inl ⟨by rfl, ?_⟩) ?_
   rotate_left
   · intro w
     go_simp
     with_reducible rfl
   refine wpAny_take (i := 2) (v := ?_) rfl (by kernel_rfl) (by kernel_rfl) (by kernel_rfl) (fun _ _ _ h => h) (Or.inl ⟨by rfl, ?_⟩) ?_
   rotate_left
   · intro w
     go_simp
     with_reducible rfl
   refine wpAny_take (i := 3) (v := ?_) rfl (by kernel_rfl) (by kernel_rfl) (by kernel_rfl) (fun _ _ _ h => h) (Or.inl ⟨by rfl, ?_⟩) ?_
   rotate_left
   · intro w
     go_simp
     with_reducible rfl
   refine wpAny_ready (rs := [0, 4]) (by kernel_rfl) (by simp) ?_
   refine AllReady.cons rfl (fun K hK => ?_) (AllReady.cons rfl (fun K hK => ?_) AllReady.nil)
   all_goals
     go_simp
     refine hK _ _ ?_
     clear hK K
   refine wpAny_ready (rs := [4]) (by kernel_rfl) (by simp) ?_
   rotate_left
   refine wpAny_ready (rs := [0]) (by kernel_rfl) (by simp) ?_
   all_goals
     refine AllReady.cons rfl (fun K hK => ?_) AllReady.nil
     go_simp
     refine hK _ _ ?_
     clear hK K
     refine wpAny_ready (rs := [5]) (by kernel_rfl) (by simp) ?_
     refine AllReady.cons rfl (fun K hK => ?_) AllReady.nil
     refine jo rfl 163 [.tmp 17, .tmp 21] _ rfl Xi [.slice p3 (Y.length + 4) cp3, jc FK] (by simp [Act.eval, Act.put]) HTXT.out ?_
     rintro e W5 ⟨p5, cp5, rfl, hr5, hg5⟩
     refine ⟨_, rfl, hK _ _ ?_⟩
     clear hK K
     have hY5 : (Y ++ Ref.big X.length 4 ++ Ref.text FK).length = Y.length + 4 + 1 + FK.length := by rw [List.length_append, hY1]; simp [Ref.text, Ref.jk]; omega
     rw [← hY5] at hr5 hg5
     obtain ⟨hM6, hW6⟩ := hM4d.out.places (by show w.heap.size + 5 ≤ W4.heap.size; omega) hg5 hr5
     have c45 := hg5.keeps.cell d4d (fun e => by have := hM4d.out.np _ e.symm; simp at this)
     have f45 := frozen_of_heap (o := 0) (hg5.keeps.same hM4d.out.b4 (fun e => by have := hM4d.out.np _ e.symm; omega))
     rw [hY5] at hM6 hW6
     have HM6 := hide hM6
     have HW6 := hide (HWW.out.trans ((Mi.same (ja.drew W4 _)).trans hW6))
     clear hM6 hW6
     refine wpAny_ready (rs := [6]) (by kernel_rfl) (by simp) ?_
     refine AllReady.cons rfl (fun K hK => ?_) AllReady.nil
     go_simp
     refine hK _ _ ?_
     clear hK K
     refine wpAny_done (by kernel_rfl) ?_ _
     obtain ⟨W6, hW6e⟩ : ∃ W6, W6 = W5.setCell ⟨w.heap.size + 1, 0, none⟩ (.slice p5 (Y.length + 4 + 1 + FK.length) cp5) := ⟨_, rfl⟩
     rw [← hW6e] at HM6 HW6 ⊢
     clear hW6e
     have hdd := ja.drew W6 (fun _ => False)
     have e3 := cell_of_heap (o := 0) HM6.out.b3
     simp at e3
     have e3d : W6.drew.cell? ⟨w.heap.size, 0, none⟩ = some (.slice pb X.length cb) := e3
     obtain ⟨PT, hPT⟩ : ∃ PT, PT = partAt l (4 * m) := ⟨_, rfl⟩
     have hPTl : PT.length = q := by rw [hPT, ik, HQ.out]
     have hPTs : ∀ c ∈ PT, Ref.allowed c = true := fun c hc => HOK.out c (by rw [hPT] at hc; exact List.mem_of_mem_drop (List.mem_of_mem_take hc))
     have hPTs2 : ∀ c ∈ PT, c.key.length < 1048576 ∧ c.value.length < 1048576 := fun c hc => by have := (Ref.Jo c).1 (hPTs c hc); omega
     obtain ⟨B1, hB1⟩ : ∃ B1, B1 = Ref.big PT.length 1 ++ PT.flatMap Ref.entry := ⟨_, rfl⟩
     have hB1l : B1.length = 0 + 1 + (PT.flatMap Ref.entry).length := by rw [hB1, List.length_append, Ref.jk]
     have hB1s : B1.length < 1000 := by have := Ref.Zd hPTs; have h4 : PT.length ≤ 4 := by rw [hPTl, HQ.out]; unfold Qw; omega
                                        omega
     have hent : ∀ V, ja W6 V (fun _ => False) → Calls Tryz.prog 106 #[.slice none 0 0, .slice (some ⟨b, o + 4 * m * 3, none⟩) q q] V fun e w' => ∃ p c, e = .returned (.slice p B1.length c) ∧ w'.ownsRow V.heap.size 5 1 (.slice p B1.length c) B1.length (B1.map qg) ∧ ja V w' (fun _ => False) := fun V k => by
       have hch : Chs V (.slice (some ⟨b, o + 4 * m * 3, none⟩) q q) PT := by
         have := (HV.out.same (HM6.out.kw.trans k (fun _ _ h => h))).part (4 * m)
         rw [hpv, ← hPT] at this
         exact this
       refine (gp (.slice none 0 0) _ 0 [] PT V.heap.size V rfl (by decide) (by rw [hPTl, HQ.out]; unfold Qw; omega) hPTs2 (Nat.le_refl _) (World.ownsRow_nil _ _ _ _) hch (fun _ p n c e h => by cases h)).mono ?_
       rintro e w' ⟨p, cp, rfl, hr, hg⟩
       rw [← hB1l, List.nil_append, ← hB1] at hr
       rw [← hB1l]
       exact ⟨p, cp, rfl, hr, hg.new rfl⟩
     have HENT := hide hent
     have HB1 := hide hB1
     have HPT := hide hPT
     have HB1S := hide hB1s
     clear hent hB1 hPT hB1l hB1s hPTl hPTs hPTs2
     gi_wp2
     refine uo (by kernel_rfl) (by kernel_rfl) (fun h => ?_) ?_
     · obtain ⟨_, _, h⟩ := h
       exact h
     refine wpAny_take (i := 1) (v := ?_) rfl (by kernel_rfl) (by kernel_rfl) (by kernel_rfl) (fun _ _ _ h => h) (Or.inl ⟨by rfl, ?_⟩) ?_
     rotate_left
     · intro w
       go_simp
       with_reducible rfl
     refine wpAny_ready (rs := [0, 2]) (by kernel_rfl) (by simp) ?_
     refine AllReady.cons rfl (fun K hK => ?_) (AllReady.cons rfl (fun K hK => ?_) AllReady.nil)
     rotate_left
     refine jo rfl 106 [.const (.slice none 0 0), .tmp 24] _ rfl Zo [.slice none 0 0, .slice (some ⟨b, o + 4 * m * 3, none⟩) q q] (by simp [Act.eval, Act.put]) (HENT.out _ hdd) ?_
     rintro e W7 ⟨p7, cp7, rfl, hr7, k7⟩
     refine ⟨_, rfl, hK _ _ ?_⟩
     clear hK K
     have kc7 := hdd.trans k7 (fun _ _ h => h)
     have e37 := k7.cell e3d id
     refine wpAny_ready (rs := [0, 3]) (by kernel_rfl) (by simp) ?_
     refine AllReady.cons rfl (fun K hK => ?_) (AllReady.cons rfl (fun K hK => ?_) AllReady.nil)
     rotate_right
     go_simp
     refine hK _ _ ?_
     clear hK K
     refine wpAny_ready (rs := [2]) (by kernel_rfl) (by simp) ?_
     refine AllReady.cons rfl (fun K hK => ?_) AllReady.nil
     refine jo rfl 106 [.const (.slice none 0 0), .tmp 24] _ rfl Zo [.slice none 0 0, .slice (some ⟨b, o + 4 * m * 3, none⟩) q q] (by simp [Act.eval, Act.put]) (HENT.out _ hdd) ?_
     rintro e W7 ⟨p7, cp7, rfl, hr7, k7⟩
     refine ⟨_, rfl, hK _ _ ?_⟩
     clear hK K
     have kc7 := hdd.trans k7 (fun _ _ h => h)
     have e37 := k7.cell e3d id
     refine wpAny_ready (rs := [3]) (by kernel_rfl) (by simp) ?_
     refine AllReady.cons rfl (fun K hK => ?_) AllReady.nil
     refine jo rfl 105 [.tmp 25] _ rfl Xu [.slice p7 B1.length cp7] (by simp [Act.eval, Act.put]) (mr _ B1 W7 (bytes_of_row hr7) (by have := HB1S.out; omega)) ?_
     rintro e W8 ⟨p8, cp8, rfl, hr8, k8⟩
     refine ⟨_, rfl, hK _ _ ?_⟩
     clear hK K
     have kc8 := kc7.trans k8 (fun _ _ h => h)
     have e38 := k8.cell e37 id
     rotate_left
     go_simp
     refine hK _ _ ?_
     clear hK K
     refine wpAny_ready (rs := [3]) (by kernel_rfl) (by simp) ?_
     refine AllReady.cons rfl (fun K hK => ?_) AllReady.nil
     refine jo rfl 105 [.tmp 25] _ rfl Xu [.slice p7 B1.length cp7] (by simp [Act.eval, Act.put]) (mr _ B1 W7 (bytes_of_row hr7) (by have := HB1S.out; omega)) ?_
     rintro e W8 ⟨p8, cp8, rfl, hr8, k8⟩
     refine ⟨_, rfl, hK _ _ ?_⟩
     clear hK K
     have kc8 := kc7.trans k8 (fun _ _ h => h)
     have e38 := k8.cell e37 id
     rotate_left
     refine jo rfl 105 [.tmp 25] _ rfl Xu [.slice p7 B1.length cp7] (by simp [Act.eval, Act.put]) (mr _ B1 W7 (bytes_of_row hr7) (by have := HB1S.out; omega)) ?_
     rintro e W8 ⟨p8, cp8, rfl, hr8, k8⟩
     refine ⟨_, rfl, hK _ _ ?_⟩
     clear hK K
     have kc8 := kc7.trans k8 (fun _ _ h => h)
     have e38 := k8.cell e37 id
     refine wpAny_ready (rs := [0]) (by kernel_rfl) (by simp) ?_
     refine AllReady.cons rfl (fun K hK => ?_) AllReady.nil
     go_simp
     refine hK _ _ ?_
     clear hK K
     all_goals
       have hM8 := HM6.out.same kc8
       have hX9 : (X ++ Ref.frame B1).length = X.length + (8 + B1.length) := by rw [List.length_append]; simp [Ref.frame, Ref.jk]; omega
       have hfl : (Ref.frame B1).length = 8 + B1.length := by simp [Ref.frame, Ref.jk]; omega
       have hr8' : W8.ownsRow W7.heap.size 5 1 (.slice p8 (Ref.frame B1).length cp8) (Ref.frame B1).length ((Ref.frame B1).map qg) := by rw [hfl]; exact hr8
       have hsrc := (bytes_of_row hr8').src
       rw [hfl] at hsrc
       have HSRC := hide hsrc
       have HM8 := hide hM8
       have h63 : Hid (X.length + (8 + B1.length) ≤ maxLen) := (show X.length + (8 + B1.length) ≤ maxLen from by have := ks.out; have := HB1S.out; unfold maxLen; omega)
       have hbs : Hid ((X.length + (8 + B1.length)) * 1 ≤ 140737488355328) := (show (X.length + (8 + B1.length)) * 1 ≤ 140737488355328 from by have := ks.out; have := HB1S.out; omega)
       have hbase : w.heap.size ≤ W8.heap.size := by have := kc8.size; have := HW6.out.1.size; omega
       clear hsrc hr8' hM8
       refine wpAny_ready (rs := [4]) (by kernel_rfl) (by simp) ?_
       refine AllReady.cons rfl (fun K hK => ?_) AllReady.nil
       refine Xq rfl (.tmp 23) (.tmp 26) 84 84 rfl w.heap.size 5 j0 (.int .u8 0) 1 1 Tryz.underlying84 hj hy0 hy1 hy2 rfl Nat.zero_lt_one (.slice pb X.length cb) X.length (X.map qg) (by simp [Act.eval, Act.put]) HM8.out.rb (.slice p8 (8 + B1.length) cp8) (8 + B1.length) ((Ref.frame B1).map qg) (by simp [Act.eval, Act.put]) HSRC.out h63.out hbs.out hbase ?_
       intro p9 cp9 W9 hr9 hg9 hl9
       refine hK _ _ ?_
       clear hK K
       have hgr9 : Grown W8 (.slice pb X.length cb) W9 (.slice p9 (X.length + (8 + B1.length)) cp9) := Grown.grown hg9 hl9
       have c39 := hgr9.keeps.cell e38 (fun e => by have h' : w.heap.size + 5 ≤ w.heap.size := HM8.out.nb _ e.symm; omega)
       have f39 := frozen_of_heap (o := 0) (hgr9.keeps.same HM8.out.b3 (fun e => by have := HM8.out.nb _ e.symm; omega))
       rw [← List.map_append] at hr9
       obtain ⟨hM9, hW9⟩ := HM8.out.blocks (X' := X ++ Ref.frame B1) (by have := kc8.size; have := HW6.out.1.size; omega) hgr9 (by rw [hX9]; exact hr9)
       have HM9 := hide hM9
       have HW9 := hide (HW6.out.trans ((Mi.same kc8).trans hW9))
       clear hM9 hW9 hr9
       refine wpAny_ready (rs := [5]) (by kernel_rfl) (by simp) ?_
       refine AllReady.cons rfl (fun K hK => ?_) AllReady.nil
       go_simp
       refine hK _ _ ?_
       clear hK K
       refine wpAny_done (by kernel_rfl) ?_ _
       obtain ⟨WA, hWA⟩ : ∃ WA, WA = W9.setCell ⟨w.heap.size, 0, none⟩ (.slice p9 (X.length + (8 + B1.length)) cp9) := ⟨_, rfl⟩
       rw [← hWA] at HM9 HW9 ⊢
       clear hWA
       have a5 := cell_of_heap (o := 0) HM9.out.b5
       have g5 := frozen_of_heap (o := 0) HM9.out.b5
       simp at a5
       have a5' : WA.cell? ⟨w.heap.size + 1 + 1, 0, none⟩ = some (.int .u64 m) := a5
       have g5' : WA.frozen? ⟨w.heap.size + 1 + 1, 0, none⟩ = false := g5
       have hmw : IntKind.u64.wrap ((m : Int) + 1) = ((m + 1 : Nat) : Int) := by rw [wrap_u64 (by omega) (by omega)]; omega
       obtain ⟨hMB, hWB⟩ := HM9.out.counted (N := m + 1)
       have HMB := hide hMB
       have HWB := hide (HW9.out.trans hWB)
       clear hMB hWB
       gi_wp2
       have ec : ((m + 1 : Nat) : Int) = (m : Int) + 1 := by omega
       rw [ec] at HMB HWB
       have e1 : X ++ Ref.frame B1 = Ref.zq l (m + 1) := by rw [Ref.Cr l m HX4.out, HXX.out, HB1.out, HPT.out]; rfl
       have e2 : Y ++ Ref.big X.length 4 ++ Ref.text FK = Ref.Jr l (m + 1) := by rw [Ref.Bz l m HX4.out, HXX.out, HYY.out, HFK.out]; rfl
       rw [e1, e2] at HMB
       refine ⟨V6 w.heap.size _ _, fun i hi => ?_, fun i hi => ?_, HWB.out.1.mono (fun i _ h => (HC.out i).2 h), m + 1, _, _, List.range_succ.symm, (show 4 * (m + 1) < l.length + 4 from by have := HX4.out; omega), HMB.out, fun _ => Iff.rfl⟩
       · rcases HWB.out.2 i hi with h | h
         · exact .inl ((HC.out i).2 h)
         · have := k2.size
           exact .inr (by omega)
       · rcases hi with h | h | h | h | h
         · rw [h]; exact lt_of_heap HMB.out.b3
         · rw [h]; exact lt_of_heap HMB.out.b4
         · rw [h]; exact lt_of_heap HMB.out.b5
         · exact (HMB.out.rb.lt i h).2
         · exact (HMB.out.rp.lt i h).2
 case done =>
   rintro D lp C xs W2 W hD hlp hneq hnd hnl hfin hk ⟨m, vb, vp, e, h4, hM, hC⟩ hK
   have hm : m = (l.length + 3) / 4 := by
     have hf : xs = List.range ((l.length + 3) / 4) := hfin
     rw [hf] at e
     have := congrArg List.length e
     simpa using this.symm
   clear e hfin
   have hbX := Ref.Xx HOK.out m
   have hbY := Ref.Xt HOK.out m h4.out
   have hm5 : m < 20000 := by omega
   have hfin : Ref.ql l = (Ref.zq l m ++ Ref.frame (Ref.big m 2 ++ Ref.Jr l m)) ++ Ref.big (Ref.zq l m).length 4 := by rw [Ref.Aa l, hm]
   have ks : Hid ((Ref.zq l m).length < 4900000 ∧ (Ref.Jr l m).length < 420000) := (show _ ∧ _ from ⟨by omega, by omega⟩)
   have hDF : ¬ V6 w.heap.size vb vp D := fun h => hnd ((hC D).2 h)
   have HDF := hide hDF
   have HC := hide hC
   obtain ⟨X, hX⟩ : ∃ X, X = Ref.zq l m := ⟨_, rfl⟩
   obtain ⟨Y, hY⟩ : ∃ Y, Y = Ref.Jr l m := ⟨_, rfl⟩
   rw [← hX, ← hY] at hM ks hfin
   have HFIN := hide hfin
   have HM := hide hM
   have HKD := hide hK
   clear hbX hbY hm hX hY hC hDF hfin hM hK hk h4
   obtain ⟨pb, cb, rfl⟩ := jh HM.out.rb
   obtain ⟨pp, cpp, rfl⟩ := jh HM.out.rp
   obtain ⟨F1, hF1⟩ : ∃ F1, F1 = Ref.big m 2 ++ Y := ⟨_, rfl⟩
   have hF1l : F1.length = 2 + Y.length := by rw [hF1, List.length_append, Ref.jk]
   have HF1 := hide hF1
   have HF1L := hide hF1l
   clear hF1 hF1l
   have c3 := cell_of_heap (o := 0) HM.out.b3
   have c4 := cell_of_heap (o := 0) HM.out.b4
   have c5 := cell_of_heap (o := 0) HM.out.b5
   simp at c3 c4 c5
   have c5 : W.drew.cell? ⟨w.heap.size + 1 + 1, 0, none⟩ = some (.int .u64 m) := c5
   have c4 : W.drew.cell? ⟨w.heap.size + 1, 0, none⟩ = some (.slice pp Y.length cpp) := c4
   have kc : ja W W.drew (fun _ => False) := ja.drew W _
   have hWs : w.heap.size + 5 ≤ W.heap.size := by have := lt_of_heap HKD.out; omega
   have hnum : ∀ V, ja W V (fun _ => False) → Calls Tryz.prog 107 #[.slice none 0 0, .int .u64 m, .int .i64 2] V fun e w' => ∃ p c, e = .returned (.slice p 2 c) ∧ w'.ownsRow W.heap.size 5 1 (.slice p 2 c) 2 ((Ref.big m 2).map qg) ∧ ja V w' (fun _ => False) := fun V k => by
     refine (zw (.slice none 0 0) 0 [] m 2 W.heap.size V rfl (by omega) (by decide) (by decide) k.size (World.ownsRow_nil _ _ _ _)).mono ?_
     rintro e w' ⟨p, cp, rfl, hr, hg⟩
     exact ⟨p, cp, rfl, hr, hg.new rfl⟩
   have HNUM := hide hnum
   have h63 : Hid (2 + Y.length ≤ maxLen) := (show 2 + Y.length ≤ maxLen from by have := ks.out; unfold maxLen; omega)
   have hbs : Hid ((2 + Y.length) * 1 ≤ 140737488355328) := (show (2 + Y.length) * 1 ≤ 140737488355328 from by have := ks.out; omega)
   have hmk : Hid (F1.length < 1099511627776) := (show F1.length < 1099511627776 from by have := ks.out; have := HF1L.out; omega)
   clear hnum
   gi_wp2
   refine wpIn_wide.2 ?_
   refine wp_region_any (by kernel_rfl) ?_
   change wpAny _ _ _ _ _ _ _ (World.drew _)
   refine wpAny_ready (rs := [0, 2]) (by kernel_rfl) (by simp) ?_
   refine AllReady.cons rfl (fun K hK => ?_) (AllReady.cons rfl (fun K hK => ?_) AllReady.nil)
   go_simp
   refine hK _ _ ?_
   clear hK K
   refine wpAny_ready (rs := [1, 2]) (by kernel_rfl) (by simp) ?_
   refine AllReady.cons rfl (fun K hK => ?_) (AllReady.cons rfl (fun K hK => ?_) AllReady.nil)
   refine jo rfl 107 [.const (.slice none 0 0), .tmp 30, .const (.int .i64 2)] _ rfl X6 [.slice none 0 0, .int .u64 m, .int .i64 2] (by simp [Act.eval, Act.put]) (HNUM.out _ kc) ?_
   rintro e V1 ⟨p1, c1, rfl, hr1, k1⟩
   have c4v := k1.cell c4 id
   have kcv := kc.trans k1 (fun _ _ h => h)
   refine ⟨_, rfl, hK _ _ ?_⟩
   clear hK K
   refine wpAny_ready (rs := [2]) (by kernel_rfl) (by simp) ?_
   refine AllReady.cons rfl (fun K hK => ?_) AllReady.nil
   go_simp
   refine hK _ _ ?_
   clear hK K
   rotate_left
   go_simp
   refine hK _ _ ?_
   clear hK K
   refine wpAny_ready (rs := [1]) (by kernel_rfl) (by simp) ?_
   refine AllReady.cons rfl (fun K hK => ?_) AllReady.nil
   refine jo rfl 107 [.const (.slice none 0 0), .tmp 30, .const (.int .i64 2)] _ rfl X6 [.slice none 0 0, .int .u64 m, .int .i64 2] (by simp [Act.eval, Act.put]) (HNUM.out _ kc) ?_
   rintro e V1 ⟨p1, c1, rfl, hr1, k1⟩
   have c4v := k1.cell c4 id
   have kcv := kc.trans k1 (fun _ _ h => h)
   refine ⟨_, rfl, hK _ _ ?_⟩
   clear hK K
   rotate_left
   go_simp
   refine hK _ _ ?_
   clear hK K
   refine wpAny_ready (rs := [0]) (by kernel_rfl) (by simp) ?_
   refine AllReady.cons rfl (fun K hK => ?_) AllReady.nil
   go_simp
   refine hK _ _ ?_
   clear hK K
   refine wpAny_ready (rs := [1]) (by kernel_rfl) (by simp) ?_
   refine AllReady.cons rfl (fun K hK => ?_) AllReady.nil
   refine jo rfl 107 [.const (.slice none 0 0), .tmp 30, .const (.int .i64 2)] _ rfl X6 [.slice none 0 0, .int .u64 m, .int .i64 2] (by simp [Act.eval, Act.put]) (HNUM.out _ kc) ?_
   rintro e V1 ⟨p1, c1, rfl, hr1, k1⟩
   have c4v := k1.cell c4 id
   have kcv := kc.trans k1 (fun _ _ h => h)
   refine ⟨_, rfl, hK _ _ ?_⟩
   clear hK K
   all_goals
     refine wpAny_ready (rs := [3]) (by kernel_rfl) (by simp) ?_
     refine AllReady.cons rfl (fun K hK => ?_) AllReady.nil
     refine Xq rfl (.tmp 31) (.tmp 32) 84 84 rfl W.heap.size 5 j0 (.int .u8 0) 1 1 Tryz.underlying84 hj hy0 hy1 hy2 rfl Nat.zero_lt_one (.slice p1 2 c1) 2 ((Ref.big m 2).map qg) (by simp [Act.eval, Act.put]) hr1 (.slice pp Y.length cpp) Y.length (Y.map qg) (by simp [Act.eval, Act.put]) ((bytes_of_row (HM.out.same kcv).rp).src) h63.out hbs.out kcv.size ?_
     intro p2 cp2 V2 hr2 hg2 hl2
     have kc2 := kcv.grow hg2 (fun j e hj => by have := (hr1.lt j e).1; omega)
     rw [← List.map_append, ← HF1.out, ← HF1L.out] at hr2
     refine hK _ _ ?_
     clear hK K
     refine wpAny_ready (rs := [4]) (by kernel_rfl) (by simp) ?_
     refine AllReady.cons rfl (fun K hK => ?_) AllReady.nil
     refine jo rfl 105 [.tmp 33] _ rfl Xu [.slice p2 (2 + Y.length) cp2] (by simp [Act.eval, Act.put]) (mr (.slice p2 (2 + Y.length) cp2) F1 V2 (by rw [← HF1L.out]; exact bytes_of_row hr2) hmk.out) ?_
     rintro e V3 ⟨p3, cp3, rfl, hr3, k3⟩
     have kc3 := kc2.trans k3 (fun _ _ h => h)
     refine ⟨_, rfl, hK _ _ ?_⟩
     clear hK K
     refine wpAny_ready (rs := [5]) (by kernel_rfl) (by simp) ?_
     refine AllReady.cons rfl (fun K hK => ?_) AllReady.nil
     go_simp
     refine hK _ _ ?_
     clear hK K
     refine wpAny_done (by kernel_rfl) ?_ _
     have hM3 := HM.out.same kc3
     have c33 := cell_of_heap (o := 0) hM3.b3
     simp at c33
     have hfl : (Ref.frame F1).length = 8 + F1.length := by simp [Ref.frame, Ref.jk]; omega
     have hr3' : V3.ownsRow V2.heap.size 5 1 (.slice p3 (Ref.frame F1).length cp3) (Ref.frame F1).length ((Ref.frame F1).map qg) := by rw [hfl]; exact hr3
     have hsrc := (bytes_of_row hr3').src
     rw [hfl] at hsrc
     have HSRC := hide hsrc
     have HM3 := hide hM3
     have h63b : Hid (X.length + (8 + F1.length) ≤ maxLen) := (show X.length + (8 + F1.length) ≤ maxLen from by have := ks.out; have := HF1L.out; unfold maxLen; omega)
     have hbsb : Hid ((X.length + (8 + F1.length)) * 1 ≤ 140737488355328) := (show (X.length + (8 + F1.length)) * 1 ≤ 140737488355328 from by have := ks.out; have := HF1L.out; omega)
     have hbase : w.heap.size ≤ V3.heap.size := by have := kc3.size; omega
     have hXw : IntKind.u64.wrap (X.length : Int) = (X.length : Int) := wrap_u64 (by omega) (by have := ks.out; omega)
     have hr3d : ∀ g, (Value.slice pb X.length cb).ownBlock = some g → ¬ g = D := fun g hg e => HDF.out (.inr (.inr (.inr (.inl (e ▸ hg)))))
     have HD3 := hide (kc3.same HKD.out id)
     have HR3D := hide hr3d
     clear hsrc hr3' hM3 hr3d hr3 hr2 hr1
     gi_wp2_with (gi_at_builtin; refine Bl _ rfl (.tmp 38) (.tmp 39) 84 84 rfl w.heap.size 5 j0 (.int .u8 0) 1 1 Tryz.underlying84 hj hy0 hy1 hy2 rfl Nat.zero_lt_one (.slice pb X.length cb) X.length (X.map qg) rfl HM3.out.rb (.slice p3 (8 + F1.length) cp3) (8 + F1.length) ((Ref.frame F1).map qg) rfl HSRC.out h63b.out hbsb.out hbase ?_; intro p4 cp4 V4 hr4 hg4 hl4)
     have hlen4 : (X ++ Ref.frame F1).length = X.length + (8 + F1.length) := by rw [List.length_append, hfl]
     have hs4 := (ja.grown hg4).size
     rw [← List.map_append] at hr4
     have hnumb := zw (.slice p4 (X.length + (8 + F1.length)) cp4) (X.length + (8 + F1.length)) (X ++ Ref.frame F1) X.length 4 w.heap.size V4 hlen4 (by have := ks.out; omega) (by decide) (by have := ks.out; have := HF1L.out; omega) (by omega) hr4
     have HNB := hide hnumb
     have HKV4 := hide ((ja.grown hg4).same HD3.out (fun e => HR3D.out D e.symm rfl))
     have hg44 : ja w V4 (fun _ => False) := HM3.out.kw.trans (ja.grown hg4) (fun i hi e => by have := HM3.out.nb i e.symm; omega)
     have hp4 : ∀ g, (Value.slice p4 (X.length + (8 + F1.length)) cp4).ownBlock = some g → w.heap.size ≤ g ∧ ¬ g = D := fun g hg => by
       rcases hl4 with h | h
       · rw [h] at hg
         exact ⟨by have := HM3.out.nb g hg; omega, HR3D.out g hg⟩
       · rw [h] at hg
         cases hg
         have := lt_of_heap HD3.out
         exact ⟨by omega, by omega⟩
     have HP4 := hide hp4
     clear hnumb hp4 hr4
     refine ⟨trivial, (callsIn_wide.2 HNB.out).mono ?_⟩
     rintro e V5 ⟨p5, cp5, rfl, hr5, hg5⟩
     have HR5 := hide hr5
     have HKV5 := hide (hg5.keeps.same HKV4.out (fun e => (HP4.out D e.symm).2 rfl))
     have k5 : ja w V5 (fun _ => False) := hg44.trans hg5.keeps (fun i hi e => by have := (HP4.out i e.symm).1; omega)
     have k5' : ja V5 (V5.putObj D (.deferred none)) (fun i => i = D) := ja.putObj V5 D _
     have hp5 : ∀ g, (Value.slice p5 (X.length + (8 + F1.length) + 4) cp5).ownBlock = some g → ¬ g = D := fun g hg => by
       rcases hg5.1 with h | ⟨g', h, hg'⟩
       · rw [h] at hg
         exact (HP4.out g hg).2
       · rw [h] at hg
         cases hg
         have := lt_of_heap HKV4.out
         omega
     have hrl : (Ref.ql l).length = X.length + (8 + F1.length) + 4 := by rw [HFIN.out, ← HF1.out, List.length_append, hlen4, Ref.jk]
     have hfinal : ∃ p c', Ending.returned (Value.slice p5 (X.length + (8 + F1.length) + 4) cp5) = .returned (.slice p (Ref.ql l).length c') ∧ (V5.putObj D (.deferred none)).ownsRow w.heap.size 5 1 (.slice p (Ref.ql l).length c') (Ref.ql l).length ((Ref.ql l).map qg) ∧ ja w (V5.putObj D (.deferred none)) (fun _ => False) := by
       refine ⟨p5, cp5, by rw [hrl], ?_, k5.trans k5' (fun i hi e => by have e' : i = D := e; omega)⟩
       rw [hrl, HFIN.out, ← HF1.out]
       exact k5'.row HR5.out hp5
     have HFINAL := hide hfinal
     clear hfinal hp5 hr5 hrl
     gi_wp2
     refine ⟨by simp, .inl ⟨_, _, rfl, run_takeDeferred HKV5.out, ?_⟩⟩
     exact ⟨.slice p5 (X.length + (8 + F1.length) + 4) cp5, (by simp [results, Tryz.results116, go_sem]), HFINAL.out⟩
 case stop =>
   rintro D lp C c pre W2 W _ _ _ _ _ _ _ h
   exact h.elim
end Go.Proofs.YtnipbplghijdmaaGreatDoor
namespace Go.Proofs.YtnipbplghijdmaaGreatDoor
open Go.RowKit Go.Maps Go.WideShapes
set_option linter.unusedVariables false
def DW (E : Nat → Addr) (B : Nat) (w : World) (ρ : Nat → jw) (d : Nat) (V : List (Str × List UInt8)) (k : Nat) : Prop := ∃ S, Dk E B w ρ d S ∧ J6 S ∧ View S V ∧ Fit k S
theorem DW.perm {E : Nat → Addr} {B : Nat} {w : World} {ρ : Nat → jw} {d k : Nat} {V U : List (Str × List UInt8)} (h : DW E B w ρ d V k) (p : U.Perm V) : DW E B w ρ d U k := by
 obtain ⟨S, h1, h2, h3, h4⟩ := h
 exact ⟨S, h1, h2, h3.perm p, h4⟩
theorem DW.mono {E : Nat → Addr} {B : Nat} {w : World} {ρ : Nat → jw} {d k m : Nat} {V : List (Str × List UInt8)} (h : DW E B w ρ d V k) (hm : k ≤ m) : DW E B w ρ d V m := by
 obtain ⟨S, h1, h2, h3, h4⟩ := h
 exact ⟨S, h1, h2, h3, h4.mono hm⟩
theorem DW.apart {E : Nat → Addr} {B : Nat} {w : World} {ρ : Nat → jw} {d k : Nat} {V : List (Str × List UInt8)} (h : DW E B w ρ d V k) : V.Pairwise (fun p q => p.1 ≠ q.1) := by
 obtain ⟨S, h1, h2, h3, h4⟩ := h
 exact h3.apart
theorem DW.same {E : Nat → Addr} {B : Nat} {w w' : World} {ρ : Nat → jw} {d k : Nat} {V : List (Str × List UInt8)} (h : DW E B w ρ d V k) (kk : ja w w' (fun _ => False)) : DW E B w' ρ d V k := by
 obtain ⟨S, h1, h2, h3, h4⟩ := h
 exact ⟨S, h1.same kk, h2, h3, h4⟩
theorem DW.yt {E : Nat → Addr} {B : Nat} {w : World} {ρ : Nat → jw} {d k : Nat} {V : List (Str × List UInt8)} (h : DW E B w ρ d V k) : ∀ i, ρ i ≠ .none → B ≤ i ∧ i < w.heap.size := by
 obtain ⟨S, h1, h2, h3, h4⟩ := h
 exact fun i hi => ⟨h1.yt i hi, h1.rep.lt i hi⟩
theorem DW.size {E : Nat → Addr} {B : Nat} {w : World} {ρ : Nat → jw} {d k : Nat} {V : List (Str × List UInt8)} (h : DW E B w ρ d V k) : B ≤ w.heap.size := by
 obtain ⟨S, h1, h2, h3, h4⟩ := h
 exact h1.size
theorem DW.keep {E : Nat → Addr} {B : Nat} {w w' : World} {ρ : Nat → jw} {d k : Nat} {V : List (Str × List UInt8)} {T : Nat → Prop} (h : DW E B w ρ d V k) (kk : ja w w' T) (hT : ∀ i, i < w.heap.size → T i → ρ i = .none ∧ B ≤ i) : DW E B w' ρ d V k := by
 obtain ⟨S, h1, h2, h3, h4⟩ := h
 have kk' : ja w w' (fun i => i < w.heap.size ∧ T i) := kk.mono (fun i hi h => ⟨hi, h⟩)
 exact ⟨S, ⟨h1.rep.keep kk' (fun i h _ => (hT i h.1 h.2).1), h1.sent.keep kk' (fun i h => (hT i h.1 h.2).2), h1.yt, Nat.le_trans h1.size kk.size⟩, h2, h3, h4⟩
def Zp (E : Nat → Addr) (B : Nat) (w : World) (ρ : Nat → jw) (d : Nat) (V : List (Str × List UInt8)) (k : Nat) (e : Ending) (w' : World) : Prop := e = .returned .nilIface ∧ ∃ ρ', yf w ρ w' ρ' ∧ DW E B w' ρ' d V k
theorem Zp.of {E : Nat → Addr} {B : Nat} {w : World} {ρ : Nat → jw} {d k : Nat} {V : List (Str × List UInt8)} {F : je × Bool} {e : Ending} {w' : World} (h : gq E B w ρ d F e w') (h1 : F.2 = true) (h2 : J6 F.1) (h3 : View F.1 V) (h4 : Fit k F.1) : Zp E B w ρ d V k e w' := by
 obtain ⟨ρ', g, D', ⟨_, r⟩ | ⟨r, _⟩⟩ := h
 · exact ⟨r, ρ', g, F.1, D', h2, h3, h4⟩
 · rw [h1] at r; cases r
theorem Uy {E : Nat → Addr} {B : Nat} {w : World} {ρ : Nat → jw} {d k : Nat} {V : List (Str × List UInt8)} (D : DW E B w ρ d V k) (nm : Str) (hn : nm ≠ []) (v : Value) (b : List UInt8) (hv : Bytes w v b) (hoff : Off ρ v)
   (hk : k + 1 + nm.length + b.length < 549755813888) (hs : b.length + qm (without V nm) ≤ 20000) :
   Calls Tryz.prog 114 #[.pointer (some ⟨d, 0, none⟩), jc nm, v] w (Zp E B w ρ d (yu V nm b) (k + 1 + nm.length + b.length)) := by
 obtain ⟨S, h1, h2, h3, h4⟩ := D
 refine (jf3 h1 h4 nm hn v b hv hoff hk).mono ?_
 rintro e w' ⟨S', ok, r, h⟩
 obtain ⟨rfl, a, b⟩ := h2.lay hn h3 hs r
 exact Zp.of h rfl a b (h4.jhw hn r)
theorem jgs {E : Nat → Addr} {B : Nat} {w : World} {ρ : Nat → jw} {d k : Nat} {V : List (Str × List UInt8)} (D : DW E B w ρ d V k) (nm : Str) (hn : nm.length < 1099511627776) {b : List UInt8} (hb : (nm, b) ∈ V) :
   Calls Tryz.prog 159 #[.pointer (some ⟨d, 0, none⟩), jc nm] w (Zp E B w ρ d V k) := by
 obtain ⟨S, h1, h2, h3, h4⟩ := D
 refine (Ar h1 nm hn).mono ?_
 intro e w' h
 obtain ⟨a, b, c⟩ := h2.sync h3 hb
 exact Zp.of h a b c (h4.Qq nm)
theorem Lb {E : Nat → Addr} {B : Nat} {w : World} {ρ : Nat → jw} {d k : Nat} {V : List (Str × List UInt8)} (D : DW E B w ρ d V k) (hk : k < 549755813888) (v : Value) (ns : List Str) (base : Nat) (hv : w.ownsRow base 9 1 v ns.length (ns.map encStr)) (hρ : ∀ g, v.ownBlock = some g → ρ g = .none)
   (hn : ∀ n ∈ ns, n.length < 1099511627776) (hl : ns.length < 1099511627776) (hm : ∀ n ∈ ns, ∃ b, (n, b) ∈ V) :
   Calls Tryz.prog 164 #[.pointer (some ⟨d, 0, none⟩), v] w (Zp E B w ρ d V k) := by
 obtain ⟨S, h1, h2, h3, h4⟩ := D
 refine (Ro h1 v ns base hv hρ hn hl (by have := h4.safe; omega)).mono ?_
 intro e w' h
 obtain ⟨a, b, c, _⟩ := h2.sure h3 ns hm
 exact Zp.of h a b c (h4.X8 ns)
theorem jds {E : Nat → Addr} {B : Nat} {w : World} {ρ : Nat → jw} {d k : Nat} {V : List (Str × List UInt8)} (D : DW E B w ρ d V k) (hk : k < 549755813888) (sr ds : Str) (hsr : sr.length < 1099511627776) (hdl : ds.length < 1099511627776) (hds : ds ≠ []) (hne : ds ≠ sr) {b : List UInt8} (hm : (sr, b) ∈ V) :
   Calls Tryz.prog 167 #[.pointer (some ⟨d, 0, none⟩), jc sr, jc ds] w (Zp E B w ρ d (yu (without V sr) ds b) (k + 1 + ds.length)) := by
 obtain ⟨S, h1, h2, h3, h4⟩ := D
 refine (Ho h1 (h4.small hk) sr ds hsr hdl (by have := h4.safe; omega)).mono ?_
 intro e w' h
 obtain ⟨a, b, c, _⟩ := h2.rename hds hne h3 hm
 exact Zp.of h a b c (h4.Qe hne).Q5
theorem DW.count {E : Nat → Addr} {B : Nat} {w : World} {ρ : Nat → jw} {d k : Nat} {V : List (Str × List UInt8)} {S : je} (h : View S V) : S.keys.length = V.length := by
 have := h.keys.length_eq
 rwa [List.length_map] at this
theorem Kj {E : Nat → Addr} {B : Nat} {w : World} {ρ : Nat → jw} {d k : Nat} {V : List (Str × List UInt8)} (D : DW E B w ρ d V k) (hk : k < 549755813888) (v : Value) (ns : List Str) (base : Nat) (hv : w.ownsRow base 9 1 v ns.length (ns.map encStr)) (hρ : ∀ g, v.ownBlock = some g → ρ g = .none)
   (hn : ∀ n ∈ ns, n.length < 1099511627776) (hl : ns.length < 549755813888) (hd : ns.Nodup) (hm : ∀ n ∈ ns, ∃ b, (n, b) ∈ V) :
   Calls Tryz.prog 118 #[.pointer (some ⟨d, 0, none⟩), v] w (Zp E B w ρ d (V.filter (fun p => decide (p.1 ∉ ns))) (k + ns.length)) := by
 obtain ⟨S, h1, h2, h3, h4⟩ := D
 refine (u6 h1 (h4.small hk) v ns base hv hρ hn (by omega) (by have := h4.safe; omega)).mono ?_
 intro e w' h
 obtain ⟨a, b, c, _⟩ := h2.removeAll h3 ns hd hm
 exact Zp.of h a b c (h4.zh ns)
theorem Af {E : Nat → Addr} {B : Nat} {w : World} {ρ : Nat → jw} {d k : Nat} {V : List (Str × List UInt8)} (D : DW E B w ρ d V k) (hk : k < 549755813888) (v : Value) (ks : List Str) (base : Nat) (hv : w.ownsRow base 9 1 v ks.length (ks.map encStr)) (hρ : ∀ g, v.ownBlock = some g → ρ g = .none)
   (hl : ks.length < 1099511627776) :
   Calls Tryz.prog 177 #[.pointer (some ⟨d, 0, none⟩), v] w (Zp E B w ρ d (V.filter (fun p => decide (p.1 ∈ ks))) (k + V.length)) := by
 obtain ⟨S, h1, h2, h3, h4⟩ := D
 have hc := DW.count (E := E) (B := B) (w := w) (ρ := ρ) (d := d) (k := k) h3
 have hkl := h4.U2
 refine (Fe h1 (h4.small hk) v ks base hv hρ hl (fun n hn => by have := h4.keys n hn; omega) (by have := h4.safe; omega)).mono ?_
 intro e w' h
 obtain ⟨a, b, c, _⟩ := h2.clear h3 ks
 have h5 := h4.Yl ks
 rw [hc] at h5
 exact Zp.of h a b c h5
theorem jdu {E : Nat → Addr} {B : Nat} {w : World} {ρ : Nat → jw} {d k : Nat} {V : List (Str × List UInt8)} (D : DW E B w ρ d V k) (hk : k < 549755813888) (nm : Str) (hn : nm.length < 1099511627776) {b : List UInt8} (hm : (nm, b) ∈ V) :
   Calls Tryz.prog 129 #[.pointer (some ⟨d, 0, none⟩), jc nm] w fun e w' => yf w ρ w' ρ ∧ DW E B w' ρ d V k ∧ ∃ v, e = .returned (.tuple #[v, .nilIface]) ∧ w'.ownsRow w.heap.size 5 1 v b.length (b.map qg) := by
 obtain ⟨S, h1, h2, h3, h4⟩ := D
 refine (iy h1 (h4.small hk) nm hn).mono ?_
 rintro e w' ⟨g, D', ⟨hb, _⟩ | ⟨_, hb, _⟩ | ⟨_, f, a, v, hA, ha, rfl, hr⟩⟩
 · rw [h2.bad] at hb; cases hb
 · obtain ⟨f, a, hA, _⟩ := h3.get hm
   rw [hA] at hb; cases hb
 · have e := h3.one hm (h3.of hA ha)
   rw [e]
   exact ⟨g, ⟨S.called false, D', h2.called _, h3.called _, h4.called _⟩, v, rfl, hr⟩
theorem Ud {E : Nat → Addr} {B : Nat} {w : World} {ρ : Nat → jw} {d k : Nat} {V : List (Str × List UInt8)} (D : DW E B w ρ d V k) (hk : k < 549755813888) (nm : Str) (hn : nm.length < 1099511627776) (hm : ∀ b, (nm, b) ∉ V) :
   Calls Tryz.prog 129 #[.pointer (some ⟨d, 0, none⟩), jc nm] w fun e w' => yf w ρ w' ρ ∧ DW E B w' ρ d V k ∧ ∃ v, e = .returned (.tuple #[.slice none 0 0, v]) ∧ Err E w' v 2 := by
 obtain ⟨S, h1, h2, h3, h4⟩ := D
 refine (iy h1 (h4.small hk) nm hn).mono ?_
 rintro e w' ⟨g, D', ⟨hb, _⟩ | ⟨_, hb, v, rfl, hv⟩ | ⟨_, f, a, v, hA, ha, rfl, hr⟩⟩
 · rw [h2.bad] at hb; cases hb
 · exact ⟨g, ⟨S.called false, D', h2.called _, h3.called _, h4.called _⟩, v, rfl, hv⟩
 · exact (hm _ (h3.of hA ha)).elim
theorem je7 {E : Nat → Addr} {B : Nat} {w : World} {ρ : Nat → jw} {d k : Nat} {V : List (Str × List UInt8)} (D : DW E B w ρ d V k) (hk : k < 549755813888) (nm : Str) (hnl : nm.length < 1099511627776) {c : List UInt8} (hm : (nm, c) ∈ V) (v : Value) (b : List UInt8) (hpos : 0 < b.length) (hbl : b.length < 549755813888) (hv : Bytes w v b) (hoff : Off ρ v) (hs : b.length + qm V ≤ 20000) :
   Calls Tryz.prog 62 #[.pointer (some ⟨d, 0, none⟩), jc nm, v] w fun e w' => e = .returned (.int .i64 0) ∧ ∃ ρ', yf w ρ w' ρ' ∧ DW E B w' ρ' d (yu V nm (c ++ b)) (k + b.length) := by
 obtain ⟨S, h1, h2, h3, h4⟩ := D
 obtain ⟨f, a, hA, ha, _⟩ := h3.get hm
 refine (je8 h1 h4 hk nm hnl hA ha v b hpos hbl hv hoff).mono ?_
 rintro e w' ⟨S', ok, ρ', cc, rfl, r, g, D', hc⟩
 obtain ⟨rfl, a, b⟩ := h2.app h3 hm hs r.out
 rcases hc.out with ⟨_, rfl⟩ | ⟨h, _⟩
 · exact ⟨rfl, ρ', g, S', D', a, b, h4.jhb r.out⟩
 · cases h
def Tf (l : List UInt8) : Nat := l.foldl (fun n x => n * 10 + (x.toNat - 48)) 0
theorem V9 (l : List UInt8) (x : UInt8) : Tf (l ++ [x]) = Tf l * 10 + (x.toNat - 48) := by simp [Tf, List.foldl_append]
theorem Bp (n : Nat) : Tf (Ref.decimal n) = n := by
 induction n using Nat.strongRecOn with
 | ind n ih =>
   unfold Ref.decimal
   split
   · rename_i h
     have h2 : (UInt8.ofNat (48 + n)).toNat = 48 + n := by rw [UInt8.toNat_ofNat']; omega
     simp only [Tf, List.foldl_cons, List.foldl_nil, h2]
     omega
   · rename_i h
     have h2 : (UInt8.ofNat (48 + n % 10)).toNat = 48 + n % 10 := by rw [UInt8.toNat_ofNat']; omega
     rw [V9, ih (n / 10) (by omega), h2]
     omega
theorem Gt {a b : Nat} (h : Ref.decimal a = Ref.decimal b) : a = b := by rw [← Bp a, h, Bp]
theorem Gj {a b : Nat} (h : j3 a = j3 b) : a = b := by
 unfold j3 at h
 simp at h
 exact Gt h
theorem Y4 {a b : Nat} (h : jq a = jq b) : a = b := by
 unfold jq at h
 simp at h
 exact Gt h
theorem Ye (a b : Nat) : j3 a ≠ jq b := fun h => by simp [j3, jq] at h
theorem fq (a : Nat) : qd ≠ j3 a := fun h => by simp [j3, qd] at h
theorem Zw (a : Nat) : qd ≠ jq a := fun h => by simp [jq, qd] at h
theorem Dl (a : Nat) : yh ≠ j3 a := fun h => by simp [j3, yh] at h
theorem Ba (a : Nat) : yh ≠ jq a := fun h => by simp [jq, yh] at h
theorem Lc (a : Nat) : j3 a ≠ [] := fun h => by simp [j3] at h
theorem Kc (a : Nat) : jq a ≠ [] := fun h => by simp [jq] at h
def Apart (V : List (Str × List UInt8)) : Prop := V.Pairwise (fun p q => p.1 ≠ q.1)
theorem Apart.nodup {V : List (Str × List UInt8)} (h : Apart V) : V.Nodup := List.Pairwise.imp (fun h e => h (by rw [e])) h
theorem Y7 {V U : List (Str × List UInt8)} (hV : Apart V) (hU : Apart U) (h : ∀ p, p ∈ V ↔ p ∈ U) : V.Perm U := (List.perm_ext_iff_of_nodup hV.nodup hU.nodup).2 h
theorem y9 {V : List (Str × List UInt8)} {n : Str} {b : List UInt8} {p : Str × List UInt8} : p ∈ yu V n b ↔ p = (n, b) ∨ (p ∈ V ∧ p.1 ≠ n) := by
 unfold yu
 rw [List.mem_cons, xu]
theorem Apart.yu {V : List (Str × List UInt8)} (h : Apart V) (n : Str) (b : List UInt8) : Apart (yu V n b) := by
 unfold Go.Proofs.YtnipbplghijdmaaGreatDoor.yu
 exact List.pairwise_cons.2 ⟨fun p hp e => (xu.1 hp).2 e.symm, Yu h n⟩
theorem Apart.without {V : List (Str × List UInt8)} (h : Apart V) (n : Str) : Apart (without V n) := Yu h n
theorem Apart.filter {V : List (Str × List UInt8)} (h : Apart V) (q : Str × List UInt8 → Bool) : Apart (V.filter q) := h.sublist List.filter_sublist
theorem Apart.one {V : List (Str × List UInt8)} (h : Apart V) {n : Str} {b c : List UInt8} (hb : (n, b) ∈ V) (hc : (n, c) ∈ V) : b = c := by
 induction V with
 | nil => cases hb
 | cons x r ih =>
   obtain ⟨h1, h2⟩ := List.pairwise_cons.1 h
   rcases List.mem_cons.1 hb with e | hb' <;> rcases List.mem_cons.1 hc with e' | hc'
   · rw [← e] at e'; cases e'; rfl
   · exact (h1 _ hc' (by rw [← e])).elim
   · exact (h1 _ hb' (by rw [← e'])).elim
   · exact ih h2 hb' hc'
def yo (ns : List Nat) (ls : List (List Ref.Ch)) : List (Str × List UInt8) := (ns.zip ls).map (fun p => (jq p.1, Ref.ql p.2))
def Ref.St.files (s : Ref.St) : List (Str × List UInt8) := (qd, s.m.bytes) :: (j3 s.m.log, Ref.jy s.m.last s.bs) :: yo s.m.settled s.bls
theorem rq {ns : List Nat} {ls : List (List Ref.Ch)} {p : Str × List UInt8} : p ∈ yo ns ls ↔ ∃ q ∈ ns.zip ls, p = (jq q.1, Ref.ql q.2) := by
 unfold yo
 rw [List.mem_map]
 exact ⟨fun ⟨q, h, e⟩ => ⟨q, h, e.symm⟩, fun ⟨q, h, e⟩ => ⟨q, h, e.symm⟩⟩
theorem yj {s : Ref.St} {p : Str × List UInt8} : p ∈ s.files ↔ p = (qd, s.m.bytes) ∨ p = (j3 s.m.log, Ref.jy s.m.last s.bs) ∨ p ∈ yo s.m.settled s.bls := by
 unfold Ref.St.files
 rw [List.mem_cons, List.mem_cons]
theorem J7 {ns : List Nat} {ls : List (List Ref.Ch)} {p : Str × List UInt8} (h : p ∈ yo ns ls) : ∃ n ∈ ns, p.1 = jq n := by
 obtain ⟨q, hq, rfl⟩ := rq.1 h
 exact ⟨q.1, (List.of_mem_zip hq).1, rfl⟩
theorem Ke {ns : List Nat} (h : ns.Nodup) (ls : List (List Ref.Ch)) : Apart (yo ns ls) := by
 induction ns generalizing ls with
 | nil => exact List.Pairwise.nil
 | cons n r ih =>
   cases ls with
   | nil => exact List.Pairwise.nil
   | cons l q =>
     obtain ⟨h1, h2⟩ := List.nodup_cons.1 h
     refine List.pairwise_cons.2 ⟨fun p hp e => ?_, ih h2 q⟩
     obtain ⟨m, hm, e2⟩ := J7 (ns := r) (ls := q) hp
     rw [e2] at e
     have e3 : n = m := Y4 e
     exact h1 (by rw [e3]; exact hm)
theorem Ref.St.Ok.oz {s : Ref.St} (h : s.Ok) : s.m.settled.Nodup := (List.nodup_append.1 h.good.2.2.2).1
theorem Ref.St.Ok.Z6 {s : Ref.St} (h : s.Ok) {n : Nat} (hn : n ∈ s.m.settled) : 1 ≤ n ∧ n < s.m.next := h.good.2.2.1 n (List.mem_append.2 (.inl hn))
theorem Ref.St.Ok.apart {s : Ref.St} (h : s.Ok) : Apart s.files := by
 refine List.pairwise_cons.2 ⟨fun p hp => ?_, List.pairwise_cons.2 ⟨fun p hp => ?_, Ke h.oz _⟩⟩
 · rcases List.mem_cons.1 hp with rfl | hp
   · exact fq _
   · obtain ⟨n, _, e⟩ := J7 hp
     rw [e]
     exact Zw n
 · obtain ⟨n, _, e⟩ := J7 hp
   rw [e]
   exact Ye _ n
theorem ja8 {α β : Type} : ∀ {l : List α} {m : List β}, l.length = m.length → ∀ a ∈ l, ∃ b, (a, b) ∈ l.zip m
 | [], _, _, a, h => by cases h
 | x :: r, [], e, _, _ => by simp at e
 | x :: r, y :: q, e, a, h => by
   rcases List.mem_cons.1 h with rfl | h
   · exact ⟨y, by simp⟩
   · obtain ⟨b, hb⟩ := ja8 (l := r) (m := q) (by simpa using e) a h
     exact ⟨b, List.mem_cons_of_mem _ hb⟩
theorem Ref.St.Ok.there {s : Ref.St} (h : s.Ok) : ∀ n ∈ qi s.m, ∃ b, (n, b) ∈ s.files := by
 intro n hn
 unfold qi at hn
 rcases List.mem_append.1 hn with hn | hn
 · obtain ⟨k, hk, rfl⟩ := List.mem_map.1 hn
   obtain ⟨l, hl⟩ := ja8 h.len.symm k hk
   exact ⟨_, yj.2 (.inr (.inr (rq.2 ⟨_, hl, rfl⟩)))⟩
 · rw [List.mem_singleton.1 hn]
   exact ⟨_, yj.2 (.inr (.inl rfl))⟩
theorem Vi {s : Ref.St} (h : s.Ok) {b : List Ref.Ch} (h' : (s.write b).Ok) : (s.write b).files.Perm (yu s.files (j3 s.m.log) (Ref.jy s.m.last s.bs ++ Ref.j5 (s.last + 1) b)) := by
 refine Y7 h'.apart (h.apart.yu _ _) (fun p => ?_)
 rw [yj, y9, yj]
 have e : Ref.jy (s.write b).m.last (s.write b).bs = Ref.jy s.m.last s.bs ++ Ref.j5 (s.last + 1) b := Ref.il _ _ _
 rw [e]
 constructor
 · rintro (rfl | rfl | hp)
   · exact .inr ⟨.inl rfl, fq _⟩
   · exact .inl rfl
   · obtain ⟨n, _, e⟩ := J7 hp
     exact .inr ⟨.inr (.inr hp), by rw [e]; exact (Ye _ n).symm⟩
 · rintro (rfl | ⟨rfl | rfl | hp, hne⟩)
   · exact .inr (.inl rfl)
   · exact .inl rfl
   · exact (hne rfl).elim
   · exact .inr (.inr hp)
theorem Vk : Ref.St.first.files = yu (without (yu [] (j3 1) []) yh) qd Ref.Man.first.bytes := by
 unfold yu without
 have h1 : j3 1 ≠ yh := fun h => Dl 1 h.symm
 have h2 : j3 1 ≠ qd := fun h => fq 1 h.symm
 simp [Ref.St.files, Ref.St.first, Ref.Man.first, yo, Ref.Man.settled, Ref.jy, h1, h2]
theorem ay {V : List (Str × List UInt8)} {ns : List Str} {p : Str × List UInt8} : p ∈ V.filter (fun p => decide (p.1 ∉ ns)) ↔ p ∈ V ∧ p.1 ∉ ns := by
 rw [List.mem_filter, decide_eq_true_iff]
def Lm (s : Ref.St) : List (Str × List UInt8) :=
 (yu (without (yu (yu s.files (jq s.m.next) (Ref.ql s.mem)) (j3 (s.m.next + 1)) []) yh) qd (s.m.xz s.last).bytes).filter (fun p => decide (p.1 ∉ [j3 s.m.log]))
theorem Vj {s : Ref.St} (h : s.Ok) (hb : s.bs ≠ []) (h' : s.flush.Ok) : s.flush.files.Perm (Lm s) := by
 have hlog := h.good.log
 have e : s.flush = ⟨s.m.xz s.last, [], s.mem :: s.bls⟩ := by unfold Ref.St.flush; rw [if_neg hb]
 rw [e] at h' ⊢
 refine Y7 h'.apart ((((((h.apart.yu _ _).yu _ _).without _).yu _ _)).filter _) (fun p => ?_)
 unfold Lm
 rw [yj, ay, y9, xu, y9, y9, yj, List.mem_singleton]
 have eset : (s.m.xz s.last).settled = s.m.next :: s.m.settled := Ref.Man.Qx _ _
 have ez : yo (s.m.xz s.last).settled (s.mem :: s.bls) = (jq s.m.next, Ref.ql s.mem) :: yo s.m.settled s.bls := by rw [eset]; rfl
 rw [show (⟨s.m.xz s.last, [], s.mem :: s.bls⟩ : Ref.St).m = s.m.xz s.last from rfl, show (⟨s.m.xz s.last, [], s.mem :: s.bls⟩ : Ref.St).bls = s.mem :: s.bls from rfl, ez, List.mem_cons]
 constructor
 · rintro (rfl | rfl | rfl | hp)
   · exact ⟨.inl rfl, fq _⟩
   · refine ⟨.inr ⟨⟨.inl rfl, fun e => Dl _ e.symm⟩, fun e => fq _ e.symm⟩, fun e => ?_⟩
     have e3 : s.m.next + 1 = s.m.log := Gj e
     omega
   · exact ⟨.inr ⟨⟨.inr ⟨.inl rfl, (Ye _ _).symm⟩, fun e => Ba _ e.symm⟩, fun e => Zw _ e.symm⟩, (Ye _ _).symm⟩
   · obtain ⟨n, hn, e⟩ := J7 hp
     have hlt := h.Z6 hn
     refine ⟨.inr ⟨⟨.inr ⟨.inr ⟨.inr (.inr hp), fun e2 => ?_⟩, ?_⟩, ?_⟩, ?_⟩, ?_⟩
     · rw [e] at e2
       have := Y4 e2
       omega
     · rw [e]; exact (Ye _ _).symm
     · rw [e]; exact fun e => Ba _ e.symm
     · rw [e]; exact fun e => Zw _ e.symm
     · rw [e]; exact (Ye _ _).symm
 · rintro ⟨rfl | ⟨⟨rfl | ⟨rfl | ⟨rfl | rfl | hp, _⟩, _⟩, _⟩, h2⟩, h3⟩
   · exact .inl rfl
   · exact .inr (.inl rfl)
   · exact .inr (.inr (.inl rfl))
   · exact (h2 rfl).elim
   · exact (h3 rfl).elim
   · exact .inr (.inr (.inr hp))
def Ze (s : Ref.St) : List (Str × List UInt8) :=
 if s.live = [] then (yu (without s.files yh) qd s.m.bare.bytes).filter (fun p => decide (p.1 ∉ s.m.settled.map jq))
 else (yu (without (yu s.files (jq s.m.next) (Ref.ql s.live)) yh) qd s.m.zi.bytes).filter (fun p => decide (p.1 ∉ s.m.settled.map jq))
theorem Y8 {s : Ref.St} {x : Str} (h : ∀ n ∈ s.m.settled, x ≠ jq n) : x ∉ s.m.settled.map jq := fun hm => by
 obtain ⟨n, hn, e⟩ := List.mem_map.1 hm
 exact h n hn e.symm
theorem Ck {s : Ref.St} (h : s.Ok) (hr : s.m.runs ≠ []) (h' : s.compact.Ok) : s.compact.files.Perm (Ze s) := by
 have hlog := h.good.log
 unfold Ze
 by_cases hl : s.live = []
 · have e : s.compact = ⟨s.m.bare, s.bs, []⟩ := by unfold Ref.St.compact; rw [if_neg hr, if_pos hl]
   rw [if_pos hl]
   rw [e] at h' ⊢
   refine Y7 h'.apart (((h.apart.without _).yu _ _).filter _) (fun p => ?_)
   rw [yj, ay, y9, xu, yj]
   have ez : yo (⟨s.m.bare, s.bs, []⟩ : Ref.St).m.settled (⟨s.m.bare, s.bs, []⟩ : Ref.St).bls = [] := by simp [yo]
   rw [ez]
   constructor
   · rintro (rfl | rfl | hp)
     · exact ⟨.inl rfl, Y8 (fun n _ => Zw n)⟩
     · exact ⟨.inr ⟨⟨.inr (.inl rfl), fun e => Dl _ e.symm⟩, fun e => fq _ e.symm⟩, Y8 (fun n _ => Ye _ n)⟩
     · cases hp
   · rintro ⟨rfl | ⟨⟨rfl | rfl | hp, _⟩, h2⟩, h3⟩
     · exact .inl rfl
     · exact (h2 rfl).elim
     · exact .inr (.inl rfl)
     · obtain ⟨n, hn, e⟩ := J7 hp
       exact (h3 (List.mem_map.2 ⟨n, hn, e.symm⟩)).elim
 · have e : s.compact = ⟨s.m.zi, s.bs, [s.live]⟩ := by unfold Ref.St.compact; rw [if_neg hr, if_neg hl]
   rw [if_neg hl]
   rw [e] at h' ⊢
   refine Y7 h'.apart ((((h.apart.yu _ _).without _).yu _ _).filter _) (fun p => ?_)
   rw [yj, ay, y9, xu, y9, yj]
   have ez : yo (⟨s.m.zi, s.bs, [s.live]⟩ : Ref.St).m.settled (⟨s.m.zi, s.bs, [s.live]⟩ : Ref.St).bls = [(jq s.m.next, Ref.ql s.live)] := by
     show yo s.m.zi.settled [s.live] = _
     rw [Ref.Man.Zl (by omega)]
     rfl
   rw [ez, List.mem_singleton]
   constructor
   · rintro (rfl | rfl | rfl)
     · exact ⟨.inl rfl, Y8 (fun n _ => Zw n)⟩
     · exact ⟨.inr ⟨⟨.inr ⟨.inr (.inl rfl), Ye _ _⟩, fun e => Dl _ e.symm⟩, fun e => fq _ e.symm⟩, Y8 (fun n _ => Ye _ n)⟩
     · refine ⟨.inr ⟨⟨.inl rfl, fun e => Ba _ e.symm⟩, fun e => Zw _ e.symm⟩, Y8 (fun n hn e => ?_)⟩
       have := h.Z6 hn
       have := Y4 e
       omega
   · rintro ⟨rfl | ⟨⟨rfl | ⟨rfl | rfl | hp, _⟩, _⟩, h2⟩, h3⟩
     · exact .inl rfl
     · exact .inr (.inr rfl)
     · exact (h2 rfl).elim
     · exact .inr (.inl rfl)
     · obtain ⟨n, hn, e⟩ := J7 hp
       exact (h3 (List.mem_map.2 ⟨n, hn, e.symm⟩)).elim
theorem Yv (V : List (Str × List UInt8)) (n : Str) (b : List UInt8) : qm (yu V n b) ≤ b.length + qm V := by
 unfold yu
 rw [yz]
 have := yx V n
 exact Nat.add_le_add_left this _
abbrev I5 (d : Nat) (m : Ref.Man) (rv : Value) (last : Nat) (mv : Value) : Array Value := yl (.pointer (some ⟨d, 0, none⟩)) (jf m.next) (jf m.last) (jf m.log) (jf m.base) rv (jf last) mv false false
def Calm (ρ : Nat → jw) (B b : Nat) (mv rv : Value) (w : World) : Prop := ∀ p n c, rv = .slice (some p) n c → ρ p.block = .none ∧ p.block ≠ b ∧ B ≤ p.block ∧ mv.ownBlock ≠ some p.block ∧ p.block < w.heap.size
structure x8 (E : Nat → Addr) (B : Nat) (w : World) (ρ : Nat → jw) (d b : Nat) (s : Ref.St) (k : Nat) (rv mv : Value) : Prop where
 env : Env E B w
 disk : DW E B w ρ d s.files k
 row : w.heap[b]? = some (.cells (I5 d s.m rv s.last mv) 121 (0, 0))
 runs : J2 w rv s.m.runs
 mem : w.ownsRow B 88 3 mv s.mem.length (jg s.mem)
 nb : ρ b = .none ∧ B ≤ b
 nr : Calm ρ B b mv rv w
 nm : ∀ g, mv.ownBlock = some g → ρ g = .none ∧ g ≠ b
 ok : s.Ok
 few : s.mem.length < 60000
def StF (ρ : Nat → jw) (b : Nat) (mv : Value) (i : Nat) : Prop := ρ i ≠ .none ∨ i = b ∨ mv.ownBlock = some i
def Xe (E : Nat → Addr) (B : Nat) (w : World) (ρ : Nat → jw) (d b : Nat) (rv mv : Value) (s : Ref.St) (k : Nat) (w' : World) : Prop :=
 ∃ ρ' rv' mv', x8 E B w' ρ' d b s k rv' mv' ∧ ja w w' (StF ρ b mv) ∧ (∀ i, i < w.heap.size → ρ' i = ρ i) ∧ (∀ g, mv'.ownBlock = some g → mv.ownBlock = some g ∨ w.heap.size ≤ g) ∧ (∀ p n c, rv' = .slice (some p) n c → (∃ n' c', rv = .slice (some p) n' c') ∨ w.heap.size ≤ p.block)
theorem x8.keep {E : Nat → Addr} {B : Nat} {w w' : World} {ρ : Nat → jw} {d b k : Nat} {s : Ref.St} {rv mv : Value} {T : Nat → Prop} (h : x8 E B w ρ d b s k rv mv) (kk : ja w w' T)
   (hT : ∀ i, i < w.heap.size → T i → B ≤ i ∧ ¬ StF ρ b mv i ∧ ∀ p n c, rv = .slice (some p) n c → i ≠ p.block) : x8 E B w' ρ d b s k rv mv := by
 have kk' : ja w w' (fun i => i < w.heap.size ∧ T i) := kk.mono (fun i hi h => ⟨hi, h⟩)
 refine ⟨h.env.keep kk' (fun i t => (hT i t.1 t.2).1), h.disk.keep kk (fun i hi t => ⟨Classical.byContradiction (fun hn => (hT i hi t).2.1 (.inl hn)), (hT i hi t).1⟩), kk'.same h.row (fun t => (hT _ t.1 t.2).2.1 (.inr (.inl rfl))),
   h.runs.keep kk' (fun _ p n c e t => (hT _ t.1 t.2).2.2 p n c e rfl), kk'.row h.mem (fun g hg t => (hT g t.1 t.2).2.1 (.inr (.inr hg))), h.nb, fun p n c e => ?_, h.nm, h.ok, h.few⟩
 obtain ⟨a1, a2, a3, a4, a5⟩ := h.nr p n c e
 exact ⟨a1, a2, a3, a4, Nat.lt_of_lt_of_le a5 kk.size⟩
theorem x8.same {E : Nat → Addr} {B : Nat} {w w' : World} {ρ : Nat → jw} {d b k : Nat} {s : Ref.St} {rv mv : Value} (h : x8 E B w ρ d b s k rv mv) (kk : ja w w' (fun _ => False)) : x8 E B w' ρ d b s k rv mv := h.keep kk (fun _ _ h => h.elim)
theorem x8.blt {E : Nat → Addr} {B : Nat} {w : World} {ρ : Nat → jw} {d b k : Nat} {s : Ref.St} {rv mv : Value} (h : x8 E B w ρ d b s k rv mv) : b < w.heap.size := lt_of_heap h.row
theorem StF.old {E : Nat → Addr} {B : Nat} {w : World} {ρ : Nat → jw} {d b k : Nat} {s : Ref.St} {rv mv : Value} (h : x8 E B w ρ d b s k rv mv) {i : Nat} (hi : StF ρ b mv i) : B ≤ i ∧ i < w.heap.size := by
 rcases hi with hi | rfl | hi
 · exact h.disk.yt i hi
 · exact ⟨h.nb.2, h.blt⟩
 · exact h.mem.lt i hi
theorem Xe.trans {E : Nat → Addr} {B : Nat} {w w1 w2 : World} {ρ ρ1 : Nat → jw} {d b k k2 : Nat} {rv mv mv1 rv1 : Value} {s s2 : Ref.St} (h1 : x8 E B w1 ρ1 d b s k rv1 mv1) (hk : ja w w1 (StF ρ b mv)) (hρ : ∀ i, i < w.heap.size → ρ1 i = ρ i) (hm : ∀ g, mv1.ownBlock = some g → mv.ownBlock = some g ∨ w.heap.size ≤ g) (hrv : ∀ p n c, rv1 = .slice (some p) n c → (∃ n' c', rv = .slice (some p) n' c') ∨ w.heap.size ≤ p.block)
   (h2 : Xe E B w1 ρ1 d b rv1 mv1 s2 k2 w2) : Xe E B w ρ d b rv mv s2 k2 w2 := by
 obtain ⟨ρ2, rv2, mv2, hs, hk2, hρ2, hm2, hrv2⟩ := h2
 refine ⟨ρ2, rv2, mv2, hs, hk.trans hk2 (fun i hi t => ?_), fun i hi => (hρ2 i (Nat.lt_of_lt_of_le hi hk.size)).trans (hρ i hi), fun g hg => ?_, fun p n c e => ?_⟩
 · rcases t with t | t | t
   · exact .inl (by rw [← hρ i hi]; exact t)
   · exact .inr (.inl t)
   · rcases hm i t with t' | t'
     · exact .inr (.inr t')
     · omega
 · rcases hm2 g hg with t | t
   · exact hm g t
   · exact .inr (Nat.le_trans hk.size t)
 · rcases hrv2 p n c e with ⟨n', c', t⟩ | t
   · exact hrv p n' c' t
   · exact .inr (Nat.le_trans hk.size t)
end Go.Proofs.YtnipbplghijdmaaGreatDoor
namespace Go.Proofs.YtnipbplghijdmaaGreatDoor
open Go.RowKit Go.Maps Go.WideShapes
set_option linter.unusedVariables false
set_option linter.unusedSimpArgs false
theorem Rh {ρ : Nat → jw} {n : Nat} {W : World} {e : TypeId} {v : Value} {k : Nat} {xs : List Value} (hρ : ∀ i, ρ i ≠ .none → i < n) (h : W.ownsRow n e 1 v k xs) : Off ρ v := by
 intro p m c ev
 have := (h.lt p.block (by rw [ev]; rfl)).1
 exact Classical.byContradiction (fun hn => by have := hρ _ hn; omega)
set_option maxHeartbeats 1000000 in
set_option maxRecDepth 100000 in
theorem jfp {E : Nat → Addr} {B : Nat} {w : World} {ρ : Nat → jw} {d b k : Nat} {s : Ref.St} {rv mv : Value} (S : x8 E B w ρ d b s k rv mv) (hk : k < 540000000000) (ev : Value) (es : List Ref.Ch) (hok : Ref.Ji es = true) (hev : Chs w ev es)
   (hevo : ∀ p n c, ev = .slice (some p) n c → ¬ StF ρ b mv p.block) (hlast : s.last < 1000000000) (hfew : s.mem.length + 8 < 60000) (hs : (Ref.j5 (s.last + 1) es).length + qm s.files ≤ 20000) :
   Calls Tryz.prog 24 #[.pointer (some ⟨b, 0, none⟩), ev] w fun e w' => e = .returned (.int .i64 0) ∧ Xe E B w ρ d b rv mv (s.write es) (k + (Ref.j5 (s.last + 1) es).length) w' := by
 obtain ⟨h1, h8, hall⟩ := (Ref.Jb es).1 hok
 have hsm : ∀ c ∈ es, c.key.length < 1048576 ∧ c.value.length < 1048576 := fun c hc => by have := (Ref.Jo c).1 (hall c hc); omega
 have hsm2 : ∀ c ∈ es, c.key.length < 1099511627776 ∧ c.value.length < 1099511627776 := fun c hc => by have := (Ref.Jo c).1 (hall c hc); omega
 have hal := F6 ev es w hev (by omega) hsm2
 rw [hok] at hal
 have hgood := S.ok.good.log
 have hnx := S.ok.good.1
 have hlo : s.m.log ≤ 9223372036854775807 := by omega
 have hlen := Xl hlo
 have hbl : (Ref.j5 (s.last + 1) es).length < 600 ∧ 0 < (Ref.j5 (s.last + 1) es).length := by
   have hf := Ref.Zd hall
   have e : (Ref.j5 (s.last + 1) es).length = 17 + (es.flatMap Ref.entry).length := by simp only [Ref.j5, Ref.frame, List.length_append, Ref.jk]; omega
   omega
 obtain ⟨pe, ce, rfl, _⟩ := id hev
 obtain ⟨lo, hloe⟩ : ∃ lo, lo = s.m.log := ⟨_, rfl⟩
 obtain ⟨last, hlaste⟩ : ∃ last, last = s.last := ⟨_, rfl⟩
 have hrow := S.row
 unfold I5 at hrow
 rw [← hloe, ← hlaste] at hrow
 rw [← hloe] at hlo hlen
 rw [← hlaste] at hlast
 obtain ⟨BB, hBB⟩ : ∃ BB, BB = Ref.j5 (last + 1) es := ⟨_, rfl⟩
 rw [← hlaste, ← hBB] at hbl hs ⊢
 have hlog : ∀ W, ja w W (fun _ => False) → Calls Tryz.prog 63 #[j4 lo] W fun e w' => e = .returned (jc (j3 lo)) ∧ ja W w' (fun _ => False) := fun W k => Q9 lo hlo (S.env.same k)
 have hbat : ∀ W, ja w W (fun _ => False) → Calls Tryz.prog 64 #[.int .i64 ((last : Int) + 1), .slice pe es.length ce] W fun e w' => ∃ p c, e = .returned (.slice p BB.length c) ∧ w'.ownsRow W.heap.size 5 1 (.slice p BB.length c) BB.length (BB.map qg) ∧ ja W w' (fun _ => False) := fun W k => by
   have := jc6 (last + 1) (.slice pe es.length ce) es W (by omega) (by omega) hsm (hev.same k)
   rw [← hBB] at this
   simpa using this
 have happ : ∀ (W : World) (v : Value), ja w W (fun _ => False) → W.ownsRow w.heap.size 5 1 v BB.length (BB.map qg) → Calls Tryz.prog 62 #[.pointer (some ⟨d, 0, none⟩), jc (j3 lo), v] W fun e w' => e = .returned (.int .i64 0) ∧ ∃ ρ', yf w ρ w' ρ' ∧ DW E B w' ρ' d (s.write es).files (k + BB.length) := fun W v kk hr => by
   have hm : (j3 lo, Ref.jy s.m.last s.bs) ∈ s.files := yj.2 (.inr (.inl (by rw [hloe])))
   refine (je7 (S.disk.same kk) (by omega) (j3 lo) hlen hm v BB hbl.2 (by omega) (bytes_of_row hr) (Rh (fun i hi => (S.disk.yt i hi).2) hr) hs).mono ?_
   rintro e w' ⟨rfl, ρ', g, D'⟩
   refine ⟨rfl, ρ', (yf.of kk (fun _ _ h => h.elim)).trans g, D'.perm ?_⟩
   have := Vi S.ok (b := es) (S.ok.write hok (by rw [← hlaste]; exact hlast))
   rw [← hlaste, ← hBB, ← hloe] at this
   exact this
 have HBB := hide hBB
 have HAL := hide hal
 have HLOG := hide hlog
 have HBAT := hide hbat
 have HAPP := hide happ
 have HB := hide hrow
 have HLE := hide hloe
 have HLA := hide hlaste
 have d2 := cell_of_heap (o := 6) hrow
 simp at d2
 have hd : decide ((1000000000 : Int) ≤ (last : Int)) = false := by rw [decide_eq_false_iff_not]; omega
 have hd2 : (last : Int) < 1000000000 := by omega
 have hw : IntKind.i64.wrap ((last : Int) + 1) = (last : Int) + 1 := wrap_i64 (by omega) (by omega)
 have HEV := hide hev
 have HALL := hide hall
 have HSM := hide hsm2
 have H8 := hide h8
 have HFEW := hide hfew
 have HOKB := hide hok
 have HEVO := hide hevo
 have HLT := hide hlast
 clear hBB hal hlog hbat happ hrow hbl hok h1 h8 hall hsm hsm2 hlast hk hlen hlo hloe hlaste hs hgood hnx hev hfew hevo
 go_enter Tryz.func24, Tryz.ntmps24
 go_wp2_with fail
 refine (Y5 HB.out).mono ?_
 rintro e w0 ⟨rfl, rfl⟩
 rw [show l9 false false = 0 from rfl]
 go_wp2_with fail
 refine HAL.out.mono ?_
 rintro e w1 ⟨rfl, k1⟩
 have hb1 := k1.same HB.out id
 have c0 := cell_of_heap (o := 0) hb1
 have c3 := cell_of_heap (o := 3) hb1
 have c6 := cell_of_heap (o := 6) hb1
 simp at c0 c3 c6
 clear hb1
 have kc : ja w0 w1.drew (fun _ => False) := k1.draw
 go_wp2_with fail
 go_region_law (first
   | (refine jo rfl 63 [.tmp 27] _ rfl Qm [.int .i64 lo] (by simp [Act.eval, Act.put]) (HLOG.out _ kc) ?_
      rintro e w2 ⟨rfl, k2⟩
      have kc := kc.trans k2 (fun _ _ h => h)
      try have hrw := k2.row hrw (fun _ _ h => h)
      have hb2 := kc.same HB.out id
      have c0 := cell_of_heap (o := 0) hb2
      have c3 := cell_of_heap (o := 3) hb2
      have c6 := cell_of_heap (o := 6) hb2
      simp at c0 c3 c6
      clear hb2
      refine ⟨_, rfl, ?_⟩)
   | (refine jo rfl 64 [.tmp 33, .tmp 34] _ rfl Vm [.int .i64 ((last : Int) + 1), .slice pe es.length ce] (by simp [Act.eval, Act.put]) (HBAT.out _ kc) ?_
      rintro e w2 ⟨pb, cb, rfl, hrw, k2⟩
      have hrw := xx hrw kc.size
      have kc := kc.trans k2 (fun _ _ h => h)
      have hb2 := kc.same HB.out id
      have c0 := cell_of_heap (o := 0) hb2
      have c3 := cell_of_heap (o := 3) hb2
      have c6 := cell_of_heap (o := 6) hb2
      simp at c0 c3 c6
      clear hb2
      refine ⟨_, rfl, ?_⟩)
   | (refine jo rfl 62 [.tmp 22, .tmp 28, .tmp 35] _ rfl Oc [.pointer (some ⟨d, 0, none⟩), jc (j3 lo), .slice pb BB.length cb] (by simp [Act.eval, Act.put]) (HAPP.out _ _ kc hrw) ?_
      rintro e w3 ⟨rfl, ρ3, g3, D3⟩
      refine ⟨_, rfl, ?_⟩))
 all_goals
   have hb3 := g3.keeps.same HB.out (fun t => t S.nb.1)
   have hr3 := g3.keeps.row S.mem (fun g hg t => t (S.nm g hg).1)
   have hev3 : Chs w3 (.slice pe es.length ce) es := HEV.out.keep g3.keeps (fun _ p n c e t => HEVO.out p n c e (.inl t))
   have hap3 := Pb b (.pointer (some ⟨d, 0, none⟩)) (jf s.m.next) (jf s.m.last) (j4 lo) (jf s.m.base) rv (.bool false) (.bool false) last 121 mv (.slice pe es.length ce) s.mem es B w3 hb3 hr3 (fun e => (S.nm b e).2 rfl) (Ref.yn _)
     (by have := HFEW.out; have := H8.out; omega) (by have := HLT.out; omega) hev3 HSM.out (Nat.le_trans S.disk.size g3.keeps.size) (fun _ p n c e => ⟨fun t => HEVO.out p n c e (.inr (.inl t)), fun t => HEVO.out p n c e (.inr (.inr t))⟩)
   have HAP3 := hide hap3
   clear hap3 hb3 hr3 hev3 hd hd2 hw d2
   go_wp2_with fail
   refine HAP3.out.mono ?_
   rintro e w4 ⟨rfl, v4, hb4, hr4, hn4, ho4, k4⟩
   have HB4 := hide hb4
   have HR4 := hide hr4
   clear hb4 hr4
   go_wp2
   go_ret
   have kT : ja w0 w4 (StF ρ b mv) := (g3.keeps.mono (fun i _ h => .inl h)).trans k4 (fun i hi h => by
     rcases h with h | h
     · exact .inr (.inl h)
     · exact .inr (.inr h.symm))
   have hst : (s.write es).last = last + 1 := by rw [HLA.out]; show s.m.last + (s.bs ++ [es]).length = s.m.last + s.bs.length + 1; simp; omega
   have hmem : (s.write es).mem = Ref.over s.mem es := Ref.Am _ _
   have own4 : ∀ g, v4.ownBlock = some g → mv.ownBlock = some g ∨ w3.heap.size ≤ g := fun g hg => by
     rcases ho4 with e | ⟨g', e, h⟩
     · exact .inl (e ▸ hg)
     · rw [hg] at e; cases e; exact .inr h
   have hno : ∀ i, i < w3.heap.size → i = b ∨ some i = mv.ownBlock → ρ3 i = .none ∧ B ≤ i := fun i hi h => by
     rcases h with h | h
     · rw [h, g3.role b S.blt]; exact S.nb
     · have h' := S.mem.lt i h.symm
       rw [g3.role i h'.2]
       exact ⟨(S.nm i h.symm).1, h'.1⟩
   refine ⟨rfl, ρ3, rv, v4, ⟨S.env.keep (kT.mono (fun i hi h => (show B ≤ i from (StF.old S h).1))) (fun i h => h), D3.keep k4 hno, ?_, S.runs.keep kT ?_, by rw [hmem]; exact HR4.out, ?_, ?_, ?_, S.ok.write HOKB.out (by rw [← HLA.out]; exact HLT.out), ?_⟩, kT, g3.role, fun g hg => ?_, fun p n c e => .inl ⟨n, c, e⟩⟩
   · rw [hst]
     show _ = some (Obj.cells (I5 d s.m rv (last + 1) v4) _ _)
     unfold I5
     rw [← HLE.out]
     exact HB4.out
   · intro _ p n c e t
     obtain ⟨a1, a2, a3, a4, a5⟩ := S.nr p n c e
     rcases t with t | t | t
     · exact t a1
     · exact a2 t
     · exact a4 t
   · rw [g3.role b S.blt]; exact S.nb
   · intro p n c e
     obtain ⟨a1, a2, a3, a4, a5⟩ := S.nr p n c e
     refine ⟨by rw [g3.role _ a5]; exact a1, a2, a3, fun t => ?_, Nat.lt_of_lt_of_le a5 kT.size⟩
     rcases own4 _ t with t | t
     · exact a4 t
     · have := g3.keeps.size
       omega
   · intro g hg
     rcases own4 g hg with t | t
     · rw [g3.role g (S.mem.lt g t).2]
       exact S.nm g t
     · refine ⟨Classical.byContradiction (fun hn => ?_), fun e => ?_⟩
       · have := (D3.yt g hn).2
         omega
       · have := S.blt
         have := g3.keeps.size
         omega
   · rw [hmem]
     have := Ref.Aj (Ref.yn s.bs) es
     have h' : (Ref.over s.mem es).length ≤ s.mem.length + es.length := this
     have := HFEW.out
     have := H8.out
     omega
   · rcases own4 g hg with t | t
     · exact .inl t
     · exact .inr (Nat.le_trans g3.keeps.size t)
end Go.Proofs.YtnipbplghijdmaaGreatDoor
