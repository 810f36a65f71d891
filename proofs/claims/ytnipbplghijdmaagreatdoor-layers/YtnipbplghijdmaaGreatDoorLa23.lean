/-
  La: LayerM.
-/
import Derived.RangeFuncLeaves
import Derived.Shelf.Abstract
import Derived.Shelf.RegionOpen
import Derived.WalkKit
import Derived.OwnWalkIn
import Derived.TacticsInMore
import Derived.LoopNIn
import Derived.LoopIn
import Derived.Maps.AppendAt
import Derived.Test.YtnipbplghijdmaaGreatDoorLa22
import Derived.Test.YtnipbplghijdmaaGreatDoorLa20
namespace Go.Proofs.YtnipbplghijdmaaGreatDoor
open Go.RowKit Go.Maps Go.WideShapes Go.Shelf
set_option linter.unusedVariables false
attribute [local go_sem] Oper.semAt_some
abbrev Item := Ref.Ch × Value
abbrev encI (x : Item) : Array Value := #[chV x.1, x.2]
abbrev Jd (c : Ref.Ch) : Item := (c, .nilIface)
def ak : Ref.Ch := ⟨[], [], false⟩
def ve (E : Nat → Addr) (w : World) (v : Value) (bad : Bool) : Prop := ∃ g, Err E w v g ∧ g ≠ 0 ∧ (bad = true ↔ g = 1)
theorem ve.same {E : Nat → Addr} {w w' : World} {v : Value} {bad : Bool} (h : ve E w v bad) (hk : ja w w' (fun _ => False)) : ve E w' v bad := by
 obtain ⟨g, h1, h2⟩ := h
 exact ⟨g, h1.same hk, h2⟩
theorem ve.shape {E : Nat → Addr} {w : World} {v : Value} {bad : Bool} (h : ve E w v bad) : ∃ t a, v = .iface t (.pointer (some a)) := by
 obtain ⟨g, h1, _⟩ := h
 exact h1.shape
def jfn (E : Nat → Addr) (l : List Ref.Ch) (err : Option Bool) (pre : List Item) (x : Item) (W : World) : Prop :=
 (∃ k c, pre = (l.take k).map Jd ∧ l[k]? = some c ∧ x = Jd c) ∨ (∃ bad, err = some bad ∧ pre = l.map Jd ∧ x.1 = ak ∧ ve E W x.2 bad)
def jfm (E : Nat → Addr) (B : Nat) (ρ : Nat → jw) (d : Nat) (S : je) (l : List Ref.Ch) (err : Option Bool) (xs : List Item) (W : World) : Prop :=
 Dk E B W ρ d S ∧ ((err = none ∧ xs = l.map Jd) ∨ ∃ bad v, err = some bad ∧ (∃ t a, v = .iface t (.pointer (some a))) ∧ xs = l.map Jd ++ [(ak, v)])
def Og (E : Nat → Addr) (B : Nat) (ρ : Nat → jw) (d : Nat) (S : je) (xs : List Item) (W : World) : Prop := Dk E B W ρ d S
def j6 (ρ : Nat → jw) (i : Nat) : Prop := ρ i ≠ .none
def jbj (B : Nat) (v : Value) (i : Nat) : Prop := i < B ∨ ∃ p n c, v = .slice (some p) n c ∧ p.block = i
theorem Dk.apart {E : Nat → Addr} {B : Nat} {w w' : World} {ρ : Nat → jw} {d : Nat} {S : je} {C : Nat → Prop} (h : Dk E B w ρ d S) (k : ja w w' C) (hC : ∀ i, i < w.heap.size → C i → ¬ j6 ρ i ∧ B ≤ i) : Dk E B w' ρ d S := by
 have k' : ja w w' (fun i => i < w.heap.size ∧ C i) := ⟨k.os, k.tape, k.output, k.size, fun i hi hn => k.block i hi (fun hc => hn ⟨hi, hc⟩)⟩
 refine ⟨h.rep.keep k' (fun i hi _ => ?_), h.sent.keep k' (fun i hi => (hC i hi.1 hi.2).2), h.yt, Nat.le_trans h.size k.size⟩
 exact Classical.byContradiction (fun hn => (hC i hi.1 hi.2).1 hn)
theorem Qu {F : Fence} {n : Nat} {P : Program} (w : World) {ops : Array Oper} {rest : List Oper} {o : Oper} {a : Act} {Q : Exit → Act → World → Prop}
   (hg : o.guard = none) (s x : Operand) (t : TypeId) (hop : o.op = Op.call { callee := Callee.builtin Builtin.append, args := #[s, x], argTypes := #[t, t] })
   (base : Nat) (e : TypeId) (i : TypeInfo) (z : Value) (size bytes : Nat) (h1 : P.underlying t = some (.slice e)) (h2 : P.info? e = some i) (h3 : i.zero = some z) (h4 : i.size = size) (h5 : i.bytes = bytes) (h6 : z.cells.size = size) (h7 : 0 < size)
   (v : Value) (k : Nat) (xs : List Value) (hs : a.eval s = v) (hown : w.ownsRow base e size v k xs) (ad : Addr) (m c : Nat) (news : List Value) (hx : a.eval x = .slice (some ad) m c) (hn : news.length = m * size)
   (hc : ∀ j u, news[j]? = some u → w.cell? (ad.add j) = some u) (h1c : ∀ u ∈ news, u.oneCell' = true) (b1 : k + m ≤ maxLen) (b2 : (k + m) * bytes ≤ 140737488355328) (b3 : base ≤ w.heap.size)
   (hK : ∀ (p : Option Addr) (cp : Nat) (w' : World), w'.ownsRow base e size (.slice p (k + m) cp) (k + m) (xs ++ news) → w.grownBy w' v.ownBlock → ((Value.slice p (k + m) cp).ownBlock = v.ownBlock ∨ (Value.slice p (k + m) cp).ownBlock = some w.heap.size) → wpListIn F n P ops Q rest (a.put o.dst (.slice p (k + m) cp)) w') :
   wpListIn F n P ops Q (o :: rest) a w := by
 refine wpListIn_plain hg fun K hK' => ?_
 obtain ⟨v', w', hrun, r1, r2, r3, r4⟩ := run_append_own_at (P := P) w base t o.type e i z size bytes h1 h2 h3 h4 h5 h6 h7 v k xs hown ad m c news hn hc h1c b1 b2 b3
 obtain ⟨p, cp, rfl⟩ := jh r1
 unfold Oper.wpIn
 refine ⟨?_, ?_⟩
 · simp [Oper.about, hop, resolve, Target.leads, Sem.run_pure]
 · rw [Oper.semAt_plain F _ _ (by rw [hop]; intro c hc'; cases hc')]
   simp [execOp, hop, resolve, invoke, builtin, hs, hx, hrun, Result.andThen]
   exact hK' _ _ (hK p cp w' r1 r2 r4)
theorem bu (ys : Array Value) (w : World) : (callFunc 158 ys).run Tryz.prog w = .ok (.enter 158 ys) w := by kernel_rfl
theorem lh {l : List Ref.Ch} {k : Nat} {c : Ref.Ch} (h : l[k]? = some c) : (l.take (k + 1)).map Jd = (l.take k).map Jd ++ [Jd c] := by
 rw [List.take_add_one, h, Option.toList_some, List.map_append]
 rfl
set_option maxRecDepth 100000 in
set_option maxHeartbeats 2000000 in
theorem az {E : Nat → Addr} {B : Nat} {ρ : Nat → jw} {d n : Nat} {S : je} (v : Value) (l : List Ref.Ch) (hl : l.length < 1048576) :
   Gives Fence.wide n Tryz.prog 158 #[v] #[] encI (j6 ρ) (jbj B v) (fun W => Chs W v l ∧ Dk E B W ρ d S) (jfn E l none) (jfm E B ρ d S l none) (Og E B ρ d S) := by
 intro lp n₀ J Jx aJ hY C W hbd hC hn₀ hS hJ0
 obtain ⟨hch, D⟩ := hS
 obtain ⟨p, cp, rfl, h1, h2, h3, h4⟩ := id hch
 have hCB : ∀ i, i < W.heap.size → C i → ¬ j6 ρ i ∧ B ≤ i := fun i _ hc => ⟨(hC i hc).1, Nat.le_of_not_lt (fun h => (hC i hc).2 (.inl h))⟩
 have HCH := hide hch
 have HC := hide hC
 have HB := hide hbd
 clear h3 h4 hch hC hbd
 show CallsIn Fence.wide n Tryz.prog 158 #[.slice p l.length cp, .func (.yield lp) #[] #[]] W _
 refine callsIn_of_wp Tryz.func158 rfl trivial ?_ rfl
 simp only [Tryz.ntmps158, List.size_toArray, List.length_cons, List.length_nil, Nat.reduceAdd, Nat.reduceSub, Array.replicate_succ, Array.replicate_zero, List.push_toArray, List.append_toArray, List.nil_append, List.cons_append]
 gi_wp2
 gi_loopw [8] (fun i wr => ∃ (k : Nat) (C' : Nat → Prop), k ≤ l.length ∧ i = .int .i64 k ∧ J ((l.take k).map Jd) C' wr ∧ (∀ i, C' i → C i ∨ W.heap.size ≤ i) ∧ (∀ i, C' i → i < wr.heap.size) ∧ ja W wr C)
   (fun i _ => l.length - (intOf i).toNat)
 case atStart => exact ⟨0, C, Nat.zero_le _, rfl, hJ0, fun _ h => .inl h, HB.out, ja.refl _ _⟩
 case round =>
   obtain ⟨k, C', hk, rfl, hJs, hsub, hbd', hkw⟩ := hrel
   rcases Nat.lt_or_ge k l.length with hlt | hge
   · have hch' : Chs wr (.slice p l.length cp) l := HCH.out.keep hkw (fun _ p' n' c' e hc => (HC.out _ hc).2 (.inr ⟨p', n', c', e, rfl⟩))
     obtain ⟨b, o, rfl, e0, e1, e2⟩ := hch'.at hlt
     generalize hx : l[k] = x at e0 e1 e2
     obtain ⟨ck, cv, cg⟩ := x
     simp only at e0 e1 e2
     have hkx : l[k]? = some ⟨ck, cv, cg⟩ := by rw [List.getElem?_eq_getElem hlt, hx]
     have ka := ja.alloc wr (Qs ⟨ck, cv, cg⟩) (fun _ => False)
     have hJa := aJ _ _ _ _ hJs (Qn ka)
     obtain ⟨fn, tmps, assign, body, hy, hR⟩ := hY ((l.take k).map Jd) (Jd ⟨ck, cv, cg⟩) C' (wr.alloc (Qs ⟨ck, cv, cg⟩)) hJa (fun i hi => Nat.lt_of_lt_of_le (hbd' i hi) ka.size) (.inl ⟨k, _, rfl, hkx, rfl⟩)
     dsimp only [encI, Jd] at hy
     unfold Qs at hy hR ka
     have HX := hide hkx
     have HR := hide hR
     clear hx hkx hR
     gi_wp2
     refine ⟨fun h => by simp [Fence.wide] at h, HR.out.mono ?_⟩
     rintro e W3 ⟨C2, hs2, hb2, hk2, ⟨rfl, hJ3⟩ | ⟨rfl, hJx3⟩⟩
     · have hkk : ja W W3 C := (hkw.trans (ka.mono (fun _ _ h => h.elim)) (fun _ _ h => h)).trans hk2 (fun i hi hc => (hsub i hc).resolve_right (by omega))
       gi_wp2
       go_roundw
       case rel =>
         refine ⟨k + 1, C2, hlt, by simp, by rw [lh HX.out]; exact hJ3, fun i hi => ?_, hb2, hkk⟩
         rcases hs2 i hi with h | h
         · exact hsub i h
         · have := hkw.size
           have := ka.size
           exact .inr (by omega)
       case measure => simp [intOf]; omega
     · gi_wp2
       refine bodyPost_ret (results_none rfl _ _ _) rfl ?_
       have hkk : ja W W3 C := (hkw.trans (ka.mono (fun _ _ h => h.elim)) (fun _ _ h => h)).trans hk2 (fun i hi hc => (hsub i hc).resolve_right (by omega))
       refine ⟨C2, fun i hi => ?_, hb2, ⟨_, rfl⟩, .inr ⟨_, D.apart hkk hCB, hJx3⟩⟩
       rcases hs2 i hi with h | h
       · exact hsub i h
       · have := hkw.size
         have := ka.size
         exact .inr (by omega)
   · obtain rfl : k = l.length := by omega
     gi_wp2
     go_end0
     rw [List.take_length] at hJs
     exact ⟨C', hsub, hbd', ⟨_, rfl⟩, .inl ⟨_, ⟨D.apart hkw hCB, .inl ⟨rfl, rfl⟩⟩, hJs⟩⟩
end Go.Proofs.YtnipbplghijdmaaGreatDoor
