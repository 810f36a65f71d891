/-
  La: ChunkA.
-/
import Derived.RangeFuncLeaves
import Derived.Shelf.Abstract
import Derived.Shelf.RegionOpen
import Derived.WalkKit
import Derived.OwnWalkIn
import Derived.TacticsInMore
import Derived.LoopNIn
import Derived.LoopIn
import Derived.Deep.DeepMust
import Derived.Test.YtnipbplghijdmaaGreatDoorLa22
import Derived.Test.YtnipbplghijdmaaGreatDoorLa14
import Derived.Test.YtnipbplghijdmaaGreatDoorLa12
namespace Go.Proofs.YtnipbplghijdmaaGreatDoor
open Go.RowKit Go.Maps Go.WideShapes Go.Shelf
set_option linter.unusedVariables false
attribute [local go_sem] Oper.semAt_some
def partAt (l : List Ref.Ch) (i : Nat) : List Ref.Ch := (l.drop i).take 4
def Qw (n i : Nat) : Nat := min 4 (n - i)
def jbe (b o n i : Nat) : Value := .slice (some ⟨b, o + i * 3, none⟩) (Qw n i) (Qw n i)
theorem ik (l : List Ref.Ch) (i : Nat) : (partAt l i).length = Qw l.length i := by unfold partAt Qw; rw [List.length_take, List.length_drop]
theorem Gw (a b : List Ref.Ch) : jg (a ++ b) = jg a ++ jg b := by simp [jg]
theorem Sz (l : List Ref.Ch) (i j : Nat) (u : Value) (h : (jg (partAt l i))[j]? = some u) : (jg l)[i * 3 + j]? = some u := by
 have e : jg l = jg (l.take i) ++ (jg (partAt l i) ++ jg ((l.drop i).drop 4)) := by
   unfold partAt
   rw [← Gw, ← Gw, List.take_append_drop, List.take_append_drop]
 have hj : j < (jg (partAt l i)).length := (List.getElem?_eq_some_iff.1 h).1
 have hi : i ≤ l.length := by
   rcases Nat.lt_or_ge l.length i with hh | hh
   · exfalso
     have : partAt l i = [] := by unfold partAt; rw [List.drop_of_length_le (by omega)]; rfl
     rw [this] at hj
     simp [jg] at hj
   · exact hh
 have hlen : (jg (l.take i)).length = i * 3 := by rw [za, List.length_take, Nat.min_eq_left hi]
 rw [e, List.getElem?_append_right (by omega), hlen, Nat.add_sub_cancel_left, List.getElem?_append_left hj]
 exact h
theorem Chs.part {w : World} {b o c : Nat} {l : List Ref.Ch} (h : Chs w (.slice (some ⟨b, o, none⟩) l.length c) l) (i : Nat) : Chs w (jbe b o l.length i) (partAt l i) := by
 obtain ⟨p', c', e, h1, h2, h3, h4⟩ := h
 cases e
 refine ⟨some ⟨b, o + i * 3, none⟩, Qw l.length i, by rw [ik]; rfl, by rw [ik]; exact Nat.le_refl _, by unfold Qw; omega, (fun h => by cases h), fun ad had => ?_⟩
 cases had
 refine ⟨rfl, fun j u hu => ?_⟩
 have := (h4 _ rfl).2 (i * 3 + j) u (Sz l i j u hu)
 rw [X7] at this ⊢
 rw [Nat.add_assoc]
 exact this
theorem Hw (ys : Array Value) (w : World) : (callFunc 195 ys).run Tryz.prog w = .ok (.enter 195 ys) w := by kernel_rfl
abbrev jg9 (b o n : Nat) (k : Nat) : Array Value := #[jbe b o n (4 * k)]
def jhq (n : Nat) (pre : List Nat) (x : Nat) (W : World) : Prop := pre = List.range x ∧ 4 * x < n
def jhx (n : Nat) (xs : List Nat) (W : World) : Prop := xs = List.range ((n + 3) / 4)
def jfi (b b1 b2 i : Nat) : Prop := i = b ∨ i = b1 ∨ i = b2
def jfc (b o c b1 b2 : Nat) (l : List Ref.Ch) (W : World) : Prop := Chs W (.slice (some ⟨b, o, none⟩) l.length c) l ∧ W.heap[b1]? = some (.cells #[.slice (some ⟨b, o, none⟩) l.length c] 38 (0, 0)) ∧ W.heap[b2]? = some (.cells #[.int .i64 4] 3 (0, 0))
set_option maxRecDepth 100000 in
set_option maxHeartbeats 2000000 in
theorem Hy {n : Nat} (b o c b1 b2 : Nat) (l : List Ref.Ch) (hl : l.length < 1048576) :
   Gives Fence.wide n Tryz.prog 195 #[] #[.pointer (some ⟨b1, 0, none⟩), .pointer (some ⟨b2, 0, none⟩)] (jg9 b o l.length) (fun _ => False) (jfi b b1 b2) (jfc b o c b1 b2 l) (jhq l.length) (jhx l.length) (fun _ _ => True) := by
 intro lp n₀ J Jx aJ hY C W hbd hC hn₀ hS hJ0
 obtain ⟨hch, hb1, hb2⟩ := hS
 have HCH := hide hch
 have HC := hide hC
 have HB := hide hbd
 have HB1 := hide hb1
 have HB2 := hide hb2
 have hcap : l.length ≤ c ∧ c ≤ maxLen := by
   obtain ⟨p', c', e, h1, h2, h3, h4⟩ := hch
   cases e
   exact ⟨h1, h2⟩
 have HCAP := hide hcap
 clear hch hC hbd hb1 hb2 hcap
 show CallsIn Fence.wide n Tryz.prog 195 #[.func (.yield lp) #[] #[], .pointer (some ⟨b1, 0, none⟩), .pointer (some ⟨b2, 0, none⟩)] W _
 refine callsIn_of_wp Tryz.func195 rfl trivial ?_ rfl
 simp only [Tryz.ntmps195, List.size_toArray, List.length_cons, List.length_nil, Nat.reduceAdd, Nat.reduceSub, Array.replicate_succ, Array.replicate_zero, List.push_toArray, List.append_toArray, List.nil_append, List.cons_append]
 gi_wp2
 gi_loopw [4] (fun i wr => ∃ (k j : Nat) (C' : Nat → Prop), Hid (j = 4 * k) ∧ Hid (k ≤ (l.length + 3) / 4) ∧ i = .int .i64 j ∧ J (List.range k) C' wr ∧ (∀ i, C' i → C i ∨ W.heap.size ≤ i) ∧ (∀ i, C' i → i < wr.heap.size) ∧ ja W wr C)
   (fun i _ => l.length + 4 - (intOf i).toNat)
 case atStart => exact ⟨0, 0, C, rfl, Nat.zero_le _, rfl, hJ0, fun _ h => .inl h, HB.out, ja.refl _ _⟩
 case round =>
   obtain ⟨k, j, C', HJK, HK, rfl, hJs, hsub, hbd', hkw⟩ := hrel
   have nC : ∀ i, jfi b b1 b2 i → ¬ C i := fun i h hc => (HC.out i hc).2 h
   have d1 := cell_of_heap (o := 0) (hkw.same HB1.out (nC _ (.inr (.inl rfl))))
   have d2 := cell_of_heap (o := 0) (hkw.same HB2.out (nC _ (.inr (.inr rfl))))
   simp at d1 d2
   have hch' : Chs wr (.slice (some ⟨b, o, none⟩) l.length c) l := HCH.out.keep hkw (fun _ p' n' c' e hc => nC _ (.inl (by cases e; rfl)) hc)
   rcases Nat.lt_or_ge j l.length with hlt | hge
   · have HCH' := hide hch'
     clear hch'
     have d1d : wr.drew.cell? ⟨b1, 0, none⟩ = some (.slice (some ⟨b, o, none⟩) l.length c) := d1
     have d2d : wr.drew.cell? ⟨b2, 0, none⟩ = some (.int .i64 4) := d2
     have hq1 : j ≤ c := by have := HCAP.out; omega
     obtain ⟨M, hM⟩ : ∃ M, M = Qw l.length j := ⟨_, rfl⟩
     have hMi : (if ((l.length - j : Nat) : Int) < 4 then ((l.length - j : Nat) : Int) else 4) = (M : Int) := by
       rw [hM]
       unfold Qw
       split <;> omega
     have hM2 : 1 ≤ M ∧ j + M ≤ l.length ∧ M ≤ 4 := by rw [hM]; unfold Qw; omega
     have hw1 : IntKind.i64.wrap ((j : Int) + (M : Int)) = ((j + M : Nat) : Int) := by rw [wrap_i64 (by omega) (by omega)]; omega
     have hcan : jhq l.length (List.range k) k wr := ⟨rfl, by have := HJK.out; omega⟩
     have hjm : j + M - j = M := by omega
     have HM := hide hM
     have HM2 := hide hM2
     have hm1 : (j : Int) ≤ ((j + M : Nat) : Int) := by omega
     have hm2 : ((j + M : Nat) : Int) ≤ (c : Int) := by have := HCAP.out; omega
     have hm3 : j ≤ j + M := by omega
     have hm4 : j + M ≤ c := by have := HCAP.out; omega
     clear hM hM2
     gi_wp2
     refine wpIn_wide.2 ?_
     go_quiet (fail)
     have d1q : (wr.drewN nq).cell? ⟨b1, 0, none⟩ = some (.slice (some ⟨b, o, none⟩) l.length c) := d1
     have kd := ja.drewN wr nq (fun _ => False)
     obtain ⟨fn, tmps, assign, body, hy, hR⟩ := hY (List.range k) k C' (wr.drewN nq) (aJ _ _ _ _ hJs (Qn kd)) (fun i hi => hbd' i hi) hcan
     simp only [jg9, jbe, ← HJK.out, ← HM.out] at hy
     have HR := hide hR
     clear hR hcan
     gi_wp2
     refine ⟨fun h => by simp [Fence.wide] at h, HR.out.mono ?_⟩
     rintro e W3 ⟨C2, hs2, hb2, hk2, ⟨rfl, hJ3⟩ | ⟨rfl, hJx3⟩⟩
     · have hkk : ja W W3 C := (hkw.trans (kd.mono (fun _ _ h => h.elim)) (fun _ _ h => h)).trans hk2 (fun i hi hc => (hsub i hc).resolve_right (by omega))
       have d2q := cell_of_heap (o := 0) (hkk.same HB2.out (nC _ (.inr (.inr rfl))))
       simp at d2q
       have hw2 : IntKind.i64.wrap ((j : Int) + 4) = ((j + 4 : Nat) : Int) := by rw [wrap_i64 (by omega) (by omega)]; omega
       gi_wp2
       go_roundw
       case rel =>
         have h4 := HJK.out
         refine ⟨k + 1, j + 4, C2, (show j + 4 = 4 * (k + 1) from by omega), (show k + 1 ≤ (l.length + 3) / 4 from by omega), by simp, by rw [List.range_succ]; exact hJ3, fun i hi => ?_, hb2, hkk⟩
         rcases hs2 i hi with h | h
         · exact hsub i h
         · have := hkw.size
           have := kd.size
           exact .inr (by omega)
       case measure => simp [intOf]; omega
     · have hkk : ja W W3 C := (hkw.trans (kd.mono (fun _ _ h => h.elim)) (fun _ _ h => h)).trans hk2 (fun i hi hc => (hsub i hc).resolve_right (by omega))
       gi_wp2
       refine bodyPost_ret (results_none rfl _ _ _) rfl ?_
       refine ⟨C2, fun i hi => ?_, hb2, ⟨_, rfl⟩, .inr ⟨_, trivial, hJx3⟩⟩
       rcases hs2 i hi with h | h
       · exact hsub i h
       · have := hkw.size
         have := kd.size
         exact .inr (by omega)
   · have hkn : k = (l.length + 3) / 4 := by have := HJK.out; have := HK.out; omega
     have HKN := hide hkn
     clear hkn hch'
     gi_wp2
     go_end0
     refine ⟨C', hsub, hbd', ⟨_, rfl⟩, .inl ⟨_, ?_, hJs⟩⟩
     show List.range k = _
     rw [HKN.out]
set_option maxRecDepth 100000 in
theorem jcz (v : Value) (w : World) (hv : v.oneCell' = true) :
   Calls Tryz.prog 162 #[v, .int .i64 4] w fun e w' => e = .returned (.func (.func 195) #[] #[.pointer (some ⟨w.heap.size, 0, none⟩), .pointer (some ⟨w.heap.size + 1, 0, none⟩)]) ∧
     w' = (w.alloc (.cells #[v] 38)).alloc (.cells #[.int .i64 4] 3) := by
 go_enter Tryz.func162, Tryz.ntmps162
 go_wp2
 go_ret
 exact ⟨rfl, rfl⟩
end Go.Proofs.YtnipbplghijdmaaGreatDoor
