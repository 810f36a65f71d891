/-
  La: HeapA HeapB HeapC HeapD MergeA.
-/
import Derived.Deep.QuietTactic
import Derived.BigQuiet
import Derived.BigRegion
import Derived.Deep.DeepMust
import Derived.Test.YtnipbplghijdmaaGreatDoorLa01
import Derived.Test.YtnipbplghijdmaaGreatDoorLa17
import Derived.Test.YtnipbplghijdmaaGreatDoorLa16
import Derived.Test.YtnipbplghijdmaaGreatDoorLa04
import Derived.Test.YtnipbplghijdmaaGreatDoorLa14
import Derived.Test.YtnipbplghijdmaaGreatDoorLa20
import Derived.Test.YtnipbplghijdmaaGreatDoorLa24
namespace Go.Proofs.YtnipbplghijdmaaGreatDoor
open Go.RowKit Go.Maps Go.WideShapes
set_option linter.unusedVariables false
theorem Tz {P : Program} {w : World} (a : Addr) (xt ty : TypeId) (s t : String) : (Builtin.ssaWrapNilChk_ #[xt] ty #[.pointer (some a), strVal s, strVal t]).run P w = .ok (.pointer (some a)) w := rfl
theorem jdp {P : Program} {w : World} {t : TypeId} {i : TypeInfo} (h : P.info? t = some i) : (typeInfo t).run P w = .ok i w := by
 simp [typeInfo, Sem.run_bind, Result.andThen, go_sem, h]
theorem Cu {P : Program} {fuel : Nat} {t elem : TypeId} {f : FuncId} {name : String} {i : TypeInfo} {m : Method} {a : Addr} {v : Value} {w : World} (hi : P.info? t = some i) (hm : i.methods.find? (·.name == name) = some m) (hp : m.path = #[]) (hf : m.func = some (f, false)) (hu : P.underlying t = some (.pointer elem))
   (hag : (isAgg elem).run P w = .ok false w) (hload : w.cell? a = some v) : (Go.method (fuel + 1) t (.pointer (some a)) name).run P w = .ok (f, v) w := by
 simp [Go.method, Sem.run_bind, jdp hi, run_underlying hu, hm, hp, hf, hag, hload, Result.andThen, follow, receiverAt, Place.get, Tz, go_sem]
theorem rowOf {i : TypeInfo} {name : String} {r : Nat × Option (FuncId × Bool)} (h : (i.methods.find? (·.name == name)).map (fun m => (m.path.size, m.func)) = some r) : ∃ m, i.methods.find? (·.name == name) = some m ∧ m.path.size = r.1 ∧ m.func = r.2 := by
 obtain ⟨m, h1, h2⟩ := Option.map_eq_some_iff.1 h
 exact ⟨m, h1, by rw [← h2], by rw [← h2]⟩
theorem Df (w : World) : (isAgg 285).run Tryz.prog w = .ok false w := by kernel_rfl
theorem ib : (Tryz.prog.info? 241).map (fun i => ((i.methods.find? (·.name == "Len")).map (fun m => (m.path.size, m.func)), (i.methods.find? (·.name == "Less")).map (fun m => (m.path.size, m.func)), (i.methods.find? (·.name == "Swap")).map (fun m => (m.path.size, m.func)))) =
   some (some (0, some (173, false)), some (0, some (298, false)), some (0, some (301, false))) := by kernel_rfl
theorem Fh {w : World} {b : Nat} {v : Value} (h : w.cell? ⟨b, 0, none⟩ = some v) : (Go.method 505 241 (.pointer (some ⟨b, 0, none⟩)) "Len").run Tryz.prog w = .ok (173, v) w := by
 obtain ⟨i, hi, hr⟩ := Option.map_eq_some_iff.1 ib
 obtain ⟨m, h1, h2, h3⟩ := rowOf (r := (0, some (173, false))) (congrArg Prod.fst hr)
 exact Cu (fuel := 504) hi h1 (Array.eq_empty_of_size_eq_zero h2) h3 Tryz.underlying241 (Df w) h
theorem Cv {w : World} {b : Nat} {v : Value} (h : w.cell? ⟨b, 0, none⟩ = some v) : (Go.method 505 241 (.pointer (some ⟨b, 0, none⟩)) "Less").run Tryz.prog w = .ok (298, v) w := by
 obtain ⟨i, hi, hr⟩ := Option.map_eq_some_iff.1 ib
 obtain ⟨m, h1, h2, h3⟩ := rowOf (r := (0, some (298, false))) (congrArg (fun x => x.2.1) hr)
 exact Cu (fuel := 504) hi h1 (Array.eq_empty_of_size_eq_zero h2) h3 Tryz.underlying241 (Df w) h
theorem ax {w : World} {b : Nat} {v : Value} (h : w.cell? ⟨b, 0, none⟩ = some v) : (Go.method 505 241 (.pointer (some ⟨b, 0, none⟩)) "Swap").run Tryz.prog w = .ok (301, v) w := by
 obtain ⟨i, hi, hr⟩ := Option.map_eq_some_iff.1 ib
 obtain ⟨m, h1, h2, h3⟩ := rowOf (r := (0, some (301, false))) (congrArg (fun x => x.2.2) hr)
 exact Cu (fuel := 504) hi h1 (Array.eq_empty_of_size_eq_zero h2) h3 Tryz.underlying241 (Df w) h
theorem Wu (v : Value) (w : World) : (Go.method 505 241 v "Push").run Tryz.prog w = .ok (300, v) w := by kernel_rfl
theorem jcf (v : Value) (w : World) : (Go.method 505 241 v "Pop").run Tryz.prog w = .ok (299, v) w := by kernel_rfl
abbrev HS := Value × Ref.Source
def zk (ps : List HS) : List Value := ps.flatMap fun p => [p.1, j4 p.2.age]
theorem Zi (ps : List HS) : (zk ps).length = ps.length * 2 := by
 induction ps with
 | nil => rfl
 | cons p r ih => simp only [zk, List.flatMap_cons, List.length_append, List.length_cons, List.length_nil] at ih ⊢; omega
theorem Tu {ps : List HS} {k : Nat} {p : HS} (h : ps[k]? = some p) : (zk ps)[k * 2]? = some p.1 ∧ (zk ps)[k * 2 + 1]? = some (j4 p.2.age) := by
 induction ps generalizing k with
 | nil => simp at h
 | cons q r ih =>
   have e : zk (q :: r) = [q.1, j4 q.2.age] ++ zk r := by simp [zk]
   rw [e]
   cases k with
   | zero => cases h; simp
   | succ k =>
     have := ih (k := k) (by simpa using h)
     constructor
     · rw [List.getElem?_append_right (by simp; omega)]
       simpa [show (k + 1) * 2 - 2 = k * 2 by omega] using this.1
     · rw [List.getElem?_append_right (by simp; omega)]
       simpa [show (k + 1) * 2 + 1 - 2 = k * 2 + 1 by omega] using this.2
structure xe (W : World) (base hb : Nat) (v : Value) (ps : List HS) : Prop where
 box : W.heap[hb]? = some (.cells #[v] 285 (0, 0))
 row : W.ownsRow base 288 2 v ps.length (zk ps)
 ne : v.ownBlock ≠ some hb
 has : ∀ p ∈ ps, Chs W p.1 p.2.entries ∧ ∀ ad n c, p.1 = .slice (some ad) n c → ad.block ≠ hb ∧ v.ownBlock ≠ some ad.block
theorem xe.cell {W : World} {base hb : Nat} {v : Value} {ps : List HS} (h : xe W base hb v ps) : W.cell? ⟨hb, 0, none⟩ = Option.some v := (cell_of_heap h.box).trans rfl
theorem xe.src {W : World} {base hb : Nat} {v : Value} {ps : List HS} (h : xe W base hb v ps) {k : Nat} {p : HS} (hp : ps[k]? = Option.some p) :
   ∃ g cap, v = .slice (Option.some ⟨g, 0, none⟩) ps.length cap ∧ ps.length ≤ cap ∧ W.cell? ⟨g, k * 2, none⟩ = Option.some p.1 ∧ W.cell? ⟨g, k * 2 + 1, none⟩ = Option.some (j4 p.2.age) := by
 have hk := (List.getElem?_eq_some_iff.1 hp).1
 obtain ⟨c1, c2⟩ := Tu hp
 rcases h.row.2 with ⟨rfl, h0⟩ | ⟨g, cap, cur, rfl, hb1, hb2, hb3, _⟩
 · omega
 · refine ⟨g, cap, rfl, hb3, ?_, ?_⟩
   · have := h.row.cells rfl _ _ c1; rwa [add_zero] at this
   · have := h.row.cells rfl _ _ c2; rwa [add_zero] at this
theorem jdf {W : World} {v : Value} {l : List Ref.Ch} (h : Chs W v l) (hl : l ≠ []) : ∃ b o cap, v = .slice (some ⟨b, o, none⟩) l.length cap ∧ l.length ≤ cap ∧ W.cell? ⟨b, o, none⟩ = some (jc ((l.head?.map Ref.Ch.key).getD [])) := by
 obtain ⟨p, c, rfl, h1, h2, h3, h4⟩ := id h
 have hpos : 0 < l.length := List.length_pos_iff.2 hl
 obtain ⟨b, o, rfl, e0, e1, e2⟩ := h.at hpos
 refine ⟨b, o, c, rfl, h1, ?_⟩
 cases l with
 | nil => exact (hl rfl).elim
 | cons x r => simpa using e0
set_option maxRecDepth 100000 in
theorem Ef (p : Option Addr) (n c : Nat) (w : World) (hn : n < 1099511627776) : Calls Tryz.prog 173 #[.slice p n c] w fun e w' => e = .returned (j4 n) ∧ w' = w := by
 go_enter Tryz.func173, Tryz.ntmps173
 go_wp2
 go_ret
 exact ⟨rfl, rfl⟩
set_option maxHeartbeats 1000000 in
set_option maxRecDepth 100000 in
theorem jeo {W : World} {base hb : Nat} {v : Value} {ps : List HS} (H : xe W base hb v ps) {i j : Nat} {p q : HS} (hi : ps[i]? = some p) (hj : ps[j]? = some q) (hpe : p.2.entries ≠ []) (hqe : q.2.entries ≠ []) (hl : ps.length < 1048576) (ha : p.2.age < 4611686018427387904 ∧ q.2.age < 4611686018427387904) :
   Calls Tryz.prog 298 #[v, j4 i, j4 j] W fun e w' => e = .returned (.bool (p.2.less q.2)) ∧ ja W w' (fun _ => False) := by
 obtain ⟨g, cap, rfl, hcap, a1, a2⟩ := H.src hi
 obtain ⟨g', cap', e, _, c1, c2⟩ := H.src hj
 cases e
 have hi' := (List.getElem?_eq_some_iff.1 hi).1
 have hj' := (List.getElem?_eq_some_iff.1 hj).1
 have mp := List.mem_of_getElem? hi
 have mq := List.mem_of_getElem? hj
 obtain ⟨b1, o1, k1, e1, h1, t1⟩ := jdf (H.has p mp).1 hpe
 obtain ⟨b2, o2, k2, e2, h2, t2⟩ := jdf (H.has q mq).1 hqe
 have hp1 : 0 < p.2.entries.length := List.length_pos_iff.2 hpe
 have hq1 : 0 < q.2.entries.length := List.length_pos_iff.2 hqe
 rw [e1] at a1
 rw [e2] at c1
 have hless : p.2.less q.2 = (decide (p.2.top < q.2.top) || (decide (p.2.top = q.2.top) && decide (p.2.age < q.2.age))) := rfl
 unfold Ref.Source.top at hless
 generalize (p.2.entries.head?.map Ref.Ch.key).getD [] = kp at t1 hless
 generalize (q.2.entries.head?.map Ref.Ch.key).getD [] = kq at t2 hless
 generalize p.2.less q.2 = R at hless ⊢
 generalize p.2.entries.length = np at *
 generalize q.2.entries.length = nq at *
 generalize p.2.age = ap at *
 generalize q.2.age = aq at *
 have HR := hide hless
 clear hless e1 e2 H hi hj mp mq hpe hqe
 have kd : ∀ q, ja W (W.drewN q) (fun _ => False) := fun q => ⟨rfl, rfl, rfl, Nat.le_refl _, fun _ _ _ => rfl⟩
 rcases bz kp kq with ⟨hc, hv⟩ | ⟨hc, hv⟩ | ⟨hc, hv⟩
 · have HRT : Hid (R = true) := by unfold Hid; rw [HR.out]; simp [hc]
   unfold Fz at hv
   clear hc
   go_enter Tryz.func298, Tryz.ntmps298
   go_wp2_with fail
   go_quiet ((go_at_call 190; exact Calls.quiet_of_same (Tryz.strings_Compare ⟨kp.toArray⟩ ⟨kq.toArray⟩ _)))
   go_wp2
   go_ret
   exact ⟨by rw [HRT.out]; rfl, kd _⟩
 · have HRT : Hid (R = decide (ap < aq)) := by unfold Hid; rw [HR.out]; simp [hc, List.lt_irrefl]
   unfold Fz at hv
   clear hc
   have hd : decide ((ap : Int) < aq) = decide (ap < aq) := by simp
   go_enter Tryz.func298, Tryz.ntmps298
   go_wp2_with fail
   go_quiet ((go_at_call 190; exact Calls.quiet_of_same (Tryz.strings_Compare ⟨kp.toArray⟩ ⟨kq.toArray⟩ _)))
   go_wp2_with fail
   go_quiet (fail)
   go_wp2
   go_ret
   exact ⟨by rw [HRT.out]; simp, ⟨rfl, rfl, rfl, Nat.le_refl _, fun _ _ _ => rfl⟩⟩
 · have HRT : Hid (R = false) := by
     unfold Hid; rw [HR.out]
     simp [Ref.Eh hc, Ne.symm (Ref.iw hc)]
   unfold Fz at hv
   clear hc
   go_enter Tryz.func298, Tryz.ntmps298
   go_wp2_with fail
   go_quiet ((go_at_call 190; exact Calls.quiet_of_same (Tryz.strings_Compare ⟨kp.toArray⟩ ⟨kq.toArray⟩ _)))
   go_wp2
   go_ret
   exact ⟨by rw [HRT.out]; rfl, kd _⟩
set_option maxHeartbeats 1000000 in
set_option maxRecDepth 100000 in
theorem jbz {W : World} {g n cap : Nat} {i j : Nat} {p1 q1 : Value} {p2 q2 : Int} (hij : i ≠ j) (hi : i < n) (hj : j < n) (hn : n < 1048576) (hc : n ≤ cap) (hp : ∃ a b c, p1 = .slice a b c) (hq : ∃ a b c, q1 = .slice a b c)
   (a1 : W.cell? ⟨g, i * 2, none⟩ = some p1) (a2 : W.cell? ⟨g, i * 2 + 1, none⟩ = some (.int .i64 p2)) (c1 : W.cell? ⟨g, j * 2, none⟩ = some q1) (c2 : W.cell? ⟨g, j * 2 + 1, none⟩ = some (.int .i64 q2)) (hf : ∀ o, W.frozen? ⟨g, o, none⟩ = false) :
   Calls Tryz.prog 301 #[.slice (some ⟨g, 0, none⟩) n cap, j4 i, j4 j] W fun e w' => e = .returned (.tuple #[]) ∧ w' = ((((W.setCell ⟨g, i * 2, none⟩ q1).setCell ⟨g, i * 2 + 1, none⟩ (.int .i64 q2)).setCell ⟨g, j * 2, none⟩ p1).setCell ⟨g, j * 2 + 1, none⟩ (.int .i64 p2)).drew := by
 obtain ⟨pa, pb, pc, rfl⟩ := hp
 obtain ⟨qa, qb, qc, rfl⟩ := hq
 have n1 : ¬ j * 2 = i * 2 := by omega
 have n2 : ¬ j * 2 = i * 2 + 1 := by omega
 have n3 : ¬ j * 2 + 1 = i * 2 := by omega
 have n4 : ¬ j * 2 + 1 = i * 2 + 1 := by omega
 go_enter Tryz.func301, Tryz.ntmps301
 go_wp2_with fail
 go_region
 go_end0
 exact ⟨rfl, rfl⟩
set_option maxHeartbeats 1000000 in
set_option maxRecDepth 100000 in
theorem Iz {W : World} {g n cap : Nat} {i : Nat} {p1 : Value} {p2 : Int} (hi : i < n) (hn : n < 1048576) (hc : n ≤ cap) (hp : ∃ a b c, p1 = .slice a b c)
   (a1 : W.cell? ⟨g, i * 2, none⟩ = some p1) (a2 : W.cell? ⟨g, i * 2 + 1, none⟩ = some (.int .i64 p2)) (hf : ∀ o, W.frozen? ⟨g, o, none⟩ = false) :
   Calls Tryz.prog 301 #[.slice (some ⟨g, 0, none⟩) n cap, j4 i, j4 i] W fun e w' => e = .returned (.tuple #[]) ∧ w' = ((((W.setCell ⟨g, i * 2, none⟩ p1).setCell ⟨g, i * 2 + 1, none⟩ (.int .i64 p2)).setCell ⟨g, i * 2, none⟩ p1).setCell ⟨g, i * 2 + 1, none⟩ (.int .i64 p2)).drew := by
 obtain ⟨pa, pb, pc, rfl⟩ := hp
 have n2 : ¬ i * 2 = i * 2 + 1 := by omega
 have n3 : ¬ i * 2 + 1 = i * 2 := by omega
 go_enter Tryz.func301, Tryz.ntmps301
 go_wp2_with fail
 go_region
 go_end0
 exact ⟨rfl, rfl⟩
theorem Bc {w : World} {base : Nat} {e : TypeId} {size g n cap j : Nat} {xs : List Value} (h : w.ownsRow base e size (.slice (some ⟨g, 0, none⟩) n cap) n xs) (hj : j < n * size) (u : Value) : (w.setCell ⟨g, j, none⟩ u).ownsRow base e size (.slice (some ⟨g, 0, none⟩) n cap) n (xs.set j u) := by
 refine ⟨by rw [List.length_set]; exact h.1, ?_⟩
 rcases h.2 with ⟨h1, _⟩ | ⟨g', cap', cur, h1, h2, h3, h4, h5, h6, h7⟩
 · cases h1
 · cases h1
   refine .inr ⟨g, cap, cur.setIfInBounds j u, rfl, h2, jb h3 u, h4, h5, by simpa using h6, ?_⟩
   rw [Array.toList_setIfInBounds, List.take_set, h7]
theorem Dt {ps : List HS} {k : Nat} (h : k < ps.length) (q : HS) : zk (ps.set k q) = ((zk ps).set (k * 2) q.1).set (k * 2 + 1) (j4 q.2.age) := by
 induction ps generalizing k with
 | nil => simp at h
 | cons p r ih =>
   have e : ∀ (x : HS) (l : List HS), zk (x :: l) = x.1 :: j4 x.2.age :: zk l := fun x l => by simp [zk]
   cases k with
   | zero => simp [e]
   | succ k =>
     rw [List.set_cons_succ, e, e, ih (by simpa using h), show (k + 1) * 2 = k * 2 + 1 + 1 by omega, show k * 2 + 1 + 1 + 1 = (k * 2 + 1) + 1 + 1 by omega]
     simp [List.set_cons_succ]
theorem xe.frozen {W : World} {base hb : Nat} {ps : List HS} {g n cap : Nat} (h : xe W base hb (.slice (Option.some ⟨g, 0, none⟩) n cap) ps) (o : Nat) : W.frozen? ⟨g, o, none⟩ = false := by
 rcases h.row.2 with ⟨h1, _⟩ | ⟨g', cap', cur, h1, h2, h3, _⟩
 · cases h1
 · cases h1
   exact frozen_of_heap h3
theorem xe.keep {W W' : World} {base hb : Nat} {v : Value} {ps : List HS} {T : Nat → Prop} (h : xe W base hb v ps) (k : ja W W' T) (h1 : ¬ T hb) (h2 : ∀ g, v.ownBlock = Option.some g → ¬ T g) (h3 : ∀ p ∈ ps, ∀ ad n c, p.1 = .slice (Option.some ad) n c → ¬ T ad.block) : xe W' base hb v ps :=
 ⟨k.same h.box h1, k.row h.row h2, h.ne, fun p hp => ⟨(h.has p hp).1.keep k (fun _ ad n c e => h3 p hp ad n c e), (h.has p hp).2⟩⟩
theorem xe.same {W W' : World} {base hb : Nat} {v : Value} {ps : List HS} (h : xe W base hb v ps) (k : ja W W' (fun _ => False)) : xe W' base hb v ps := h.keep k id (fun _ _ => id) (fun _ _ _ _ _ _ => id)
theorem xe.jht {W : World} {base hb : Nat} {ps : List HS} {g cap : Nat} (h : xe W base hb (.slice (Option.some ⟨g, 0, none⟩) ps.length cap) ps) {i j : Nat} {p q : HS} (hi : ps[i]? = Option.some p) (hj : ps[j]? = Option.some q) :
   xe ((((W.setCell ⟨g, i * 2, none⟩ q.1).setCell ⟨g, i * 2 + 1, none⟩ (j4 q.2.age)).setCell ⟨g, j * 2, none⟩ p.1).setCell ⟨g, j * 2 + 1, none⟩ (j4 p.2.age)).drew base hb (.slice (Option.some ⟨g, 0, none⟩) ps.length cap) ((ps.set i q).set j p) ∧
   ja W ((((W.setCell ⟨g, i * 2, none⟩ q.1).setCell ⟨g, i * 2 + 1, none⟩ (j4 q.2.age)).setCell ⟨g, j * 2, none⟩ p.1).setCell ⟨g, j * 2 + 1, none⟩ (j4 p.2.age)).drew (fun i => i = g) := by
 have hi' := (List.getElem?_eq_some_iff.1 hi).1
 have hj' := (List.getElem?_eq_some_iff.1 hj).1
 have k : ja W ((((W.setCell ⟨g, i * 2, none⟩ q.1).setCell ⟨g, i * 2 + 1, none⟩ (j4 q.2.age)).setCell ⟨g, j * 2, none⟩ p.1).setCell ⟨g, j * 2 + 1, none⟩ (j4 p.2.age)).drew (fun i => i = g) :=
   (((((ja.refl W (fun i => i = g)).set (p := ⟨g, i * 2, none⟩) rfl _).set (p := ⟨g, i * 2 + 1, none⟩) rfl _).set (p := ⟨g, j * 2, none⟩) rfl _).set (p := ⟨g, j * 2 + 1, none⟩) rfl _).draw
 refine ⟨⟨k.same h.box (fun e => h.ne (by rw [e]; rfl)), ?_, h.ne, ?_⟩, k⟩
 · have hr := (((Bc (Bc (Bc (Bc h.row (j := i * 2) (by omega) q.1) (j := i * 2 + 1) (by omega) (j4 q.2.age)) (j := j * 2) (by omega) p.1) (j := j * 2 + 1) (by omega) (j4 p.2.age))))
   rw [List.length_set, List.length_set, Dt (by rw [List.length_set]; exact hj'), Dt hi']
   exact (ja.drew _ (fun _ => False)).row hr (fun _ _ => id)
 · intro x hx
   have hm : x ∈ ps := by
     rcases List.mem_or_eq_of_mem_set hx with hx | rfl
     · rcases List.mem_or_eq_of_mem_set hx with hx | rfl
       · exact hx
       · exact List.mem_of_getElem? hj
     · exact List.mem_of_getElem? hi
   exact ⟨(h.has x hm).1.keep k (fun _ ad n c e e2 => ((h.has x hm).2 ad n c e).2 (by rw [← e2]; rfl)), (h.has x hm).2⟩
theorem jdh {W : World} {base hb : Nat} {v : Value} {ps : List HS} (H : xe W base hb v ps) {i j : Nat} {p q : HS} (hi : ps[i]? = some p) (hj : ps[j]? = some q) (hl : ps.length < 1048576) :
   Calls Tryz.prog 301 #[v, j4 i, j4 j] W fun e w' => e = .returned (.tuple #[]) ∧ xe w' base hb v ((ps.set i q).set j p) ∧ ja W w' (fun i => v.ownBlock = some i) := by
 obtain ⟨g, cap, rfl, hcap, a1, a2⟩ := H.src hi
 obtain ⟨g', cap', e, _, c1, c2⟩ := H.src hj
 cases e
 have hi' := (List.getElem?_eq_some_iff.1 hi).1
 have hj' := (List.getElem?_eq_some_iff.1 hj).1
 obtain ⟨pp, pc, ep, _⟩ := (H.has p (List.mem_of_getElem? hi)).1
 obtain ⟨qp, qc, eq, _⟩ := (H.has q (List.mem_of_getElem? hj)).1
 obtain ⟨h1, h2⟩ := H.jht hi hj
 have h3 := h2.mono (U := fun i => (Value.slice (some ⟨g, 0, none⟩) ps.length cap).ownBlock = some i) (fun i _ e => by rw [e]; rfl)
 by_cases hij : i = j
 · subst hij
   rw [hi] at hj
   cases hj
   refine (Iz hi' hl hcap ⟨_, _, _, ep⟩ a1 a2 H.frozen).mono ?_
   rintro e w' ⟨rfl, rfl⟩
   exact ⟨rfl, h1, h3⟩
 · refine (jbz hij hi' hj' hl hcap ⟨_, _, _, ep⟩ ⟨_, _, _, eq⟩ a1 a2 c1 c2 H.frozen).mono ?_
   rintro e w' ⟨rfl, rfl⟩
   exact ⟨rfl, h1, h3⟩
abbrev Lh (hb : Nat) : Value := .iface 241 (.pointer (some ⟨hb, 0, none⟩))
def yg (ps : List HS) : List Ref.Source := ps.map Prod.snd
theorem Qo {ps : List HS} {k : Nat} {p : HS} (h : ps[k]? = some p) : (yg ps)[k]? = some p.2 := by unfold yg; rw [List.getElem?_map, h]; rfl
theorem I7 {ps : List HS} {k : Nat} {s : Ref.Source} (h : (yg ps)[k]? = some s) : ∃ p, ps[k]? = some p ∧ p.2 = s := by
 unfold yg at h
 rw [List.getElem?_map] at h
 obtain ⟨p, h1, h2⟩ := Option.map_eq_some_iff.1 h
 exact ⟨p, h1, h2⟩
theorem ll (ps : List HS) (i j : Nat) (p q : HS) : yg ((ps.set i q).set j p) = ((yg ps).set i q.2).set j p.2 := by unfold yg; rw [List.map_set, List.map_set]
theorem Yi {l : List HS} {i j : Nat} {a b : HS} (ha : l[i]? = some a) (hb : l[j]? = some b) : ((l.set i b).set j a).Perm l := by
 obtain ⟨hi, rfl⟩ := List.getElem?_eq_some_iff.1 ha
 obtain ⟨hj, rfl⟩ := List.getElem?_eq_some_iff.1 hb
 exact List.set_set_perm hi hj
theorem Ld {W : World} {base hb : Nat} {v : Value} {ps : List HS} (H : xe W base hb v ps) {i j : Nat} {x y : Int} {p q : HS} (hx : x = i) (hy : y = j) (hi : ps[i]? = some p) (hj : ps[j]? = some q) (hpe : p.2.entries ≠ []) (hqe : q.2.entries ≠ []) (hl : ps.length < 1048576) (ha : ∀ p ∈ ps, p.2.age < 4611686018427387904) :
   Calls Tryz.prog 298 #[v, .int .i64 x, .int .i64 y] W fun e w' => e = .returned (.bool (p.2.less q.2)) ∧ ja W w' (fun _ => False) := by
 subst hx hy
 exact jeo H hi hj hpe hqe hl ⟨ha p (List.mem_of_getElem? hi), ha q (List.mem_of_getElem? hj)⟩
theorem I1 {W : World} {base hb : Nat} {v : Value} {ps : List HS} (H : xe W base hb v ps) {i j : Nat} {x y : Int} {p q : HS} (hx : x = i) (hy : y = j) (hi : ps[i]? = some p) (hj : ps[j]? = some q) (hl : ps.length < 1048576) :
   Calls Tryz.prog 301 #[v, .int .i64 x, .int .i64 y] W fun e w' => e = .returned (.tuple #[]) ∧ xe w' base hb v ((ps.set i q).set j p) ∧ ja W w' (fun i => v.ownBlock = some i) := by
 subst hx hy
 exact jdh H hi hj hl
set_option maxHeartbeats 2000000 in
set_option maxRecDepth 100000 in
theorem jgr {W : World} {base hb : Nat} {v : Value} {ps : List HS} {j : Nat} (H : xe W base hb v ps) (hs : ∀ p ∈ ps, p.2.entries ≠ []) (U : Ref.og (yg ps) j) (hj : j < ps.length) (hl : ps.length < 1048576) (ha : ∀ p ∈ ps, p.2.age < 4611686018427387904) :
   Calls Tryz.prog 233 #[Lh hb, j4 j] W fun e w' => e = .returned (.tuple #[]) ∧ ∃ qs, qs.Perm ps ∧ xe w' base hb v qs ∧ Ref.Qd (yg qs) qs.length ∧ ja W w' (fun i => v.ownBlock = some i) := by
 go_enter Tryz.func233, Tryz.ntmps233
 go_wp2_with fail
 go_loopw [1] (fun jv wr => ∃ (k : Nat) (qs : List HS), jv = .int .i64 k ∧ k < ps.length ∧ qs.Perm ps ∧ xe wr base hb v qs ∧ Ref.og (yg qs) k ∧ ja W wr (fun i => v.ownBlock = some i))
   (fun jv _ => (intOf jv).toNat)
 case atStart => exact ⟨j, ps, rfl, hj, List.Perm.refl _, H, U, ja.refl _ _⟩
 case round =>
   obtain ⟨k, qs, rfl, hk, hp, Hq, Uq, hkw⟩ := hrel
   have hlq : qs.length = ps.length := hp.length_eq
   by_cases h0 : k = 0
   · subst h0
     go_wp2
     go_end0
     refine ⟨rfl, qs, hp, Hq, ?_, hkw⟩
     have := Uq.done (.inl rfl)
     unfold yg at this ⊢
     rwa [List.length_map] at this
   · have hne : ((((k : Int) - 1) / 2) == (k : Int)) = false := by rw [beq_eq_false_iff_ne]; omega
     obtain ⟨q, hq⟩ : ∃ q, qs[k]? = some q := ⟨_, List.getElem?_eq_getElem (by omega)⟩
     obtain ⟨p, hpp⟩ : ∃ p, qs[(k - 1) / 2]? = some p := ⟨_, List.getElem?_eq_getElem (by omega)⟩
     have mL := Cv Hq.cell
     have h1 : 1 ≤ k := by omega
     have haq : ∀ p ∈ qs, p.2.age < 4611686018427387904 := fun p h => ha p (hp.mem_iff.1 h)
     have hlq2 : qs.length < 1048576 := by omega
     have HQ := hide hq
     have HP := hide hpp
     clear h0 hq hpp
     go_wp2_with fail
     refine (Ld Hq (i := k) (j := (k - 1) / 2) rfl (by omega) HQ.out HP.out (hs q (hp.mem_iff.1 (List.mem_of_getElem? HQ.out))) (hs p (hp.mem_iff.1 (List.mem_of_getElem? HP.out))) hlq2 haq).mono ?_
     rintro e w1 ⟨rfl, k1⟩
     have H1 := Hq.same k1
     cases hb0 : q.2.less p.2 with
     | false =>
       have HB := hide hb0
       clear hb0
       go_wp2
       go_end0
       refine ⟨rfl, qs, hp, H1, ?_, hkw.trans k1 (fun _ _ h => h.elim)⟩
       have := Uq.done (.inr ⟨p.2, q.2, Qo HP.out, Qo HQ.out, HB.out⟩)
       unfold yg at this ⊢
       rwa [List.length_map] at this
     | true =>
       have HB := hide hb0
       clear hb0
       have mS := ax H1.cell
       go_wp2_with fail
       refine (I1 H1 (i := (k - 1) / 2) (j := k) (by omega) rfl HP.out HQ.out hlq2).mono ?_
       rintro e w2 ⟨rfl, H2, k2⟩
       go_wp2
       go_roundw
       case rel =>
         refine ⟨(k - 1) / 2, _, by rw [show ((k : Int) - 1) / 2 = (((k - 1) / 2 : Nat) : Int) by omega], by omega, (Yi HP.out HQ.out).trans hp, H2, ?_, (hkw.trans k1 (fun _ _ h => h.elim)).trans k2 (fun _ _ h => h)⟩
         rw [ll]
         exact Uq.step h1 (Qo HP.out) (Qo HQ.out) HB.out
       case measure => simp [intOf]; omega
theorem ou {qs : List HS} {n i j : Nat} {p q : HS} (h : ∀ k p, k < n → qs[k]? = some p → p.2.entries ≠ []) (hi : i < n) (hj : j < n) (hp : qs[i]? = some p) (hq : qs[j]? = some q) : ∀ k x, k < n → ((qs.set i q).set j p)[k]? = some x → x.2.entries ≠ [] := by
 intro k x hk hx
 have h1 := (List.getElem?_eq_some_iff.1 hp).1
 have h2 := (List.getElem?_eq_some_iff.1 hq).1
 by_cases e : k = j
 · subst e
   rw [List.getElem?_set_self (by rw [List.length_set]; exact h2)] at hx
   cases hx
   exact h i p hi hp
 · rw [List.getElem?_set_ne (by omega)] at hx
   by_cases e2 : k = i
   · subst e2
     rw [List.getElem?_set_self h1] at hx
     cases hx
     exact h j q hj hq
   · rw [List.getElem?_set_ne (by omega)] at hx
     exact h k x hk hx
def V7 (W : World) (base hb : Nat) (v : Value) (ps : List HS) (n : Nat) (e : Ending) (w' : World) : Prop :=
 ∃ (mv : Bool) (qs : List HS), e = .returned (.bool mv) ∧ qs.Perm ps ∧ xe w' base hb v qs ∧ Ref.Qd (yg qs) n ∧ (∀ k, n ≤ k → qs[k]? = ps[k]?) ∧ ja W w' (fun i => v.ownBlock = some i)
set_option maxHeartbeats 4000000 in
set_option maxRecDepth 100000 in
theorem je2 {W : World} {base hb : Nat} {v : Value} {ps : List HS} {n : Nat} (H : xe W base hb v ps) (hs : ∀ k p, k < n → ps[k]? = some p → p.2.entries ≠ []) (U : Ref.Qk (yg ps) 0 n) (hn : n ≤ ps.length) (hl : ps.length < 1048576) (ha : ∀ p ∈ ps, p.2.age < 4611686018427387904) :
   Calls Tryz.prog 234 #[Lh hb, .int .i64 0, j4 n] W (V7 W base hb v ps n) := by
 go_enter Tryz.func234, Tryz.ntmps234
 go_wp2_with fail
 go_loopw [7] (fun iv wr => ∃ (k : Nat) (qs : List HS), iv = .int .i64 k ∧ k ≤ ps.length ∧ qs.Perm ps ∧ xe wr base hb v qs ∧ Ref.Qk (yg qs) k n ∧ (∀ k, n ≤ k → qs[k]? = ps[k]?) ∧ (∀ k p, k < n → qs[k]? = some p → p.2.entries ≠ []) ∧ ja W wr (fun i => v.ownBlock = some i))
   (fun iv _ => ps.length - (intOf iv).toNat)
 case atStart => exact ⟨0, ps, rfl, Nat.zero_le _, List.Perm.refl _, H, U, fun _ _ => rfl, hs, ja.refl _ _⟩
 case round =>
   obtain ⟨k, qs, rfl, hk, hp, Hq, Uq, hsame, hsq, hkw⟩ := hrel
   have hlq : qs.length = ps.length := hp.length_eq
   have haq : ∀ p ∈ qs, p.2.age < 4611686018427387904 := fun p h => ha p (hp.mem_iff.1 h)
   have hlq2 : qs.length < 1048576 := by omega
   have HSM := hide hsame
   have HSQ := hide hsq
   clear hsame hsq
   by_cases h1 : n ≤ 2 * k + 1
   · have h1' : (n : Int) ≤ 2 * (k : Int) + 1 := by omega
     go_wp2
     go_ret
     exact ⟨_, qs, rfl, hp, Hq, Uq.none h1, HSM.out, hkw⟩
   · have h1' : 2 * (k : Int) + 1 < (n : Int) := by omega
     obtain ⟨p, hpp⟩ : ∃ p, qs[k]? = some p := ⟨_, List.getElem?_eq_getElem (by omega)⟩
     obtain ⟨q, hq⟩ : ∃ q, qs[2 * k + 1]? = some q := ⟨_, List.getElem?_eq_getElem (by omega)⟩
     have mL := Cv Hq.cell
     have HP := hide hpp
     have HQ := hide hq
     clear hpp hq
     by_cases h2 : 2 * k + 2 < n
     · have h2' : 2 * (k : Int) + 1 + 1 < (n : Int) := by omega
       obtain ⟨r, hr⟩ : ∃ r, qs[2 * k + 2]? = some r := ⟨_, List.getElem?_eq_getElem (by omega)⟩
       have HR := hide hr
       clear hr
       go_wp2_with fail
       refine (Ld Hq (i := 2 * k + 2) (j := 2 * k + 1) (by omega) (by omega) HR.out HQ.out (HSQ.out _ r h2 HR.out) (HSQ.out _ q (by omega) HQ.out) hlq2 haq).mono ?_
       rintro e w4 ⟨rfl, k4⟩
       have H4 := Hq.same k4
       have mL4 := Cv H4.cell
       cases hb4 : r.2.less q.2 with
       | true =>
         have HMIN : Hid (∀ m c, (m = 2 * k + 1 ∨ m = 2 * k + 2) → m < n → (yg qs)[m]? = some c → r.2.le c) := by
           intro m c hm _ hc
           obtain ⟨x, hx, rfl⟩ := I7 hc
           rcases hm with rfl | rfl
           · rw [HQ.out] at hx; cases hx; exact Ref.Source.Cy hb4
           · rw [HR.out] at hx; cases hx; exact Ref.Source.le_refl _
         clear hb4
         go_wp2_with fail
         refine (Ld H4 (i := 2 * k + 2) (j := k) (by omega) rfl HR.out HP.out (HSQ.out _ r (by omega) HR.out) (HSQ.out _ p (by omega) HP.out) hlq2 haq).mono ?_
         rintro e w5 ⟨rfl, k5⟩
         have H5 := H4.same k5
         cases hb5 : r.2.less p.2 with
         | false =>
           have HB5 := hide hb5
           clear hb5
           go_wp2
           go_ret
           exact ⟨_, qs, rfl, hp, H5, Uq.done (j := 2 * k + 2) (by omega) (by omega) (Qo HP.out) (Qo HR.out) HB5.out HMIN.out, HSM.out, hkw.trans (k4.trans k5 (fun _ _ h => h)) (fun _ _ h => h.elim)⟩
         | true =>
           have HB5 := hide hb5
           clear hb5
           have mS := ax H5.cell
           go_wp2_with fail
           refine (I1 H5 (i := k) (j := 2 * k + 2) rfl (by omega) HP.out HR.out hlq2).mono ?_
           rintro e w6 ⟨rfl, H6, k6⟩
           go_wp2
           go_roundw
           case rel =>
             refine ⟨2 * k + 2, _, by first | (congr 1; done) | (congr 1; omega), by omega, (Yi HP.out HR.out).trans hp, H6, ?_, fun m hm => ?_, ou HSQ.out (by omega) (by omega) HP.out HR.out, (hkw.trans (k4.trans k5 (fun _ _ h => h)) (fun _ _ h => h.elim)).trans k6 (fun _ _ h => h)⟩
             · rw [ll]
               exact Uq.step (j := 2 * k + 2) (by omega) (by omega) (Qo HP.out) (Qo HR.out) HB5.out HMIN.out
             · rw [List.getElem?_set_ne (by omega), List.getElem?_set_ne (by omega)]
               exact HSM.out m hm
           case measure => simp [intOf]; omega
       | false =>
         have HMIN : Hid (∀ m c, (m = 2 * k + 1 ∨ m = 2 * k + 2) → m < n → (yg qs)[m]? = some c → q.2.le c) := by
           intro m c hm _ hc
           obtain ⟨x, hx, rfl⟩ := I7 hc
           rcases hm with rfl | rfl
           · rw [HQ.out] at hx; cases hx; exact Ref.Source.le_refl _
           · rw [HR.out] at hx; cases hx; exact hb4
         clear hb4
         go_wp2_with fail
         refine (Ld H4 (i := 2 * k + 1) (j := k) (by omega) rfl HQ.out HP.out (HSQ.out _ q (by omega) HQ.out) (HSQ.out _ p (by omega) HP.out) hlq2 haq).mono ?_
         rintro e w5 ⟨rfl, k5⟩
         have H5 := H4.same k5
         cases hb5 : q.2.less p.2 with
         | false =>
           have HB5 := hide hb5
           clear hb5
           go_wp2
           go_ret
           exact ⟨_, qs, rfl, hp, H5, Uq.done (j := 2 * k + 1) (by omega) (by omega) (Qo HP.out) (Qo HQ.out) HB5.out HMIN.out, HSM.out, hkw.trans (k4.trans k5 (fun _ _ h => h)) (fun _ _ h => h.elim)⟩
         | true =>
           have HB5 := hide hb5
           clear hb5
           have mS := ax H5.cell
           go_wp2_with fail
           refine (I1 H5 (i := k) (j := 2 * k + 1) rfl (by omega) HP.out HQ.out hlq2).mono ?_
           rintro e w6 ⟨rfl, H6, k6⟩
           go_wp2
           go_roundw
           case rel =>
             refine ⟨2 * k + 1, _, by first | (congr 1; done) | (congr 1; omega), by omega, (Yi HP.out HQ.out).trans hp, H6, ?_, fun m hm => ?_, ou HSQ.out (by omega) (by omega) HP.out HQ.out, (hkw.trans (k4.trans k5 (fun _ _ h => h)) (fun _ _ h => h.elim)).trans k6 (fun _ _ h => h)⟩
             · rw [ll]
               exact Uq.step (j := 2 * k + 1) (by omega) (by omega) (Qo HP.out) (Qo HQ.out) HB5.out HMIN.out
             · rw [List.getElem?_set_ne (by omega), List.getElem?_set_ne (by omega)]
               exact HSM.out m hm
           case measure => simp [intOf]; omega
     · have h2' : decide (2 * (k : Int) + 1 + 1 < (n : Int)) = false := by simp; omega
       have HMIN : Hid (∀ m c, (m = 2 * k + 1 ∨ m = 2 * k + 2) → m < n → (yg qs)[m]? = some c → q.2.le c) := by
         intro m c hm hmn hc
         obtain ⟨x, hx, rfl⟩ := I7 hc
         rcases hm with rfl | rfl
         · rw [HQ.out] at hx; cases hx; exact Ref.Source.le_refl _
         · omega
       go_wp2_with fail
       refine (Ld Hq (i := 2 * k + 1) (j := k) (by omega) rfl HQ.out HP.out (HSQ.out _ q (by omega) HQ.out) (HSQ.out _ p (by omega) HP.out) hlq2 haq).mono ?_
       rintro e w5 ⟨rfl, k5⟩
       have H5 := Hq.same k5
       cases hb5 : q.2.less p.2 with
       | false =>
         have HB5 := hide hb5
         clear hb5
         go_wp2
         go_ret
         exact ⟨_, qs, rfl, hp, H5, Uq.done (j := 2 * k + 1) (by omega) (by omega) (Qo HP.out) (Qo HQ.out) HB5.out HMIN.out, HSM.out, hkw.trans k5 (fun _ _ h => h.elim)⟩
       | true =>
         have HB5 := hide hb5
         clear hb5
         have mS := ax H5.cell
         go_wp2_with fail
         refine (I1 H5 (i := k) (j := 2 * k + 1) rfl (by omega) HP.out HQ.out hlq2).mono ?_
         rintro e w6 ⟨rfl, H6, k6⟩
         go_wp2
         go_roundw
         case rel =>
           refine ⟨2 * k + 1, _, by first | (congr 1; done) | (congr 1; omega), by omega, (Yi HP.out HQ.out).trans hp, H6, ?_, fun m hm => ?_, ou HSQ.out (by omega) (by omega) HP.out HQ.out, (hkw.trans k5 (fun _ _ h => h.elim)).trans k6 (fun _ _ h => h)⟩
           · rw [ll]
             exact Uq.step (j := 2 * k + 1) (by omega) (by omega) (Qo HP.out) (Qo HQ.out) HB5.out HMIN.out
           · rw [List.getElem?_set_ne (by omega), List.getElem?_set_ne (by omega)]
             exact HSM.out m hm
         case measure => simp [intOf]; omega
theorem jc7 (v : Value) (xT : TypeId) (w : World) : (Instr.typeAssert (.iface 288 v) xT 288 false).run Tryz.prog w = .ok v w := by kernel_rfl
def jhh : Value := .agg #[.slice none 0 0, .int .i64 0]
theorem Tryz.jf6 : (Tryz.prog.info? 288).map (fun i => (i.zero, i.size, i.bytes)) = some (some jhh, 2, 32) := by kernel_rfl
theorem Pj (ps : List HS) (hs : ∀ p ∈ ps, ∃ a b c, p.1 = .slice a b c) : ∀ u ∈ zk ps, u.oneCell' = true := by
 intro u hu
 simp only [zk, List.mem_flatMap] at hu
 obtain ⟨p, hp, hu⟩ := hu
 obtain ⟨a, b, c, e⟩ := hs p hp
 simp at hu
 rcases hu with rfl | rfl
 · rw [e]; rfl
 · rfl
theorem Br (ps : List HS) (p : HS) : zk (ps ++ [p]) = zk ps ++ zk [p] := by simp [zk]
def jfe (W : World) (base hb : Nat) (v : Value) (ps : List HS) (p : HS) (w' : World) (v' : Value) : Prop :=
 xe w' base hb v' (ps ++ [p]) ∧ (v'.ownBlock = v.ownBlock ∨ ∃ g, v'.ownBlock = some g ∧ W.heap.size ≤ g) ∧ ja W w' (fun i => i = hb ∨ v.ownBlock = some i)
set_option maxHeartbeats 1000000 in
set_option maxRecDepth 100000 in
theorem jdz {W : World} {base hb : Nat} {v : Value} {ps : List HS} (H : xe W base hb v ps) (hs : ∀ p ∈ ps, p.2.entries ≠ []) (p : HS) (hp : Chs W p.1 p.2.entries) (hne : p.2.entries ≠ []) (hap : ∀ ad n c, p.1 = .slice (some ad) n c → ad.block ≠ hb ∧ v.ownBlock ≠ some ad.block) (hl : ps.length + 1 < 1048576) (hbase : base ≤ W.heap.size) :
   Calls Tryz.prog 300 #[.pointer (some ⟨hb, 0, none⟩), .iface 288 (.agg #[p.1, j4 p.2.age])] W fun e w' => e = .returned (.tuple #[]) ∧ ∃ v', jfe W base hb v ps p w' v' := by
 obtain ⟨j0, hj, hy0, hy1, hy2⟩ := info_parts Tryz.jf6
 obtain ⟨pv, cv, rfl⟩ := jh H.row
 have c0 := H.cell
 have f0 := frozen_of_heap (o := 0) H.box
 have HH := hide H
 clear H
 obtain ⟨pl, sc⟩ := p
 obtain ⟨se, ag⟩ := sc
 simp only at hp hne hap ⊢
 obtain ⟨pp, pc, rfl, _⟩ := id hp
 have hrow1 := hide (HH.out.row.alloc (.cells #[.slice pp se.length pc, j4 ag] 288))
 have hnew : ∀ j u, (zk [((.slice pp se.length pc, ⟨se, ag⟩) : HS)])[j]? = some u → (W.alloc (.cells #[.slice pp se.length pc, j4 ag] 288)).cell? ((⟨W.heap.size, 0, none⟩ : Addr).add j) = some u := Qc (jd W _) rfl
 have hone := Pj [((.slice pp se.length pc, ⟨se, ag⟩) : HS)] (fun p hp => by simp at hp; subst hp; exact ⟨_, _, _, rfl⟩)
 have h63 : Hid (ps.length + 1 ≤ maxLen) := by unfold Hid maxLen; omega
 have hbs : Hid ((ps.length + 1) * 32 ≤ 140737488355328) := by unfold Hid; omega
 have hbb : Hid (base ≤ (W.alloc (.cells #[.slice pp se.length pc, j4 ag] 288)).heap.size) := by unfold Hid; simp; omega
 have HN := hide hnew
 have HO := hide hone
 clear hnew hone
 have hbox : ∀ w2 : World, (W.alloc (.cells #[.slice pp se.length pc, j4 ag] 288)).drew.grownBy w2 (Value.slice pv ps.length cv).ownBlock → w2.heap[hb]? = some (.cells #[.slice pv ps.length cv] 285 (0, 0)) := fun w2 hg =>
   (ja.grown hg).same ((ja.alloc W _ (fun _ => False)).draw.same HH.out.box id) (fun e => HH.out.ne e.symm)
 have HBX := hide hbox
 clear hbox
 have hta := jc7
 have c0' : ∀ x, (W.alloc x).cell? ⟨hb, 0, none⟩ = some (.slice pv ps.length cv) := fun x => (Xd HH.out.box x).trans rfl
 go_enter Tryz.func300, Tryz.ntmps300
 go_wp2_with fail
 go_region_law (
   refine zn rfl (.tmp 7) (.tmp 10) 285 rfl base 288 j0 jhh 2 32 Tryz.underlying285 hj hy0 hy1 hy2 rfl (Nat.zero_lt_succ 1) (.slice pv ps.length cv) ps.length (zk ps) rfl hrow1.out ⟨W.heap.size, 0, none⟩ 1 1 (zk [((.slice pp se.length pc, ⟨se, ag⟩) : HS)]) rfl rfl HN.out HO.out h63.out hbs.out hbb.out ?_
   intro p2 cp2 w2 hown2 hg2 hloc2
   have hh := HBX.out w2 hg2
   have e0 := cell_of_heap (o := 0) hh
   have ef := frozen_of_heap (o := 0) hh
   simp at e0
   have HHH := hide hh
   clear hh)
 all_goals
   go_wp2
   go_end0
   have k2 : ja W w2 (fun i => (Value.slice pv ps.length cv).ownBlock = some i) := (((ja.alloc W _ (fun _ => False)).draw).mono (fun _ _ h => h.elim)).trans (ja.grown hg2) (fun i _ e => e.symm)
   have k3 := ja.setCell w2 ⟨hb, 0, none⟩ (.slice p2 (ps.length + 1) cp2)
   have hloc : (Value.slice p2 (ps.length + 1) cp2).ownBlock = (Value.slice pv ps.length cv).ownBlock ∨ ∃ g, (Value.slice p2 (ps.length + 1) cp2).ownBlock = some g ∧ W.heap.size ≤ g := by
     rcases hloc2 with h | h
     · exact .inl h
     · exact .inr ⟨_, h, by simp⟩
   have hlt := lt_of_heap HH.out.box
   have hneb : (Value.slice p2 (ps.length + 1) cp2).ownBlock ≠ some hb := by
     rcases hloc with h | ⟨g, h, h5⟩
     · rw [h]; exact HH.out.ne
     · rw [h]; intro e; cases e; omega
   have hkeep : ∀ q : HS, Chs W q.1 q.2.entries → q.2.entries ≠ [] → (∀ ad n c, q.1 = .slice (some ad) n c → ad.block ≠ hb ∧ (Value.slice pv ps.length cv).ownBlock ≠ some ad.block) → Chs (w2.setCell ⟨hb, 0, none⟩ (.slice p2 (ps.length + 1) cp2)) q.1 q.2.entries ∧ ∀ ad n c, q.1 = .slice (some ad) n c → ad.block ≠ hb ∧ (Value.slice p2 (ps.length + 1) cp2).ownBlock ≠ some ad.block := by
     intro q hq hqe hqa
     refine ⟨(hq.keep k2 (fun _ ad n c e => (hqa ad n c e).2)).keep k3 (fun _ ad n c e => (hqa ad n c e).1), fun ad n c e => ⟨(hqa ad n c e).1, ?_⟩⟩
     rcases hloc with h | ⟨g, h, h5⟩
     · rw [h]; exact (hqa ad n c e).2
     · rw [h]; intro e2; cases e2
       rw [e] at hq
       have := hq.lt hqe
       omega
   refine ⟨rfl, _, ⟨(jb HHH.out _).trans rfl, ?_, hneb, ?_⟩, hloc, (k2.mono (fun _ _ h => .inr h)).trans k3 (fun _ _ h => .inl h)⟩
   · rw [List.length_append, List.length_singleton, Br]
     exact k3.row hown2 (fun g hg e => hneb (by rw [hg, e]))
   · intro q hq
     rcases List.mem_append.1 hq with hq | hq
     · exact hkeep q (HH.out.has q hq).1 (hs q hq) (HH.out.has q hq).2
     · rw [List.mem_singleton.1 hq]
       exact hkeep _ hp hne hap
def Mj (W : World) (base hb : Nat) (v : Value) (ps : List HS) (w' : World) : Prop :=
 ∃ v' qs, qs.Perm ps ∧ xe w' base hb v' qs ∧ Ref.Qd (yg qs) qs.length ∧ (v'.ownBlock = v.ownBlock ∨ ∃ g, v'.ownBlock = some g ∧ W.heap.size ≤ g) ∧ ja W w' (fun i => i = hb ∨ v.ownBlock = some i)
theorem X9 (ps : List HS) : (yg ps).length = ps.length := by simp [yg]
theorem Tn (ps : List HS) (p : HS) : yg (ps ++ [p]) = yg ps ++ [p.2] := by simp [yg]
theorem xe.slice {W : World} {base hb : Nat} {v : Value} {ps : List HS} (h : xe W base hb v ps) : ∃ a c, v = .slice a ps.length c := jh h.row
theorem jhf {W : World} {base hb : Nat} {v : Value} {ps : List HS} {j : Nat} {x : Int} (hx : x = j) (H : xe W base hb v ps) (hs : ∀ p ∈ ps, p.2.entries ≠ []) (U : Ref.og (yg ps) j) (hj : j < ps.length) (hl : ps.length < 1048576) (ha : ∀ p ∈ ps, p.2.age < 4611686018427387904) :
   Calls Tryz.prog 233 #[Lh hb, .int .i64 x] W fun e w' => e = .returned (.tuple #[]) ∧ ∃ qs, qs.Perm ps ∧ xe w' base hb v qs ∧ Ref.Qd (yg qs) qs.length ∧ ja W w' (fun i => v.ownBlock = some i) := by
 subst hx
 exact jgr H hs U hj hl ha
theorem je1 {W : World} {base hb : Nat} {v : Value} {ps : List HS} {n : Nat} {x : Int} (hx : x = n) (H : xe W base hb v ps) (hs : ∀ k p, k < n → ps[k]? = some p → p.2.entries ≠ []) (U : Ref.Qk (yg ps) 0 n) (hn : n ≤ ps.length) (hl : ps.length < 1048576) (ha : ∀ p ∈ ps, p.2.age < 4611686018427387904) :
   Calls Tryz.prog 234 #[Lh hb, .int .i64 0, .int .i64 x] W (V7 W base hb v ps n) := by
 subst hx
 exact je2 H hs U hn hl ha
set_option maxHeartbeats 1000000 in
set_option maxRecDepth 100000 in
theorem Sb {W : World} {base hb : Nat} {v : Value} {ps : List HS} (H : xe W base hb v ps) (hs : ∀ p ∈ ps, p.2.entries ≠ []) (HT : Ref.Qd (yg ps) ps.length) (p : HS) (hp : Chs W p.1 p.2.entries) (hne : p.2.entries ≠ []) (hap : ∀ ad n c, p.1 = .slice (some ad) n c → ad.block ≠ hb ∧ v.ownBlock ≠ some ad.block) (hl : ps.length + 1 < 1048576) (hbase : base ≤ W.heap.size)
   (ha : ∀ q ∈ ps ++ [p], q.2.age < 4611686018427387904) :
   Calls Tryz.prog 209 #[Lh hb, .iface 288 (.agg #[p.1, j4 p.2.age])] W fun e w' => e = .returned (.tuple #[]) ∧ Mj W base hb v (ps ++ [p]) w' := by
 have mP := Wu
 have HP := hide hp
 have HH := hide H
 clear H hp
 go_enter Tryz.func209, Tryz.ntmps209
 go_wp2_with fail
 refine (jdz HH.out hs p HP.out hne hap hl hbase).mono ?_
 rintro e w1 ⟨rfl, v1, H1, hloc1, k1⟩
 obtain ⟨a1, c1, rfl⟩ := H1.slice
 have mN := Fh H1.cell
 go_wp2_with fail
 refine (Ef a1 (ps.length + 1) c1 w1 (by omega)).mono ?_
 rintro e w2 ⟨rfl, rfl⟩
 have HU : Hid (Ref.og (yg (ps ++ [p])) ps.length) := by
   unfold Hid
   rw [Tn]
   have := Ref.og.start (x := p.2) (l := yg ps) (by rw [X9]; exact HT)
   rwa [X9] at this
 have HL : Hid ((ps ++ [p]).length < 1048576) := by unfold Hid; simp; omega
 have HA := hide ha
 have H1H := hide H1
 clear ha H1
 go_wp2_with fail
 refine (jhf (j := ps.length) (by omega) H1H.out (fun q hq => (List.mem_append.1 hq).elim (hs q) (fun h => by rw [List.mem_singleton.1 h]; exact hne)) HU.out (by simp) HL.out HA.out).mono ?_
 rintro e w3 ⟨rfl, qs, hq, H3, T3, k3⟩
 go_wp2
 go_end0
 refine ⟨rfl, _, qs, hq, H3, T3, hloc1, k1.trans k3 (fun i hi h => ?_)⟩
 rcases hloc1 with h5 | ⟨g, h5, h6⟩
 · exact .inr (h5 ▸ h)
 · rw [h5] at h; cases h; omega
def jgg (W : World) (base hb : Nat) (v : Value) (rs : List HS) (e : Ending) (w' : World) : Prop :=
 (∃ u, e = .returned u) ∧ ∃ v', xe w' base hb v' rs ∧ v'.ownBlock = v.ownBlock ∧ ja W w' (fun i => i = hb)
set_option maxHeartbeats 1000000 in
set_option maxRecDepth 100000 in
theorem jfy {W : World} {base hb : Nat} {v : Value} {rs : List HS} {x : HS} (H : xe W base hb v (rs ++ [x])) (hl : rs.length < 1048576) :
   Calls Tryz.prog 299 #[.pointer (some ⟨hb, 0, none⟩)] W (jgg W base hb v rs) := by
 obtain ⟨g, cap, rfl, hcap, a1, a2⟩ := H.src (k := rs.length) (p := x) (by simp)
 have hlen : (rs ++ [x]).length = rs.length + 1 := by simp
 rw [hlen] at hcap
 obtain ⟨xp, xc, ex, _⟩ := (H.has x (by simp)).1
 rw [ex] at a1
 have c0 := H.cell
 rw [hlen] at c0
 have f0 := frozen_of_heap (o := 0) H.box
 have HH := hide H
 clear H
 generalize x.2.entries.length = xn at *
 generalize x.2.age = xa at *
 have hbox : ∀ o, (W.alloc o).heap[hb]? = some (.cells #[.slice (some ⟨g, 0, none⟩) (rs.length + 1) cap] 285 (0, 0)) := fun o => by
   have := (ja.alloc W o (fun _ => False)).same HH.out.box id
   rwa [hlen] at this
 have c0' : ∀ o, (W.alloc o).cell? ⟨hb, 0, none⟩ = some (.slice (some ⟨g, 0, none⟩) (rs.length + 1) cap) := fun o => (cell_of_heap (hbox o)).trans rfl
 have f0' : ∀ o, (W.alloc o).frozen? ⟨hb, 0, none⟩ = false := fun o => frozen_of_heap (hbox o)
 have HX := hide hbox
 clear hbox
 have hlt := lt_of_heap HH.out.box
 have n1 : ¬ W.heap.size = hb := by omega
 have n2 : ¬ hb = W.heap.size := by omega
 go_enter Tryz.func299, Tryz.ntmps299
 go_wp2
 go_ret
 have kk : ja W ((W.setCell ⟨hb, 0, none⟩ (.slice (some ⟨g, 0, none⟩) rs.length cap)).alloc (.cells #[.slice xp xn xc, j4 xa] 288)) (fun i => i = hb) := ((ja.refl W (fun i => i = hb)).set (p := ⟨hb, 0, none⟩) rfl _).more _
 have hb0 := HH.out.box
 refine ⟨⟨_, rfl⟩, .slice (some ⟨g, 0, none⟩) rs.length cap, ⟨(ja.alloc _ _ (fun _ => False)).same ((jb hb0 _).trans rfl) id, ?_, HH.out.ne, fun q hq => ?_⟩, rfl, kk⟩
 · have hr := kk.row HH.out.row (fun g' hg e => HH.out.ne (by rw [hg, e]))
   rcases hr.2 with ⟨h1, _⟩ | ⟨g', cap', cur, h1, h2, h3, h4, h5, h6, h7⟩
   · cases h1
   · cases h1
     refine ⟨Zi rs, .inr ⟨g, cap, cur, rfl, h2, h3, by omega, h5, h6, ?_⟩⟩
     have h8 := congrArg (List.take (rs.length * 2)) h7
     rw [List.take_take, hlen, Nat.min_eq_left (by omega), Br] at h8
     rw [h8, List.take_append_of_le_length (by rw [Zi]; omega)]
     exact List.take_of_length_le (by rw [Zi]; omega)
 · have hq2 := HH.out.has q (List.mem_append_left _ hq)
   exact ⟨hq2.1.keep kk (fun _ ad n c e => (hq2.2 ad n c e).1), hq2.2⟩
set_option maxHeartbeats 1000000 in
set_option maxRecDepth 100000 in
theorem Va {W : World} {base hb : Nat} {v : Value} {s0 : HS} {rs : List HS} (H : xe W base hb v (s0 :: rs)) (hs : ∀ p ∈ rs, p.2.entries ≠ []) (hd : Ref.Qk (yg (s0 :: rs)) 0 (s0 :: rs).length) (hl : (s0 :: rs).length < 1048576) (ha : ∀ q ∈ s0 :: rs, q.2.age < 4611686018427387904) :
   Calls Tryz.prog 211 #[Lh hb] W fun e w' => (∃ u, e = .returned u) ∧ Mj W base hb v rs w' := by
 obtain ⟨a1, c1, rfl⟩ := H.slice
 have mN := Fh H.cell
 have mS := ax H.cell
 obtain ⟨x, hx⟩ : ∃ x, (s0 :: rs)[rs.length]? = some x := ⟨_, List.getElem?_eq_getElem (by simp)⟩
 have HX := hide hx
 have HH := hide H
 have HA := hide ha
 have HL := hide hl
 simp only [List.length_cons] at hl
 clear hx H ha
 go_enter Tryz.func211, Tryz.ntmps211
 go_wp2_with fail
 refine (Ef a1 (rs.length + 1) c1 W (by omega)).mono ?_
 rintro e w1 ⟨rfl, rfl⟩
 go_wp2_with fail
 refine (I1 HH.out (i := 0) (j := rs.length) rfl rfl (p := s0) (q := x) rfl HX.out HL.out).mono ?_
 rintro e w2 ⟨rfl, H2, k2⟩
 have hlen2 : (((s0 :: rs).set 0 x).set rs.length s0).length = rs.length + 1 := by simp
 have hperm : (((s0 :: rs).set 0 x).set rs.length s0).Perm (s0 :: rs) := Yi rfl HX.out
 have hlast : (((s0 :: rs).set 0 x).set rs.length s0)[rs.length]? = some s0 := by rw [List.getElem?_set_self (by simp)]
 have hdown : Ref.Qk (yg (((s0 :: rs).set 0 x).set rs.length s0)) 0 rs.length := by
   refine ⟨fun k a b h0 hk hne hA hB => ?_, fun k a b h0 hk hi _ _ _ => by omega⟩
   rw [ll, List.getElem?_set_ne (by omega), List.getElem?_set_ne (by omega)] at hA hB
   exact hd.other k a b h0 (by simp; omega) hne hA hB
 have hsome : ∀ k p, k < rs.length → (((s0 :: rs).set 0 x).set rs.length s0)[k]? = some p → p.2.entries ≠ [] := by
   intro k p hk hp
   rw [List.getElem?_set_ne (by omega)] at hp
   have hx' := HX.out
   by_cases e : k = 0
   · subst e
     rw [List.getElem?_set_self (by simp)] at hp
     cases hp
     refine hs _ (List.mem_of_getElem? (i := rs.length - 1) ?_)
     rw [show rs.length = (rs.length - 1) + 1 by omega, List.getElem?_cons_succ] at hx'
     exact hx'
   · rw [List.getElem?_set_ne (by omega), show k = (k - 1) + 1 by omega, List.getElem?_cons_succ] at hp
     exact hs p (List.mem_of_getElem? hp)
 generalize hL : ((s0 :: rs).set 0 x).set rs.length s0 = L at *
 have HD := hide hdown
 have HSO := hide hsome
 have HPM := hide hperm
 have HLA := hide hlast
 have HL2 := hide hlen2
 have H2H := hide H2
 have HAL : Hid (∀ p ∈ L, p.2.age < 4611686018427387904) := fun p hp => HA.out p (HPM.out.mem_iff.1 hp)
 have HLL : Hid (L.length < 1048576) := by unfold Hid; rw [HL2.out]; exact hl
 have HLE : Hid (rs.length ≤ L.length) := by unfold Hid; rw [HL2.out]; omega
 clear hL hdown hsome hperm hlast hlen2 H2
 go_wp2_with fail
 refine (je1 rfl H2H.out HSO.out HD.out HLE.out HLL.out HAL.out).mono ?_
 rintro e w3 ⟨mv, qs, rfl, hq, H3, T3, hs3, k3⟩
 have hql : qs.length = rs.length + 1 := by rw [hq.length_eq, HL2.out]
 have hqs : qs = qs.take rs.length ++ [s0] := by
   have h5 : qs[rs.length]? = some s0 := (hs3 _ (Nat.le_refl _)).trans HLA.out
   have h6 : qs.take (rs.length + 1) = qs.take rs.length ++ [s0] := by rw [List.take_add_one, h5]; rfl
   rw [List.take_of_length_le (by omega)] at h6
   exact h6
 have hpr : (qs.take rs.length).Perm rs := by
   have h7 : qs.Perm (s0 :: rs) := hq.trans HPM.out
   rw [hqs] at h7
   exact ((List.perm_append_singleton s0 (qs.take rs.length)).symm.trans h7).cons_inv
 have hT : Ref.Qd (yg (qs.take rs.length)) (qs.take rs.length).length := by
   rw [hpr.length_eq]
   intro j a b h0 hj hA hB
   have e5 : ∀ i, i < rs.length → (yg (qs.take rs.length))[i]? = (yg qs)[i]? := fun i hi => by
     unfold yg
     rw [List.getElem?_map, List.getElem?_map, List.getElem?_take_of_lt hi]
   rw [e5 _ (by omega)] at hA
   rw [e5 _ hj] at hB
   exact T3 j a b h0 hj hA hB
 rw [hqs] at H3
 have HPR := hide hpr
 have HTT := hide hT
 have H3H := hide H3
 have HTL : Hid ((qs.take rs.length).length < 1048576) := by unfold Hid; rw [HPR.out.length_eq]; omega
 clear hql hqs hpr hT H3 T3 hs3 hq
 have mP := jcf
 go_wp2_with fail
 refine (jfy H3H.out HTL.out).mono ?_
 rintro e w4 ⟨⟨u, rfl⟩, v4, H4, hv4, k4⟩
 go_wp2
 go_ret
 refine ⟨⟨_, rfl⟩, v4, _, HPR.out, H4, HTT.out, .inl hv4, ?_⟩
 exact ((k2.mono (fun _ _ h => .inr h)).trans k3 (fun _ _ h => .inr h)).trans k4 (fun _ _ h => .inl h)
set_option maxHeartbeats 1000000 in
set_option maxRecDepth 100000 in
theorem Vb {W : World} {base hb : Nat} {v : Value} {ps : List HS} (H : xe W base hb v ps) (hs : ∀ p ∈ ps, p.2.entries ≠ []) (hd : Ref.Qk (yg ps) 0 ps.length) (hpos : 0 < ps.length) (hl : ps.length < 1048576) (ha : ∀ q ∈ ps, q.2.age < 4611686018427387904) :
   Calls Tryz.prog 210 #[Lh hb, .int .i64 0] W fun e w' => e = .returned (.tuple #[]) ∧ Mj W base hb v ps w' := by
 obtain ⟨a1, c1, rfl⟩ := H.slice
 have mN := Fh H.cell
 have HH := hide H
 have HA := hide ha
 clear H ha
 go_enter Tryz.func210, Tryz.ntmps210
 go_wp2_with fail
 refine (Ef a1 ps.length c1 W (by omega)).mono ?_
 rintro e w1 ⟨rfl, rfl⟩
 go_wp2_with fail
 refine (je1 rfl HH.out (fun k p _ h => hs p (List.mem_of_getElem? h)) hd (Nat.le_refl _) hl HA.out).mono ?_
 rintro e w3 ⟨mv, qs, rfl, hq, H3, T3, hs3, k3⟩
 have hql := hq.length_eq
 rw [← hql] at T3
 have HQ := hide hq
 have H3H := hide H3
 have HT := hide T3
 clear hq H3 T3 hs3
 cases mv with
 | true =>
   go_wp2
   go_end0
   exact ⟨rfl, _, qs, HQ.out, H3H.out, HT.out, .inl rfl, k3.mono (fun _ _ h => .inr h)⟩
 | false =>
   have hup : Ref.og (yg qs) 0 := by
     refine ⟨fun k a b h0 hk hA hB => HT.out k a b h0 ?_ hA hB, fun k a b h0 h1 => by omega⟩
     have := Ref.Za hB
     rwa [X9] at this
   have HU := hide hup
   have HAQ : Hid (∀ p ∈ qs, p.2.age < 4611686018427387904) := fun p hp => HA.out p (HQ.out.mem_iff.1 hp)
   have HLQ : Hid (qs.length < 1048576) := by unfold Hid; omega
   have HPQ : Hid (0 < qs.length) := by unfold Hid; omega
   clear hup
   go_wp2_with fail
   refine (jhf (j := 0) rfl H3H.out (fun p h => hs p (HQ.out.mem_iff.1 h)) HU.out HPQ.out HLQ.out HAQ.out).mono ?_
   rintro e w4 ⟨rfl, rs, hr, H4, T4, k4⟩
   go_wp2
   go_end0
   exact ⟨rfl, _, rs, hr.trans HQ.out, H4, T4, .inl rfl, (k3.mono (fun _ _ h => .inr h)).trans k4 (fun _ _ h => .inr h)⟩
theorem lq (p : HS) (rs : List HS) : yg (p :: rs) = p.2 :: yg rs := rfl
theorem xe.turn {W : World} {base hb g cap : Nat} {s0 : HS} {rs : List HS} (h : xe W base hb (.slice (Option.some ⟨g, 0, none⟩) (s0 :: rs).length cap) (s0 :: rs)) (u : Value) (q : List Ref.Ch) (x y : Obj) (hu : Chs W u q) (hub : ∀ ad n c, u = .slice (Option.some ad) n c → ad.block ≠ hb ∧ g ≠ ad.block) :
   xe (((W.setCell ⟨g, 0, none⟩ u).alloc x).alloc y) base hb (.slice (Option.some ⟨g, 0, none⟩) (s0 :: rs).length cap) ((u, ⟨q, s0.2.age⟩) :: rs) ∧ ja W (((W.setCell ⟨g, 0, none⟩ u).alloc x).alloc y) (fun i => i = g) := by
 have k : ja W (((W.setCell ⟨g, 0, none⟩ u).alloc x).alloc y) (fun i => i = g) := (((ja.refl W (fun i => i = g)).set (p := ⟨g, 0, none⟩) rfl _).more _).more _
 refine ⟨⟨k.same h.box (fun e => h.ne (by rw [e]; rfl)), ?_, h.ne, ?_⟩, k⟩
 · have hr := Bc h.row (j := 0) (by simp) u
   have e : (zk (s0 :: rs)).set 0 u = zk ((u, ⟨q, s0.2.age⟩) :: rs) := by simp [zk]
   rw [e] at hr
   exact ((ja.alloc _ x (fun _ => False)).more y).row hr (fun _ _ => id)
 · intro p hp
   rcases List.mem_cons.1 hp with rfl | hp
   · refine ⟨hu.keep k (fun _ ad n c e e2 => (hub ad n c e).2 e2.symm), fun ad n c e => ⟨(hub ad n c e).1, fun e2 => (hub ad n c e).2 (by injection e2)⟩⟩
   · have h2 := h.has p (List.mem_cons_of_mem _ hp)
     exact ⟨h2.1.keep k (fun _ ad n c e e2 => (h2.2 ad n c e).2 (by rw [← e2]; rfl)), h2.2⟩
def jfh (W : World) (base hb : Nat) (v : Value) (s0 : HS) (rs : List HS) (c : Ref.Ch) (e : Ending) (w' : World) : Prop :=
 e = .returned (chV c) ∧ ∃ v' qs, (yg qs).Perm (Ref.taken s0.2 (yg rs)) ∧ xe w' base hb v' qs ∧ Ref.Qd (yg qs) qs.length ∧ (v'.ownBlock = v.ownBlock ∨ ∃ g, v'.ownBlock = some g ∧ W.heap.size ≤ g) ∧ ja W w' (fun i => i = hb ∨ v.ownBlock = some i) ∧
   ∀ p ∈ qs, ∀ ad n c, p.1 = .slice (some ad) n c → ∃ p' ∈ s0 :: rs, ∃ ad' n' c', p'.1 = .slice (some ad') n' c' ∧ ad'.block = ad.block
set_option maxHeartbeats 2000000 in
set_option maxRecDepth 100000 in
theorem Tt {W : World} {base hb : Nat} {v : Value} {s0 : HS} {rs : List HS} {c : Ref.Ch} {q : List Ref.Ch} (H : xe W base hb v (s0 :: rs)) (hs : ∀ p ∈ s0 :: rs, p.2.entries ≠ []) (HT : Ref.Qd (yg (s0 :: rs)) (s0 :: rs).length) (he : s0.2.entries = c :: q) (hl : (s0 :: rs).length < 1048576) (hq : q.length < 1048576) (ha : ∀ p ∈ s0 :: rs, p.2.age < 4611686018427387904) :
   Calls Tryz.prog 174 #[.pointer (some ⟨hb, 0, none⟩)] W (jfh W base hb v s0 rs c) := by
 obtain ⟨g, cap, rfl, hcap, a1, a2⟩ := H.src (k := 0) (p := s0) rfl
 have hch := (H.has s0 List.mem_cons_self).1
 rw [he] at hch
 obtain ⟨sp, sc, es, hsc, hsm, hs3, hs4⟩ := id hch
 rw [es] at hch
 obtain ⟨b, o, rfl, e0, e1, e2⟩ := hch.at (k := 0) (by simp)
 simp only [List.getElem_cons_zero, Nat.zero_mul, Nat.add_zero] at e0 e1 e2 a1 a2
 have c0 := H.cell
 rw [es] at a1
 simp only [List.length_cons] at a1 c0 hcap hsc hl
 obtain ⟨ck, cv, cg⟩ := c
 simp only at e0 e1 e2
 have f0 := H.frozen 0
 have hgb : g ≠ b := fun e => ((H.has s0 List.mem_cons_self).2 _ _ _ es).2 (by rw [e]; rfl)
 have hghb : g ≠ hb := fun e => H.ne (by rw [e]; rfl)
 have HH := hide H
 have HE := hide he
 have HES := hide es
 have HCH := hide hch
 clear H he es hch hs3 hs4
 have n1 : ¬ b = g := fun e => hgb e.symm
 have n2 : ¬ hb = g := fun e => hghb e.symm
 have hlt := lt_of_heap HH.out.box
 have hltb := World.block_lt_of_cell? W _ e0
 have hltg := World.block_lt_of_cell? W _ a1
 simp only at hltb hltg
 have kA : ∀ x, ja W (W.alloc x) (fun _ => False) := fun x => ja.alloc W x _
 have kB : ∀ x y, ja W ((W.alloc x).alloc y) (fun _ => False) := fun x y => (ja.alloc W x _).more y
 have c0a : ∀ x, (W.alloc x).cell? ⟨hb, 0, none⟩ = some (.slice (some ⟨g, 0, none⟩) (rs.length + 1) cap) := fun x => (kA x).cell c0 id
 have a1a : ∀ x, (W.alloc x).cell? ⟨g, 0, none⟩ = some (.slice (some ⟨b, o, none⟩) (q.length + 1) sc) := fun x => (kA x).cell a1 id
 have e0a : ∀ x, (W.alloc x).cell? ⟨b, o, none⟩ = some (jc ck) := fun x => (kA x).cell e0 id
 have e1a : ∀ x, (W.alloc x).cell? ⟨b, o + 1, none⟩ = some (jc cv) := fun x => (kA x).cell e1 id
 have e2a : ∀ x, (W.alloc x).cell? ⟨b, o + 2, none⟩ = some (.bool cg) := fun x => (kA x).cell e2 id
 have a1b : ∀ x y, ((W.alloc x).alloc y).cell? ⟨g, 0, none⟩ = some (.slice (some ⟨b, o, none⟩) (q.length + 1) sc) := fun x y => (kB x y).cell a1 id
 have f0b : ∀ x y, ((W.alloc x).alloc y).frozen? ⟨g, 0, none⟩ = false := fun x y => (HH.out.same (kB x y)).frozen 0
 have n3 : ¬ W.heap.size = g := by omega
 have n4 : ¬ W.heap.size + 1 = g := by omega
 have n5 : ¬ g = W.heap.size := by omega
 have n6 : ¬ g = W.heap.size + 1 := by omega
 have hub : ∀ (u : Value), (∃ o' n c, u = .slice (some ⟨b, o', none⟩) n c) → ∀ ad n c, u = .slice (some ad) n c → ad.block ≠ hb ∧ g ≠ ad.block := by
   rintro u ⟨o', n', c', rfl⟩ ad n c e
   cases e
   exact ⟨((HH.out.has s0 List.mem_cons_self).2 _ _ _ HES.out).1, hgb⟩
 have hdn : ∀ u : Ref.Source, Ref.Qk (u :: yg rs) 0 (rs.length + 1) := by
   intro u
   have := Ref.Qk.start (x := u) HT
   simpa [lq] using this
 -- behind the call the entry is handed out
 have fin : ∀ (u : Value) (L : List HS) (w3 : World), ja (((W.setCell ⟨g, 0, none⟩ u).alloc (.cells #[jc [], jc [], .bool false] 88)).alloc (.cells #[jc ck, jc cv, .bool cg] 88)) w3 (fun i => i = hb ∨ (Value.slice (some ⟨g, 0, none⟩) (rs.length + 1) cap).ownBlock = some i) →
     w3.heap[W.heap.size]? = some (.cells #[jc [], jc [], .bool false] 88 (0, 0)) ∧ w3.heap[W.heap.size + 1]? = some (.cells #[jc ck, jc cv, .bool cg] 88 (0, 0)) := by
   intro u L w3 k3
   have hsz : (W.setCell ⟨g, 0, none⟩ u).heap.size = W.heap.size := by simp [World.setCell]
   have t1 := jd (W.setCell ⟨g, 0, none⟩ u) (.cells #[jc [], jc [], .bool false] 88)
   have t2 := jd ((W.setCell ⟨g, 0, none⟩ u).alloc (.cells #[jc [], jc [], .bool false] 88)) (.cells #[jc ck, jc cv, .bool cg] 88)
   rw [hsz] at t1
   rw [World.size_alloc, hsz] at t2
   refine ⟨k3.same ((ja.alloc _ _ (fun _ => False)).same t1 id) ?_, k3.same t2 ?_⟩
   · rintro (h | h)
     · omega
     · have h' : g = W.heap.size := by injection h
       omega
   · rintro (h | h)
     · omega
     · have h' : g = W.heap.size + 1 := by injection h
       omega
 have hkf : ∀ u x y, ja W (((W.setCell ⟨g, 0, none⟩ u).alloc x).alloc y) (fun i => i = g) := fun u x y => (((ja.refl W (fun i => i = g)).set (p := ⟨g, 0, none⟩) rfl _).more _).more _
 have hbl : ∀ p ∈ rs, ∀ ad n c, p.1 = .slice (some ad) n c → ad.block < W.heap.size := fun p hp ad n c e => by
   have h1 := (HH.out.has p (List.mem_cons_of_mem _ hp)).1
   rw [e] at h1
   exact h1.lt (hs p (List.mem_cons_of_mem _ hp))
 have HKF := hide hkf
 have HBL := hide hbl
 clear hkf hbl
 have HFIN := hide fin
 have HUB := hide hub
 have HDN := hide hdn
 clear fin hub hdn
 cases q with
 | nil =>
   simp only [List.length_nil, Nat.zero_add] at *
   have hpos : Hid (∀ p ∈ rs, p.2.entries ≠ []) := fun p hp => hs p (List.mem_cons_of_mem _ hp)
   have htk : Hid (Ref.taken s0.2 (yg rs) = yg rs) := by unfold Hid Ref.taken; rw [HE.out]; simp
   go_enter Tryz.func174, Tryz.ntmps174
   go_wp2_with fail
   all_goals
     refine (Va (s0 := (_, ⟨[], s0.2.age⟩)) (HH.out.turn _ [] _ _ ⟨_, _, rfl, Nat.zero_le _, by omega, fun h => (by cases h), fun ad h => ⟨(by cases h; rfl), fun j u hu => (by simp [jg] at hu)⟩⟩ (HUB.out _ ⟨_, _, _, rfl⟩)).1 hpos.out (HDN.out _) (by simpa using hl) (fun p hp => ?_)).mono ?_
     · rcases List.mem_cons.1 hp with rfl | hp
       · exact ha s0 List.mem_cons_self
       · exact ha p (List.mem_cons_of_mem _ hp)
     · rintro e w3 ⟨⟨uu, rfl⟩, v3, qs, hq3, H3, T3, l3, k3⟩
       obtain ⟨x0, x1⟩ := HFIN.out _ rs w3 k3
       have y0 := cell_of_heap (o := 0) x1
       have y1 := cell_of_heap (o := 1) x1
       have y2 := cell_of_heap (o := 2) x1
       have z0 := cell_of_heap (o := 0) x0
       have z1 := cell_of_heap (o := 1) x0
       have z2 := cell_of_heap (o := 2) x0
       have g0 := frozen_of_heap (o := 0) x0
       have g1 := frozen_of_heap (o := 1) x0
       have g2 := frozen_of_heap (o := 2) x0
       simp at y0 y1 y2 z0 z1 z2
       have X0 := hide x0
       have H3H := hide H3
       have HQ3 := hide hq3
       have HT3 := hide T3
       have HL3 := hide l3
       clear x0 x1 H3 hq3 T3 l3
       go_wp2
       have kk : ja w3 (((w3.setCell ⟨W.heap.size, 0, none⟩ (jc ck)).setCell ⟨W.heap.size, 1, none⟩ (jc cv)).setCell ⟨W.heap.size, 2, none⟩ (.bool cg)) (fun i => i = W.heap.size) := (((ja.refl w3 (fun i => i = W.heap.size)).set (p := ⟨W.heap.size, 0, none⟩) rfl _).set (p := ⟨W.heap.size, 1, none⟩) rfl _).set (p := ⟨W.heap.size, 2, none⟩) rfl _
       have hown : ∀ g', v3.ownBlock = some g' → ¬ g' = W.heap.size := fun g' hg' e => by
         rcases HL3.out with h | ⟨g2, h, h5⟩
         · rw [h] at hg'
           have h' : g = g' := by injection hg'
           omega
         · rw [h] at hg'
           cases hg'
           simp at h5
           omega
       refine bodyPost_ret (v := chV ⟨ck, cv, cg⟩) (by simp [results, Tryz.results174, go_sem, z0, z1, z2]) rfl ⟨rfl, v3, qs, ?_, H3H.out.keep kk (by omega) hown ?_, HT3.out, ?_, ?_, ?_⟩
       · rw [htk.out]; exact HQ3.out.map _
       · intro p hp ad n c e h5
         have h6 := HBL.out p (HQ3.out.mem_iff.1 hp) ad n c e
         omega
       · rcases HL3.out with h | ⟨g2, h, h5⟩
         · exact .inl h
         · exact .inr ⟨g2, h, by simp at h5; omega⟩
       · exact (((HKF.out _ _ _).mono (fun i _ e => .inr (by rw [e]; rfl))).trans k3 (fun i _ h => h)).trans kk (fun i hi e => by omega)
       · intro p hp ad n c e
         exact ⟨p, List.mem_cons_of_mem _ (HQ3.out.mem_iff.1 hp), ad, n, c, e, rfl⟩
 | cons c2 q2 =>
   have hdr := HCH.out.drop (k := 1) (by simp)
   simp only [List.length_cons, List.drop_succ_cons, List.drop_zero, Nat.one_mul, Nat.add_sub_cancel] at hdr
   have HDR := hide hdr
   have hq' : q2.length + 1 < 1048576 := by simpa using hq
   simp only [List.length_cons] at *
   have hpos : Hid (∀ u : Value, ∀ p ∈ (((u, ⟨c2 :: q2, s0.2.age⟩) : HS) :: rs), p.2.entries ≠ []) := by
     intro u p hp
     rcases List.mem_cons.1 hp with rfl | hp
     · simp
     · exact hs p (List.mem_cons_of_mem _ hp)
   have htk : Hid (Ref.taken s0.2 (yg rs) = ⟨c2 :: q2, s0.2.age⟩ :: yg rs) := by unfold Hid Ref.taken; rw [HE.out]; simp
   clear hdr
   go_enter Tryz.func174, Tryz.ntmps174
   go_wp2_with fail
   all_goals
     refine (Vb (HH.out.turn _ (c2 :: q2) _ _ HDR.out (HUB.out _ ⟨_, _, _, rfl⟩)).1 (hpos.out _) (HDN.out _) (by simp) (by simpa using hl) (fun p hp => ?_)).mono ?_
     · rcases List.mem_cons.1 hp with rfl | hp
       · exact ha s0 List.mem_cons_self
       · exact ha p (List.mem_cons_of_mem _ hp)
     · rintro e w3 ⟨rfl, v3, qs, hq3, H3, T3, l3, k3⟩
       obtain ⟨x0, x1⟩ := HFIN.out _ rs w3 k3
       have y0 := cell_of_heap (o := 0) x1
       have y1 := cell_of_heap (o := 1) x1
       have y2 := cell_of_heap (o := 2) x1
       have z0 := cell_of_heap (o := 0) x0
       have z1 := cell_of_heap (o := 1) x0
       have z2 := cell_of_heap (o := 2) x0
       have g0 := frozen_of_heap (o := 0) x0
       have g1 := frozen_of_heap (o := 1) x0
       have g2 := frozen_of_heap (o := 2) x0
       simp at y0 y1 y2 z0 z1 z2
       have X0 := hide x0
       have H3H := hide H3
       have HQ3 := hide hq3
       have HT3 := hide T3
       have HL3 := hide l3
       clear x0 x1 H3 hq3 T3 l3
       go_wp2
       have kk : ja w3 (((w3.setCell ⟨W.heap.size, 0, none⟩ (jc ck)).setCell ⟨W.heap.size, 1, none⟩ (jc cv)).setCell ⟨W.heap.size, 2, none⟩ (.bool cg)) (fun i => i = W.heap.size) := (((ja.refl w3 (fun i => i = W.heap.size)).set (p := ⟨W.heap.size, 0, none⟩) rfl _).set (p := ⟨W.heap.size, 1, none⟩) rfl _).set (p := ⟨W.heap.size, 2, none⟩) rfl _
       have hown : ∀ g', v3.ownBlock = some g' → ¬ g' = W.heap.size := fun g' hg' e => by
         rcases HL3.out with h | ⟨g2, h, h5⟩
         · rw [h] at hg'
           have h' : g = g' := by injection hg'
           omega
         · rw [h] at hg'
           cases hg'
           simp at h5
           omega
       refine bodyPost_ret (v := chV ⟨ck, cv, cg⟩) (by simp [results, Tryz.results174, go_sem, z0, z1, z2]) rfl ⟨rfl, v3, qs, ?_, H3H.out.keep kk (by omega) hown ?_, HT3.out, ?_, ?_, ?_⟩
       · rw [htk.out]; exact HQ3.out.map _
       · intro p hp ad n c e h5
         rcases List.mem_cons.1 (HQ3.out.mem_iff.1 hp) with h7 | h7
         · rw [h7] at e
           cases e
           have h8 : b = W.heap.size := h5
           omega
         · have h6 := HBL.out p h7 ad n c e
           omega
       · rcases HL3.out with h | ⟨g2, h, h5⟩
         · exact .inl h
         · exact .inr ⟨g2, h, by simp at h5; omega⟩
       · exact (((HKF.out _ _ _).mono (fun i _ e => .inr (by rw [e]; rfl))).trans k3 (fun i _ h => h)).trans kk (fun i hi e => by omega)
       · intro p hp ad n c e
         rcases List.mem_cons.1 (HQ3.out.mem_iff.1 hp) with h7 | h7
         · rw [h7] at e
           cases e
           exact ⟨s0, List.mem_cons_self, _, _, _, HES.out, rfl⟩
         · exact ⟨p, List.mem_cons_of_mem _ h7, ad, n, c, e, rfl⟩
def nz (w : World) (v : Value) (l : List Value) : Prop :=
 ∃ p c, v = .slice p l.length c ∧ l.length ≤ c ∧ c ≤ maxLen ∧ (p = none → c = 0) ∧ ∀ ad, p = some ad → ad.spot = none ∧ ∀ j u, l[j]? = some u → w.cell? (ad.add j) = some u
theorem nz.keep {w w' : World} {v : Value} {l : List Value} {T : Nat → Prop} (h : nz w v l) (hk : ja w w' T) (hT : l ≠ [] → ∀ p n c, v = .slice (some p) n c → ¬ T p.block) : nz w' v l := by
 obtain ⟨p, c, rfl, h1, h2, h3, h4⟩ := h
 exact ⟨p, c, rfl, h1, h2, h3, fun ad e => ⟨(h4 ad e).1, fun j u hu => hk.cell ((h4 ad e).2 j u hu) (by rw [add_block]; exact hT (fun e => by rw [e] at hu; cases hu) ad _ _ (by rw [e]))⟩⟩
theorem nz.same {w w' : World} {v : Value} {l : List Value} (h : nz w v l) (hk : ja w w' (fun _ => False)) : nz w' v l := h.keep hk (fun _ _ _ _ _ h => h)
theorem nz.at {w : World} {p : Option Addr} {c : Nat} {l : List Value} (h : nz w (.slice p l.length c) l) {k : Nat} {u : Value} (hu : l[k]? = some u) : ∃ b o, p = some ⟨b, o, none⟩ ∧ w.cell? ⟨b, o + k, none⟩ = some u := by
 obtain ⟨p', c', e, h1, h2, h3, h4⟩ := h
 cases e
 have hk := (List.getElem?_eq_some_iff.1 hu).1
 cases p with
 | none => have := h3 rfl; omega
 | some ad =>
   obtain ⟨b, o, s⟩ := ad
   obtain ⟨hs, hc⟩ := h4 _ rfl
   simp only at hs
   subst hs
   have := hc _ _ hu
   rw [X7] at this
   exact ⟨b, o, rfl, this⟩
theorem dx {w : World} {base n : Nat} {e : TypeId} {v : Value} {l : List Value} (h : w.ownsRow base e 1 v n l) (hn : l.length = n) : nz w v l := by
 subst hn
 rcases h.2 with ⟨e, h0⟩ | ⟨g, cap, cur, e, _, hgg, h1, h2, _⟩
 · have : l = [] := List.eq_nil_of_length_eq_zero h0
   subst this
   rw [e]
   exact ⟨none, 0, rfl, Nat.le_refl _, Nat.zero_le _, fun _ => rfl, fun _ h => by cases h⟩
 · refine ⟨some ⟨g, 0, none⟩, cap, e, h1, h2, (fun h => by cases h), fun ad had => ?_⟩
   cases had
   exact ⟨rfl, fun j u hu => h.cells (by rw [e]; rfl) j _ hu⟩
abbrev Jz := je → je × List Ref.Ch × Option Bool
def Zb (hi : Str) (r : je × List Ref.Ch × Option Bool) : Option (List Ref.Ch) := if r.2.2 = none ∨ (upTo hi r.2.1).length < r.2.1.length then some (upTo hi r.2.1) else none
def gathered (hi : Str) : List Jz → je → je × (List (List Ref.Ch) ⊕ Bool)
 | [], S => (S, .inl [])
 | st :: r, S =>
   match Zb hi (st S) with
   | none => ((st S).1, .inr ((st S).2.2.getD false))
   | some l =>
     match gathered hi r (st S).1 with
     | (S2, .inl ls) => (S2, .inl (l :: ls))
     | (S2, .inr b) => (S2, .inr b)
theorem Cg {hi : Str} {sts : List Jz} {st : Jz} {S S1 : je} {ls : List (List Ref.Ch)} (h : gathered hi sts S = (S1, .inl ls)) :
   gathered hi (sts ++ [st]) S = (match Zb hi (st S1) with | none => ((st S1).1, .inr ((st S1).2.2.getD false)) | some l => ((st S1).1, .inl (ls ++ [l]))) := by
 induction sts generalizing S ls with
 | nil =>
   cases h
   simp only [List.nil_append, gathered]
 | cons x r ih =>
   rw [List.cons_append, gathered]
   rw [gathered] at h
   cases hg : Zb hi (x S) with
   | none => rw [hg] at h; cases h
   | some l =>
     rw [hg] at h
     simp only at h ⊢
     cases hr : gathered hi r (x S).1 with
     | mk S2 u =>
       rw [hr] at h
       cases u with
       | inr b => cases h
       | inl ls2 =>
         cases h
         rw [ih hr]
         cases Zb hi (st S1) <;> rfl
theorem Sc {hi : Str} {sts more : List Jz} {S S1 : je} {b : Bool} (h : gathered hi sts S = (S1, .inr b)) : gathered hi (sts ++ more) S = (S1, .inr b) := by
 induction sts generalizing S with
 | nil => cases h
 | cons x r ih =>
   rw [List.cons_append, gathered]
   rw [gathered] at h
   cases hg : Zb hi (x S) with
   | none => rw [hg] at h; simpa using h
   | some l =>
     rw [hg] at h
     simp only at h ⊢
     cases hr : gathered hi r (x S).1 with
     | mk S2 u =>
       rw [hr] at h
       cases u with
       | inr b2 => cases h; rw [ih hr]
       | inl ls2 => cases h
theorem lu (n : Nat) (ls : List (List Ref.Ch)) (l : List Ref.Ch) : Ref.qw n (ls ++ [l]) = Ref.qw n ls ++ (if l = [] then [] else [⟨l, n + ls.length⟩]) := by
 induction ls generalizing n with
 | nil =>
   simp only [List.nil_append, Ref.qw, List.length_nil, Nat.add_zero]
 | cons x r ih =>
   rw [List.cons_append]
   unfold Ref.qw
   rw [ih, List.length_cons, show n + 1 + r.length = n + (r.length + 1) by omega]
   split <;> simp
theorem aa (n : Nat) (ls : List (List Ref.Ch)) : (Ref.qw n ls).length ≤ ls.length := by
 induction ls generalizing n with
 | nil => exact Nat.le_refl _
 | cons l r ih =>
   have := ih (n + 1)
   unfold Ref.qw
   split
   · rw [List.length_cons]; omega
   · rw [List.length_cons, List.length_cons]; omega
theorem vw {n : Nat} {ls : List (List Ref.Ch)} : ∀ s ∈ Ref.qw n ls, s.age < n + ls.length := by
 induction ls generalizing n with
 | nil => intro s hs; cases hs
 | cons l r ih =>
   intro s hs
   unfold Ref.qw at hs
   rw [List.length_cons]
   split at hs
   · have := ih s hs; omega
   · rcases List.mem_cons.1 hs with rfl | hs
     · show n < n + (r.length + 1); omega
     · have := ih s hs; omega
theorem uz {hi : Str} {sts : List Jz} {S S1 : je} {ls : List (List Ref.Ch)} (h : gathered hi sts S = (S1, .inl ls)) : ls.length = sts.length := by
 induction sts generalizing S ls with
 | nil => cases h; rfl
 | cons x r ih =>
   rw [gathered] at h
   cases hg : Zb hi (x S) with
   | none => rw [hg] at h; cases h
   | some l =>
     rw [hg] at h
     simp only at h
     cases hr : gathered hi r (x S).1 with
     | mk S2 u =>
       rw [hr] at h
       cases u with
       | inr b => cases h
       | inl ls2 => cases h; rw [List.length_cons, List.length_cons, ih hr]
def ky (P : je → Prop) (E : Nat → Addr) (B : Nat) (ρ : Nat → jw) (d : Nat) (w : World) (f : Value) (st : Jz) : Prop :=
 ∀ (hi : Str) (W : World) (S : je), ja w W (j6 ρ) → Dk E B W ρ d S → P S → P (st S).1 ∧ (st S).2.1.length < 1048576 ∧ Calls Tryz.prog 111 #[f, jc hi] W (Dh E B ρ d (st S).1 (st S).2.1 (st S).2.2 hi W)
def jfg (P : je → Prop) (E : Nat → Addr) (B : Nat) (ρ : Nat → jw) (d : Nat) (w : World) (G : je × (List (List Ref.Ch) ⊕ Bool)) (e : Ending) (w' : World) : Prop :=
 ja w w' (j6 ρ) ∧ Dk E B w' ρ d G.1 ∧ P G.1 ∧
 ((∃ ls hb v qs, G.2 = .inl ls ∧ e = .returned (.tuple #[.pointer (some ⟨hb, 0, none⟩), .nilIface]) ∧ w.heap.size ≤ hb ∧ xe w' w.heap.size hb v qs ∧ Ref.Qd (yg qs) qs.length ∧ (yg qs).Perm (Ref.qw 0 ls) ∧ ∀ p ∈ qs, ∀ ad n c, p.1 = .slice (some ad) n c → w.heap.size ≤ ad.block) ∨
  (∃ bad ev, G.2 = .inr bad ∧ e = .returned (.tuple #[.pointer none, ev]) ∧ ve E w' ev bad))
set_option maxHeartbeats 4000000 in
set_option maxRecDepth 100000 in
theorem La {P : je → Prop} {E : Nat → Addr} {B : Nat} {ρ : Nat → jw} {d : Nat} {S : je} {w : World} (D : Dk E B w ρ d S) (Z : P S) (lv : Value) (fs : List Value) (sts : List Jz) (hi : Str) (hfs : nz w lv fs) (hoff : fs ≠ [] → ∀ p n c, lv = .slice (some p) n c → ¬ j6 ρ p.block)
   (hlen : fs.length = sts.length) (hl : fs.length < 524288) (hfun : ∀ f ∈ fs, ∃ g a b, f = .func g a b) (hC : ∀ (k : Nat) f st, fs[k]? = some f → sts[k]? = some st → ky P E B ρ d w f st) :
   Calls Tryz.prog 172 #[.agg #[lv, jc hi]] w (jfg P E B ρ d w (gathered hi sts S)) := by
 obtain ⟨lp, lc, rfl, h1, h2, h3, h4⟩ := id hfs
 have HFS := hide hfs
 have HLEN := hide hlen
 have hρ := D.rep.lt
 have hBw := D.size
 have nT : ∀ i, w.heap.size ≤ i → ¬ j6 ρ i := fun i hi h => by have := hρ i h; omega
 have HD := hide D
 have HC := hide hC
 clear h3 h4 hfs hlen D hC
 obtain ⟨G, hG⟩ : ∃ G, G = gathered hi sts S := ⟨_, rfl⟩
 rw [← hG]
 have HG := hide hG
 clear hG
 go_enter Tryz.func172, Tryz.ntmps172
 go_wp2_with fail
 have kW : ja w (((w.alloc (.cells #[.slice lp fs.length lc, jc hi] 189)).alloc (.cells #[] 288)).alloc (.cells #[.slice (some ⟨w.heap.size + 1, 0, none⟩) 0 0] 285)) (fun _ => False) := ((ja.alloc w _ _).more _).more _
 go_loopw [14] (fun iv wr => ∃ (k : Nat) (Sk : je) (ls : List (List Ref.Ch)) (v : Value) (qs : List HS), k ≤ fs.length ∧ iv = .int .i64 k ∧ Hid (gathered hi (sts.take k) S = (Sk, .inl ls)) ∧ Dk E B wr ρ d Sk ∧ P Sk ∧ ja w wr (j6 ρ) ∧ wr.heap[w.heap.size]? = some (.cells #[.slice lp fs.length lc, jc hi] 189 (0, 0)) ∧
     xe wr w.heap.size (w.heap.size + 1 + 1) v qs ∧ Ref.Qd (yg qs) qs.length ∧ (yg qs).Perm (Ref.qw 0 ls) ∧ (∀ p ∈ qs, p.2.entries ≠ []) ∧ (∀ p ∈ qs, ∀ ad n c, p.1 = .slice (some ad) n c → w.heap.size ≤ ad.block))
   (fun iv _ => fs.length - (intOf iv).toNat)
 case atStart =>
   refine ⟨0, S, [], .slice (some ⟨w.heap.size + 1, 0, none⟩) 0 0, [], Nat.zero_le _, rfl, (by unfold Hid; rfl), HD.out.same kW, Z, kW.mono (fun _ _ h => h.elim), ((ja.alloc _ _ (fun _ => False)).more _).same (jd w _) id, ⟨?_, ?_, ?_, fun p hp => (by cases hp)⟩, fun j a b h0 hj => (by simp at hj), List.Perm.nil, fun p hp => (by cases hp), fun p hp => (by cases hp)⟩
   · have := jd ((w.alloc (.cells #[.slice lp fs.length lc, jc hi] 189)).alloc (.cells #[] 288)) (.cells #[.slice (some ⟨w.heap.size + 1, 0, none⟩) 0 0] 285)
     rw [World.size_alloc, World.size_alloc] at this
     exact this
   · have h5 := jd (w.alloc (.cells #[.slice lp fs.length lc, jc hi] 189)) (.cells #[] 288)
     rw [World.size_alloc] at h5
     exact ⟨rfl, .inr ⟨w.heap.size + 1, 0, #[], rfl, by omega, (ja.alloc _ _ (fun _ => False)).same h5 id, Nat.le_refl _, Nat.zero_le _, rfl, rfl⟩⟩
   · intro e
     have : w.heap.size + 1 = w.heap.size + 1 + 1 := by injection e
     omega
 case round =>
   obtain ⟨k, Sk, ls, v, qs, hk, rfl, hgk, Dq, Zq, hkw, hbox, Hq, Tq, Pq, hne, hbl⟩ := hrel
   rcases Nat.lt_or_ge k fs.length with hlt | hge
   · obtain ⟨f, hf⟩ : ∃ f, fs[k]? = some f := ⟨_, List.getElem?_eq_getElem hlt⟩
     obtain ⟨st, hst⟩ : ∃ st, sts[k]? = some st := ⟨_, List.getElem?_eq_getElem (by rw [← HLEN.out]; exact hlt)⟩
     have hvr : nz wr (.slice lp fs.length lc) fs := HFS.out.keep hkw hoff
     obtain ⟨b, o, rfl, hcell⟩ := hvr.at hf
     obtain ⟨gf, ga, gb, rfl⟩ := hfun f (List.mem_of_getElem? hf)
     have c1 := cell_of_heap (o := 1) hbox
     simp at c1
     obtain ⟨Z1, hl1, hcall⟩ := HC.out k _ st hf hst hi wr Sk hkw Dq Zq
     have HCALL := hide hcall
     have HST := hide hst
     have HBX := hide hbox
     have HQ := hide Hq
     clear hbox hcall hst hf Hq
     go_wp2_with fail
     refine HCALL.out.mono ?_
     rintro e w1 ⟨v2, ev, rfl, k1, D1, ⟨rfl, hrow, hgood⟩ | ⟨bad, hbad, hup, rfl, hev⟩⟩
     · obtain ⟨p2, c2, rfl⟩ := jh hrow
       have H1 : xe w1 w.heap.size (w.heap.size + 1 + 1) v qs := HQ.out.keep k1 (nT _ (by omega)) (fun g hg => nT g (HQ.out.row.lt g hg).1) (fun p hp ad n c e => nT _ (hbl p hp ad n c e))
       have hbox1 := k1.same HBX.out (nT _ (Nat.le_refl _))
       have hgs : gathered hi (sts.take (k + 1)) S = ((st Sk).1, .inl (ls ++ [upTo hi (st Sk).2.1])) := by
         rw [List.take_add_one, HST.out, Option.toList_some, Cg hgk.out]
         have : Zb hi (st Sk) = some (upTo hi (st Sk).2.1) := by unfold Zb; rw [if_pos hgood]
         rw [this]
       have hlsl : ls.length = k := by rw [uz hgk.out, List.length_take, ← HLEN.out, Nat.min_eq_left hk]
       have hul : (upTo hi (st Sk).2.1).length ≤ (st Sk).2.1.length := (List.takeWhile_prefix _).length_le
       have hqsl : qs.length ≤ k := by
         have h5 := Pq.length_eq
         rw [X9] at h5
         have h6 := aa 0 ls
         omega
       have hage : ∀ q ∈ qs, q.2.age < k := by
         intro q hq
         have h5 : q.2 ∈ Ref.qw 0 ls := Pq.mem_iff.1 (List.mem_map.2 ⟨q, hq, rfl⟩)
         have h6 := vw q.2 h5
         omega
       generalize upTo hi (st Sk).2.1 = t at hrow hgs hul hgood ⊢
       have HGS := hide hgs
       have HH1 := hide H1
       have HBX1 := hide hbox1
       have HKK : Hid (ja w w1 (j6 ρ)) := hkw.trans k1 (fun _ _ h => h)
       clear hgs H1 hbox1 hgk hgood
       by_cases ht : t = []
       · subst ht
         go_wp2
         go_roundw
         case rel =>
           refine ⟨k + 1, _, _, v, qs, hlt, by simp, HGS, D1, Z1, HKK.out, HBX1.out, HH1.out, Tq, ?_, hne, hbl⟩
           rw [lu, if_pos rfl, List.append_nil]
           exact Pq
         case measure => simp [intOf]; omega
       · have hpos : (0 : Int) < (t.length : Int) := by have := List.length_pos_iff.2 ht; omega
         have hch : Chs w1 (.slice p2 t.length c2) t := Jk hrow
         have hown : ∀ g, v.ownBlock = some g → w.heap.size ≤ g ∧ g < wr.heap.size := fun g hg => HQ.out.row.lt g hg
         have hpb : ∀ ad n c, Value.slice p2 t.length c2 = .slice (some ad) n c → wr.heap.size ≤ ad.block := fun ad n c e => (hrow.lt ad.block (by rw [e]; rfl)).1
         have hw2 : w.heap.size + 1 + 1 < wr.heap.size := lt_of_heap HQ.out.box
         have HBXN : Hid (¬ v.ownBlock = some w.heap.size) := fun e => by
           rcases HQ.out.row.2 with ⟨h, _⟩ | ⟨g, cap, cur, h, _, hg, _⟩
           · rw [h] at e; cases e
           · rw [h] at e
             have e2 : g = w.heap.size := by injection e
             rw [e2, HBX.out] at hg
             cases hg
         go_wp2_with fail
         refine (Sb HH1.out hne Tq ((.slice p2 t.length c2, ⟨t, k⟩) : HS) hch ht (fun ad n c e => ⟨by have := hpb ad n c e; omega, fun e2 => by have := hpb ad n c e; have := (hown _ e2).2; omega⟩) (by omega) (by have := HKK.out.size; omega) (fun q hq => ?_)).mono ?_
         · rcases List.mem_append.1 hq with hq | hq
           · have := hage q hq; omega
           · rw [List.mem_singleton.1 hq]; show k < 4611686018427387904; omega
         · rintro e w2 ⟨rfl, v', qs', hq', H2, T2, l2, k2⟩
           have hT2 : ∀ i, (i = w.heap.size + 1 + 1 ∨ v.ownBlock = some i) → w.heap.size ≤ i := by
             rintro i (h | h)
             · omega
             · exact (hown i h).1
           have D2 := D1.apart k2 (fun i _ h => ⟨nT i (hT2 i h), by have := hT2 i h; omega⟩)
           have hk2w : ja w w2 (j6 ρ) := HKK.out.trans k2 (fun i hi h => by have := hT2 i h; omega)
           have hbox2 := k2.same HBX1.out (fun h => by
             rcases h with h | h
             · omega
             · exact HBXN.out h)
           have HH2 := hide H2
           have HQ' := hide hq'
           have HT2 := hide T2
           have HBX2 := hide hbox2
           clear H2 hq' T2 hbox2 l2
           go_wp2
           go_roundw
           case rel =>
             refine ⟨k + 1, _, _, v', qs', hlt, by simp, HGS, D2, Z1, hk2w, HBX2.out, HH2.out, HT2.out, ?_, ?_, ?_⟩
             · rw [lu, if_neg ht, hlsl, Nat.zero_add]
               have h5 := HQ'.out.map Prod.snd
               rw [List.map_append] at h5
               exact h5.trans (Pq.append_right _)
             · intro p hp
               rcases List.mem_append.1 (HQ'.out.mem_iff.1 hp) with h | h
               · exact hne p h
               · rw [List.mem_singleton.1 h]; exact ht
             · intro p hp ad n c e
               rcases List.mem_append.1 (HQ'.out.mem_iff.1 hp) with h | h
               · exact hbl p h ad n c e
               · rw [List.mem_singleton.1 h] at e
                 have := hpb ad n c e
                 omega
           case measure => simp [intOf]; omega
     · obtain ⟨te, ae, rfl⟩ := hev.shape
       have hres : gathered hi sts S = ((st Sk).1, .inr bad) := by
         have e5 : sts = sts.take (k + 1) ++ sts.drop (k + 1) := (List.take_append_drop _ _).symm
         rw [e5]
         refine Sc ?_
         rw [List.take_add_one, HST.out, Option.toList_some, Cg hgk.out]
         have : Zb hi (st Sk) = none := by unfold Zb; rw [if_neg (by rw [hbad, hup]; simp)]
         rw [this, hbad]
         rfl
       have HRES := hide hres
       have HEV := hide hev
       clear hres hev hgk
       go_wp2
       go_ret2
       rw [HG.out, HRES.out]
       exact ⟨hkw.trans k1 (fun _ _ h => h), D1, Z1, .inr ⟨bad, _, rfl, rfl, HEV.out⟩⟩
   · have ek : k = fs.length := by omega
     have hgf : gathered hi sts S = (Sk, .inl ls) := by
       have := hgk.out
       rwa [ek, HLEN.out, List.take_length] at this
     have HGF := hide hgf
     have HQ := hide Hq
     clear hgf hgk Hq hbox
     go_wp2
     go_ret2
     rw [HG.out, HGF.out]
     exact ⟨hkw, Dq, Zq, .inl ⟨ls, _, v, qs, rfl, rfl, by omega, HQ.out, Tq, Pq, hbl⟩⟩
end Go.Proofs.YtnipbplghijdmaaGreatDoor
