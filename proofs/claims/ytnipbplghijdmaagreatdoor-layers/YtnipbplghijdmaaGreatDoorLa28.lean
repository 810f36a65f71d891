/-
  La: Scan Marks FindA.
-/
import Derived.RangeFuncCalls
import Derived.RangeFuncLeaves
import Derived.Test.YtnipbplghijdmaaGreatDoorLa27
import Derived.Test.YtnipbplghijdmaaGreatDoorLa22
namespace Go.Proofs.YtnipbplghijdmaaGreatDoor
open Go.RowKit Go.Maps Go.WideShapes Go.Shelf
set_option linter.unusedVariables false
attribute [local go_sem] Oper.semAt_some
def qj (l : List Ref.Ch) : List Value := l.flatMap fun c => [jc c.key, jc c.value]
theorem Qf (l : List Ref.Ch) (c : Ref.Ch) : qj (l ++ [c]) = qj l ++ qj [c] := by simp [qj]
theorem Pz (l : List Ref.Ch) : ∀ u ∈ qj l, u.oneCell' = true := by
 intro u hu
 obtain ⟨c, _, h⟩ := List.mem_flatMap.1 hu
 simp at h
 rcases h with rfl | rfl <;> rfl
def prZ : Value := .agg #[.string ⟨#[]⟩, .string ⟨#[]⟩]
theorem Tryz.jew : (Tryz.prog.info? 65).map (fun i => (i.zero, i.size, i.bytes)) = some (some prZ, 2, 32) := by kernel_rfl
theorem jes {l : List Ref.Ch} {m : Nat} {most : Nat} (h : (kept (l.take m)).length = most) : (kept l).take most = kept (l.take m) := by
 have e : kept l = kept (l.take m) ++ kept (l.drop m) := by unfold kept; rw [← List.filter_append, List.take_append_drop]
 rw [e, ← h, List.take_left]
def Vy (E : Nat → Addr) (B : Nat) (ρ : Nat → jw) (d b : Nat) (t : TypeId) (row : Bool → Array Value) (deg : Bool) (most : Nat) (S' : je) (l : List Ref.Ch) (err : Option Bool) (w : World) (e : Ending) (w' : World) : Prop :=
 ja w w' (fun i => j6 ρ i ∨ i = b) ∧ Dk E B w' ρ d S' ∧
 ((∃ v, e = .returned (.tuple #[v, .int .i64 0]) ∧ (err = none ∨ l ≠ []) ∧ w'.ownsRow w.heap.size 65 2 v ((kept l).take most).length (qj ((kept l).take most)) ∧ w'.heap[b]? = some (.cells (row deg) t (0, 0))) ∨
  (err ≠ none ∧ e = .returned (.tuple #[.slice none 0 0, .int .i64 1]) ∧ w'.heap[b]? = some (.cells (row true) t (0, 0))))
set_option maxRecDepth 100000 in
set_option maxHeartbeats 2000000 in
theorem jdo {P : je → Prop} {E : Nat → Addr} {B : Nat} {ρ : Nat → jw} {d : Nat} {S : je} {w : World} {b : Nat} {t : TypeId} (m0 : Ref.Man) (rv last mv : Value) (mem : List Ref.Ch) (deg : Bool) (bls : List (List (List Ref.Ch))) (H : Env E B w) (D : Dk E B w ρ d S) (Z : P S) (R : cz P m0.settled bls)
   (hb : w.heap[b]? = some (.cells (yl (.pointer (some ⟨d, 0, none⟩)) (jf m0.next) (jf m0.last) (jf m0.log) (jf m0.base) rv last mv deg false) t (0, 0))) (hρb : ¬ j6 ρ b) (hBb : B ≤ b) (hv : J2 w rv m0.runs) (hl : m0.runs.length < 262144)
   (hch : Chs w mv mem) (hr : oh mem) (hmv : ∀ p n c, mv = .slice (some p) n c → ¬ j6 ρ p.block ∧ p.block < w.heap.size) (lo hi : Str) (most : Nat) (hmost : most < 9223372036854775808)
   (hll : (Q6 (gathered hi (Yc (mem.drop (Ref.below mem lo)) :: y7 bls lo) S)).length < 1048576) :
   Calls Tryz.prog 29 #[.pointer (some ⟨b, 0, none⟩), jc lo, jc hi, j4 most] w
     (Vy E B ρ d b t (fun x => yl (.pointer (some ⟨d, 0, none⟩)) (jf m0.next) (jf m0.last) (jf m0.log) (jf m0.base) rv last mv x false) deg most (gathered hi (Yc (mem.drop (Ref.below mem lo)) :: y7 bls lo) S).1 (Q6 (gathered hi (Yc (mem.drop (Ref.below mem lo)) :: y7 bls lo) S)) (Hr (gathered hi (Yc (mem.drop (Ref.below mem lo)) :: y7 bls lo) S)) w) := by
 have hsl := ym m0
 obtain ⟨wA, hwA⟩ : ∃ wA, wA = ((((w.alloc (.cells #[.pointer (some ⟨b, 0, none⟩)] 49)).alloc (.cells #[j4 most] 3)).alloc (.cells #[.slice none 0 0] 55)).alloc (.cells #[.int .i64 0] 48)).alloc (.cells #[.slice none 0 0] 55) := ⟨_, rfl⟩
 have kA : ja w wA (fun _ => False) := by rw [hwA]; exact ((((ja.alloc w _ _).more _).more _).more _).more _
 have sA : wA.heap.size = w.heap.size + 1 + 1 + 1 + 1 + 1 := by rw [hwA]; simp
 have y0 : wA.heap[w.heap.size]? = some (.cells #[.pointer (some ⟨b, 0, none⟩)] 49 (0, 0)) := by
   rw [hwA]; exact ((((ja.alloc _ _ (fun _ => False)).more _).more _).more _).same (jd w _) id
 have y1 : wA.heap[w.heap.size + 1]? = some (.cells #[j4 most] 3 (0, 0)) := by
   rw [hwA]; have := jd (w.alloc (.cells #[.pointer (some ⟨b, 0, none⟩)] 49)) (.cells #[j4 most] 3)
   rw [World.size_alloc] at this
   exact (((ja.alloc _ _ (fun _ => False)).more _).more _).same this id
 have y2 : wA.heap[w.heap.size + 1 + 1]? = some (.cells #[.slice none 0 0] 55 (0, 0)) := by
   rw [hwA]; have := jd ((w.alloc (.cells #[.pointer (some ⟨b, 0, none⟩)] 49)).alloc (.cells #[j4 most] 3)) (.cells #[.slice none 0 0] 55)
   rw [World.size_alloc, World.size_alloc] at this
   exact ((ja.alloc _ _ (fun _ => False)).more _).same this id
 have y3 : wA.heap[w.heap.size + 1 + 1 + 1]? = some (.cells #[.int .i64 0] 48 (0, 0)) := by
   rw [hwA]; have := jd (((w.alloc (.cells #[.pointer (some ⟨b, 0, none⟩)] 49)).alloc (.cells #[j4 most] 3)).alloc (.cells #[.slice none 0 0] 55)) (.cells #[.int .i64 0] 48)
   rw [World.size_alloc, World.size_alloc, World.size_alloc] at this
   exact (ja.alloc _ _ (fun _ => False)).same this id
 have y4 : wA.heap[w.heap.size + 1 + 1 + 1 + 1]? = some (.cells #[.slice none 0 0] 55 (0, 0)) := by
   rw [hwA]; have := jd ((((w.alloc (.cells #[.pointer (some ⟨b, 0, none⟩)] 49)).alloc (.cells #[j4 most] 3)).alloc (.cells #[.slice none 0 0] 55)).alloc (.cells #[.int .i64 0] 48)) (.cells #[.slice none 0 0] 55)
   rw [World.size_alloc, World.size_alloc, World.size_alloc, World.size_alloc] at this
   exact this
 have hbl := lt_of_heap hb
 have hset := uk d m0 rv last mv mem deg false lo (H.same kA) (kA.same hb id) (hv.same kA) (by omega) R.num (hch.same kA) hr.1 hr.2.2
 have hgm : oh (mem.drop (Ref.below mem lo)) := ⟨hr.1.sublist (List.drop_sublist _ _), fun c hc => hr.2.1 c (List.mem_of_mem_drop hc), Nat.lt_of_le_of_lt (List.drop_sublist _ _).length_le hr.2.2⟩
 have hgood : ∀ ls, (gathered hi (Yc (mem.drop (Ref.below mem lo)) :: y7 bls lo) S).2 = .inl ls → Dg ls := fun ls e => Dg.of (Ci (fun st hst S' => by
   rcases List.mem_cons.1 hst with rfl | hst
   · exact hgm
   · exact R.good lo st hst S') e)
 have hρ := D.rep.lt
 have hB := D.size
 have hmg := fun (fm lv : Value) (hfm : ∃ g a b, fm = .func g a b) (n : Nat) => mi (P := P) (E := E) (B := B) (ρ := ρ) (d := d) (n := n) (S := S) lv (fm :: m0.settled.map (fun n => Xz d n lo)) (Yc (mem.drop (Ref.below mem lo)) :: y7 bls lo) hi (by simp [R.len]) (by simp; omega) (fun f hf => by
   rcases List.mem_cons.1 hf with rfl | hf
   · exact hfm
   · obtain ⟨n, _, rfl⟩ := List.mem_map.1 hf
     exact ⟨_, _, _, rfl⟩) hgood
 have HLAY : Hid (∀ (W : World) (k : Nat) f st, (m0.settled.map (fun n => Xz d n lo))[k]? = some f → (y7 bls lo)[k]? = some st → ky P E B ρ d W f st) := fun W => R.layers lo
 obtain ⟨sts, hsts⟩ : ∃ sts, sts = Yc (mem.drop (Ref.below mem lo)) :: y7 bls lo := ⟨_, rfl⟩
 rw [← hsts] at hmg hll ⊢
 generalize gathered hi sts S = G at hmg hll ⊢
 generalize Q6 G = l at hmg hll ⊢
 generalize Hr G = err at hmg ⊢
 generalize G.1 = S' at hmg ⊢
 have HMG := hide hmg
 rw [hwA] at hset
 have HSET := hide hset
 have HB := hide hb
 have HSTS := hide hsts
 have HMV := hide hmv
 have HGM := hide hgm
 have HWA := hide hwA
 have HY0 := hide y0
 have HY1 := hide y1
 have HY2 := hide y2
 have HY3 := hide y3
 have HY4 := hide y4
 have d9 := cell_of_heap (o := 9) (((ja.alloc w (.cells #[.pointer (some ⟨b, 0, none⟩)] 49) (fun _ => False)).more (.cells #[j4 most] 3)).more (.cells #[.slice none 0 0] 55) |>.more (.cells #[.int .i64 0] 48) |>.same hb id)
 simp at d9
 clear hmg hset hb hsts hgood hmv hgm hwA y0 y1 y2 y3 y4 hch hr
 refine (callsIn_wide (n := 9)).1 ?_
 refine callsIn_of_wp_marks Tryz.func29 rfl trivial ?_ rfl
 simp only [Tryz.ntmps29, List.size_toArray, List.length_cons, List.length_nil, Nat.reduceAdd, Nat.reduceSub, Array.replicate_succ, Array.replicate_zero, List.push_toArray, List.append_toArray, List.nil_append, List.cons_append]
 gi_wp2_with fail
 refine ⟨trivial, (callsIn_wide.2 HSET.out).mono ?_⟩
 rintro e W0 ⟨lp0, lc0, v0, rfl, hown0, hch0, hbk0, kS⟩
 rw [← HWA.out] at hown0 kS
 have HBK0 := hide hbk0
 have HCH0 := hide hch0
 clear hbk0 hch0
 gi_wp2_with fail
 refine ⟨trivial, (callsIn_wide.2 (Oq lp0 (m0.settled.length + 1) lc0 hi W0)).mono ?_⟩
 rintro e W0' ⟨rfl, rfl⟩
 gi_wp2
 have kW : ja w W0' (fun _ => False) := kA.trans kS (fun _ _ h => h)
 have sW : w.heap.size + 1 + 1 + 1 + 1 + 1 ≤ W0'.heap.size := by have := kS.size; omega
 have bb := kW.same HB.out id
 have b0 := kS.same HY0.out id
 have b1 := kS.same HY1.out id
 have b2 := kS.same HY2.out id
 have b3 := kS.same HY3.out id
 have b4 := kS.same HY4.out id
 have nT : ∀ i, w.heap.size ≤ i → ¬ j6 ρ i := fun i hi h => by have := hρ i h; omega
 have hvals : nz W0' (.slice lp0 (m0.settled.length + 1) lc0) (Fp v0 :: m0.settled.map (fun n => Xz d n lo)) := dx hown0 (by simp)
 have hoff : Fp v0 :: m0.settled.map (fun n => Xz d n lo) ≠ [] → ∀ p n c, Value.slice lp0 (m0.settled.length + 1) lc0 = .slice (some p) n c → ¬ j6 ρ p.block := by
   intro _ p n c e
   injection e with e
   have := (hown0.lt p.block (by rw [e]; rfl)).1
   exact nT _ (by omega)
 have hv0 : ∀ p n c, v0 = .slice (some p) n c → ¬ j6 ρ p.block ∧ p.block < w.heap.size := by
   intro p n c e
   obtain ⟨ad', n', c', e1, e2⟩ := HBK0.out p n c e
   rw [← e2]
   exact HMV.out ad' n' c' e1
 have hstartM : ∀ W1, ja W0' W1 (fun _ => False) → F8 P E B ρ d S (.slice lp0 (m0.settled.length + 1) lc0) (Fp v0 :: m0.settled.map (fun n => Xz d n lo)) sts W1 := by
   intro W1 k
   have k1 := kW.trans k (fun _ _ h => h)
   refine ⟨D.same k1, Z, hvals.same k, hoff, fun j f st hf hst => ?_⟩
   rw [HSTS.out] at hst
   cases j with
   | zero =>
     cases hf
     cases hst
     exact jeh (HCH0.out.same k) HGM.out.2.2 (fun p n c e => ⟨(hv0 p n c e).1, by have := (hv0 p n c e).2; have := k1.size; omega⟩) (by have := k1.size; omega)
   | succ j => exact HLAY.out W1 j f st hf hst
 have HSM := hide hstartM
 clear hstartM hvals hoff hown0
 have leave : ∀ {W : World} {D : Nat} {v : Value}, (err = none ∨ l ≠ []) → W0'.heap.size ≤ D → ¬ v.ownBlock = some D → W.heap[D]? = some (.deferred (some [])) → Dk E B W ρ d S' → (W.heap[b]? = some (.cells (yl (.pointer (some ⟨d, 0, none⟩)) (jf m0.next) (jf m0.last) (jf m0.log) (jf m0.base) rv last mv deg false) t (0, 0)) ∧ W.heap[w.heap.size]? = some (.cells #[.pointer (some ⟨b, 0, none⟩)] 49 (0, 0)) ∧ W.heap[w.heap.size + 1]? = some (.cells #[j4 most] 3 (0, 0)) ∧ W.heap[w.heap.size + 1 + 1]? = some (.cells #[.slice none 0 0] 55 (0, 0)) ∧ W.heap[w.heap.size + 1 + 1 + 1]? = some (.cells #[.int .i64 0] 48 (0, 0))) → W.ownsRow w.heap.size 65 2 v ((kept l).take most).length (qj ((kept l).take most)) → (∀ g, v.ownBlock = some g → w.heap.size + 5 ≤ g) → ja w W (fun i => j6 ρ i ∨ i = b) →
     ((W.setCell ⟨w.heap.size + 1 + 1, 0, none⟩ v).setCell ⟨w.heap.size + 1 + 1 + 1, 0, none⟩ (.int .i64 0)).heap[D]? = some (.deferred (some [])) ∧
     (((W.setCell ⟨w.heap.size + 1 + 1, 0, none⟩ v).setCell ⟨w.heap.size + 1 + 1 + 1, 0, none⟩ (.int .i64 0)).putObj D (.deferred none)).cell? ⟨w.heap.size + 1 + 1, 0, none⟩ = some v ∧
     (((W.setCell ⟨w.heap.size + 1 + 1, 0, none⟩ v).setCell ⟨w.heap.size + 1 + 1 + 1, 0, none⟩ (.int .i64 0)).putObj D (.deferred none)).cell? ⟨w.heap.size + 1 + 1 + 1, 0, none⟩ = some (.int .i64 0) ∧
     Vy E B ρ d b t (fun x => yl (.pointer (some ⟨d, 0, none⟩)) (jf m0.next) (jf m0.last) (jf m0.log) (jf m0.base) rv last mv x false) deg most S' l err w (.returned (.tuple #[v, .int .i64 0])) (((W.setCell ⟨w.heap.size + 1 + 1, 0, none⟩ v).setCell ⟨w.heap.size + 1 + 1 + 1, 0, none⟩ (.int .i64 0)).putObj D (.deferred none)) := by
   intro W D v h1 hD hnd hK DK ⟨gb, g0, g1, g2, g3⟩ hrow hown hkw
   have k1 := ja.setCell W ⟨w.heap.size + 1 + 1, 0, none⟩ v
   have k2 := ja.setCell (W.setCell ⟨w.heap.size + 1 + 1, 0, none⟩ v) ⟨w.heap.size + 1 + 1 + 1, 0, none⟩ (.int .i64 0)
   have k3 := ja.putObj ((W.setCell ⟨w.heap.size + 1 + 1, 0, none⟩ v).setCell ⟨w.heap.size + 1 + 1 + 1, 0, none⟩ (.int .i64 0)) D (.deferred none)
   have kk : ja W (((W.setCell ⟨w.heap.size + 1 + 1, 0, none⟩ v).setCell ⟨w.heap.size + 1 + 1 + 1, 0, none⟩ (.int .i64 0)).putObj D (.deferred none)) (fun i => i = w.heap.size + 1 + 1 ∨ i = w.heap.size + 1 + 1 + 1 ∨ i = D) :=
     ((k1.mono (fun _ _ h => .inl h)).trans k2 (fun _ _ h => .inr (.inl h))).trans k3 (fun _ _ h => .inr (.inr h))
   have e1 := k2.same (jb (o := 0) g2 v) (by simp)
   have e2 := jb (o := 0) (k1.same g3 (by simp)) (Value.int .i64 0)
   refine ⟨k2.same (k1.same hK (by simp; omega)) (by simp; omega), (cell_of_heap (k3.same e1 (by omega))).trans rfl, (cell_of_heap (k3.same e2 (by omega))).trans rfl, hkw.trans kk (fun i hi h => by omega), ?_, .inl ⟨v, rfl, h1, ?_, kk.same gb (by omega)⟩⟩
   · refine DK.apart kk (fun i hi h => ?_)
     rcases h with h | h | h
     · exact ⟨nT i (by omega), by omega⟩
     · exact ⟨nT i (by omega), by omega⟩
     · exact ⟨nT i (by omega), by omega⟩
   · refine kk.row hrow (fun g hg h => ?_)
     have := hown g hg
     rcases h with h | h | h
     · omega
     · omega
     · exact hnd (h ▸ hg)
 refine Z7 rfl (by decide) (gf := 123) (rv := #[.agg #[.slice lp0 (m0.settled.length + 1) lc0, jc hi]]) (lb := #[]) rfl trivial ni (HMG.out (Fp v0) _ ⟨_, _, _, rfl⟩ 8) (fun _ => rfl) (fun i h => by have := hρ i h; omega) (fun i h => by omega) HSM.out
   (fun pre C W => ∃ (m : Nat) (v : Value), pre = (l.take m).map Jd ∧ m ≤ l.length ∧ (kept (l.take m)).length ≤ most ∧ (W.heap[b]? = some (.cells (yl (.pointer (some ⟨d, 0, none⟩)) (jf m0.next) (jf m0.last) (jf m0.log) (jf m0.base) rv last mv deg false) t (0, 0)) ∧ W.heap[w.heap.size]? = some (.cells #[.pointer (some ⟨b, 0, none⟩)] 49 (0, 0)) ∧ W.heap[w.heap.size + 1]? = some (.cells #[j4 most] 3 (0, 0)) ∧ W.heap[w.heap.size + 1 + 1]? = some (.cells #[.slice none 0 0] 55 (0, 0)) ∧ W.heap[w.heap.size + 1 + 1 + 1]? = some (.cells #[.int .i64 0] 48 (0, 0))) ∧ W.heap[w.heap.size + 1 + 1 + 1 + 1]? = some (.cells #[v] 55 (0, 0)) ∧ W.ownsRow w.heap.size 65 2 v (kept (l.take m)).length (qj (kept (l.take m))) ∧ (∀ g, v.ownBlock = some g → w.heap.size + 5 ≤ g) ∧ ja w W (fun i => j6 ρ i ∨ i = b) ∧ (∀ i, C i ↔ i = b ∨ i = w.heap.size + 1 + 1 ∨ i = w.heap.size + 1 + 1 + 1 ∨ i = w.heap.size + 1 + 1 + 1 + 1 ∨ v.ownBlock = some i))
   (fun c pre C W => (c = .ret ∧ err ≠ none ∧ W.heap[b]? = some (.cells (yl (.pointer (some ⟨d, 0, none⟩)) (jf m0.next) (jf m0.last) (jf m0.log) (jf m0.base) rv last mv true false) t (0, 0)) ∧ W.heap[w.heap.size + 1 + 1]? = some (.cells #[.slice none 0 0] 55 (0, 0)) ∧ W.heap[w.heap.size + 1 + 1 + 1]? = some (.cells #[.int .i64 1] 48 (0, 0)) ∧ ja w W (fun i => j6 ρ i ∨ i = b)) ∨
     (c = .exit 0 ∧ ∃ (v : Value), l ≠ [] ∧ (W.heap[b]? = some (.cells (yl (.pointer (some ⟨d, 0, none⟩)) (jf m0.next) (jf m0.last) (jf m0.log) (jf m0.base) rv last mv deg false) t (0, 0)) ∧ W.heap[w.heap.size]? = some (.cells #[.pointer (some ⟨b, 0, none⟩)] 49 (0, 0)) ∧ W.heap[w.heap.size + 1]? = some (.cells #[j4 most] 3 (0, 0)) ∧ W.heap[w.heap.size + 1 + 1]? = some (.cells #[.slice none 0 0] 55 (0, 0)) ∧ W.heap[w.heap.size + 1 + 1 + 1]? = some (.cells #[.int .i64 0] 48 (0, 0))) ∧ W.heap[w.heap.size + 1 + 1 + 1 + 1]? = some (.cells #[v] 55 (0, 0)) ∧ W.ownsRow w.heap.size 65 2 v ((kept l).take most).length (qj ((kept l).take most)) ∧ (∀ g, v.ownBlock = some g → C g ∧ w.heap.size + 5 ≤ g) ∧ ja w W (fun i => j6 ρ i ∨ i = b)))
   ?hI ?hIx (fun i => i = b ∨ i = w.heap.size + 1 + 1 ∨ i = w.heap.size + 1 + 1 + 1 ∨ i = w.heap.size + 1 + 1 + 1 + 1) ?hC0 ?h0 ?round ?done ?stop
 case hI =>
   rintro pre C A B' ⟨m, v, e, hm, hmo, ⟨gb, g0, g1, g2, g3⟩, g4, hrow, hown, hkw, hC⟩ hk
   have out : ∀ i, (i = b ∨ w.heap.size ≤ i) → (i < w.heap.size + 5 ∨ v.ownBlock = some i) → ¬ (j6 ρ i ∨ (W0'.heap.size ≤ i ∧ ¬ C i)) := by
     rintro i h1 h2 (h3 | ⟨h3, h4⟩)
     · rcases h1 with h1 | h1
       · exact hρb (h1 ▸ h3)
       · exact nT i h1 h3
     · rcases h2 with h2 | h2
       · omega
       · exact h4 ((hC i).2 (.inr (.inr (.inr (.inr h2)))))
   refine ⟨m, v, e, hm, hmo, ⟨ja.same hk gb (out _ (.inl rfl) (.inl (by omega))), ja.same hk g0 (out _ (.inr (by omega)) (.inl (by omega))), ja.same hk g1 (out _ (.inr (by omega)) (.inl (by omega))), ja.same hk g2 (out _ (.inr (by omega)) (.inl (by omega))), ja.same hk g3 (out _ (.inr (by omega)) (.inl (by omega)))⟩, ja.same hk g4 (out _ (.inr (by omega)) (.inl (by omega))),
     ja.row hk hrow (fun g hg => out g (.inr (by have := hown g hg; omega)) (.inr hg)), hown, hkw.trans hk (fun i hi h => ?_), hC⟩
   rcases h with h | ⟨h, _⟩
   · exact .inl h
   · omega
 case hIx =>
   rintro c pre C A B' lp r (⟨rfl, h1, h3, h4, h5, h6⟩ | ⟨rfl, v, h1, ⟨gb, g0, g1, g2, g3⟩, g4, hrow, hown, hkw⟩) hlp hnc hr hk
   · have hne : ∀ i, i < w.heap.size + 5 → ¬ i = lp := fun i hi => by omega
     exact .inl ⟨rfl, h1, hk.same h3 (hne _ (by omega)), hk.same h4 (hne _ (by omega)), hk.same h5 (hne _ (by omega)), h6.trans hk (fun i hi e => by omega)⟩
   · have hne : ∀ i, i < w.heap.size + 5 → ¬ i = lp := fun i hi => by omega
     exact .inr ⟨rfl, v, h1, ⟨hk.same gb (hne _ (by omega)), hk.same g0 (hne _ (by omega)), hk.same g1 (hne _ (by omega)), hk.same g2 (hne _ (by omega)), hk.same g3 (hne _ (by omega))⟩, hk.same g4 (hne _ (by omega)), hk.row hrow (fun g hg e => hnc (e ▸ (hown g hg).1)), hown, hkw.trans hk (fun i hi e => by omega)⟩
 case hC0 =>
   rintro i (h | h | h | h)
   · exact ⟨by omega, by rw [h]; exact hρb, fun h => by omega⟩
   all_goals exact ⟨by omega, nT i (by omega), fun h => by omega⟩
 case h0 => exact ⟨0, .slice none 0 0, rfl, Nat.zero_le _, Nat.zero_le _, ⟨bb, b0, b1, b2, b3⟩, b4, World.ownsRow_nil _ _ _ _, fun g hg => (by cases hg), kW.mono (fun _ _ h => h.elim), fun i => by simp [Value.ownBlock]⟩
 case round =>
   rintro lp pre x C W hlp ⟨rl, hrl⟩ hnl hbd ⟨m, v, rfl, hm, hmo, ⟨gb, g0, g1, g2, g3⟩, g4, hrow, hown, hkw, hC⟩ hcan
   have hlt := lt_of_heap hrl
   have hne : ∀ i, i < w.heap.size + 5 → ¬ i = lp := fun i hi => by omega
   rcases hcan with ⟨k, c, e, hk, rfl⟩ | ⟨bad, he, e, hx1, hx2⟩
   · have hk2 := (List.getElem?_eq_some_iff.1 hk).1
     have hlne : l ≠ [] := fun e => by rw [e] at hk; cases hk
     obtain rfl : m = k := by
       have := congrArg List.length e
       simp at this
       omega
     clear e
     obtain ⟨ck, cv, cg⟩ := c
     dsimp only [encI, Jd]
     gi_wp2
     refine ⟨ja.alloc W _ _, ?_⟩
     intro W2 k2 _
     have ka : ja W W2 (fun i => i = lp) := ((ja.alloc W _ (fun _ => False)).mono (fun _ _ h => h.elim)).trans k2 (fun _ _ h => h)
     have hb := k2.same (jd W _) (by omega)
     have q0 := cell_of_heap (o := 0) hb
     have q1 := cell_of_heap (o := 1) hb
     have q2 := cell_of_heap (o := 2) hb
     have gb' := ka.same gb (hne _ (by omega))
     have g0' := ka.same g0 (hne _ (by omega))
     have g1' := ka.same g1 (hne _ (by omega))
     have g2' := ka.same g2 (hne _ (by omega))
     have g3' := ka.same g3 (hne _ (by omega))
     have g4' := ka.same g4 (hne _ (by omega))
     have a1 := cell_of_heap (o := 0) g1'
     have a4 := cell_of_heap (o := 0) g4'
     have f4 := frozen_of_heap (o := 0) g4'
     simp at q0 q1 q2 a1 a4
     have hrow' := ka.row hrow (fun g hg e => hnl ((hC lp).2 (.inr (.inr (.inr (.inr (e ▸ hg)))))))
     have hHC := hide hC
     have hkw' : ja w W2 (fun i => j6 ρ i ∨ i = b) := hkw.trans ka (fun i hi e => by omega)
     have HGB := hide gb'
     have HG0 := hide g0'
     have HG1 := hide g1'
     have HG2 := hide g2'
     have HG3 := hide g3'
     have HG4 := hide g4'
     clear gb g0 g1 g2 g3 g4 gb' g0' g1' g2' g3' g4' hb hC
     have hsW : W.heap.size + 1 ≤ W2.heap.size := by have := k2.size; simpa using this
     have hkp := Ow hk
     have hkl := Gm l m
     have e1 : (l.take m).map Jd ++ [Jd ⟨ck, cv, cg⟩] = (l.take (m + 1)).map Jd := (lh hk).symm
     have E1 := hide e1
     clear e1
     obtain ⟨pv, cpv, rfl⟩ := jh hrow'
     obtain ⟨q, hq⟩ : ∃ q, q = (kept (l.take m)).length := ⟨_, rfl⟩
     obtain ⟨L, hL⟩ : ∃ L, L = kept (l.take m) := ⟨_, rfl⟩
     have hq' : q = L.length := by rw [hq, hL]
     rw [← hq] at hrow' hkl hown hHC a4 HG4 hmo
     rw [← hL] at hrow' hkp
     clear hrow
     by_cases hfull : q = most
     · have hall := jes (l := l) (m := m) (most := most) (by rw [← hq]; exact hfull)
       rw [← hL] at hall
       have hlen : ((kept l).take most).length = q := by rw [hall, ← hq']
       have hqi : ((q : Int) == (most : Int)) = true := by simp [hfull]
       have HALL := hide hall
       have HLEN := hide hlen
       have HROW := hide hrow'
       clear hall hlen hrow' hq hL hq' hkp hfull
       gi_wp2
       refine ⟨C, fun i h => .inl h, fun i h => Nat.lt_of_lt_of_le (hbd i h) (by omega), ja.refl _ _, .inr ⟨rfl, .slice pv q cpv, hlne, ⟨HGB.out, HG0.out, HG1.out, HG2.out, HG3.out⟩, HG4.out, by rw [HLEN.out, HALL.out]; exact HROW.out, fun g hg => ⟨(hHC.out g).2 (.inr (.inr (.inr (.inr hg)))), hown g hg⟩, hkw'⟩⟩
     · have hqi : ((q : Int) == (most : Int)) = false := by simp; omega
       have hqi2 : ¬ ((q : Int) = (most : Int)) := by omega
       have hqm : q + 1 ≤ most := by omega
       cases cg with
       | true =>
         simp only [if_true, List.append_nil] at hkp
         have hkp2 : (kept (l.take (m + 1))).length = q := by rw [hkp, ← hq']
         have HKP := hide hkp
         have HKP2 := hide hkp2
         have HROW := hide hrow'
         clear hkp hkp2 hrow' hq hL hq' hfull
         gi_wp2
         refine ⟨C, fun i h => .inl h, fun i h => Nat.lt_of_lt_of_le (hbd i h) (by omega), ja.refl _ _, m + 1, .slice pv q cpv, E1.out, hk2, by rw [HKP2.out]; omega, ⟨HGB.out, HG0.out, HG1.out, HG2.out, HG3.out⟩, HG4.out, by rw [HKP2.out, HKP.out]; exact HROW.out, hown, hkw', hHC.out⟩
       | false =>
         rw [if_neg (by simp)] at hkp
         have hkp2 : (kept (l.take (m + 1))).length = q + 1 := by rw [hkp, List.length_append, ← hq']; rfl
         have fin : ∀ (p3 : Option Addr) (cp3 : Nat) (W3 : World), W3.ownsRow w.heap.size 65 2 (.slice p3 (q + 1) cp3) (q + 1) (qj L ++ qj [⟨ck, cv, false⟩]) →
             (W2.alloc (.cells #[jc ck, jc cv] 65)).grownBy W3 (Value.slice pv q cpv).ownBlock → ((Value.slice p3 (q + 1) cp3).ownBlock = (Value.slice pv q cpv).ownBlock ∨ (Value.slice p3 (q + 1) cp3).ownBlock = some (W2.alloc (.cells #[jc ck, jc cv] 65)).heap.size) →
             ∃ C' : Nat → Prop, (∀ i, C' i → C i ∨ W.heap.size ≤ i) ∧ (∀ i, C' i → i < (W3.setCell ⟨w.heap.size + 1 + 1 + 1 + 1, 0, none⟩ (.slice p3 (q + 1) cp3)).heap.size) ∧ ja W2 (W3.setCell ⟨w.heap.size + 1 + 1 + 1 + 1, 0, none⟩ (.slice p3 (q + 1) cp3)) C ∧
               ∃ (m' : Nat) (v : Value), (l.take m).map Jd ++ [Jd ⟨ck, cv, false⟩] = (l.take m').map Jd ∧ m' ≤ l.length ∧ (kept (l.take m')).length ≤ most ∧ ((W3.setCell ⟨w.heap.size + 1 + 1 + 1 + 1, 0, none⟩ (.slice p3 (q + 1) cp3)).heap[b]? = some (.cells (yl (.pointer (some ⟨d, 0, none⟩)) (jf m0.next) (jf m0.last) (jf m0.log) (jf m0.base) rv last mv deg false) t (0, 0)) ∧ (W3.setCell ⟨w.heap.size + 1 + 1 + 1 + 1, 0, none⟩ (.slice p3 (q + 1) cp3)).heap[w.heap.size]? = some (.cells #[.pointer (some ⟨b, 0, none⟩)] 49 (0, 0)) ∧ (W3.setCell ⟨w.heap.size + 1 + 1 + 1 + 1, 0, none⟩ (.slice p3 (q + 1) cp3)).heap[w.heap.size + 1]? = some (.cells #[j4 most] 3 (0, 0)) ∧ (W3.setCell ⟨w.heap.size + 1 + 1 + 1 + 1, 0, none⟩ (.slice p3 (q + 1) cp3)).heap[w.heap.size + 1 + 1]? = some (.cells #[.slice none 0 0] 55 (0, 0)) ∧ (W3.setCell ⟨w.heap.size + 1 + 1 + 1 + 1, 0, none⟩ (.slice p3 (q + 1) cp3)).heap[w.heap.size + 1 + 1 + 1]? = some (.cells #[.int .i64 0] 48 (0, 0))) ∧ (W3.setCell ⟨w.heap.size + 1 + 1 + 1 + 1, 0, none⟩ (.slice p3 (q + 1) cp3)).heap[w.heap.size + 1 + 1 + 1 + 1]? = some (.cells #[v] 55 (0, 0)) ∧ (W3.setCell ⟨w.heap.size + 1 + 1 + 1 + 1, 0, none⟩ (.slice p3 (q + 1) cp3)).ownsRow w.heap.size 65 2 v (kept (l.take m')).length (qj (kept (l.take m'))) ∧ (∀ g, v.ownBlock = some g → w.heap.size + 5 ≤ g) ∧ ja w (W3.setCell ⟨w.heap.size + 1 + 1 + 1 + 1, 0, none⟩ (.slice p3 (q + 1) cp3)) (fun i => j6 ρ i ∨ i = b) ∧ (∀ i, C' i ↔ i = b ∨ i = w.heap.size + 1 + 1 ∨ i = w.heap.size + 1 + 1 + 1 ∨ i = w.heap.size + 1 + 1 + 1 + 1 ∨ v.ownBlock = some i) := by
           intro p3 cp3 W3 hr3 hg3 hl3
           have kA : ja W2 (W2.alloc (.cells #[jc ck, jc cv] 65)) (fun _ => False) := ja.alloc _ _ _
           have k3 : ja W2 W3 (fun i => (Value.slice pv q cpv).ownBlock = some i) := (kA.mono (fun _ _ h => h.elim)).trans (ja.grown hg3) (fun i _ e => e.symm)
           have k4 := ja.setCell W3 ⟨w.heap.size + 1 + 1 + 1 + 1, 0, none⟩ (.slice p3 (q + 1) cp3)
           have hlow : ∀ i, i < w.heap.size + 5 → ¬ (Value.slice pv q cpv).ownBlock = some i := fun i hi e => by have := hown i e; omega
           have h44 := k3.same HG4.out (hlow _ (by omega))
           have hs3 := k3.size
           have hw0 := kW.size
           have hg3' : ∀ g, (Value.slice p3 (q + 1) cp3).ownBlock = some g → (Value.slice pv q cpv).ownBlock = some g ∨ W2.heap.size ≤ g := by
             intro g hg
             rcases hl3 with h | h
             · exact .inl (h ▸ hg)
             · rw [h] at hg
               cases hg
               exact .inr (by simp)
           have hrow4 := k4.row hr3 (fun g hg e => by
             have e' : g = w.heap.size + 1 + 1 + 1 + 1 := e
             rcases hg3' g hg with h | h
             · exact hlow g (by omega) h
             · omega)
           refine ⟨fun i => i = b ∨ i = w.heap.size + 1 + 1 ∨ i = w.heap.size + 1 + 1 + 1 ∨ i = w.heap.size + 1 + 1 + 1 + 1 ∨ (Value.slice p3 (q + 1) cp3).ownBlock = some i, ?_, ?_, ?_, m + 1, (.slice p3 (q + 1) cp3), E1.out, hk2, by rw [hkp2]; omega, ⟨?_, ?_, ?_, ?_, ?_⟩, ?_, ?_, ?_, ?_, fun _ => Iff.rfl⟩
           · rintro i (h | h | h | h | h)
             · exact .inl ((hHC.out i).2 (.inl h))
             · exact .inl ((hHC.out i).2 (.inr (.inl h)))
             · exact .inl ((hHC.out i).2 (.inr (.inr (.inl h))))
             · exact .inl ((hHC.out i).2 (.inr (.inr (.inr (.inl h)))))
             · rcases hg3' i h with h | h
               · exact .inl ((hHC.out i).2 (.inr (.inr (.inr (.inr h)))))
               · exact .inr (by omega)
           · intro i h
             have hsz : (W3.setCell ⟨w.heap.size + 1 + 1 + 1 + 1, 0, none⟩ (.slice p3 (q + 1) cp3)).heap.size = W3.heap.size := by simp [World.setCell]
             rw [hsz]
             rcases h with h | h | h | h | h
             · omega
             · omega
             · omega
             · omega
             · exact (hr3.lt i h).2
           · exact (k3.mono (fun i _ h => (hHC.out i).2 (.inr (.inr (.inr (.inr h)))))).trans k4 (fun i _ e => (hHC.out i).2 (.inr (.inr (.inr (.inl e)))))
           · exact k4.same (k3.same HGB.out (hlow _ (by omega))) (by simp <;> omega)
           · exact k4.same (k3.same HG0.out (hlow _ (by omega))) (by simp <;> omega)
           · exact k4.same (k3.same HG1.out (hlow _ (by omega))) (by simp <;> omega)
           · exact k4.same (k3.same HG2.out (hlow _ (by omega))) (by simp <;> omega)
           · exact k4.same (k3.same HG3.out (hlow _ (by omega))) (by simp)
           · exact (jb h44 _).trans rfl
           · rw [hkp2, hkp, Qf]; exact hrow4
           · intro g hg
             rcases hg3' g hg with h | h
             · exact hown g h
             · omega
           · exact (hkw'.trans k3 (fun i hi e => by have := hown i e; omega)).trans k4 (fun i hi e => by have e' : i = w.heap.size + 1 + 1 + 1 + 1 := e; omega)
         have h63 : q + 1 ≤ maxLen := by unfold maxLen; omega
         have hbs : (q + 1) * 32 ≤ 140737488355328 := by omega
         have hbb : w.heap.size ≤ (W2.alloc (.cells #[jc ck, jc cv] 65)).heap.size := by simp; have := kW.size; omega
         have hnew : ∀ j u, (qj [⟨ck, cv, false⟩])[j]? = some u → (W2.alloc (.cells #[jc ck, jc cv] 65)).cell? ((⟨W2.heap.size, 0, none⟩ : Addr).add j) = some u := Qc (jd W2 _) rfl
         have hone := Pz [⟨ck, cv, false⟩]
         obtain ⟨j0, hj, hy0, hy1, hy2⟩ := info_parts Tryz.jew
         have hst : ∀ W3 : World, (W2.alloc (.cells #[jc ck, jc cv] 65)).grownBy W3 (Value.slice pv q cpv).ownBlock → W3.cell? ⟨w.heap.size + 1 + 1 + 1 + 1, 0, none⟩ = some (.slice pv q cpv) ∧ W3.frozen? ⟨w.heap.size + 1 + 1 + 1 + 1, 0, none⟩ = false := by
           intro W3 hg3
           have h33 := (ja.grown hg3).same ((ja.alloc W2 (.cells #[jc ck, jc cv] 65) (fun _ => False)).same HG4.out id) (fun e => by have := hown _ e.symm; omega)
           exact ⟨(cell_of_heap h33).trans rfl, frozen_of_heap h33⟩
         have HST := hide hst
         have HFIN := hide fin
         have H63 := hide h63
         have HBS := hide hbs
         have HBBB := hide hbb
         have HNEW := hide hnew
         have HONE := hide hone
         have HROW := hide (hrow'.alloc (.cells #[jc ck, jc cv] 65))
         clear hst fin h63 hbs hbb hnew hone hkp hkp2 hq hL hq' hrow'
         gi_wp2_with (gi_at_builtin; refine Qu _ rfl (.tmp 37) (.tmp 43) 55 rfl w.heap.size 65 j0 prZ 2 32 Tryz.underlying55 hj hy0 hy1 hy2 rfl (Nat.zero_lt_succ 1) (.slice pv q cpv) q (qj L) rfl HROW.out ⟨W2.heap.size, 0, none⟩ 1 1 (qj [⟨ck, cv, false⟩]) rfl rfl HNEW.out HONE.out H63.out HBS.out HBBB.out ?_; intro p3 cp3 W3 hr3 hg3 hl3; obtain ⟨c33, f33⟩ := HST.out W3 hg3)
         exact HFIN.out p3 cp3 W3 hr3 hg3 hl3
   · obtain ⟨x1, ev⟩ := x
     simp only at hx1 hx2
     subst hx1
     obtain ⟨tv, av, rfl⟩ := hx2.shape
     dsimp only [encI, ak]
     gi_wp2
     refine ⟨ja.alloc W _ _, ?_⟩
     intro W2 k2 _
     have ka : ja W W2 (fun i => i = lp) := ((ja.alloc W _ (fun _ => False)).mono (fun _ _ h => h.elim)).trans k2 (fun _ _ h => h)
     have gb' := ka.same gb (hne _ (by omega))
     have g0' := ka.same g0 (hne _ (by omega))
     have g2' := ka.same g2 (hne _ (by omega))
     have g3' := ka.same g3 (hne _ (by omega))
     have a0 := cell_of_heap (o := 0) g0'
     simp at a0
     have hdeg := Gs gb'
     have HDG := hide hdeg
     have HG2 := hide g2'
     have HG3 := hide g3'
     have HC := hide hC
     clear gb g0 g1 g2 g3 g4 gb' g0' g2' g3' hC hx2 hdeg
     have hkw' : ja w W2 (fun i => j6 ρ i ∨ i = b) := hkw.trans ka (fun i hi e => by omega)
     have hsW : W.heap.size + 1 ≤ W2.heap.size := by have := k2.size; simpa using this
     gi_wp2_with fail
     refine ⟨trivial, ((callsIn_wide.2 HDG.out).inRound lp).mono ?_⟩
     rintro e w5 ⟨rfl, h5b, k5⟩
     have g2' := k5.same HG2.out (by omega)
     have g3' := k5.same HG3.out (by omega)
     have a2 := cell_of_heap (o := 0) g2'
     have f2 := frozen_of_heap (o := 0) g2'
     have a3 := cell_of_heap (o := 0) g3'
     have f3 := frozen_of_heap (o := 0) g3'
     simp at a2 a3
     have HK2 := hide g2'
     have HK3 := hide g3'
     have H5B := hide h5b
     clear g2' g3' h5b
     have hs5 := k5.size
     gi_wp2
     refine ⟨C, fun i h => .inl h, fun i h => ?_, ?_, .inl ⟨rfl, by rw [he]; simp, ?_, ?_, ?_, ?_⟩⟩
     · have := hbd i h
       have hsz : ((w5.setCell ⟨w.heap.size + 1 + 1, 0, none⟩ (.slice none 0 0)).setCell ⟨w.heap.size + 1 + 1 + 1, 0, none⟩ (.int .i64 1)).heap.size = w5.heap.size := by simp [World.setCell]
       omega
     · exact ((k5.mono (fun i _ e => (HC.out i).2 (.inl e))).set (p := ⟨w.heap.size + 1 + 1, 0, none⟩) ((HC.out _).2 (.inr (.inl rfl))) _).set (p := ⟨w.heap.size + 1 + 1 + 1, 0, none⟩) ((HC.out _).2 (.inr (.inr (.inl rfl)))) _
     · exact (ja.setCell _ _ _).same ((ja.setCell _ _ _).same H5B.out (by simp <;> omega)) (by simp <;> omega)
     · exact (ja.setCell _ _ _).same ((jb HK2.out _).trans rfl) (by simp)
     · exact (jb ((ja.setCell w5 ⟨w.heap.size + 1 + 1, 0, none⟩ (.slice none 0 0)).same HK3.out (by simp)) _).trans rfl
     · exact ((hkw'.trans k5 (fun i hi e => .inr e)).Xk (p := ⟨w.heap.size + 1 + 1, 0, none⟩) (by simp <;> omega) _).Xk (p := ⟨w.heap.size + 1 + 1 + 1, 0, none⟩) (by simp <;> omega) _
 case done =>
   rintro D' lp C xs W2 W hD hlp hne hnd hnl ⟨DK, hfin⟩ hk ⟨m, v, e, hm, hmo, HBX, g4, hrow, hown, hkw, hC⟩ hK
   have a1 := cell_of_heap (o := 0) HBX.2.2.2.1
   have f1 := frozen_of_heap (o := 0) HBX.2.2.2.1
   have a2 := cell_of_heap (o := 0) HBX.2.2.2.2
   have f2 := frozen_of_heap (o := 0) HBX.2.2.2.2
   have a3 := cell_of_heap (o := 0) g4
   simp at a1 a2 a3
   have HHB := hide HBX
   have HC := hide hC
   clear HBX g4 hC
   have hml : m = l.length ∧ err = none := by
     rcases hfin with ⟨h1, h2⟩ | ⟨bad, ev, h1, ⟨t, a, rfl⟩, h2⟩
     · rw [e] at h2
       have := congrArg List.length h2
       simp at this
       exact ⟨by omega, h1⟩
     · rw [e] at h2
       have h3 : (ak, Value.iface t (.pointer (some a))) ∈ (l.take m).map Jd := by rw [h2]; simp
       obtain ⟨c, _, h4⟩ := List.mem_map.1 h3
       cases h4
   obtain ⟨rfl, herr⟩ := hml
   rw [List.take_length] at hrow hmo
   rw [← List.take_of_length_le hmo] at hrow
   obtain ⟨pv, cpv, rfl⟩ := jh hrow
   have HDK := hide DK
   clear hfin DK e
   obtain ⟨z1, z2, z3, z4⟩ := leave (W := W) (D := D') (.inl herr) hD (fun h => hnd ((HC.out D').2 (.inr (.inr (.inr (.inr h)))))) hK (HDK.out.apart hk (fun i hi e => by rw [e]; exact ⟨nT lp (by omega), by omega⟩)) HHB.out hrow hown hkw
   have Z1 := hide z1
   have Z2 := hide z2
   have Z3 := hide z3
   have Z4 := hide z4
   clear z1 z2 z3 z4
   generalize ((kept l).take most).length = q at *
   gi_wp2
   have z2 := Z2.out
   have z3 := Z3.out
   refine ⟨by simp, .inl ⟨_, _, rfl, run_takeDeferred Z1.out, ?_⟩⟩
   exact ⟨.tuple #[.slice pv q cpv, .int .i64 0], (by simp [results, Tryz.results29, go_sem, z2, z3]), Z4.out⟩
 case stop =>
   rintro D' lp C c pre W2 W hD hlp hne hnd hnl DK hk (⟨rfl, h1, h3, h4, h5, h6⟩ | ⟨rfl, v, h1, HBX, g4, hrow, hown, hkw⟩) hK
   · gi_wp2
     have k9 := ja.putObj W D' (.deferred none)
     have r4 := cell_of_heap (o := 0) (k9.same h4 (by omega))
     have r5 := cell_of_heap (o := 0) (k9.same h5 (by omega))
     simp at r4 r5
     refine ⟨by simp, .inl ⟨_, _, rfl, run_takeDeferred hK, ?_⟩⟩
     refine ⟨.tuple #[.slice none 0 0, .int .i64 1], (by simp [results, Tryz.results29, go_sem, r4, r5]), h6.trans k9 (fun i hi e => by omega), ?_, .inr ⟨h1, rfl, k9.same h3 (by omega)⟩⟩
     exact (DK.apart hk (fun i hi e => by rw [e]; exact ⟨nT lp (by omega), by omega⟩)).apart k9 (fun i hi e => by rw [e]; exact ⟨nT D' (by omega), by omega⟩)
   · have a1 := cell_of_heap (o := 0) HBX.2.2.2.1
     have f1 := frozen_of_heap (o := 0) HBX.2.2.2.1
     have a2 := cell_of_heap (o := 0) HBX.2.2.2.2
     have f2 := frozen_of_heap (o := 0) HBX.2.2.2.2
     have a3 := cell_of_heap (o := 0) g4
     simp at a1 a2 a3
     have HHB := hide HBX
     clear HBX g4
     obtain ⟨pv, cpv, rfl⟩ := jh hrow
     obtain ⟨z1, z2, z3, z4⟩ := leave (W := W) (D := D') (.inr h1) hD (fun h => hnd (hown D' h).1) hK (DK.apart hk (fun i hi e => by rw [e]; exact ⟨nT lp (by omega), by omega⟩)) HHB.out hrow (fun g hg => (hown g hg).2) hkw
     have Z1 := hide z1
     have Z2 := hide z2
     have Z3 := hide z3
     have Z4 := hide z4
     clear z1 z2 z3 z4
     generalize ((kept l).take most).length = q at *
     gi_wp2
     have z2 := Z2.out
     have z3 := Z3.out
     refine ⟨by simp, .inl ⟨_, _, rfl, run_takeDeferred Z1.out, ?_⟩⟩
     exact ⟨.tuple #[.slice pv q cpv, .int .i64 0], (by simp [results, Tryz.results29, go_sem, z2, z3]), Z4.out⟩
end Go.Proofs.YtnipbplghijdmaaGreatDoor
namespace Go.Proofs.YtnipbplghijdmaaGreatDoor
open Go.RowKit Go.Maps
set_option linter.unusedVariables false
def marks (Ds : List Nat) : List Deferred := Ds.map fun D => { target := .collected D, args := #[] }
def shutAll (W : World) : List Nat → World
 | [] => W
 | D :: r => shutAll (W.putObj D (.deferred none)) r
theorem Xm (W : World) (Ds : List Nat) : ja W (shutAll W Ds) (fun i => i ∈ Ds) := by
 induction Ds generalizing W with
 | nil => exact ja.refl _ _
 | cons D r ih => exact ((ja.putObj W D _).mono (fun i _ e => by rw [e]; exact List.mem_cons_self)).trans (ih _) (fun i _ h => List.mem_cons_of_mem _ h)
def Jy (W : World) (Ds : List Nat) : Prop := Ds.Nodup ∧ ∀ D ∈ Ds, W.heap[D]? = some (.deferred (some []))
theorem Jy.nil (W : World) : Jy W [] := ⟨List.nodup_nil, fun D h => by cases h⟩
theorem Jy.keep {W W' : World} {Ds : List Nat} {T : Nat → Prop} (h : Jy W Ds) (k : ja W W' T) (hT : ∀ D ∈ Ds, ¬ T D) : Jy W' Ds := ⟨h.1, fun D hD => k.same (h.2 D hD) (hT D hD)⟩
theorem Jy.cons {W : World} {D : Nat} {Ds : List Nat} (h : Jy W Ds) (hD : W.heap[D]? = some (.deferred (some []))) (hn : D ∉ Ds) : Jy W (D :: Ds) :=
 ⟨List.nodup_cons.2 ⟨hn, h.1⟩, fun E hE => by
   rcases List.mem_cons.1 hE with rfl | hE
   · exact hD
   · exact h.2 E hE⟩
theorem Yf {F : Fence} {n : Nat} {P : Program} {fn : Func} {tmps : Array Value} {R : Ending → World → Prop} {u : FrameMode} (hu : u ≠ .run) {Ds : List Nat} {W : World} (h : Jy W Ds) (hfin : LeavesInM F n P fn tmps R [] u (shutAll W Ds)) : LeavesInM F n P fn tmps R (marks Ds) u W := by
 induction Ds generalizing W with
 | nil => exact hfin
 | cons D r ih =>
   refine ⟨hu, .inl ⟨D, _, rfl, run_takeDeferred (h.2 D List.mem_cons_self), ih ⟨(List.nodup_cons.1 h.1).2, fun E hE => ?_⟩ hfin⟩⟩
   exact (ja.putObj W D _).same (h.2 E (List.mem_cons_of_mem _ hE)) (fun e => (List.nodup_cons.1 h.1).1 (e ▸ hE))
end Go.Proofs.YtnipbplghijdmaaGreatDoor
namespace Go.Proofs.YtnipbplghijdmaaGreatDoor
open Go.RowKit Go.Maps Go.WideShapes
set_option linter.unusedVariables false
def Jp (key : Str) : List Jz → je → je × (Option Ref.Ch ⊕ Bool)
 | [], S => (S, .inl none)
 | st :: r, S =>
   match (st S).2.1 with
   | c :: _ => if c.key = key then ((st S).1, .inl (some c)) else Jp key r (st S).1
   | [] =>
     match (st S).2.2 with
     | some bad => ((st S).1, .inr bad)
     | none => Jp key r (st S).1
theorem fw (key : Str) (st : Jz) (r : List Jz) (S : je) : Jp key (st :: r) S =
   match (st S).2.1 with
   | c :: _ => if c.key = key then ((st S).1, .inl (some c)) else Jp key r (st S).1
   | [] =>
     match (st S).2.2 with
     | some bad => ((st S).1, .inr bad)
     | none => Jp key r (st S).1 := rfl
def F9 (P : je → Prop) (E : Nat → Addr) (B : Nat) (ρ : Nat → jw) (d : Nat) (w : World) (f : Value) (st : Jz) : Prop :=
 ∀ (W : World) (S : je), ja w W (j6 ρ) → Dk E B W ρ d S → P S → P (st S).1 ∧
   ∃ (gf : Nat) (rv lb : Array Value) (Needs : Nat → Prop) (Start : World → Prop), f = .func (.func gf) rv lb ∧ (∀ ys w, (callFunc gf ys).run Tryz.prog w = .ok (.enter gf ys) w) ∧
     (∀ n, Gives Fence.wide n Tryz.prog gf rv lb encI (j6 ρ) Needs Start (jfn E (st S).2.1 (st S).2.2) (jfm E B ρ d (st S).1 (st S).2.1 (st S).2.2) (Og E B ρ d (st S).1)) ∧
     (∀ i, Needs i → i < w.heap.size) ∧ (∀ W', ja W W' (fun _ => False) → Start W')
theorem jhu {P : je → Prop} {E : Nat → Addr} {B : Nat} {ρ : Nat → jw} {d : Nat} {w : World} {v : Value} {l : List Ref.Ch} (hch : Chs w v l) (hl : l.length < 1048576) (hv : ∀ p n c, v = .slice (some p) n c → ¬ j6 ρ p.block ∧ p.block < w.heap.size) (hBw : B ≤ w.heap.size) : F9 P E B ρ d w (Fp v) (Yc l) := by
 intro W S k D Z
 have hch' : Chs W v l := hch.keep k (fun _ p n c e => (hv p n c e).1)
 refine ⟨Z, _, _, _, jbj B v, (fun W => Chs W v l ∧ Dk E B W ρ d S), rfl, bu, fun n => az v l hl, fun i hi => ?_, fun W' k' => ⟨hch'.same k', D.same k'⟩⟩
 rcases hi with h | ⟨p, n, c, e, rfl⟩
 · omega
 · exact (hv p n c e).2
theorem jhs {P : je → Prop} {E : Nat → Addr} {B : Nat} {ρ : Nat → jw} {d : Nat} {w : World} {m : Nat} {key : Str} {bl : List (List Ref.Ch)} (hBw : B ≤ w.heap.size) (hm : m ≤ 9223372036854775807) (hsz : (Ref.Je bl).length < 1099511627776) (hP : ∀ S, P S → P (S.called false) ∧ Small S ∧ Ew S (jq m) bl) : F9 P E B ρ d w (Xz d m key) (l7 bl key) := by
 intro W S k D Z
 obtain ⟨h1, h2, h3⟩ := hP S Z
 have hn : (jq m).length < 1099511627776 := by
   have := Jf hm
   unfold jq
   rw [List.length_append]
   simp
   omega
 exact ⟨h1, _, _, _, (fun i => i < B), jay E B ρ d S (jq m) bl, rfl, Cn, fun n => Bv (jq m) key bl hn hsz, fun i hi => Nat.lt_of_lt_of_le hi hBw, fun W' k' => ⟨D.same k', h2, h3⟩⟩
def jfl (P : je → Prop) (E : Nat → Addr) (B : Nat) (ρ : Nat → jw) (d : Nat) (w : World) (G : je × (Option Ref.Ch ⊕ Bool)) (e : Ending) (w' : World) : Prop :=
 ja w w' (j6 ρ) ∧ Dk E B w' ρ d G.1 ∧ P G.1 ∧
 ((∃ c, G.2 = .inl (some c) ∧ e = .returned (.tuple #[chV c, .bool true, .nilIface])) ∨ (G.2 = .inl none ∧ e = .returned (.tuple #[chV ak, .bool false, .nilIface])) ∨
  (∃ bad ev, G.2 = .inr bad ∧ e = .returned (.tuple #[chV ak, .bool false, ev]) ∧ ve E w' ev bad))
theorem Gp {key : Str} {sts : List Jz} {k : Nat} {st : Jz} {S : je} (h : sts[k]? = some st) (hc : ∀ c r, (st S).2.1 = c :: r → c.key ≠ key) (he : (st S).2.1 = [] → (st S).2.2 = none) : Jp key (sts.drop k) S = Jp key (sts.drop (k + 1)) (st S).1 := by
 have hk := (List.getElem?_eq_some_iff.1 h).1
 have e : sts.drop k = st :: sts.drop (k + 1) := by
   have e1 : sts[k] = st := (List.getElem?_eq_some_iff.1 h).2
   rw [← e1, List.getElem_cons_drop]
 rw [e, fw]
 cases hl : (st S).2.1 with
 | cons c r => simp only; rw [if_neg (hc c r hl)]
 | nil => simp only; rw [he hl]
theorem Ox {key : Str} {sts : List Jz} {k : Nat} {st : Jz} {S : je} (h : sts[k]? = some st) : Jp key (sts.drop k) S = Jp key (st :: sts.drop (k + 1)) S := by
 have e : sts.drop k = st :: sts.drop (k + 1) := by
   have e1 : sts[k]'((List.getElem?_eq_some_iff.1 h).1) = st := (List.getElem?_eq_some_iff.1 h).2
   rw [← e1, List.getElem_cons_drop]
 rw [e]
theorem jal {key : Str} {sts : List Jz} {k : Nat} {st : Jz} {S : je} {c : Ref.Ch} {r : List Ref.Ch} (h : sts[k]? = some st) (hc : (st S).2.1 = c :: r) (he : c.key = key) : Jp key (sts.drop k) S = ((st S).1, .inl (some c)) := by
 rw [Ox h, fw, hc]
 simp only
 rw [if_pos he]
theorem jam {key : Str} {sts : List Jz} {k : Nat} {st : Jz} {S : je} {bad : Bool} (h : sts[k]? = some st) (hc : (st S).2.1 = []) (he : (st S).2.2 = some bad) : Jp key (sts.drop k) S = ((st S).1, .inr bad) := by
 rw [Ox h, fw, hc]
 simp only
 rw [he]
theorem jch {w : World} {b : Nat} {x : Bool} (h : w.heap[b]? = some (.cells #[.bool x] 4 (0, 0))) : (loadVar 4 ⟨b, 0, none⟩).run Tryz.prog w = .ok (.bool x) w := by
 have c0 := cell_of_heap (o := 0) h
 simp at c0
 go_simp
theorem Uu {w : World} {b : Nat} {x : Value} (h : w.heap[b]? = some (.cells #[x] 128 (0, 0))) : (loadVar 128 ⟨b, 0, none⟩).run Tryz.prog w = .ok x w := by
 have c0 := cell_of_heap (o := 0) h
 simp at c0
 go_simp
theorem o8 {fn : Func} {t u x : Tmp} (h : fn.results = #[.cell t 88, .cell u 4, .cell x 128]) {tmps : Array Value} {w : World} {b b' b'' : Nat} {c : Ref.Ch} {fd : Bool} {ev : Value} (ht : tmps.getD t undef = .pointer (some ⟨b, 0, none⟩)) (hu : tmps.getD u undef = .pointer (some ⟨b', 0, none⟩)) (hx : tmps.getD x undef = .pointer (some ⟨b'', 0, none⟩))
   (h1 : w.heap[b]? = some (.cells #[jc c.key, jc c.value, .bool c.gone] 88 (0, 0))) (h2 : w.heap[b']? = some (.cells #[.bool fd] 4 (0, 0))) (h3 : w.heap[b'']? = some (.cells #[ev] 128 (0, 0))) :
   (results fn tmps).run Tryz.prog w = .ok (.tuple #[chV c, .bool fd, ev]) w := by
 have l1 := Rp h1
 have l2 := jch h2
 have l3 := Uu h3
 have ht' : tmps[t]?.getD undef = .pointer (some ⟨b, 0, none⟩) := by simpa using ht
 have hu' : tmps[u]?.getD undef = .pointer (some ⟨b', 0, none⟩) := by simpa using hu
 have hx' : tmps[x]?.getD undef = .pointer (some ⟨b'', 0, none⟩) := by simpa using hx
 simp [results, h, ht', hu', hx', asAddr, l1, l2, l3]
end Go.Proofs.YtnipbplghijdmaaGreatDoor
