/-
  Pa: MergeB LayersA RunA RunB RunC RunD RunE RunF RunG.
-/
import Derived.Test.YtnipbplghijdmaaGreatDoorPa25
import Derived.Test.YtnipbplghijdmaaGreatDoorPa21
import Derived.Test.YtnipbplghijdmaaGreatDoorPa20
import Derived.Test.YtnipbplghijdmaaGreatDoorPa16
import Derived.Test.YtnipbplghijdmaaGreatDoorPa14
import Derived.Test.YtnipbplghijdmaaGreatDoorPa17
import Derived.Test.YtnipbplghijdmaaGreatDoorPa02
namespace Go.Proofs.YtnipbplghijdmaaGreatDoor
open Go.RowKit Go.Maps Go.WideShapes Go.Shelf
set_option linter.unusedVariables false
attribute [local go_sem] Oper.semAt_some
open Classical in
theorem least_of {α : Type} (R : Nat → α → Prop) : ∃ m : α → Nat, ∀ a, (∃ n, R n a) → R (m a) a ∧ ∀ n, R n a → m a ≤ n := by
 have H : ∀ a, (∃ n, R n a) → ∃ m, R m a ∧ ∀ n, R n a → m ≤ n := by
   rintro a ⟨n, hn⟩
   induction n using Nat.strongRecOn with
   | ind n ih =>
     rcases em (∃ k, k < n ∧ R k a) with ⟨k, hk, hr⟩ | hno
     · exact ih k hk hr
     · exact ⟨n, hn, fun k hk => Nat.le_of_not_lt (fun h => hno ⟨k, h, hk⟩)⟩
 refine ⟨fun a => if h : ∃ n, R n a then Classical.choose (H a h) else 0, fun a h => ?_⟩
 simp only [dif_pos h]
 exact Classical.choose_spec (H a h)
def mergedL (G : DiskA × (List (List Ref.Ch) ⊕ Bool)) : List Ref.Ch := match G.2 with | .inl ls => Ref.merged ls | .inr _ => []
def errL (G : DiskA × (List (List Ref.Ch) ⊕ Bool)) : Option Bool := match G.2 with | .inl _ => none | .inr b => some b
structure StartM (P : DiskA → Prop) (E : Nat → Addr) (B : Nat) (ρ : Nat → Role) (d : Nat) (S : DiskA) (lv : Value) (fs : List Value) (sts : List LStep) (W : World) : Prop where
 dk : Dk E B W ρ d S
 small : P S
 vals : Vals W lv fs
 off : fs ≠ [] → ∀ p n c, lv = .slice (some p) n c → ¬ diskT ρ p.block
 layers : ∀ (k : Nat) f st, fs[k]? = some f → sts[k]? = some st → LayerC P E B ρ d W f st
theorem LayerC.same {P : DiskA → Prop} {E : Nat → Addr} {B : Nat} {ρ : Nat → Role} {d : Nat} {w w' : World} {f : Value} {st : LStep} (h : LayerC P E B ρ d w f st) (k : Keeps w w' (fun _ => False)) : LayerC P E B ρ d w' f st :=
 fun hi W S kk D Z => h hi W S ((k.mono (fun _ _ h => h.elim)).trans kk (fun _ _ h => h)) D Z
theorem StartM.same {P : DiskA → Prop} {E : Nat → Addr} {B : Nat} {ρ : Nat → Role} {d : Nat} {S : DiskA} {lv : Value} {fs : List Value} {sts : List LStep} {W W' : World} (h : StartM P E B ρ d S lv fs sts W) (k : Keeps W W' (fun _ => False)) : StartM P E B ρ d S lv fs sts W' :=
 ⟨h.dk.same k, h.small, h.vals.same k, h.off, fun i f st hf hst => (h.layers i f st hf hst).same k⟩
theorem enter_mergedEach (ys : Array Value) (w : World) : (callFunc 123 ys).run Tryz.prog w = .ok (.enter 123 ys) w := by kernel_rfl
def stillIn (l : List Ref.Source) : Nat := (l.map (fun s => s.entries.length)).sum
theorem stillIn_perm {l m : List Ref.Source} (p : l.Perm m) : stillIn l = stillIn m := sum_perm (p.map _)
theorem stillIn_taken {s : Ref.Source} {r : List Ref.Source} {c : Ref.Ch} {q : List Ref.Ch} (h : s.entries = c :: q) : stillIn (Ref.taken s r) + 1 = stillIn (s :: r) := by
 unfold Ref.taken stillIn
 rw [h, List.tail_cons]
 split
 · rename_i e; simp [h, e]; omega
 · simp [h]; omega
theorem sourcesFrom_mem {n : Nat} {ls : List (List Ref.Ch)} : ∀ s ∈ Ref.sourcesFrom n ls, s.entries ∈ ls := by
 induction ls generalizing n with
 | nil => intro s hs; cases hs
 | cons l r ih =>
   intro s hs
   unfold Ref.sourcesFrom at hs
   split at hs
   · exact List.mem_cons_of_mem _ (ih s hs)
   · rcases List.mem_cons.1 hs with rfl | hs
     · exact List.mem_cons_self
     · exact List.mem_cons_of_mem _ (ih s hs)
theorem taken_short {s : Ref.Source} {r : List Ref.Source} {N A : Nat} (h : ∀ x ∈ s :: r, x.entries.length < N ∧ x.age < A) : ∀ x ∈ Ref.taken s r, x.entries.length < N ∧ x.age < A := by
 intro x hx
 unfold Ref.taken at hx
 split at hx
 · exact h x (List.mem_cons_of_mem _ hx)
 · rcases List.mem_cons.1 hx with rfl | hx
   · have := h s List.mem_cons_self
     exact ⟨by have h5 : s.entries.tail.length ≤ s.entries.length := by rw [List.length_tail]; omega
               exact Nat.lt_of_le_of_lt h5 this.1, this.2⟩
   · exact h x (List.mem_cons_of_mem _ hx)
theorem taken_length (s : Ref.Source) (r : List Ref.Source) : (Ref.taken s r).length ≤ (s :: r).length := by
 unfold Ref.taken
 split <;> simp
structure GoodLs (ls : List (List Ref.Ch)) : Prop where
 rising : ∀ l ∈ ls, Ref.Rising l
 keys : ∀ l ∈ ls, ∀ c ∈ l, c.key ≠ []
 len : ∀ l ∈ ls, l.length < 1048576
set_option maxRecDepth 100000 in
set_option maxHeartbeats 4000000 in
theorem mergedEach_gives {P : DiskA → Prop} {E : Nat → Addr} {B : Nat} {ρ : Nat → Role} {d n : Nat} {S : DiskA} (lv : Value) (fs : List Value) (sts : List LStep) (hi : Str) (hlen : fs.length = sts.length) (hl : fs.length < 524288) (hfun : ∀ f ∈ fs, ∃ g a b, f = .func g a b)
   (hgood : ∀ ls, (gathered hi sts S).2 = .inl ls → GoodLs ls) :
   Gives Fence.wide n Tryz.prog 123 #[.agg #[lv, strV hi]] #[] encI (diskT ρ) (fun i => i < B) (StartM P E B ρ d S lv fs sts) (CanL E (mergedL (gathered hi sts S)) (errL (gathered hi sts S))) (FinL E B ρ d (gathered hi sts S).1 (mergedL (gathered hi sts S)) (errL (gathered hi sts S))) (FinX E B ρ d (gathered hi sts S).1) := by
 intro lp n₀ J Jx aJ hY C W hbd hC hn₀ hS hJ0
 have hCB : ∀ i, i < W.heap.size → C i → ¬ diskT ρ i ∧ B ≤ i := fun i _ hc => ⟨(hC i hc).1, Nat.le_of_not_lt (hC i hc).2⟩
 have kA := Keeps.alloc W (.cells #[lv, strV hi] 189) (fun _ => False)
 have hS1 := hS.same kA
 obtain ⟨p0, c0, rfl, _⟩ := id hS.vals
 have hopen := mergedOpen_any hS1.dk hS1.small _ fs sts hi hS1.vals hS1.off hlen hl hfun hS1.layers
 obtain ⟨G, hG⟩ : ∃ G, G = gathered hi sts S := ⟨_, rfl⟩
 rw [← hG] at hopen hgood hY ⊢
 have HO := hide hopen
 have hρ := hS.dk.rep.lt
 have hBw := hS.dk.size
 have nT : ∀ i, W.heap.size ≤ i → ¬ diskT ρ i := fun i hi h => by have := hρ i h; omega
 have hlsl : ∀ ls, G.2 = .inl ls → ls.length < 524288 := fun ls h => by
   have h5 : gathered hi sts S = (G.1, .inl ls) := by rw [← hG]; exact Prod.ext rfl h
   rw [gathered_length h5]
   omega
 clear hopen hG hS1 hS hlen
 show CallsIn Fence.wide n Tryz.prog 123 #[.agg #[.slice p0 fs.length c0, strV hi], .func (.yield lp) #[] #[]] W _
 refine callsIn_of_wp Tryz.func123 rfl trivial ?_ rfl
 simp only [Tryz.ntmps123, List.size_toArray, List.length_cons, List.length_nil, Nat.reduceAdd, Nat.reduceSub, Array.replicate_succ, Array.replicate_zero, List.push_toArray, List.append_toArray, List.nil_append, List.cons_append]
 gi_wp2_with fail
 refine ⟨trivial, fun h => (by simp [Fence.wide] at h), (callsIn_wide.2 HO.out).mono ?_⟩
 rintro e w1 ⟨k1, D1, Z1, ⟨ls, hb, v, qs, hls, rfl, hhb, Hq, Tq, Pq, hbl⟩ | ⟨bad, ev, hbad, rfl, hev⟩⟩
 all_goals
   have kW : Keeps W w1 (diskT ρ) := (kA.mono (fun _ _ h => h.elim)).trans k1 (fun _ _ h => h)
   have hJ1 := aJ _ _ _ _ hJ0 (aside_of kW (fun i _ h => .inl h))
   have hbd1 : ∀ i, C i → i < w1.heap.size := fun i h => Nat.lt_of_lt_of_le (hbd i h) kW.size
 · have hsz : W.heap.size + 1 ≤ hb := by simpa using hhb
   have G1 := hgood ls hls
   have hll := hlsl ls hls
   have eM : mergedL G = Ref.merged ls := by unfold mergedL; rw [hls]
   have eE : errL G = none := by unfold errL; rw [hls]
   rw [eM, eE] at hY
   have HM := hide eM
   have HE := hide eE
   have T0 : Ref.Tells (srcs qs) [] (Ref.merged ls) := (Ref.sources_tell G1.rising G1.keys).perm Pq.symm
   have F0 : Ref.Fine (srcs qs) [] := (Ref.sources_fine G1.rising).perm Pq.symm
   have hshort : ∀ s ∈ srcs qs, s.entries.length < 1048576 ∧ s.age < 4611686018427387904 := by
     intro s hs
     have h5 := Pq.mem_iff.1 hs
     have h6 := sourcesFrom_lt s h5
     exact ⟨G1.len _ (sourcesFrom_mem s h5), by omega⟩
   have hcount : (srcs qs).length < 1048576 := by
     have h5 := Pq.length_eq
     have h6 := sourcesFrom_length 0 ls
     omega
   have hszW : (W.alloc (.cells #[.slice p0 fs.length c0, strV hi] 189)).heap.size = W.heap.size + 1 := by simp
   rw [hszW] at Hq hbl
   generalize hMM : Ref.merged ls = MM at *
   clear eM eE hMM Pq G1 hgood hls hszW
   obtain ⟨mf, hmf⟩ := least_of (fun (m : Nat) (x : Value × World) => ∃ (lk : Str) (pre L : List Ref.Ch) (qs : List HS) (v : Value) (C' : Nat → Prop), x.1 = strV lk ∧ stillIn (srcs qs) = m ∧ MM = pre ++ L ∧ Ref.Tells (srcs qs) lk L ∧ Ref.Fine (srcs qs) lk ∧ HeapAt x.2 (W.heap.size + 1) hb v qs ∧ Ref.HeapTo (srcs qs) qs.length ∧
     J (pre.map nilI) C' x.2 ∧ (∀ i, C' i → C i ∨ W.heap.size ≤ i) ∧ (∀ i, C' i → i < x.2.heap.size) ∧ ¬ C' hb ∧ (∀ g, v.ownBlock = some g → ¬ C' g) ∧ (∀ p ∈ qs, ∀ ad n c, p.1 = .slice (some ad) n c → ¬ C' ad.block ∧ W.heap.size + 1 ≤ ad.block) ∧ Keeps W x.2 (fun i => C i ∨ diskT ρ i) ∧ Dk E B x.2 ρ d G.1 ∧
     (∀ s ∈ srcs qs, s.entries.length < 1048576 ∧ s.age < 4611686018427387904) ∧ (srcs qs).length < 1048576)
   have HMF := hide hmf
   have HY := hide hY
   clear hmf hY
   have hstart : ∃ m, ∃ (lk : Str) (pre L : List Ref.Ch) (qs : List HS) (v : Value) (C' : Nat → Prop), strV [] = strV lk ∧ stillIn (srcs qs) = m ∧ MM = pre ++ L ∧ Ref.Tells (srcs qs) lk L ∧ Ref.Fine (srcs qs) lk ∧ HeapAt w1 (W.heap.size + 1) hb v qs ∧ Ref.HeapTo (srcs qs) qs.length ∧
     J (pre.map nilI) C' w1 ∧ (∀ i, C' i → C i ∨ W.heap.size ≤ i) ∧ (∀ i, C' i → i < w1.heap.size) ∧ ¬ C' hb ∧ (∀ g, v.ownBlock = some g → ¬ C' g) ∧ (∀ p ∈ qs, ∀ ad n c, p.1 = .slice (some ad) n c → ¬ C' ad.block ∧ W.heap.size + 1 ≤ ad.block) ∧ Keeps W w1 (fun i => C i ∨ diskT ρ i) ∧ Dk E B w1 ρ d G.1 ∧
     (∀ s ∈ srcs qs, s.entries.length < 1048576 ∧ s.age < 4611686018427387904) ∧ (srcs qs).length < 1048576 := by
     refine ⟨_, [], [], MM, qs, v, C, rfl, rfl, rfl, T0, F0, Hq, Tq, hJ1, fun _ h => .inl h, hbd1, fun h => by have := hbd hb h; omega, fun g hg h => ?_, fun p hp ad n c e => ⟨fun h => ?_, hbl p hp ad n c e⟩, kW.mono (fun _ _ h => .inr h), D1, hshort, hcount⟩
     · have := (Hq.row.lt g hg).1
       have := hbd g h
       omega
     · have := hbl p hp ad n c e
       have := hbd _ h
       omega
   have HST := hide hstart
   clear hstart T0 F0 Hq Tq hJ1 hbd1 hbl D1 hshort hcount
   gi_wp2_with fail
   gi_loopw [6] (fun lv wr => ∃ m, ∃ (lk : Str) (pre L : List Ref.Ch) (qs : List HS) (v : Value) (C' : Nat → Prop), lv = strV lk ∧ stillIn (srcs qs) = m ∧ MM = pre ++ L ∧ Ref.Tells (srcs qs) lk L ∧ Ref.Fine (srcs qs) lk ∧ HeapAt wr (W.heap.size + 1) hb v qs ∧ Ref.HeapTo (srcs qs) qs.length ∧
     J (pre.map nilI) C' wr ∧ (∀ i, C' i → C i ∨ W.heap.size ≤ i) ∧ (∀ i, C' i → i < wr.heap.size) ∧ ¬ C' hb ∧ (∀ g, v.ownBlock = some g → ¬ C' g) ∧ (∀ p ∈ qs, ∀ ad n c, p.1 = .slice (some ad) n c → ¬ C' ad.block ∧ W.heap.size + 1 ≤ ad.block) ∧ Keeps W wr (fun i => C i ∨ diskT ρ i) ∧ Dk E B wr ρ d G.1 ∧
     (∀ s ∈ srcs qs, s.entries.length < 1048576 ∧ s.age < 4611686018427387904) ∧ (srcs qs).length < 1048576)
     (fun lv wr => mf (lv, wr))
   case atStart => exact HST.out
   case round =>
     obtain ⟨hR1, hmin⟩ := HMF.out (_, wr) hrel
     obtain ⟨lk, pre, L, qs, v, C', rfl, hstill, hML, Tq, Fq, Hq, Tp, hJs, hsub, hbd', hnhb, hnown, hnent, hkw, Dq, hsh, hcnt⟩ := hR1
     simp only at *
     have HMIN := hide hmin
     clear hmin hrel
     obtain ⟨a1, c1, rfl⟩ := Hq.slice
     have cb := Hq.cell
     have hql : qs.length < 1048576 := by rw [srcs_length] at hcnt; exact hcnt
     cases qs with
     | nil =>
       have eL := Tq.nil
       have HEL := hide eL
       have HMLL := hide hML
       have HHq := hide Hq
       clear eL hML Hq
       gi_wp2_with fail
       refine ⟨trivial, fun h => (by simp [Fence.wide] at h), (callsIn_wide.2 (len_any a1 0 c1 wr (by omega))).mono ?_⟩
       rintro e w2 ⟨rfl, rfl⟩
       gi_wp2
       go_end0
       refine ⟨C', hsub, hbd', ⟨_, rfl⟩, .inl ⟨pre.map nilI, ⟨Dq, .inl ⟨HE.out, ?_⟩⟩, hJs⟩⟩
       rw [HM.out, HMLL.out, HEL.out, List.append_nil]
     | cons s0 rs =>
       obtain ⟨c, q, hce⟩ : ∃ c q, s0.2.entries = c :: q := by
         cases h5 : s0.2.entries with
         | nil => exact (Fq.some s0.2 List.mem_cons_self h5).elim
         | cons c q => exact ⟨c, q, rfl⟩
       have hsome : ∀ p ∈ s0 :: rs, p.2.entries ≠ [] := fun p hp => Fq.some p.2 (List.mem_map.2 ⟨p, hp, rfl⟩)
       have hages : ∀ p ∈ s0 :: rs, p.2.age < 4611686018427387904 := fun p hp => (hsh p.2 (List.mem_map.2 ⟨p, hp, rfl⟩)).2
       have hq5 : q.length < 1048576 := by
         have := (hsh s0.2 List.mem_cons_self).1
         rw [hce] at this
         simp at this
         omega
       have hmin5 : ∀ t ∈ s0.2 :: srcs rs, s0.2.le t := Ref.HeapTo.top (by rw [← srcs_cons, srcs_length]; exact Tp)
       have hnext := srcNext_any Hq hsome Tp hce hql hq5 hages
       have HN := hide hnext
       have HHQ := hide Hq
       have HCE := hide hce
       have HML := hide hML
       have hlq2 : rs.length + 1 < 1048576 := by simpa using hql
       have hown5 : ∀ i, (i = hb ∨ (Value.slice a1 (s0 :: rs).length c1).ownBlock = some i) → W.heap.size ≤ i ∧ ¬ C' i := by
         rintro i (h | h)
         · rw [h]; exact ⟨by omega, hnhb⟩
         · exact ⟨by have := (HHQ.out.row.lt i h).1; omega, hnown i h⟩
       have HOWN := hide hown5
       clear hnext Hq hce hML hown5 hql
       simp only [List.length_cons] at cb
       gi_wp2_with fail
       refine ⟨trivial, fun h => (by simp [Fence.wide] at h), (callsIn_wide.2 (len_any a1 (rs.length + 1) c1 wr (by omega))).mono ?_⟩
       rintro e wq ⟨rfl, rfl⟩
       gi_wp2_with fail
       refine ⟨trivial, fun h => (by simp [Fence.wide] at h), (callsIn_wide.2 HN.out).mono ?_⟩
       rintro e w2 ⟨rfl, v2, qs2, P2, H2, T2, l2, k2, hbk2⟩
       obtain ⟨ck, cv, cg⟩ := c
       have ka := Keeps.alloc w2 (.cells #[strV ck, strV cv, .bool cg] 88) (fun _ => False)
       have kk : Keeps wq (w2.alloc (.cells #[strV ck, strV cv, .bool cg] 88)) (fun i => i = hb ∨ (Value.slice a1 (s0 :: rs).length c1).ownBlock = some i) := k2.trans ka (fun _ _ h => h.elim)
       have hJ2 := aJ _ _ _ _ hJs (aside_of kk (fun i _ h => .inr ⟨Nat.le_trans hn₀ (HOWN.out i h).1, (HOWN.out i h).2⟩))
       have D2 := Dq.apart kk (fun i _ h => ⟨nT i (HOWN.out i h).1, Nat.le_trans hBw (HOWN.out i h).1⟩)
       have hkw2 : Keeps W (w2.alloc (.cells #[strV ck, strV cv, .bool cg] 88)) (fun i => C i ∨ diskT ρ i) := hkw.trans kk (fun i hi h => by have := (HOWN.out i h).1; omega)
       have H2a := H2.same ka
       have Pm : (Ref.taken s0.2 (srcs rs)).Perm (srcs qs2) := P2.symm
       have hst2 : stillIn (srcs qs2) + 1 = stillIn (srcs (s0 :: rs)) := by
         rw [← stillIn_perm Pm, srcs_cons]
         exact stillIn_taken HCE.out
       have hsh2 : ∀ s ∈ srcs qs2, s.entries.length < 1048576 ∧ s.age < 4611686018427387904 := fun s hs => taken_short (by rw [← srcs_cons]; exact hsh) s (Pm.mem_iff.2 hs)
       have hcnt2 : (srcs qs2).length < 1048576 := by
         rw [← Pm.length_eq]
         have := taken_length s0.2 (srcs rs)
         rw [← srcs_cons] at this
         omega
       have hwqs : wq.heap.size ≤ w2.heap.size := k2.size
       have hown2 : ∀ g, v2.ownBlock = some g → ¬ C' g ∧ g < (w2.alloc (.cells #[strV ck, strV cv, .bool cg] 88)).heap.size := by
         intro g hg
         refine ⟨?_, (H2a.row.lt g hg).2⟩
         rcases l2 with h | ⟨g2, h, h5⟩
         · rw [h] at hg; exact hnown g hg
         · rw [h] at hg
           cases hg
           intro hc
           have := hbd' _ hc
           omega
       have hent2 : ∀ p ∈ qs2, ∀ ad n c, p.1 = .slice (some ad) n c → ¬ C' ad.block ∧ W.heap.size + 1 ≤ ad.block ∧ ad.block < (w2.alloc (.cells #[strV ck, strV cv, .bool cg] 88)).heap.size := by
         intro p hp ad n c e
         obtain ⟨p', hp', ad', n', c', e', eb⟩ := hbk2 p hp ad n c e
         have h5 := hnent p' hp' ad' n' c' e'
         rw [eb] at h5
         refine ⟨h5.1, h5.2, ?_⟩
         have h6 := (H2a.has p hp).1
         have h7 : p.2.entries ≠ [] := by
           have h8 : p.2 ∈ Ref.taken s0.2 (srcs rs) := Pm.mem_iff.2 (List.mem_map.2 ⟨p, hp, rfl⟩)
           exact (Fq.next HCE.out hmin5).2.some p.2 h8
         rw [e] at h6
         exact h6.lt h7
       have cb2 := heap_alloc_top w2 (.cells #[strV ck, strV cv, .bool cg] 88)
       have y0 := cell_of_heap (o := 0) cb2
       have y1 := cell_of_heap (o := 1) cb2
       have y2 := cell_of_heap (o := 2) cb2
       simp at y0 y1 y2
       have HT2 := hide T2
       have HH2 := hide H2a
       clear T2 H2a H2 cb2 hbk2
       by_cases hcl : ck = lk
       · subst hcl
         have hb5 : (ck == ck) = true := by simp
         gi_wp2
         have hnew : ∃ m, m < mf (strV ck, wq) ∧ ∃ (lk : Str) (pre L : List Ref.Ch) (qs : List HS) (v : Value) (C' : Nat → Prop), strV ck = strV lk ∧ stillIn (srcs qs) = m ∧ MM = pre ++ L ∧ Ref.Tells (srcs qs) lk L ∧ Ref.Fine (srcs qs) lk ∧ HeapAt (w2.alloc (.cells #[strV ck, strV cv, .bool cg] 88)) (W.heap.size + 1) hb v qs ∧ Ref.HeapTo (srcs qs) qs.length ∧
           J (pre.map nilI) C' (w2.alloc (.cells #[strV ck, strV cv, .bool cg] 88)) ∧ (∀ i, C' i → C i ∨ W.heap.size ≤ i) ∧ (∀ i, C' i → i < (w2.alloc (.cells #[strV ck, strV cv, .bool cg] 88)).heap.size) ∧ ¬ C' hb ∧ (∀ g, v.ownBlock = some g → ¬ C' g) ∧ (∀ p ∈ qs, ∀ ad n c, p.1 = .slice (some ad) n c → ¬ C' ad.block ∧ W.heap.size + 1 ≤ ad.block) ∧ Keeps W (w2.alloc (.cells #[strV ck, strV cv, .bool cg] 88)) (fun i => C i ∨ diskT ρ i) ∧ Dk E B (w2.alloc (.cells #[strV ck, strV cv, .bool cg] 88)) ρ d G.1 ∧
           (∀ s ∈ srcs qs, s.entries.length < 1048576 ∧ s.age < 4611686018427387904) ∧ (srcs qs).length < 1048576 := by
           refine ⟨_, by rw [← hstill]; omega, ck, pre, L, qs2, v2, C', rfl, rfl, HML.out, (Tq.again HCE.out rfl).perm Pm, ((Fq.next HCE.out hmin5).2).perm Pm, HH2.out, HT2.out, hJ2, hsub, fun i h => by have := hbd' i h; simp; omega, hnhb, fun g hg => (hown2 g hg).1, fun p hp ad n c e => ⟨(hent2 p hp ad n c e).1, (hent2 p hp ad n c e).2.1⟩, hkw2, D2, hsh2, hcnt2⟩
         obtain ⟨m2, hm2, hrest⟩ := hnew
         go_roundw
         case rel => exact ⟨m2, hrest⟩
         case measure => exact Nat.lt_of_le_of_lt ((HMF.out (_, _) ⟨m2, hrest⟩).2 m2 hrest) hm2
       · have hb5 : (ck == lk) = false := by simp [hcl]
         obtain ⟨hlt5, M, hLM, TM⟩ := Tq.next Fq HCE.out hmin5 hcl
         have hML2 : MM = (pre ++ [⟨ck, cv, cg⟩]) ++ M := by rw [HML.out, hLM]; simp
         have hat : MM[pre.length]? = some ⟨ck, cv, cg⟩ := by rw [HML.out, hLM]; simp
         have htk : pre.map nilI = (MM.take pre.length).map nilI := by rw [HML.out]; simp
         have hbda : ∀ i, C' i → i < (w2.alloc (.cells #[strV ck, strV cv, .bool cg] 88)).heap.size := fun i h => by have := hbd' i h; simp; omega
         obtain ⟨fn, tmps, assign, body, hy, hR⟩ := HY.out (pre.map nilI) (nilI ⟨ck, cv, cg⟩) C' _ hJ2 hbda (.inl ⟨pre.length, _, htk, hat, rfl⟩)
         dsimp only [encI, nilI] at hy
         have HR := hide hR
         have HML2 := hide hML2
         clear hR hLM hML2 hat htk
         gi_wp2
         refine ⟨fun h => by simp [Fence.wide] at h, HR.out.mono ?_⟩
         rintro e W3 ⟨C2, hs2, hb2, hk2, hor⟩
         have hsub2 : ∀ i, C2 i → C i ∨ W.heap.size ≤ i := fun i h => by
           rcases hs2 i h with h | h
           · exact hsub i h
           · have h6 := hkw2.size
             exact .inr (by omega)
         have hkw3 : Keeps W W3 (fun i => C i ∨ diskT ρ i) := hkw2.trans hk2 (fun i hi h => by
           rcases hsub i h with h5 | h5
           · exact .inl h5
           · omega)
         have hC5 : ∀ i, C' i → ¬ diskT ρ i ∧ B ≤ i := fun i h => by
           rcases hsub i h with h5 | h5
           · exact ⟨(hC i h5).1, Nat.le_of_not_lt (hC i h5).2⟩
           · exact ⟨nT i h5, by omega⟩
         have D3 := D2.apart hk2 (fun i _ h => hC5 i h)
         rcases hor with ⟨rfl, hJ3⟩ | ⟨rfl, hJx3⟩
         · have hnew : ∃ m, m < mf (strV lk, wq) ∧ ∃ (lk : Str) (pre L : List Ref.Ch) (qs : List HS) (v : Value) (C' : Nat → Prop), strV ck = strV lk ∧ stillIn (srcs qs) = m ∧ MM = pre ++ L ∧ Ref.Tells (srcs qs) lk L ∧ Ref.Fine (srcs qs) lk ∧ HeapAt W3 (W.heap.size + 1) hb v qs ∧ Ref.HeapTo (srcs qs) qs.length ∧
             J (pre.map nilI) C' W3 ∧ (∀ i, C' i → C i ∨ W.heap.size ≤ i) ∧ (∀ i, C' i → i < W3.heap.size) ∧ ¬ C' hb ∧ (∀ g, v.ownBlock = some g → ¬ C' g) ∧ (∀ p ∈ qs, ∀ ad n c, p.1 = .slice (some ad) n c → ¬ C' ad.block ∧ W.heap.size + 1 ≤ ad.block) ∧ Keeps W W3 (fun i => C i ∨ diskT ρ i) ∧ Dk E B W3 ρ d G.1 ∧
             (∀ s ∈ srcs qs, s.entries.length < 1048576 ∧ s.age < 4611686018427387904) ∧ (srcs qs).length < 1048576 := by
             have nC2 : ∀ i, ¬ C' i → i < (w2.alloc (.cells #[strV ck, strV cv, .bool cg] 88)).heap.size → ¬ C2 i := fun i h1 h2 h3 => by
               rcases hs2 i h3 with h | h
               · exact h1 h
               · omega
             refine ⟨_, by rw [← hstill]; omega, ck, pre ++ [⟨ck, cv, cg⟩], M, qs2, v2, C2, rfl, rfl, HML2.out, TM.perm Pm, ((Fq.next HCE.out hmin5).1).perm Pm, HH2.out.keep hk2 hnhb (fun g hg => (hown2 g hg).1) (fun p hp ad n c e => (hent2 p hp ad n c e).1), HT2.out, by rw [List.map_append]; exact hJ3, hsub2, hb2,
               nC2 hb hnhb (lt_of_heap HH2.out.box), fun g hg => nC2 g (hown2 g hg).1 (hown2 g hg).2, fun p hp ad n c e => ⟨nC2 _ (hent2 p hp ad n c e).1 (hent2 p hp ad n c e).2.2, (hent2 p hp ad n c e).2.1⟩, hkw3, D3, hsh2, hcnt2⟩
           obtain ⟨m2, hm2, hrest⟩ := hnew
           have HNEW := hide hrest
           have HM2 := hide hm2
           clear hrest hm2
           gi_wp2
           go_roundw
           case rel => exact ⟨m2, HNEW.out⟩
           case measure => exact Nat.lt_of_le_of_lt ((HMF.out (_, _) ⟨m2, HNEW.out⟩).2 m2 HNEW.out) HM2.out
         · gi_wp2
           refine bodyPost_ret (results_none rfl _ _ _) rfl ?_
           exact ⟨C2, hsub2, hb2, ⟨_, rfl⟩, .inr ⟨_, D3, hJx3⟩⟩
 · obtain ⟨te, ae, rfl⟩ := hev.shape
   have eM : mergedL G = [] := by unfold mergedL; rw [hbad]
   have eE : errL G = some bad := by unfold errL; rw [hbad]
   rw [eM, eE] at hY
   have HM := hide eM
   have HE := hide eE
   clear eM eE
   obtain ⟨fn, tmps, assign, body, hy, hR⟩ := hY [] (noCh, .iface te (.pointer (some ae))) C w1 hJ1 hbd1 (.inr ⟨bad, rfl, rfl, rfl, hev⟩)
   dsimp only [encI, noCh] at hy
   have HR := hide hR
   have HDK := hide D1
   clear hR D1 hY
   gi_wp2
   refine ⟨fun h => by simp [Fence.wide] at h, HR.out.mono ?_⟩
   rintro e W3 ⟨C2, hs2, hb2, hk2, hor⟩
   have D3 := HDK.out.apart hk2 (fun i _ h => ⟨(hC i h).1, Nat.le_of_not_lt (hC i h).2⟩)
   have hsub : ∀ i, C2 i → C i ∨ W.heap.size ≤ i := fun i h => (hs2 i h).imp id (fun h => Nat.le_trans kW.size h)
   rcases hor with ⟨rfl, hJ3⟩ | ⟨rfl, hJx3⟩
   · gi_wp2
     refine bodyPost_ret (results_none rfl _ _ _) rfl ?_
     exact ⟨C2, hsub, hb2, ⟨_, rfl⟩, .inl ⟨_, ⟨D3, .inr ⟨bad, _, HE.out, ⟨te, ae, rfl⟩, by rw [HM.out]; rfl⟩⟩, hJ3⟩⟩
   · gi_wp2
     refine bodyPost_ret (results_none rfl _ _ _) rfl ?_
     exact ⟨C2, hsub, hb2, ⟨_, rfl⟩, .inr ⟨_, D3, hJx3⟩⟩
end Go.Proofs.YtnipbplghijdmaaGreatDoor
namespace Go.Proofs.YtnipbplghijdmaaGreatDoor
open Go.RowKit Go.Maps Go.WideShapes
set_option linter.unusedVariables false
abbrev runF (d : Nat) (n : Nat) (key : Str) : Value := .func (.func 212) #[.agg #[.pointer (some ⟨d, 0, none⟩), strV (runName n), strV key]] #[]
set_option maxRecDepth 100000 in
theorem fromRun_any {E : Nat → Addr} {B : Nat} {w : World} (d n : Nat) (key : Str) (hn : n ≤ 9223372036854775807) (H : Env E B w) :
   Calls Tryz.prog 175 #[.pointer (some ⟨d, 0, none⟩), natI n, strV key] w fun e w' => e = .returned (runF d n key) ∧ Keeps w w' (fun _ => False) := by
 go_enter Tryz.func175, Tryz.ntmps175
 go_wp2_with fail
 refine (runName_any n hn H).mono ?_
 rintro e w1 ⟨rfl, k1⟩
 go_wp2
 go_ret
 exact ⟨rfl, k1⟩
theorem Tryz.infoEnts : (Tryz.prog.info? 132).map (fun i => (i.zero, i.size, i.bytes)) = some (some .nilFunc, 1, 8) := by kernel_rfl
theorem one_fun (d n : Nat) (key : Str) : ∀ u ∈ [runF d n key], u.oneCell' = true := by intro u hu; simp at hu; subst hu; rfl
set_option maxHeartbeats 1000000 in
set_option maxRecDepth 100000 in
theorem storeSettled_any {E : Nat → Addr} {B : Nat} {w : World} {b : Nat} {t : TypeId} (d : Nat) (m : Ref.Man) (rv last mv : Value) (deg cl : Bool) (key : Str) (H : Env E B w)
   (hb : w.heap[b]? = some (.cells (storeRow (.pointer (some ⟨d, 0, none⟩)) (natV m.next) (natV m.last) (natV m.log) (natV m.base) rv last mv deg cl) t (0, 0))) (hv : Nums w rv m.runs) (hl : m.runs.length < 524288) (hs : ∀ n ∈ m.settled, n ≤ 9223372036854775807) :
   Calls Tryz.prog 124 #[.pointer (some ⟨b, 0, none⟩), strV key] w fun e w' => ∃ p c, e = .returned (.slice p m.settled.length c) ∧ w'.ownsRow w.heap.size 132 1 (.slice p m.settled.length c) m.settled.length (m.settled.map (fun n => runF d n key)) ∧ Keeps w w' (fun _ => False) := by
 obtain ⟨j0, hj, hy0, hy1, hy2⟩ := info_parts Tryz.infoEnts
 have hset := settled_any w m rv hv (by omega)
 have hsl := settled_length m
 have d0 := cell_of_heap (o := 0) hb
 have d1 := cell_of_heap (o := 1) hb
 have d2 := cell_of_heap (o := 2) hb
 have d3 := cell_of_heap (o := 3) hb
 have d4 := cell_of_heap (o := 4) hb
 have d5 := cell_of_heap (o := 5) hb
 simp at d0 d1 d2 d3 d4 d5
 have HB := hide hb
 generalize m.settled = l at hset hsl hs ⊢
 have HSET := hide hset
 clear hb hset
 go_enter Tryz.func124, Tryz.ntmps124
 go_wp2_with fail
 refine HSET.out.mono ?_
 rintro e w1 ⟨p1, c1, rfl, hown1, k1⟩
 have hN := nums_of_row hown1 rfl
 go_wp2_with fail
 go_loopw [5, 14] (fun b i wr => ∃ (k : Nat) (p : Option Addr) (c : Nat), k ≤ l.length ∧ i = .int .i64 k ∧ b = .slice p k c ∧
     wr.ownsRow w1.heap.size 132 1 (.slice p k c) k ((l.take k).map (fun n => runF d n key)) ∧ Keeps w1 wr (fun _ => False))
   (fun _ i _ => l.length - (intOf i).toNat)
 case atStart => exact ⟨0, none, 0, Nat.zero_le _, rfl, rfl, World.ownsRow_nil _ _ _ _, Keeps.refl _ _⟩
 case round =>
   obtain ⟨k, p, c, hk, rfl, rfl, hown, hkw⟩ := hrel
   rcases Nat.lt_or_ge k l.length with hlt | hge
   · obtain ⟨g, o, rfl, e0⟩ := (hN.same hkw).at hlt
     have hsk := hs l[k] (List.getElem_mem hlt)
     have kw := k1.trans hkw (fun _ _ h => h)
     have HR := H.same kw
     have d0' := cell_of_heap (o := 0) (kw.same HB.out id)
     simp at d0'
     go_wp2_with fail
     refine (fromRun_any d l[k] key hsk HR).mono ?_
     rintro e w2 ⟨rfl, k2⟩
     have kk := hkw.trans k2 (fun _ _ h => h)
     have hown1 := k2.row hown (fun _ _ h => h)
     have hownA := hown1.alloc (.cells #[runF d l[k] key] 132)
     have h63 : Hid (k + 1 ≤ maxLen) := by unfold Hid maxLen; omega
     have hbs : Hid ((k + 1) * 8 ≤ 140737488355328) := by unfold Hid; omega
     have hstep : (l.take (k + 1)).map (fun n => runF d n key) = (l.take k).map (fun n => runF d n key) ++ [runF d l[k] key] := by
       rw [List.take_succ_eq_append_getElem hlt, List.map_append]
       rfl
     have HS := hide hstep
     clear hstep hown
     go_wp2_with (first | (at_builtin; go_must (refine wpList_append_own_sl _ rfl (.tmp 18) (.tmp 26) 134 rfl w1.heap.size 132 j0 .nilFunc 1 8 Tryz.underlying134 hj hy0 hy1 hy2 rfl Nat.zero_lt_one _ _ _ rfl hownA ⟨w2.heap.size, 0, none⟩ 1 1 [runF d l[k] key] rfl rfl (cell_one_new _ _ _) (one_fun _ _ _) h63.out hbs.out (kk.more _).size ?_); intro p3 cp3 w3 hown3 hg3 hloc3) | go_in)
     have k3 : Keeps w1 w3 (fun _ => False) := (kk.more _).grow hg3 (fun j e hj => by have := (hown1.lt j e).1; omega)
     rw [← HS.out] at hown3
     exact ⟨⟨k + 1, p3, cp3, by omega, by simp, rfl, hown3, k3⟩, by simp [intOf]; omega⟩
   · have ek : k = l.length := by omega
     subst ek
     rw [List.take_length] at hown
     go_wp2
     go_ret
     exact ⟨p, c, rfl, row_base hown k1.size, k1.trans hkw (fun _ _ h => h)⟩
theorem row_src {P : Program} {w : World} {base : Nat} {e st : TypeId} {v : Value} {n : Nat} {xs : List Value} (hst : P.underlying st = some (.slice e)) (h : w.ownsRow base e 1 v n xs) (h1 : ∀ u ∈ xs, u.oneCell' = true) : Src P 1 st v n xs w := by
 rcases h.2 with ⟨rfl, h0⟩ | ⟨g, cap, cur, rfl, _⟩
 · have hx : xs = [] := List.eq_nil_of_length_eq_zero (by rw [h.1, h0])
   subst hx
   subst h0
   exact Src.ofNil w hst 0
 · exact Src.ofSlice w hst ⟨g, 0, none⟩ n cap _ h.1 (fun j u hu => h.cells rfl j u hu) h1
abbrev memF (v : Value) : Value := .func (.func 158) #[v] #[]
def LayersPost (d : Nat) (m : Ref.Man) (l : List Ref.Ch) (mv : Value) (key : Str) (w : World) (e : Ending) (w' : World) : Prop :=
 ∃ p c v, e = .returned (.slice p (m.settled.length + 1) c) ∧ w'.ownsRow w.heap.size 132 1 (.slice p (m.settled.length + 1) c) (m.settled.length + 1) (memF v :: m.settled.map (fun n => runF d n key)) ∧ Chs w' v (l.drop (Ref.below l key)) ∧
   (∀ ad n c, v = .slice (some ad) n c → ∃ ad' n' c', mv = .slice (some ad') n' c' ∧ ad'.block = ad.block) ∧ Keeps w w' (fun _ => False)
set_option maxHeartbeats 1000000 in
set_option maxRecDepth 100000 in
theorem storeLayers_any {E : Nat → Addr} {B : Nat} {w : World} {b : Nat} {t : TypeId} (d : Nat) (m : Ref.Man) (rv last mv : Value) (l : List Ref.Ch) (deg cl : Bool) (key : Str) (H : Env E B w)
   (hb : w.heap[b]? = some (.cells (storeRow (.pointer (some ⟨d, 0, none⟩)) (natV m.next) (natV m.last) (natV m.log) (natV m.base) rv last mv deg cl) t (0, 0))) (hv : Nums w rv m.runs) (hl : m.runs.length < 524288) (hs : ∀ n ∈ m.settled, n ≤ 9223372036854775807)
   (hch : Chs w mv l) (hr : Ref.Rising l) (hll : l.length < 1048576) :
   Calls Tryz.prog 72 #[.pointer (some ⟨b, 0, none⟩), strV key] w (LayersPost d m l mv key w) := by
 obtain ⟨j0, hj, hy0, hy1, hy2⟩ := info_parts Tryz.infoEnts
 have hsl := settled_length m
 have hm := from_mem b 7 _ t mv l key w hb rfl hch hr hll
 have HB := hide hb
 have HM := hide hm
 clear hb hm
 go_enter Tryz.func72, Tryz.ntmps72
 go_wp2_with fail
 refine HM.out.mono ?_
 rintro e w1 ⟨v, rfl, hc1, k1, hbl⟩
 have kA : Keeps w (w1.alloc (.cells #[memF v] 132)) (fun _ => False) := k1.more _
 have hset := storeSettled_any d m rv last mv deg cl key (H.same kA) (kA.same HB.out id) (hv.same kA) hl hs
 have hrow := World.ownsRow_lit (base := w.heap.size) (e := 132) (size := 1) w1 #[memF v] 1 k1.size (by unfold maxLen; omega) rfl
 have HSET := hide hset
 have HBL := hide hbl
 clear hset hbl
 go_wp2_with fail
 refine HSET.out.mono ?_
 rintro e w2 ⟨p2, c2, rfl, hown2, k2⟩
 have kB := kA.trans k2 (fun _ _ h => h)
 have hrow2 := k2.row hrow (fun _ _ h => h)
 have hsrc := row_src (P := Tryz.prog) Tryz.underlying134 hown2 (fun u hu => by
   obtain ⟨n, _, rfl⟩ := List.mem_map.1 hu
   rfl)
 have h63 : Hid (1 + m.settled.length ≤ maxLen) := by unfold Hid maxLen; omega
 have hbs : Hid ((1 + m.settled.length) * 8 ≤ 140737488355328) := by unfold Hid; omega
 have HO := hide hown2
 clear hown2
 go_wp2_with (at_builtin; go_must (refine wpList_append_src w2 rfl (.tmp 10) (.tmp 13) 134 134 rfl w.heap.size 132 j0 .nilFunc 1 8 Tryz.underlying134 hj hy0 hy1 hy2 rfl Nat.zero_lt_one _ 1 _ rfl hrow2 _ m.settled.length _ rfl hsrc h63.out hbs.out kB.size ?_); intro p3 cp3 w3 hown3 hg3 hloc3)
 have k3 : Keeps w w3 (fun _ => False) := kB.grow hg3 (fun j e hj => by have := (hrow2.lt j e).1; omega)
 have k4 : Keeps w1 w3 (fun _ => False) := ((Keeps.alloc w1 _ (fun _ => False)).trans k2 (fun _ _ h => h)).grow hg3 (fun j e hj => by injection e with e; have e' : w1.heap.size = j := e; omega)
 go_ret
 rw [show 1 + m.settled.length = m.settled.length + 1 by omega] at hown3 ⊢
 exact ⟨p3, cp3, v, rfl, hown3, hc1.same k4, HBL.out, k3⟩
abbrev plV (p : Nat × Nat × Str) : Value := .agg #[natI p.1, natI p.2.1, strV p.2.2]
def plCells (l : List (Nat × Nat × Str)) : List Value := l.flatMap fun p => [natI p.1, natI p.2.1, strV p.2.2]
theorem plCells_snoc (l : List (Nat × Nat × Str)) (c : Nat × Nat × Str) : plCells (l ++ [c]) = plCells l ++ plCells [c] := by simp [plCells]
theorem pl_one (l : List (Nat × Nat × Str)) : ∀ u ∈ plCells l, u.oneCell' = true := by
 intro u hu
 obtain ⟨c, _, h⟩ := List.mem_flatMap.1 hu
 simp at h
 rcases h with rfl | rfl | rfl <;> rfl
theorem plCells_at {l : List (Nat × Nat × Str)} {k : Nat} (h : k < l.length) : (plCells l)[k * 3]? = some (natI l[k].1) ∧ (plCells l)[k * 3 + 1]? = some (natI l[k].2.1) ∧ (plCells l)[k * 3 + 2]? = some (strV l[k].2.2) := by
 induction l generalizing k with
 | nil => simp at h
 | cons c r ih =>
   have e : plCells (c :: r) = natI c.1 :: natI c.2.1 :: strV c.2.2 :: plCells r := by simp [plCells]
   cases k with
   | zero => rw [e]; simp
   | succ k =>
     have := ih (by simpa using h)
     rw [e, show (k + 1) * 3 = k * 3 + 1 + 1 + 1 by omega, show k * 3 + 1 + 1 + 1 + 1 = (k * 3 + 1) + 1 + 1 + 1 by omega, show k * 3 + 1 + 1 + 1 + 2 = (k * 3 + 2) + 1 + 1 + 1 by omega]
     simp only [List.getElem?_cons_succ, List.getElem_cons_succ]
     exact this
theorem load_pl {w : World} {b : Nat} {c : Nat × Nat × Str} (h : w.heap[b]? = some (.cells #[natI c.1, natI c.2.1, strV c.2.2] 346 (0, 0))) : (loadVar 346 ⟨b, 0, none⟩).run Tryz.prog w = .ok (plV c) w := by
 have c0 := cell_of_heap (o := 0) h
 have c1 := cell_of_heap (o := 1) h
 have c2 := cell_of_heap (o := 2) h
 simp at c0 c1 c2
 go_simp
theorem results_pl {fn : Func} {t u : Tmp} (h : fn.results = #[.cell t 346, .tmp u]) {tmps : Array Value} {w : World} {b : Nat} {c : Nat × Nat × Str} (ht : tmps.getD t undef = .pointer (some ⟨b, 0, none⟩))
   (hb : w.heap[b]? = some (.cells #[natI c.1, natI c.2.1, strV c.2.2] 346 (0, 0))) :
   (results fn tmps).run Tryz.prog w = .ok (.tuple #[plV c, tmps.getD u undef]) w := by
 have hl := load_pl hb
 have ht' : tmps[t]?.getD undef = .pointer (some ⟨b, 0, none⟩) := by simpa using ht
 simp [results, h, ht', asAddr, hl]
theorem pl_facts {w : World} {b : Nat} {x y : Nat} {k : Str} (h : w.heap[b]? = some (.cells #[natI x, natI y, strV k] 346 (0, 0))) :
   w.cell? ⟨b, 0, none⟩ = some (natI x) ∧ w.cell? ⟨b, 1, none⟩ = some (natI y) ∧ w.cell? ⟨b, 2, none⟩ = some (strV k) ∧ w.frozen? ⟨b, 0, none⟩ = false ∧ w.frozen? ⟨b, 1, none⟩ = false ∧ w.frozen? ⟨b, 2, none⟩ = false := by
 have c0 := cell_of_heap (o := 0) h
 have c1 := cell_of_heap (o := 1) h
 have c2 := cell_of_heap (o := 2) h
 simp at c0 c1 c2
 exact ⟨c0, c1, c2, frozen_of_heap h, frozen_of_heap h, frozen_of_heap h⟩
theorem pl_set {w : World} {b : Nat} {x y x' y' : Nat} {k k' : Str} (h : w.heap[b]? = some (.cells #[natI x, natI y, strV k] 346 (0, 0))) :
   (((w.setCell ⟨b, 0, none⟩ (natI x')).setCell ⟨b, 1, none⟩ (natI y')).setCell ⟨b, 2, none⟩ (strV k')).heap[b]? = some (.cells #[natI x', natI y', strV k'] 346 (0, 0)) := by
 have h1 := heap_setCell_at (o := 0) h (natI x')
 have h2 := heap_setCell_at (o := 1) h1 (natI y')
 have h3 := heap_setCell_at (o := 2) h2 (strV k')
 simpa using h3
theorem pl_no {w : World} {b : Nat} {x y : Nat} {k : Str} {t : TypeId} {fz : Nat × Nat} (h : w.heap[b]? = some (.cells #[natI x, natI y, strV k] t fz)) : ∀ j u, w.cell? ⟨b, j, none⟩ ≠ some (byteV u) := by
 intro j x
 rw [cell_of_heap h]
 match j with
 | 0 => simp
 | 1 => simp
 | 2 => simp
 | j + 3 => rw [Array.getElem?_eq_none (by simp)]; simp
set_option maxHeartbeats 1000000 in
set_option maxRecDepth 100000 in
theorem readPlace_ok {w : World} {r : Nat} {l q : List UInt8} {F : Nat} {p : Nat × Str} (hr : Rd w r l) (ht : Ref.takePlace F l = some (p, q)) (hF : F < 1099511627776) :
   Calls Tryz.prog 274 #[.pointer (some ⟨r, 0, none⟩), natI F] w fun e w' => e = .returned (.tuple #[plV (p.1, F, p.2), .nilIface]) ∧ Rd w' r q ∧ Keeps w w' (fun i => i = r) := by
 have hrl : r < w.heap.size := by obtain ⟨v, h1, _⟩ := hr; exact lt_of_heap h1
 unfold Ref.takePlace at ht
 split at ht
 · rename_i hc
   obtain ⟨h4, hle⟩ := hc
   split at ht
   · rename_i t q' htt
     cases ht
     have kA := Keeps.alloc w (.cells #[natI 0, natI 0, strV []] 346) (fun _ => False)
     have hRB := heap_alloc_top w (.cells #[natI 0, natI 0, strV []] 346)
     obtain ⟨N, hN⟩ : ∃ N, N = Ref.number (l.take 4) := ⟨_, rfl⟩
     have HRB := hide hRB
     rw [← hN] at hle ⊢
     clear hRB
     go_enter Tryz.func274, Tryz.ntmps274
     go_wp2_with fail
     refine (number_ok (n := 4) (hr.same kA) h4 (by omega)).mono ?_
     rintro e w1 ⟨rfl, hr1, k1⟩
     rw [← hN]
     have HN := hide hN
     clear hN
     have hRB1 := k1.same HRB.out (by omega)
     have KA1 : Keeps w w1 (fun i => i = r) := (keepsF kA).trans k1 (fun _ _ h => h)
     have HRB1 := hide hRB1
     clear hRB1
     go_wp2_with fail
     refine (text_ok hr1 htt).mono ?_
     rintro e w2 ⟨rfl, hr2, k2⟩
     have hRB2 := k2.same HRB1.out (by omega)
     have KA2 : Keeps w w2 (fun i => i = r) := KA1.trans k2 (fun _ _ h => h)
     obtain ⟨a0, a1, a2, f0, f1, f2⟩ := pl_facts (x := 0) (y := 0) hRB2
     have no2 := pl_no (x := 0) (y := 0) hRB2
     have hr3 := hr2.other (keeps3 w2 w.heap.size (natI N) (natI F) (strV t)) (show r ≠ w.heap.size by omega) no2
     have hres := pl_set (x := 0) (y := 0) (x' := N) (y' := F) (k' := t) hRB2
     have HRES := hide hres
     have HR3 := hide hr3
     clear hres hr3 hRB2 no2
     go_wp2
     refine bodyPost_ret (results_pl rfl rfl (c := (N, F, t)) HRES.out) rfl ?_
     exact ⟨rfl, HR3.out, KA2.trans (keeps3 _ _ _ _ _) (fun i hi e => by have e' : i = w.heap.size := e; omega)⟩
   · cases ht
 · cases ht
def plAt (F : Nat) (ps : List (Nat × Str)) (k : Nat) : List (Nat × Nat × Str) := ps.mapIdx fun j p => (p.1, (if j < k then Ref.stopOf F ps j else F), p.2)
theorem plAt_length (F : Nat) (ps : List (Nat × Str)) (k : Nat) : (plAt F ps k).length = ps.length := by simp [plAt]
theorem plAt_get {F : Nat} {ps : List (Nat × Str)} {k j : Nat} (h : j < ps.length) : (plAt F ps k)[j]'(by rw [plAt_length]; exact h) = (ps[j].1, (if j < k then Ref.stopOf F ps j else F), ps[j].2) := by simp [plAt]
theorem plAt_zero (F : Nat) (ps : List (Nat × Str)) : plAt F ps 0 = ps.map (fun p => (p.1, F, p.2)) := by
 apply List.ext_getElem
 · simp [plAt]
 · intro i h1 h2
   simp [plAt]
theorem plCells_set {ps : List (Nat × Nat × Str)} {k : Nat} (h : k < ps.length) (x : Nat) : plCells (ps.set k (ps[k].1, x, ps[k].2.2)) = (plCells ps).set (k * 3 + 1) (natI x) := by
 induction ps generalizing k with
 | nil => simp at h
 | cons p r ih =>
   have e : ∀ (x : Nat × Nat × Str) (l : List (Nat × Nat × Str)), plCells (x :: l) = natI x.1 :: natI x.2.1 :: strV x.2.2 :: plCells l := fun x l => by simp [plCells]
   cases k with
   | zero => simp [e]
   | succ k =>
     have := ih (by simpa using h : k < r.length)
     simp only [List.getElem_cons_succ, List.set_cons_succ]
     rw [e, this, e, show (k + 1) * 3 + 1 = (k * 3 + 1) + 1 + 1 + 1 by omega]
     simp [List.set_cons_succ]
theorem plAt_step {F : Nat} {ps : List (Nat × Str)} {k : Nat} (h : k < ps.length) : plAt F ps (k + 1) = (plAt F ps k).set k (ps[k].1, Ref.stopOf F ps k, ps[k].2) := by
 apply List.ext_getElem
 · simp [plAt]
 · intro i h1 h2
   rw [plAt_length] at h1
   rw [plAt_get h1, List.getElem_set]
   by_cases e : k = i
   · subst e
     rw [if_pos rfl, if_pos (by omega)]
   · rw [if_neg e, plAt_get h1]
     by_cases hi : i < k
     · rw [if_pos hi, if_pos (by omega)]
     · rw [if_neg hi, if_neg (by omega)]
theorem plCells_step {F : Nat} {ps : List (Nat × Str)} {k : Nat} (h : k < ps.length) : plCells (plAt F ps (k + 1)) = (plCells (plAt F ps k)).set (k * 3 + 1) (natI (Ref.stopOf F ps k)) := by
 rw [plAt_step h]
 have hk : k < (plAt F ps k).length := by rw [plAt_length]; exact h
 have := plCells_set hk (Ref.stopOf F ps k)
 rw [plAt_get h] at this
 exact this
theorem joined_le {ps : List (Nat × Str)} (h : Ref.joined ps = true) {k : Nat} (hk : k + 1 < ps.length) : ps[k].1 ≤ ps[k + 1].1 := by
 unfold Ref.joined at h
 rw [Bool.and_eq_true] at h
 have := of_decide_eq_true h.2
 exact List.pairwise_iff_getElem.1 this k (k + 1) (by omega) hk (by omega)
theorem joined_zero {ps : List (Nat × Str)} (h : Ref.joined ps = true) : ∃ x r, ps = (0, x) :: r := by
 unfold Ref.joined at h
 rw [Bool.and_eq_true] at h
 have h1 := of_decide_eq_true h.1
 cases ps with
 | nil => cases h1
 | cons p r =>
   obtain ⟨a, x⟩ := p
   simp at h1
   exact ⟨x, r, by rw [h1]⟩
set_option maxHeartbeats 1000000 in
set_option maxRecDepth 100000 in
theorem join_ok {w : World} {base g cap n F : Nat} {ps : List (Nat × Str)} (hn : ps.length = n) (hj : Ref.joined ps = true) (hrow : w.ownsRow base 346 3 (.slice (some ⟨g, 0, none⟩) n cap) n (plCells (plAt F ps 0))) (hl : n < 1048576) :
   Calls Tryz.prog 275 #[.slice (some ⟨g, 0, none⟩) n cap] w fun e w' => e = .returned .nilIface ∧ w'.ownsRow base 346 3 (.slice (some ⟨g, 0, none⟩) n cap) n (plCells (plAt F ps n)) ∧ Keeps w w' (fun i => i = g) := by
 obtain ⟨x0, r0, e0⟩ := joined_zero hj
 have hn1 : 1 ≤ n := by rw [← hn, e0]; simp
 have c0 : w.cell? ⟨g, 0, none⟩ = some (natI 0) := by
   rw [hrow.cellAt 0 (by omega)]
   have := (plCells_at (l := plAt F ps 0) (k := 0) (by rw [plAt_length]; omega)).1
   rw [plAt_get (by omega)] at this
   simp only [e0] at this
   simpa [e0] using this
 have hlast : plAt F ps (n - 1) = plAt F ps n := by
   apply List.ext_getElem
   · simp [plAt]
   · intro i h1 h2
     rw [plAt_length] at h1
     rw [plAt_get h1, plAt_get h1]
     by_cases hi : i < n - 1
     · rw [if_pos hi, if_pos (by omega)]
     · rw [if_neg hi, if_pos (by omega)]
       have : Ref.stopOf F ps i = F := by
         unfold Ref.stopOf
         rw [List.getElem?_eq_none (by omega)]
         rfl
       rw [this]
 have HROW := hide hrow
 have HL := hide hlast
 have HJ := hide hj
 have HN := hide hn
 clear hrow hlast hj e0 hn
 have hni : (1 : Int) ≤ (n : Int) := by omega
 go_enter Tryz.func275, Tryz.ntmps275
 go_wp2
 go_loopw [15] (fun i wr => ∃ (k : Nat), k ≤ n - 1 ∧ i = .int .i64 k ∧ wr.ownsRow base 346 3 (.slice (some ⟨g, 0, none⟩) n cap) n (plCells (plAt F ps k)) ∧ Keeps w wr (fun i => i = g))
   (fun i _ => n - 1 - (intOf i).toNat)
 case atStart => exact ⟨0, Nat.zero_le _, rfl, HROW.out, Keeps.refl _ _⟩
 case round =>
   obtain ⟨k, hk, rfl, hrow, hkw⟩ := hrel
   rcases Nat.lt_or_ge k (n - 1) with hlt | hge
   · have hlti : (k : Int) < (n : Int) - 1 := by omega
     have hkp : k + 1 < ps.length := by rw [HN.out]; omega
     have a1 : wr.cell? ⟨g, k * 3, none⟩ = some (natI ps[k].1) := by
       rw [hrow.cellAt _ (by omega), (plCells_at (l := plAt F ps k) (k := k) (by rw [plAt_length]; omega)).1, plAt_get (by omega)]
     have a2 : wr.cell? ⟨g, (k + 1) * 3, none⟩ = some (natI ps[k + 1].1) := by
       rw [hrow.cellAt _ (by omega), (plCells_at (l := plAt F ps k) (k := k + 1) (by rw [plAt_length]; omega)).1, plAt_get (by omega)]
     have a3 := hrow.cellAt (k * 3 + 1) (by omega)
     rw [(plCells_at (l := plAt F ps k) (k := k) (by rw [plAt_length]; omega)).2.1] at a3
     have f3 := hrow.frozenAt (k * 3 + 1)
     have hle := joined_le HJ.out hkp
     have hst : Ref.stopOf F ps k = ps[k + 1].1 := by
       unfold Ref.stopOf
       rw [List.getElem?_eq_getElem hkp]
       rfl
     have hrow2 := row_put hrow (j := k * 3 + 1) (by omega) (natI ps[k + 1].1)
     rw [← hst, ← plCells_step (by omega), hst] at hrow2
     have k2 := hkw.set (p := ⟨g, k * 3 + 1, none⟩) rfl (natI ps[k + 1].1)
     generalize ps[k + 1].1 = X at a2 hle hrow2 k2 hst
     generalize ps[k].1 = Y at a1 hle
     have hlei : ¬ ((X : Int) < (Y : Int)) := by omega
     have HR2 := hide hrow2
     have HK2 := hide k2
     clear hrow hrow2 k2
     go_wp2
     exact ⟨⟨k + 1, by omega, by simp, HR2.out, HK2.out⟩, by simp [intOf]; omega⟩
   · have ek : k = n - 1 := by omega
     subst ek
     rw [HL.out] at hrow
     have hge2 : ¬ (((n - 1 : Nat) : Int) < (n : Int) - 1) := by omega
     go_wp2
     go_ret
     exact ⟨rfl, hrow, hkw⟩
theorem Ref.takePlaces_succ {F n : Nat} {l q : List UInt8} {ps : List (Nat × Str)} (h : Ref.takePlaces F (n + 1) l = some (ps, q)) : ∃ p r ps', Ref.takePlace F l = some (p, r) ∧ Ref.takePlaces F n r = some (ps', q) ∧ ps = p :: ps' := by
 unfold Ref.takePlaces at h
 split at h
 · cases h
 · rename_i p r e
   split at h
   · cases h
   · rename_i ps' q' e'
     cases h
     exact ⟨p, r, ps', e, e', rfl⟩
theorem Ref.takePlaces_len {F n : Nat} {l q : List UInt8} {ps : List (Nat × Str)} (h : Ref.takePlaces F n l = some (ps, q)) : ps.length = n := by
 induction n generalizing l ps with
 | zero => cases h; rfl
 | succ n ih =>
   obtain ⟨p, r, ps', _, h2, rfl⟩ := Ref.takePlaces_succ h
   simp [ih h2]
def plZ : Value := .agg #[.int .i64 0, .int .i64 0, .string ⟨#[]⟩]
theorem Tryz.infoPl : (Tryz.prog.info? 346).map (fun i => (i.zero, i.size, i.bytes)) = some (some plZ, 3, 32) := by kernel_rfl
theorem plCells_one (w : World) (x y : Nat) (k : Str) (t : TypeId) : ∀ j u, (plCells [(x, y, k)])[j]? = some u → (w.alloc (.cells #[natI x, natI y, strV k] t)).cell? ((⟨w.heap.size, 0, none⟩ : Addr).add j) = some u := by
 intro j u hj
 exact cells_at (heap_alloc_top w (.cells #[natI x, natI y, strV k] t)) rfl j u (by simpa [plCells] using hj)
theorem Rd.rowAt {w w' : World} {r base n : Nat} {e : TypeId} {size : Nat} {q : List UInt8} {v : Value} {xs : List Value} (h : Rd w r q) (hk : Keeps w w' (fun i => some i = v.ownBlock)) (ho : w.ownsRow base e size v n xs) (hr : r < base) : Rd w' r q := by
 obtain ⟨u, h1, h2, h3⟩ := h
 have hne : ∀ i, i ≤ r → ¬ some i = v.ownBlock := fun i hi e => by have := (ho.lt i e.symm).1; omega
 refine ⟨u, hk.same h1 (hne r (Nat.le_refl _)), ?_, h3⟩
 rcases Classical.em (q = []) with rfl | hq
 · obtain ⟨p, c, rfl, a1, a2, a3, a4⟩ := h2
   exact ⟨p, c, rfl, a1, a2, a3, fun ad e => ⟨(a4 ad e).1, fun j u hu => by cases hu⟩⟩
 · exact h2.keep hk (fun p n c e => hne _ (Nat.le_of_lt (h3 hq p n c e).1))
set_option maxHeartbeats 1000000 in
set_option maxRecDepth 100000 in
theorem readPlaces_ok {w : World} {r F : Nat} {l : List UInt8} {ps : List (Nat × Str)} (hr : Rd w r l) (h : Ref.readPlaces F l = some ps) (hF : F < 1099511627776) :
   Calls Tryz.prog 263 #[.pointer (some ⟨r, 0, none⟩), natI F] w fun e w' => ∃ g cap, e = .returned (.tuple #[.slice (some ⟨g, 0, none⟩) ps.length cap, .nilIface]) ∧
     w'.ownsRow w.heap.size 346 3 (.slice (some ⟨g, 0, none⟩) ps.length cap) ps.length (plCells (plAt F ps ps.length)) ∧ Keeps w w' (fun i => i = r) := by
 have hrl : r < w.heap.size := by obtain ⟨v, h1, _⟩ := hr; exact lt_of_heap h1
 obtain ⟨j0, hj, hy0, hy1, hy2⟩ := info_parts Tryz.infoPl
 unfold Ref.readPlaces at h
 split at h
 · rename_i hc
   obtain ⟨h2, hne⟩ := hc
   split at h
   · rename_i ps' htp
     split at h
     · rename_i hjoin
       cases h
       have hlen := Ref.takePlaces_len htp
       have hN2 : Ref.number (l.take 2) < 65536 := by
         have := Ref.number_lt (l.take 2)
         rw [List.length_take, Nat.min_eq_left h2] at this
         exact this
       obtain ⟨N, hN⟩ : ∃ N, N = Ref.number (l.take 2) := ⟨_, rfl⟩
       rw [← hN] at hN2 hlen htp hne
       rw [hlen]
       have HJ := hide hjoin
       have HTP := hide htp
       have HLEN := hide hlen
       clear hjoin htp hlen
       have hne0 : ((N : Int) == 0) = false := by simp; omega
       have hne1 : ¬ ((N : Int) = 0) := by omega
       go_enter Tryz.func263, Tryz.ntmps263
       go_wp2_with fail
       refine (number_ok (n := 2) hr h2 (by omega)).mono ?_
       rintro e w1 ⟨rfl, hr1, k1⟩
       rw [← hN]
       have HHN := hide hN
       clear hN
       go_wp2
       go_loopw [8, 27] (fun v i wr => ∃ (k : Nat) (done todo : List (Nat × Str)) (q : List UInt8) (p : Option Addr) (c : Nat), k ≤ N ∧ ps = done ++ todo ∧ done.length = k ∧ Ref.takePlaces F (N - k) q = some (todo, []) ∧ i = .int .u64 k ∧ v = .slice p k c ∧
           wr.ownsRow w.heap.size 346 3 (.slice p k c) k (plCells (done.map (fun p => (p.1, F, p.2)))) ∧ Rd wr r q ∧ Keeps w wr (fun i => i = r))
         (fun _ i _ => N - (intOf i).toNat)
       case atStart => exact ⟨0, [], ps, _, none, 0, Nat.zero_le _, rfl, rfl, HTP.out, rfl, rfl, World.ownsRow_nil _ _ _ _, hr1, k1⟩
       case round =>
         obtain ⟨k, done, todo, q, p, c, hk, hps, hdl, htake, rfl, rfl, hown, hrq, hkw⟩ := hrel
         have HPS := hide hps
         clear hps
         rcases Nat.lt_or_ge k N with hlt | hge
         · rw [show N - k = (N - (k + 1)) + 1 by omega] at htake
           obtain ⟨⟨px, pk⟩, q', todo', hT, hT2, rfl⟩ := Ref.takePlaces_succ htake
           have HT2 := hide hT2
           clear htake hT2
           go_wp2_with fail
           refine (readPlace_ok hrq hT hF).mono ?_
           rintro e w2 ⟨rfl, hr2, k2⟩
           have hown2 := k2.row hown (fun g hg e => by have := (hown.lt g hg).1; omega)
           have KW := keepsR hkw k2
           clear hown hrq
           have hownA := (hown2.alloc (.cells #[natI px, natI F, strV pk] 346)).alloc (.cells #[natI px, natI F, strV pk] 346)
           have hsz1 : (w2.alloc (.cells #[natI px, natI F, strV pk] 346)).heap.size = w2.heap.size + 1 := by simp
           have hnew := plCells_one (w2.alloc (.cells #[natI px, natI F, strV pk] 346)) px F pk 346
           rw [hsz1] at hnew
           have h1 := pl_one [(px, F, pk)]
           have h63 : Hid (k + 1 ≤ maxLen) := by unfold Hid maxLen; omega
           have hbs : Hid ((k + 1) * 32 ≤ 140737488355328) := by unfold Hid; omega
           have hb : w.heap.size ≤ ((w2.alloc (.cells #[natI px, natI F, strV pk] 346)).alloc (.cells #[natI px, natI F, strV pk] 346)).heap.size := by have := KW.size; simp; omega
           have hlt2 := hown2.lt
           go_wp2_with (first | (at_builtin; go_must (refine wpList_append_own_sl _ rfl (.tmp 39) (.tmp 41) 321 rfl w.heap.size 346 j0 plZ 3 32 Tryz.underlying321 hj hy0 hy1 hy2 rfl (Nat.zero_lt_succ 2) _ _ _ rfl hownA ⟨w2.heap.size + 1, 0, none⟩ 1 1 (plCells [(px, F, pk)]) rfl rfl hnew h1 h63.out hbs.out hb ?_); intro p3 cp3 w3 hown3 hg3 hloc3) | go_in)
           rw [← plCells_snoc] at hown3
           have k3 : Keeps w2 w3 (fun i => some i = (Value.slice p k c).ownBlock) := (((Keeps.refl w2 _).more _).more _).grow hg3 (fun j e _ => e.symm)
           have KW3 : Keeps w w3 (fun i => i = r) := KW.trans k3 (fun i hi e => by have := (hlt2 i e.symm).1; omega)
           have hr3 : Rd w3 r q' := hr2.rowAt k3 hown2 hrl
           have hmm : (done ++ [(px, pk)]).map (fun p => (p.1, F, p.2)) = done.map (fun p => (p.1, F, p.2)) ++ [(px, F, pk)] := by simp
           rw [← hmm] at hown3
           have hpp : ps = (done ++ [(px, pk)]) ++ todo' := by rw [HPS.out]; simp
           exact ⟨⟨k + 1, done ++ [(px, pk)], todo', q', p3, cp3, by omega, hpp, by simp [hdl], HT2.out, by simp, rfl, hown3, hr3, KW3⟩, by simp [intOf]; omega⟩
         · have ek : k = N := by omega
           subst ek
           rw [Nat.sub_self] at htake
           cases htake
           have hd : ps = done := by have := HPS.out; simpa using this
           rw [← hd, ← plAt_zero] at hown
           have hN1 : 0 < k := by omega
           obtain ⟨g, hg⟩ : ∃ g, p = some ⟨g, 0, none⟩ := by
             rcases hown.2 with ⟨e, e0⟩ | ⟨g, _, _, e, _⟩
             · omega
             · cases e; exact ⟨g, rfl⟩
           subst hg
           have hjo := join_ok (base := w.heap.size) HLEN.out HJ.out hown (by omega)
           have HJO := hide hjo
           have hlt := hown.lt
           clear hjo hown HJ hd
           go_wp2_with fail
           refine (end_ok hrq).mono ?_
           rintro e w' ⟨rfl, rfl⟩
           go_wp2_with fail
           refine HJO.out.mono ?_
           rintro e w5 ⟨rfl, hown5, k5⟩
           go_wp2
           go_ret2
           exact ⟨g, c, rfl, hown5, hkw.trans k5 (fun i hi e => by have := (hlt g rfl).1; omega)⟩
     · cases h
   · cases h
 · cases h
abbrev runV (hv pv : Value) : Value := .agg #[hv, pv]
theorem load_run {w : World} {b : Nat} {hv pv : Value} (h : w.heap[b]? = some (.cells #[hv, pv] 323 (0, 0))) : (loadVar 323 ⟨b, 0, none⟩).run Tryz.prog w = .ok (runV hv pv) w := by
 have c0 := cell_of_heap (o := 0) h
 have c1 := cell_of_heap (o := 1) h
 simp at c0 c1
 go_simp
theorem results_run {fn : Func} {t u : Tmp} (h : fn.results = #[.cell t 323, .tmp u]) {tmps : Array Value} {w : World} {b : Nat} {hv pv : Value} (ht : tmps.getD t undef = .pointer (some ⟨b, 0, none⟩))
   (hb : w.heap[b]? = some (.cells #[hv, pv] 323 (0, 0))) :
   (results fn tmps).run Tryz.prog w = .ok (.tuple #[runV hv pv, tmps.getD u undef]) w := by
 have hl := load_run hb
 have ht' : tmps[t]?.getD undef = .pointer (some ⟨b, 0, none⟩) := by simpa using ht
 simp [results, h, ht', asAddr, hl]
theorem run_set {w : World} {b : Nat} {x y x' y' : Value} (h : w.heap[b]? = some (.cells #[x, y] 323 (0, 0))) :
   ((w.setCell ⟨b, 0, none⟩ x').setCell ⟨b, 1, none⟩ y').heap[b]? = some (.cells #[x', y'] 323 (0, 0)) := by
 have h1 := heap_setCell_at (o := 0) h x'
 have h2 := heap_setCell_at (o := 1) h1 y'
 simpa using h2
theorem keeps2 (w : World) (b : Nat) (x y : Value) : Keeps w ((w.setCell ⟨b, 0, none⟩ x).setCell ⟨b, 1, none⟩ y) (fun i => i = b) :=
 ((Keeps.refl w (fun i => i = b)).set (p := ⟨b, 0, none⟩) rfl x).set (p := ⟨b, 1, none⟩) rfl y
theorem Ref.takeFrame_pos {l h q : List UInt8} (e : Ref.takeFrame l = some (h, q)) : 8 ≤ l.length := (Ref.takeFrame_some e).1
set_option maxHeartbeats 1000000 in
set_option maxRecDepth 100000 in
theorem readRun_ok {w : World} {v : Value} {F : Nat} {b : List UInt8} {ps : List (Nat × Str)} (hv : Bytes w v b) (h : Ref.readRun b = some (F, ps)) (hl : b.length < 1099511627776) :
   Calls Tryz.prog 254 #[v] w fun e w' => ∃ g cap, e = .returned (.tuple #[runV v (.slice (some ⟨g, 0, none⟩) ps.length cap), .nilIface]) ∧
     w'.ownsRow w.heap.size 346 3 (.slice (some ⟨g, 0, none⟩) ps.length cap) ps.length (plCells (plAt F ps ps.length)) ∧ Keeps w w' (fun _ => False) := by
 unfold Ref.readRun at h
 split at h
 · rename_i hc
   obtain ⟨h4, hle⟩ := hc
   split at h
   · rename_i hh htf
     split at h
     · rename_i ps' hps
       have hFF : F = Ref.number (b.drop (b.length - 4)) := by cases h; rfl
       have hpp : ps' = ps := by cases h; rfl
       clear h
       subst hpp
       obtain ⟨M, hM⟩ : ∃ M, b.length = M + 4 := ⟨b.length - 4, by omega⟩
       rw [show b.length - 4 = M by omega] at hle htf hps hFF
       rw [← hFF] at hle htf hps
       obtain ⟨p, c, rfl, a1, a2, a3, a4⟩ := id hv
       unfold maxLen at a2
       have hp : p ≠ none := fun e => by have := a3 e; omega
       have hF4 : F < 4294967296 := by
         have := Ref.number_lt (b.drop M)
         rw [List.length_drop, hM, show M + 4 - M = 4 by omega, ← hFF] at this
         exact this
       have b1 := hv.drop M (by omega)
       have b2 := (hv.take M (by omega))
       have hM2 : (b.take M).length = M := by rw [List.length_take]; omega
       have b3 : Bytes w (.slice (if c = F then p else p.map (·.add F)) (M - F) (c - F)) ((b.take M).drop F) := by
         have := Bytes.drop (l := b.take M) (by rw [hM2]; exact b2) F (by omega)
         rwa [hM2] at this
       rw [if_neg (by omega : ¬ c = M), hM, show M + 4 - M = 4 by omega] at b1
       rw [if_neg (by omega : ¬ c = F)] at b3
       have e4 : (b.drop M).length = 4 := by rw [List.length_drop]; omega
       have et : (b.drop M).take 4 = b.drop M := List.take_of_length_le (by omega)
       rw [hM]
       rw [hM] at a1 hl
       clear a3 a4 b2 h4
       have kA := Keeps.alloc w (.cells #[.slice none 0 0, .slice none 0 0] 323) (fun _ => False)
       have hRB := heap_alloc_top w (.cells #[.slice none 0 0, .slice none 0 0] 323)
       have hnr := newReader_any _ _ _ (b1.same kA)
       have HV := hide hv
       have HRB := hide hRB
       have HFF := hide hFF
       have HB3 := hide b3
       have HNR := hide hnr
       have HHPS := hide hps
       have HTF := hide htf
       have HET := hide et
       have HM2 := hide hM2
       have HMM := hide hM
       clear hv hRB hFF b3 b1 hnr hps htf et hM2 hM
       have hcF : ¬ c = F := by omega
       have hcM : ¬ c = M := by omega
       go_enter Tryz.func254, Tryz.ntmps254
       go_wp2_with fail
       refine HNR.out.mono ?_
       rintro e w1 ⟨r, rfl, hrs, hr1, k1⟩
       go_wp2_with fail
       refine (number_ok (n := 4) hr1 (by omega) (by omega)).mono ?_
       rintro e w2 ⟨rfl, hr2, k2⟩
       rw [HET.out, ← HFF.out]
       have KA2 : Keeps w w2 (fun _ => False) := keepsNew (kA.trans k1 (fun _ _ h => h)) (by have := kA.size; omega) k2
       have h9 : (w.alloc (.cells #[.slice none 0 0, .slice none 0 0] 323)).heap.size = w.heap.size + 1 := by simp
       have hRB2 := k2.same (k1.same HRB.out id) (by omega)
       clear h9
       have htw := takeWhole_ok (HB3.out.same KA2) HTF.out (by rw [List.length_drop, HM2.out]; omega)
       have HTW := hide htw
       have HRB2 := hide hRB2
       clear htw hRB2
       go_wp2_with fail
       refine HTW.out.mono ?_
       rintro e w3 ⟨v3, rfl, hb3, k3⟩
       obtain ⟨p3, c3, rfl, _⟩ := id hb3
       go_wp2_with fail
       refine (newReader_any _ _ _ hb3).mono ?_
       rintro e w4 ⟨r4, rfl, hrs4, hr4, k4⟩
       go_wp2_with fail
       refine (readPlaces_ok hr4 HHPS.out (by omega)).mono ?_
       rintro e w5 ⟨g, cap, rfl, hown, k5⟩
       have K3 : Keeps w2 w4 (fun _ => False) := k3.trans k4 (fun _ _ h => h)
       have K4 : Keeps w w4 (fun _ => False) := KA2.trans K3 (fun _ _ h => h)
       have K5 : Keeps w w5 (fun _ => False) := keepsNew K4 (by have := K4.size; have := (KA2.trans k3 (fun _ _ h => h)).size; omega) k5
       have hs2 := lt_of_heap HRB2.out
       have hRB5 := k5.same (K3.same HRB2.out id) (by have := k3.size; omega)
       have q0 := cell_of_heap (o := 0) hRB5
       have q1 := cell_of_heap (o := 1) hRB5
       have f0 := frozen_of_heap (o := 0) hRB5
       have f1 := frozen_of_heap (o := 1) hRB5
       simp at q0 q1
       have HRB5 := hide hRB5
       clear hRB5
       go_wp2
       refine bodyPost_ret (results_run rfl rfl (run_set HRB5.out)) rfl ?_
       have k6 := keeps2 w5 w.heap.size (.slice p (M + 4) c) (.slice (some ⟨g, 0, none⟩) ps'.length cap)
       have hs4 := K4.size
       refine ⟨g, cap, rfl, row_base (k6.row hown (fun j hj e => ?_)) hs4, K5.trans k6 (fun i hi e => by have e' : i = w.heap.size := e; omega)⟩
       have := (hown.lt j hj).1
       have := K3.size
       have e' : j = w.heap.size := e
       omega
     · cases h
   · cases h
 · cases h
def Pls (w : World) (g cap : Nat) (l : List (Nat × Nat × Str)) : Prop := l.length ≤ cap ∧ cap ≤ maxLen ∧ ∀ j u, (plCells l)[j]? = some u → w.cell? ⟨g, j, none⟩ = some u
theorem Pls.keep {w w' : World} {g cap : Nat} {l : List (Nat × Nat × Str)} {T : Nat → Prop} (h : Pls w g cap l) (k : Keeps w w' T) (hT : l ≠ [] → ¬ T g) : Pls w' g cap l :=
 ⟨h.1, h.2.1, fun j u hu => k.cell (h.2.2 j u hu) (hT (fun e => by rw [e] at hu; cases hu))⟩
theorem Pls.same {w w' : World} {g cap : Nat} {l : List (Nat × Nat × Str)} (h : Pls w g cap l) (k : Keeps w w' (fun _ => False)) : Pls w' g cap l := h.keep k (fun _ => id)
theorem pls_of_row {w : World} {base g cap n : Nat} {l : List (Nat × Nat × Str)} (hn : l.length = n) (h : w.ownsRow base 346 3 (.slice (some ⟨g, 0, none⟩) n cap) n (plCells l)) : Pls w g cap l := by
 rcases h.2 with ⟨e, _⟩ | ⟨g', cap', cur, e, _, hgg, h1, h2, _⟩
 · cases e
 · cases e
   refine ⟨by omega, h2, fun j u hu => ?_⟩
   have := h.cells (g := g) rfl j u hu
   rwa [add_at, Nat.zero_add] at this
theorem Pls.at {w : World} {g cap : Nat} {l : List (Nat × Nat × Str)} (h : Pls w g cap l) {k : Nat} (hk : k < l.length) : w.cell? ⟨g, k * 3, none⟩ = some (natI l[k].1) ∧ w.cell? ⟨g, k * 3 + 1, none⟩ = some (natI l[k].2.1) ∧ w.cell? ⟨g, k * 3 + 2, none⟩ = some (strV l[k].2.2) :=
 ⟨h.2.2 _ _ (plCells_at hk).1, h.2.2 _ _ (plCells_at hk).2.1, h.2.2 _ _ (plCells_at hk).2.2⟩
set_option maxRecDepth 100000 in
theorem comparePlace_any (c : Nat × Nat × Str) (key : Str) (w : World) :
   Calls Tryz.prog 256 #[plV c, strV key] w fun e w' => e = .returned (.int .i64 (cmpI c.2.2 key)) ∧ Keeps w w' (fun _ => False) := by
 obtain ⟨x, y, k⟩ := c
 go_enter Tryz.func256, Tryz.ntmps256
 go_wp2_with (go_at_call 190; refine (Tryz.strings_Compare ⟨k.toArray⟩ ⟨key.toArray⟩ _).mono ?_; rintro e w' ⟨rfl, rfl⟩)
 go_ret
 exact ⟨by simp [cmpI], Keeps.alloc w _ _⟩
set_option maxHeartbeats 2000000 in
set_option maxRecDepth 100000 in
theorem searchPl_any {g cap n : Nat} (l : List (Nat × Nat × Str)) (A : Nat) (key : Str) (w : World) (hn : l.length = n) (hv : Pls w g cap l) (hA : A ≤ l.length) (hlow : ∀ j, ∀ h : j < l.length, j < A → l[j].2.2 < key) (hup : ∀ j, ∀ h : j < l.length, A ≤ j → ¬ l[j].2.2 < key) (hl : l.length < 1099511627776) :
   Calls Tryz.prog 255 #[.slice (some ⟨g, 0, none⟩) n cap, strV key, .func (.func 256) #[] #[]] w fun e w' =>
     e = .returned (.tuple #[natI A, .bool (decide ((l[A]?).map (fun p => p.2.2) = some key))]) ∧ Keeps w w' (fun _ => False) := by
 subst hn
 have HLOW := hide hlow
 have HUP := hide hup
 clear hlow hup
 go_enter Tryz.func255, Tryz.ntmps255
 go_wp2_with fail
 go_loopw [9, 10] (fun a b wr => ∃ (lo hi : Nat), a = .int .i64 lo ∧ b = .int .i64 hi ∧ lo ≤ hi ∧ hi ≤ l.length ∧ (∀ j, ∀ h : j < l.length, j < lo → l[j].2.2 < key) ∧ (∀ j, ∀ h : j < l.length, hi ≤ j → ¬ l[j].2.2 < key) ∧ Keeps w wr (fun _ => False))
   (fun a b _ => (intOf b - intOf a).toNat)
 case atStart => exact ⟨0, l.length, rfl, rfl, Nat.zero_le _, Nat.le_refl _, (fun j h h2 => by omega), (fun j h h2 => by omega), Keeps.refl _ _⟩
 case round =>
   obtain ⟨lo, hi, rfl, rfl, h1, h2, hlo, hhi, hkw⟩ := hrel
   have HLO := hide hlo
   have HHI := hide hhi
   clear hlo hhi
   rcases Nat.lt_or_ge lo hi with hlt | hge
   · have hm : (lo + hi) / 2 < l.length := by omega
     have hvr := hv.same hkw
     obtain ⟨e0, e1, e2⟩ := hvr.at hm
     have hdv : ((lo : Int) + (hi : Int)) / 2 = (((lo + hi) / 2 : Nat) : Int) := by omega
     have hmd : ((lo : Int) + (hi : Int)) % 18446744073709551616 = (lo : Int) + (hi : Int) := by omega
     generalize hM : (lo + hi) / 2 = m at hm e0 e1 e2 hdv
     have hm1 : lo ≤ m := by omega
     have hm2 : m < hi := by omega
     have hnotlt : ¬ l[m].2.2 < key → ∀ j, ∀ h : j < l.length, m ≤ j → ¬ l[j].2.2 < key := by
       intro hn j h hj hc
       refine HUP.out j h ?_ hc
       rcases Nat.lt_or_ge m A with h1 | h1
       · exact (hn (HLOW.out m hm h1)).elim
       · omega
     have hless : l[m].2.2 < key → ∀ j, ∀ h : j < l.length, j < m + 1 → l[j].2.2 < key := by
       intro hn j h hj
       refine HLOW.out j h ?_
       rcases Nat.lt_or_ge m A with h1 | h1
       · omega
       · exact (HUP.out m hm h1 hn).elim
     have HNL := hide hnotlt
     have HLS := hide hless
     clear hnotlt hless
     rcases cmpI_cases l[m].2.2 key with ⟨hc, ec⟩ | ⟨hc, ec⟩ | ⟨hc, ec⟩
     · have hl2 := HLS.out hc
       have HL2 := hide hl2
       clear hl2 hc HLS HNL
       go_wp2_with (go_at_call 256; refine (comparePlace_any l[m] key wr).mono ?_; rintro e w1 ⟨rfl, k1⟩; rw [ec])
       exact ⟨⟨m + 1, hi, by simp, by simp, by omega, by omega, HL2.out, HHI.out, hkw.trans k1 (fun _ _ h => h)⟩, by simp [intOf]; omega⟩
     · have hh2 := HNL.out (by rw [hc]; exact List.lt_irrefl _)
       have HH2 := hide hh2
       clear hh2 hc HLS HNL
       go_wp2_with (go_at_call 256; refine (comparePlace_any l[m] key wr).mono ?_; rintro e w1 ⟨rfl, k1⟩; rw [ec])
       exact ⟨⟨lo, m, by simp, by simp, by omega, by omega, HLO.out, HH2.out, hkw.trans k1 (fun _ _ h => h)⟩, by simp [intOf]; omega⟩
     · have hh2 := HNL.out (List.lt_asymm hc)
       have HH2 := hide hh2
       clear hh2 hc HLS HNL
       go_wp2_with (go_at_call 256; refine (comparePlace_any l[m] key wr).mono ?_; rintro e w1 ⟨rfl, k1⟩; rw [ec])
       exact ⟨⟨lo, m, by simp, by simp, by omega, by omega, HLO.out, HH2.out, hkw.trans k1 (fun _ _ h => h)⟩, by simp [intOf]; omega⟩
   · have eh : hi = lo := by omega
     subst eh
     have hb : A = hi := by
       rcases Nat.lt_trichotomy A hi with h5 | h5 | h5
       · exact (HUP.out A (by omega) (Nat.le_refl _) (HLO.out A (by omega) h5)).elim
       · exact h5
       · exact (HHI.out hi (by omega) (Nat.le_refl _) (HLOW.out hi (by omega) h5)).elim
     have HBB := hide hb
     clear HLO HHI hb
     rcases Nat.lt_or_ge hi l.length with hlt | hge2
     · have hvr := hv.same hkw
       obtain ⟨e0, e1, e2⟩ := hvr.at hlt
       have eg : (l[hi]?).map (fun p => p.2.2) = some l[hi].2.2 := by rw [List.getElem?_eq_getElem hlt]; rfl
       have EG := hide eg
       clear eg
       rcases cmpI_cases l[hi].2.2 key with ⟨hc, ec⟩ | ⟨hc, ec⟩ | ⟨hc, ec⟩
       all_goals
         have hne : decide (some l[hi].2.2 = some key) = (cmpI l[hi].2.2 key == 0) := by
           rw [ec]
           first
             | (have h3 : ¬ l[hi].2.2 = key := fun e => by rw [e] at hc; exact List.lt_irrefl _ hc
                simp [h3])
             | simp [hc]
         rw [ec] at hne
         have HNE := hide hne
         clear hne hc
         go_wp2_with (go_at_call 256; refine (comparePlace_any l[hi] key wr).mono ?_; rintro e w1 ⟨rfl, k1⟩; rw [ec])
         go_ret2
         refine ⟨?_, hkw.trans k1 (fun _ _ h => h)⟩
         rw [HBB.out, EG.out, HNE.out]
         rfl
     · have eg : l[hi]? = none := List.getElem?_eq_none hge2
       have EG := hide eg
       clear eg
       go_wp2
       go_ret2
       refine ⟨?_, hkw⟩
       rw [HBB.out, EG.out]
       rfl
theorem plAt_key {F : Nat} {ps : List (Nat × Str)} {n A : Nat} : ((plAt F ps n)[A]?).map (fun p => p.2.2) = (ps[A]?).map Prod.snd := by
 rcases Nat.lt_or_ge A ps.length with h | h
 · rw [List.getElem?_eq_getElem (by rw [plAt_length]; exact h), List.getElem?_eq_getElem h, plAt_get h]
   rfl
 · rw [List.getElem?_eq_none (by rw [plAt_length]; exact h), List.getElem?_eq_none h]
   rfl
set_option maxHeartbeats 1000000 in
set_option maxRecDepth 100000 in
theorem seek_any {w : World} {p : Option Addr} {m c g cap n F : Nat} {ps : List (Nat × Str)} (key : Str) (hn : ps.length = n) (h : Pls w g cap (plAt F ps n)) (hp : Ref.Parted ps key) (hl : n < 1099511627776) :
   Calls Tryz.prog 236 #[runV (.slice p m c) (.slice (some ⟨g, 0, none⟩) n cap), strV key] w fun e w' => e = .returned (natI (Ref.seekOf ps key)) ∧ Keeps w w' (fun _ => False) := by
 have kA := Keeps.alloc w (.cells #[.slice p m c, .slice (some ⟨g, 0, none⟩) n cap] 323) (fun _ => False)
 have hlen := plAt_length F ps n
 have hs := searchPl_any (g := g) (cap := cap) (n := n) (plAt F ps n) (Ref.ahead ps key) key _ (by rw [hlen, hn]) (h.same kA) (by rw [hlen]; exact Ref.ahead_le ps key) (fun j hj hA => by
     rw [hlen] at hj
     rw [plAt_get hj]
     show ps[j].2 < key
     exact Ref.ahead_lt hA (List.getElem?_eq_getElem hj)) (fun j hj hA => by
     rw [hlen] at hj
     rw [plAt_get hj]
     show ¬ ps[j].2 < key
     exact hp j _ hA (List.getElem?_eq_getElem hj)) (by rw [hlen]; omega)
 rw [plAt_key] at hs
 have hle := Ref.ahead_le ps key
 obtain ⟨R, hR⟩ : ∃ R, R = Ref.seekOf ps key := ⟨_, rfl⟩
 rw [← hR]
 unfold Ref.seekOf at hR
 generalize Ref.ahead ps key = A at hs hR hle
 by_cases hf : (ps[A]?).map Prod.snd = some key
 · rw [if_pos hf] at hR
   rw [decide_eq_true hf] at hs
   subst hR
   have HS := hide hs
   clear hs hf
   go_enter Tryz.func236, Tryz.ntmps236
   go_wp2_with fail
   refine HS.out.mono ?_
   rintro e w1 ⟨rfl, k1⟩
   go_wp2
   go_ret
   exact ⟨rfl, kA.trans k1 (fun _ _ h => h)⟩
 · rw [if_neg hf] at hR
   rw [decide_eq_false hf] at hs
   have HS := hide hs
   clear hs hf
   rcases Nat.eq_zero_or_pos A with h0 | h0
   · subst h0
     subst hR
     go_enter Tryz.func236, Tryz.ntmps236
     go_wp2_with fail
     refine HS.out.mono ?_
     rintro e w1 ⟨rfl, k1⟩
     go_wp2
     go_ret
     exact ⟨rfl, kA.trans k1 (fun _ _ h => h)⟩
   · have hRi : (A : Int) - 1 = (R : Int) := by omega
     have h0i : (0 : Int) < (A : Int) := by omega
     have HR := hide hR
     clear hR
     go_enter Tryz.func236, Tryz.ntmps236
     go_wp2_with fail
     refine HS.out.mono ?_
     rintro e w1 ⟨rfl, k1⟩
     go_wp2
     go_ret
     exact ⟨by first | rfl | simp [hRi], kA.trans k1 (fun _ _ h => h)⟩
set_option maxRecDepth 100000 in
theorem count_any {w : World} {p : Option Addr} {m c g cap n : Nat} :
   Calls Tryz.prog 237 #[runV (.slice p m c) (.slice (some ⟨g, 0, none⟩) n cap)] w fun e w' => e = .returned (natI n) ∧ Keeps w w' (fun _ => False) := by
 go_enter Tryz.func237, Tryz.ntmps237
 go_wp2
 go_ret
 exact ⟨rfl, Keeps.alloc w _ _⟩
set_option maxHeartbeats 1000000 in
set_option maxRecDepth 100000 in
theorem fits_ok {w : World} {p : Option Addr} {m c g cap n F i : Nat} {ps : List (Nat × Str)} {es : List Ref.Ch} {ev : Value} (hn : ps.length = n) (hi : i < n) (h : Pls w g cap (plAt F ps n)) (hev : Chs w ev es) (he1 : 1 ≤ es.length) (he4 : es.length ≤ 4) (hfit : Ref.fits ps i es = true) (hl : n < 1048576) :
   Calls Tryz.prog 258 #[runV (.slice p m c) (.slice (some ⟨g, 0, none⟩) n cap), natI i, ev] w fun e w' => e = .returned (.bool true) ∧ Keeps w w' (fun _ => False) := by
 have kA := Keeps.alloc w (.cells #[.slice p m c, .slice (some ⟨g, 0, none⟩) n cap] 323) (fun _ => False)
 have hTop := heap_alloc_top w (.cells #[.slice p m c, .slice (some ⟨g, 0, none⟩) n cap] 323)
 have t1 : (w.alloc (.cells #[.slice p m c, .slice (some ⟨g, 0, none⟩) n cap] 323)).cell? ⟨w.heap.size, 1, none⟩ = some (.slice (some ⟨g, 0, none⟩) n cap) := (cell_of_heap (o := 1) hTop).trans rfl
 unfold Ref.fits at hfit
 rw [Bool.and_eq_true, Bool.and_eq_true] at hfit
 obtain ⟨⟨f1, f2⟩, f3⟩ := hfit
 have f1 := of_decide_eq_true f1
 have f2 := of_decide_eq_true f2
 obtain ⟨pe, ce, rfl, _⟩ := id hev
 have hlen := plAt_length F ps n
 have h' := h.same kA
 have hev' := hev.same kA
 obtain ⟨be, oe, rfl, e0, _, _⟩ := hev'.at (k := 0) (by omega)
 have a0 := (h'.at (k := i) (by rw [hlen]; omega)).2.2
 rw [plAt_get (by omega)] at a0
 have hk0 : es[0].key = ps[i].2 := by
   have h1 : Ref.firstKey es = es[0].key := by
     cases es with
     | nil => simp at he1
     | cons x r => rfl
   have h2 : Ref.keyOf ps i = ps[i].2 := by unfold Ref.keyOf; rw [List.getElem?_eq_getElem (by omega)]; rfl
   rw [← h1, f1, h2]
 simp only at a0
 rw [← hk0] at a0
 have hlast : i + 1 = n ∨ (i + 1 < n ∧ es.length = 4 ∧ ∃ (h3 : 3 < es.length) (hii : i + 1 < ps.length), es[3].key < ps[i + 1].2) := by
   rw [Bool.or_eq_true, Bool.and_eq_true] at f3
   rcases f3 with f3 | ⟨f4, f5⟩
   · have := of_decide_eq_true f3; omega
   · have f4 := of_decide_eq_true f4
     have f5 := of_decide_eq_true f5
     rcases Nat.lt_or_ge (i + 1) n with h6 | h6
     · refine .inr ⟨h6, f4, by omega, by omega, ?_⟩
       have h1 : Ref.lastKey es = es[3].key := by
         have e3 : es.length - 1 = 3 := by omega
         unfold Ref.lastKey
         rw [List.getLast?_eq_getElem?, e3, List.getElem?_eq_getElem (by omega)]
         rfl
       have h2 : Ref.keyOf ps (i + 1) = ps[i + 1].2 := by unfold Ref.keyOf; rw [List.getElem?_eq_getElem (by omega)]; rfl
       rw [← h1, ← h2]
       exact f5
     · exact .inl (by omega)
 have HLA := hide hlast
 have HH := hide h'
 have HEV := hide hev'
 have HF2 := hide f2
 clear hlast h h' hev hev' f1 f2 f3 hk0 hTop
 have hlen0 : (0 : Int) < (es.length : Int) := by omega
 have hii : (i : Int) < (n : Int) := by omega
 simp at e0
 obtain ⟨ne, hne⟩ : ∃ ne, ne = es.length := ⟨_, rfl⟩
 rw [← hne] at hlen0 he1 he4 ⊢
 have HNE := hide hne
 clear hne
 go_enter Tryz.func258, Tryz.ntmps258
 go_wp2_with fail
 go_quiet (fail)
 go_wp2
 go_loopw [7] (fun k wr => ∃ (j : Nat), j + 1 ≤ ne ∧ k = .int .i64 ((j : Int) + 1) ∧ Keeps (w.alloc (.cells #[.slice p m c, .slice (some ⟨g, 0, none⟩) n cap] 323)) wr (fun _ => False))
   (fun k _ => ne - (intOf k).toNat)
 case atStart => exact ⟨0, by omega, rfl, by first | exact Keeps.refl _ _ | exact Keeps.drewN _ _ _⟩
 case round =>
   obtain ⟨j, hj, rfl, hkw⟩ := hrel
   rcases Nat.lt_or_ge (j + 1) ne with hlt | hge
   · have hj1 : j < es.length := by have := HNE.out; omega
     have hj2 : j + 1 < es.length := by have := HNE.out; omega
     have x1 := ((HEV.out.same hkw).at (k := j) hj1)
     have x2 := ((HEV.out.same hkw).at (k := j + 1) hj2)
     obtain ⟨b1, o1, E1, y1, _, _⟩ := x1
     obtain ⟨b2, o2, E2, y2, _, _⟩ := x2
     cases E1
     cases E2
     have hlt3 : es[j].key < es[j + 1].key := List.pairwise_iff_getElem.1 HF2.out j (j + 1) hj1 hj2 (by omega)
     have hBL : Op.bytesLess es[j + 1].key es[j].key = false := by rw [bytesLess_eq]; simpa using List.lt_asymm hlt3
     have hBE : (es[j + 1].key == es[j].key) = false := by
       rw [beq_eq_false_iff_ne]
       intro e
       rw [e] at hlt3
       exact List.lt_irrefl _ hlt3
     have hlti : (j : Int) + 1 < (ne : Int) := by omega
     clear hlt3
     generalize es[j].key = K1 at y1 hBL hBE
     generalize es[j + 1].key = K2 at y2 hBL hBE
     go_wp2_with fail
     go_quiet (fail)
     go_wp2
     exact ⟨⟨j + 1, by omega, by simp, by first | exact hkw | exact hkw.trans (Keeps.drewN _ _ (fun _ => False)) (fun _ _ h => h)⟩, by simp [intOf]; omega⟩
   · have ej : ne = j + 1 := by omega
     have t1' := hkw.cell t1 id
     have hnl : ¬ ((j : Int) + 1 < (ne : Int)) := by omega
     rcases HLA.out with hL | ⟨hL1, hL4, h3, hi1, hL5⟩
     · have hin : (i : Int) = (n : Int) - 1 := by omega
       have hin2 : ((i : Int) == (n : Int) - 1) = true := by simp [hin]
       go_wp2
       go_ret
       exact ⟨rfl, kA.trans hkw (fun _ _ h => h)⟩
     · have hin : ¬ ((i : Int) = (n : Int) - 1) := by omega
       have hin2 : ((i : Int) == (n : Int) - 1) = false := by simp [hin]
       obtain ⟨b1, o1, E1, y1, _, _⟩ := ((HEV.out.same hkw).at (k := 3) h3)
       cases E1
       have z1 := ((HH.out.same hkw).at (k := i + 1) (by rw [hlen]; omega)).2.2
       rw [plAt_get hi1] at z1
       have hBL : Op.bytesLess es[3].key ps[i + 1].2 = true := by rw [bytesLess_eq]; simpa using hL5
       simp only at z1
       have hi1i : (i : Int) + 1 < (n : Int) := by omega
       clear hL5
       generalize es[3].key = K1 at y1 hBL
       generalize ps[i + 1].2 = K2 at z1 hBL
       have hne4 : ne = 4 := by have := HNE.out; omega
       subst hne4
       have hj3 : j = 3 := by omega
       subst hj3
       clear HLA HEV HNE ej hL4
       go_wp2_with fail
       go_quiet (fail)
       go_wp2
       go_ret
       exact ⟨rfl, by first | exact kA.trans hkw (fun _ _ h => h) | exact (kA.trans hkw (fun _ _ h => h)).trans (Keeps.drewN _ _ (fun _ => False)) (fun _ _ h => h)⟩
set_option maxHeartbeats 1000000 in
set_option maxRecDepth 100000 in
theorem block_ok {E : Nat → Addr} {B : Nat} {w : World} {p : Option Addr} {c g cap n F i : Nat} {b : List UInt8} {ps : List (Nat × Str)} {es : List Ref.Ch} (S : Sent E B w) (hB : B ≤ w.heap.size) (hn : ps.length = n) (hi : i < n) (h : Pls w g cap (plAt F ps n)) (hb : Bytes w (.slice p b.length c) b)
   (hblk : Ref.blockAt b F ps i = some es) (hstop : Ref.stopOf F ps i ≤ b.length) (hl : n < 1048576) (hbl : b.length < 1099511627776) :
   Calls Tryz.prog 238 #[runV (.slice p b.length c) (.slice (some ⟨g, 0, none⟩) n cap), natI i] w fun e w' => ∃ v, e = .returned (.tuple #[v, .nilIface]) ∧ w'.ownsRow w.heap.size 88 3 v es.length (chCells es) ∧ Keeps w w' (fun _ => False) := by
 unfold Ref.blockAt at hblk
 split at hblk
 · rename_i hh htf
   split at hblk
   · rename_i es' hre
     split at hblk
     · rename_i hfit
       cases hblk
       have hm := Ref.make_of_read hre
       have hbeg : Ref.beginOf ps i = ps[i].1 := by unfold Ref.beginOf; rw [List.getElem?_eq_getElem (by omega)]; rfl
       rw [hbeg] at htf
       have h8 := Ref.takeFrame_pos htf
       rw [List.length_drop, List.length_take, Nat.min_eq_left hstop] at h8
       obtain ⟨q, hq⟩ : ∃ q, q = Ref.stopOf F ps i := ⟨_, rfl⟩
       rw [← hq] at htf h8 hstop
       have kA := Keeps.alloc w (.cells #[.slice p b.length c, .slice (some ⟨g, 0, none⟩) n cap] 323) (fun _ => False)
       have hlen := plAt_length F ps n
       obtain ⟨a0, a1, a2⟩ := (h.same kA).at (k := i) (by rw [hlen]; omega)
       rw [plAt_get (by omega), if_pos hi, ← hq] at a0 a1 a2
       simp only at a0 a1 a2
       have t1 : (w.alloc (.cells #[.slice p b.length c, .slice (some ⟨g, 0, none⟩) n cap] 323)).heap[w.heap.size]? = some (.cells #[.slice p b.length c, .slice (some ⟨g, 0, none⟩) n cap] 323 (0, 0)) := heap_alloc_top w _
       obtain ⟨p', c', ee, b1, b2, b3, b4⟩ := id hb
       cases ee
       clear b3 b4
       have hb2 : Bytes w (.slice (p.map (·.add ps[i].1)) (q - ps[i].1) (c - ps[i].1)) ((b.take q).drop ps[i].1) := by
         have hM2 : (b.take q).length = q := by rw [List.length_take]; omega
         have := Bytes.drop (l := b.take q) (by rw [hM2]; exact hb.take q hstop) ps[i].1 (by omega)
         rw [hM2, if_neg (by omega)] at this
         exact this
       have hlt2 : ((b.take q).drop ps[i].1).length < 1099511627776 := by rw [List.length_drop, List.length_take]; omega
       generalize ps[i].1 = X at a0 a1 a2 h8 htf hb2 hlt2
       generalize ps[i].2 = KX at a2
       have hne : ¬ c = X := by omega
       have htw := fun w' (k : Keeps w w' (fun _ => False)) => takeWhole_ok (hb2.same k) htf hlt2
       have HTW := hide htw
       have HT1 := hide t1
       have HFIT := hide hfit
       have HRE := hide hre
       have HM := hide hm
       have HP := hide h
       clear htw t1 hfit hre hm hbeg h hq hb2 htf hb
       unfold maxLen at b2
       have hxq : X ≤ q := by omega
       have hqc : q ≤ c := by omega
       go_enter Tryz.func238, Tryz.ntmps238
       go_wp2_with fail
       refine (HTW.out _ (kA.more _)).mono ?_
       rintro e w1 ⟨v1, rfl, hb1, k1⟩
       have K1 : Keeps w w1 (fun _ => False) := (kA.more _).trans k1 (fun _ _ h => h)
       have hR1 := k1.same ((Keeps.alloc _ _ (fun _ => False)).same HT1.out id) id
       have HR1 := hide hR1
       obtain ⟨p1, c1, rfl, _⟩ := id hb1
       clear hR1
       go_wp2_with fail
       refine (newReader_any _ _ _ hb1).mono ?_
       rintro e w2 ⟨r, rfl, hrs, hr, k2⟩
       have K2 : Keeps w w2 (fun _ => False) := K1.trans k2 (fun _ _ h => h)
       have hen := readEntries_any 4 (by omega) (S.same K2) (by have := K1.size; omega : B ≤ r) hr
       rw [HRE.out] at hen
       have HEN := hide hen
       clear hen
       go_wp2_with fail
       refine HEN.out.mono ?_
       rintro e w3 ⟨k3, hpost⟩
       rcases hpost with ⟨cs, v, ecs, rfl, hown⟩ | ⟨v, ecs, _⟩
       · have ecs' : cs = es := by injection ecs with ecs; exact ecs.symm
         subst ecs'
         clear ecs
         have hs1 := K1.size
         have K3 : Keeps w w3 (fun _ => False) := keepsNew K2 (by omega) k3
         have hR3 := k3.same (k2.same HR1.out id) (by have := lt_of_heap HR1.out; omega)
         have hch := chs_of_row hown
         obtain ⟨pe, ce, rfl⟩ := slice_of_row hown
         have hl4 := HM.out
         have hf := fits_ok (p := p) (m := b.length) (c := c) hn hi (HP.out.same K3) hch hl4.2.1 hl4.2.2.1 HFIT.out hl
         have c0 := cell_of_heap (o := 0) hR3
         have c1' := cell_of_heap (o := 1) hR3
         simp at c0 c1'
         have HF := hide hf
         have HOWN := hide hown
         clear hf hown hR3 hl4
         go_wp2_with fail
         refine HF.out.mono ?_
         rintro e w4 ⟨rfl, k4⟩
         go_wp2
         go_ret2
         exact ⟨_, rfl, row_base (k4.row HOWN.out (fun _ _ h => h)) K2.size, K3.trans k4 (fun _ _ h => h)⟩
       · cases ecs
     · cases hblk
   · cases hblk
 · cases hblk
end Go.Proofs.YtnipbplghijdmaaGreatDoor
