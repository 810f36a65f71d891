/-
  La: MergeB LayersA RunA RunB RunC RunD RunE RunF RunG RunH.
-/
import Derived.Test.YtnipbplghijdmaaGreatDoorLa25
import Derived.Test.YtnipbplghijdmaaGreatDoorLa21
import Derived.Test.YtnipbplghijdmaaGreatDoorLa20
import Derived.Test.YtnipbplghijdmaaGreatDoorLa16
import Derived.Test.YtnipbplghijdmaaGreatDoorLa14
import Derived.Test.YtnipbplghijdmaaGreatDoorLa17
import Derived.Test.YtnipbplghijdmaaGreatDoorLa01
namespace Go.Proofs.YtnipbplghijdmaaGreatDoor
open Go.RowKit Go.Maps Go.WideShapes Go.Shelf
set_option linter.unusedVariables false
attribute [local go_sem] Oper.semAt_some
open Classical in
theorem jep {α : Type} (R : Nat → α → Prop) : ∃ m : α → Nat, ∀ a, (∃ n, R n a) → R (m a) a ∧ ∀ n, R n a → m a ≤ n := by
 have H : ∀ a, (∃ n, R n a) → ∃ m, R m a ∧ ∀ n, R n a → m ≤ n := by
   rintro a ⟨n, hn⟩
   induction n using Nat.strongRecOn with
   | ind n ih =>
     rcases em (∃ k, k < n ∧ R k a) with ⟨k, hk, hr⟩ | hno
     · exact ih k hk hr
     · exact ⟨n, hn, fun k hk => Nat.le_of_not_lt (fun h => hno ⟨k, h, hk⟩)⟩
 refine ⟨fun a => if h : ∃ n, R n a then Classical.choose (H a h) else 0, fun a h => ?_⟩
 simp only [dif_pos h]
 exact Classical.choose_spec (H a h)
def Q6 (G : je × (List (List Ref.Ch) ⊕ Bool)) : List Ref.Ch := match G.2 with | .inl ls => Ref.merged ls | .inr _ => []
def Hr (G : je × (List (List Ref.Ch) ⊕ Bool)) : Option Bool := match G.2 with | .inl _ => none | .inr b => some b
structure F8 (P : je → Prop) (E : Nat → Addr) (B : Nat) (ρ : Nat → jw) (d : Nat) (S : je) (lv : Value) (fs : List Value) (sts : List Jz) (W : World) : Prop where
 dk : Dk E B W ρ d S
 small : P S
 vals : nz W lv fs
 off : fs ≠ [] → ∀ p n c, lv = .slice (some p) n c → ¬ j6 ρ p.block
 layers : ∀ (k : Nat) f st, fs[k]? = some f → sts[k]? = some st → ky P E B ρ d W f st
theorem ky.same {P : je → Prop} {E : Nat → Addr} {B : Nat} {ρ : Nat → jw} {d : Nat} {w w' : World} {f : Value} {st : Jz} (h : ky P E B ρ d w f st) (k : ja w w' (fun _ => False)) : ky P E B ρ d w' f st :=
 fun hi W S kk D Z => h hi W S ((k.mono (fun _ _ h => h.elim)).trans kk (fun _ _ h => h)) D Z
theorem F8.same {P : je → Prop} {E : Nat → Addr} {B : Nat} {ρ : Nat → jw} {d : Nat} {S : je} {lv : Value} {fs : List Value} {sts : List Jz} {W W' : World} (h : F8 P E B ρ d S lv fs sts W) (k : ja W W' (fun _ => False)) : F8 P E B ρ d S lv fs sts W' :=
 ⟨h.dk.same k, h.small, h.vals.same k, h.off, fun i f st hf hst => (h.layers i f st hf hst).same k⟩
theorem ni (ys : Array Value) (w : World) : (callFunc 123 ys).run Tryz.prog w = .ok (.enter 123 ys) w := by kernel_rfl
def Xp (l : List Ref.Source) : Nat := (l.map (fun s => s.entries.length)).sum
theorem Ph {l m : List Ref.Source} (p : l.Perm m) : Xp l = Xp m := Dp (p.map _)
theorem Ms {s : Ref.Source} {r : List Ref.Source} {c : Ref.Ch} {q : List Ref.Ch} (h : s.entries = c :: q) : Xp (Ref.taken s r) + 1 = Xp (s :: r) := by
 unfold Ref.taken Xp
 rw [h, List.tail_cons]
 split
 · rename_i e; simp [h, e]; omega
 · simp [h]; omega
theorem G8 {n : Nat} {ls : List (List Ref.Ch)} : ∀ s ∈ Ref.qw n ls, s.entries ∈ ls := by
 induction ls generalizing n with
 | nil => intro s hs; cases hs
 | cons l r ih =>
   intro s hs
   unfold Ref.qw at hs
   split at hs
   · exact List.mem_cons_of_mem _ (ih s hs)
   · rcases List.mem_cons.1 hs with rfl | hs
     · exact List.mem_cons_self
     · exact List.mem_cons_of_mem _ (ih s hs)
theorem Tg {s : Ref.Source} {r : List Ref.Source} {N A : Nat} (h : ∀ x ∈ s :: r, x.entries.length < N ∧ x.age < A) : ∀ x ∈ Ref.taken s r, x.entries.length < N ∧ x.age < A := by
 intro x hx
 unfold Ref.taken at hx
 split at hx
 · exact h x (List.mem_cons_of_mem _ hx)
 · rcases List.mem_cons.1 hx with rfl | hx
   · have := h s List.mem_cons_self
     exact ⟨by have h5 : s.entries.tail.length ≤ s.entries.length := by rw [List.length_tail]; omega
               exact Nat.lt_of_le_of_lt h5 this.1, this.2⟩
   · exact h x (List.mem_cons_of_mem _ hx)
theorem Pf (s : Ref.Source) (r : List Ref.Source) : (Ref.taken s r).length ≤ (s :: r).length := by
 unfold Ref.taken
 split <;> simp
structure Dg (ls : List (List Ref.Ch)) : Prop where
 rising : ∀ l ∈ ls, Ref.ji l
 keys : ∀ l ∈ ls, ∀ c ∈ l, c.key ≠ []
 len : ∀ l ∈ ls, l.length < 1048576
set_option maxRecDepth 100000 in
set_option maxHeartbeats 4000000 in
theorem mi {P : je → Prop} {E : Nat → Addr} {B : Nat} {ρ : Nat → jw} {d n : Nat} {S : je} (lv : Value) (fs : List Value) (sts : List Jz) (hi : Str) (hlen : fs.length = sts.length) (hl : fs.length < 524288) (hfun : ∀ f ∈ fs, ∃ g a b, f = .func g a b)
   (hgood : ∀ ls, (gathered hi sts S).2 = .inl ls → Dg ls) :
   Gives Fence.wide n Tryz.prog 123 #[.agg #[lv, jc hi]] #[] encI (j6 ρ) (fun i => i < B) (F8 P E B ρ d S lv fs sts) (jfn E (Q6 (gathered hi sts S)) (Hr (gathered hi sts S))) (jfm E B ρ d (gathered hi sts S).1 (Q6 (gathered hi sts S)) (Hr (gathered hi sts S))) (Og E B ρ d (gathered hi sts S).1) := by
 intro lp n₀ J Jx aJ hY C W hbd hC hn₀ hS hJ0
 have hCB : ∀ i, i < W.heap.size → C i → ¬ j6 ρ i ∧ B ≤ i := fun i _ hc => ⟨(hC i hc).1, Nat.le_of_not_lt (hC i hc).2⟩
 have kA := ja.alloc W (.cells #[lv, jc hi] 189) (fun _ => False)
 have hS1 := hS.same kA
 obtain ⟨p0, c0, rfl, _⟩ := id hS.vals
 have hopen := La hS1.dk hS1.small _ fs sts hi hS1.vals hS1.off hlen hl hfun hS1.layers
 obtain ⟨G, hG⟩ : ∃ G, G = gathered hi sts S := ⟨_, rfl⟩
 rw [← hG] at hopen hgood hY ⊢
 have HO := hide hopen
 have hρ := hS.dk.rep.lt
 have hBw := hS.dk.size
 have nT : ∀ i, W.heap.size ≤ i → ¬ j6 ρ i := fun i hi h => by have := hρ i h; omega
 have hlsl : ∀ ls, G.2 = .inl ls → ls.length < 524288 := fun ls h => by
   have h5 : gathered hi sts S = (G.1, .inl ls) := by rw [← hG]; exact Prod.ext rfl h
   rw [uz h5]
   omega
 clear hopen hG hS1 hS hlen
 show CallsIn Fence.wide n Tryz.prog 123 #[.agg #[.slice p0 fs.length c0, jc hi], .func (.yield lp) #[] #[]] W _
 refine callsIn_of_wp Tryz.func123 rfl trivial ?_ rfl
 simp only [Tryz.ntmps123, List.size_toArray, List.length_cons, List.length_nil, Nat.reduceAdd, Nat.reduceSub, Array.replicate_succ, Array.replicate_zero, List.push_toArray, List.append_toArray, List.nil_append, List.cons_append]
 gi_wp2_with fail
 refine ⟨trivial, fun h => (by simp [Fence.wide] at h), (callsIn_wide.2 HO.out).mono ?_⟩
 rintro e w1 ⟨k1, D1, Z1, ⟨ls, hb, v, qs, hls, rfl, hhb, Hq, Tq, Pq, hbl⟩ | ⟨bad, ev, hbad, rfl, hev⟩⟩
 all_goals
   have kW : ja W w1 (j6 ρ) := (kA.mono (fun _ _ h => h.elim)).trans k1 (fun _ _ h => h)
   have hJ1 := aJ _ _ _ _ hJ0 (cu kW (fun i _ h => .inl h))
   have hbd1 : ∀ i, C i → i < w1.heap.size := fun i h => Nat.lt_of_lt_of_le (hbd i h) kW.size
 · have hsz : W.heap.size + 1 ≤ hb := by simpa using hhb
   have G1 := hgood ls hls
   have hll := hlsl ls hls
   have eM : Q6 G = Ref.merged ls := by unfold Q6; rw [hls]
   have eE : Hr G = none := by unfold Hr; rw [hls]
   rw [eM, eE] at hY
   have HM := hide eM
   have HE := hide eE
   have T0 : Ref.Tells (yg qs) [] (Ref.merged ls) := (Ref.Pk G1.rising G1.keys).perm Pq.symm
   have F0 : Ref.Xf (yg qs) [] := (Ref.Pn G1.rising).perm Pq.symm
   have hshort : ∀ s ∈ yg qs, s.entries.length < 1048576 ∧ s.age < 4611686018427387904 := by
     intro s hs
     have h5 := Pq.mem_iff.1 hs
     have h6 := vw s h5
     exact ⟨G1.len _ (G8 s h5), by omega⟩
   have hcount : (yg qs).length < 1048576 := by
     have h5 := Pq.length_eq
     have h6 := aa 0 ls
     omega
   have hszW : (W.alloc (.cells #[.slice p0 fs.length c0, jc hi] 189)).heap.size = W.heap.size + 1 := by simp
   rw [hszW] at Hq hbl
   generalize hMM : Ref.merged ls = MM at *
   clear eM eE hMM Pq G1 hgood hls hszW
   obtain ⟨mf, hmf⟩ := jep (fun (m : Nat) (x : Value × World) => ∃ (lk : Str) (pre L : List Ref.Ch) (qs : List HS) (v : Value) (C' : Nat → Prop), x.1 = jc lk ∧ Xp (yg qs) = m ∧ MM = pre ++ L ∧ Ref.Tells (yg qs) lk L ∧ Ref.Xf (yg qs) lk ∧ xe x.2 (W.heap.size + 1) hb v qs ∧ Ref.Qd (yg qs) qs.length ∧
     J (pre.map Jd) C' x.2 ∧ (∀ i, C' i → C i ∨ W.heap.size ≤ i) ∧ (∀ i, C' i → i < x.2.heap.size) ∧ ¬ C' hb ∧ (∀ g, v.ownBlock = some g → ¬ C' g) ∧ (∀ p ∈ qs, ∀ ad n c, p.1 = .slice (some ad) n c → ¬ C' ad.block ∧ W.heap.size + 1 ≤ ad.block) ∧ ja W x.2 (fun i => C i ∨ j6 ρ i) ∧ Dk E B x.2 ρ d G.1 ∧
     (∀ s ∈ yg qs, s.entries.length < 1048576 ∧ s.age < 4611686018427387904) ∧ (yg qs).length < 1048576)
   have HMF := hide hmf
   have HY := hide hY
   clear hmf hY
   have hstart : ∃ m, ∃ (lk : Str) (pre L : List Ref.Ch) (qs : List HS) (v : Value) (C' : Nat → Prop), jc [] = jc lk ∧ Xp (yg qs) = m ∧ MM = pre ++ L ∧ Ref.Tells (yg qs) lk L ∧ Ref.Xf (yg qs) lk ∧ xe w1 (W.heap.size + 1) hb v qs ∧ Ref.Qd (yg qs) qs.length ∧
     J (pre.map Jd) C' w1 ∧ (∀ i, C' i → C i ∨ W.heap.size ≤ i) ∧ (∀ i, C' i → i < w1.heap.size) ∧ ¬ C' hb ∧ (∀ g, v.ownBlock = some g → ¬ C' g) ∧ (∀ p ∈ qs, ∀ ad n c, p.1 = .slice (some ad) n c → ¬ C' ad.block ∧ W.heap.size + 1 ≤ ad.block) ∧ ja W w1 (fun i => C i ∨ j6 ρ i) ∧ Dk E B w1 ρ d G.1 ∧
     (∀ s ∈ yg qs, s.entries.length < 1048576 ∧ s.age < 4611686018427387904) ∧ (yg qs).length < 1048576 := by
     refine ⟨_, [], [], MM, qs, v, C, rfl, rfl, rfl, T0, F0, Hq, Tq, hJ1, fun _ h => .inl h, hbd1, fun h => by have := hbd hb h; omega, fun g hg h => ?_, fun p hp ad n c e => ⟨fun h => ?_, hbl p hp ad n c e⟩, kW.mono (fun _ _ h => .inr h), D1, hshort, hcount⟩
     · have := (Hq.row.lt g hg).1
       have := hbd g h
       omega
     · have := hbl p hp ad n c e
       have := hbd _ h
       omega
   have HST := hide hstart
   clear hstart T0 F0 Hq Tq hJ1 hbd1 hbl D1 hshort hcount
   gi_wp2_with fail
   gi_loopw [6] (fun lv wr => ∃ m, ∃ (lk : Str) (pre L : List Ref.Ch) (qs : List HS) (v : Value) (C' : Nat → Prop), lv = jc lk ∧ Xp (yg qs) = m ∧ MM = pre ++ L ∧ Ref.Tells (yg qs) lk L ∧ Ref.Xf (yg qs) lk ∧ xe wr (W.heap.size + 1) hb v qs ∧ Ref.Qd (yg qs) qs.length ∧
     J (pre.map Jd) C' wr ∧ (∀ i, C' i → C i ∨ W.heap.size ≤ i) ∧ (∀ i, C' i → i < wr.heap.size) ∧ ¬ C' hb ∧ (∀ g, v.ownBlock = some g → ¬ C' g) ∧ (∀ p ∈ qs, ∀ ad n c, p.1 = .slice (some ad) n c → ¬ C' ad.block ∧ W.heap.size + 1 ≤ ad.block) ∧ ja W wr (fun i => C i ∨ j6 ρ i) ∧ Dk E B wr ρ d G.1 ∧
     (∀ s ∈ yg qs, s.entries.length < 1048576 ∧ s.age < 4611686018427387904) ∧ (yg qs).length < 1048576)
     (fun lv wr => mf (lv, wr))
   case atStart => exact HST.out
   case round =>
     obtain ⟨hR1, hmin⟩ := HMF.out (_, wr) hrel
     obtain ⟨lk, pre, L, qs, v, C', rfl, hstill, hML, Tq, Fq, Hq, Tp, hJs, hsub, hbd', hnhb, hnown, hnent, hkw, Dq, hsh, hcnt⟩ := hR1
     simp only at *
     have HMIN := hide hmin
     clear hmin hrel
     obtain ⟨a1, c1, rfl⟩ := Hq.slice
     have cb := Hq.cell
     have hql : qs.length < 1048576 := by rw [X9] at hcnt; exact hcnt
     cases qs with
     | nil =>
       have eL := Tq.nil
       have HEL := hide eL
       have HMLL := hide hML
       have HHq := hide Hq
       clear eL hML Hq
       gi_wp2_with fail
       refine ⟨trivial, fun h => (by simp [Fence.wide] at h), (callsIn_wide.2 (Ef a1 0 c1 wr (by omega))).mono ?_⟩
       rintro e w2 ⟨rfl, rfl⟩
       gi_wp2
       go_end0
       refine ⟨C', hsub, hbd', ⟨_, rfl⟩, .inl ⟨pre.map Jd, ⟨Dq, .inl ⟨HE.out, ?_⟩⟩, hJs⟩⟩
       rw [HM.out, HMLL.out, HEL.out, List.append_nil]
     | cons s0 rs =>
       obtain ⟨c, q, hce⟩ : ∃ c q, s0.2.entries = c :: q := by
         cases h5 : s0.2.entries with
         | nil => exact (Fq.some s0.2 List.mem_cons_self h5).elim
         | cons c q => exact ⟨c, q, rfl⟩
       have hsome : ∀ p ∈ s0 :: rs, p.2.entries ≠ [] := fun p hp => Fq.some p.2 (List.mem_map.2 ⟨p, hp, rfl⟩)
       have hages : ∀ p ∈ s0 :: rs, p.2.age < 4611686018427387904 := fun p hp => (hsh p.2 (List.mem_map.2 ⟨p, hp, rfl⟩)).2
       have hq5 : q.length < 1048576 := by
         have := (hsh s0.2 List.mem_cons_self).1
         rw [hce] at this
         simp at this
         omega
       have hmin5 : ∀ t ∈ s0.2 :: yg rs, s0.2.le t := Ref.Qd.top (by rw [← lq, X9]; exact Tp)
       have hnext := Tt Hq hsome Tp hce hql hq5 hages
       have HN := hide hnext
       have HHQ := hide Hq
       have HCE := hide hce
       have HML := hide hML
       have hlq2 : rs.length + 1 < 1048576 := by simpa using hql
       have hown5 : ∀ i, (i = hb ∨ (Value.slice a1 (s0 :: rs).length c1).ownBlock = some i) → W.heap.size ≤ i ∧ ¬ C' i := by
         rintro i (h | h)
         · rw [h]; exact ⟨by omega, hnhb⟩
         · exact ⟨by have := (HHQ.out.row.lt i h).1; omega, hnown i h⟩
       have HOWN := hide hown5
       clear hnext Hq hce hML hown5 hql
       simp only [List.length_cons] at cb
       gi_wp2_with fail
       refine ⟨trivial, fun h => (by simp [Fence.wide] at h), (callsIn_wide.2 (Ef a1 (rs.length + 1) c1 wr (by omega))).mono ?_⟩
       rintro e wq ⟨rfl, rfl⟩
       gi_wp2_with fail
       refine ⟨trivial, fun h => (by simp [Fence.wide] at h), (callsIn_wide.2 HN.out).mono ?_⟩
       rintro e w2 ⟨rfl, v2, qs2, P2, H2, T2, l2, k2, hbk2⟩
       obtain ⟨ck, cv, cg⟩ := c
       have ka := ja.alloc w2 (.cells #[jc ck, jc cv, .bool cg] 88) (fun _ => False)
       have kk : ja wq (w2.alloc (.cells #[jc ck, jc cv, .bool cg] 88)) (fun i => i = hb ∨ (Value.slice a1 (s0 :: rs).length c1).ownBlock = some i) := k2.trans ka (fun _ _ h => h.elim)
       have hJ2 := aJ _ _ _ _ hJs (cu kk (fun i _ h => .inr ⟨Nat.le_trans hn₀ (HOWN.out i h).1, (HOWN.out i h).2⟩))
       have D2 := Dq.apart kk (fun i _ h => ⟨nT i (HOWN.out i h).1, Nat.le_trans hBw (HOWN.out i h).1⟩)
       have hkw2 : ja W (w2.alloc (.cells #[jc ck, jc cv, .bool cg] 88)) (fun i => C i ∨ j6 ρ i) := hkw.trans kk (fun i hi h => by have := (HOWN.out i h).1; omega)
       have H2a := H2.same ka
       have Pm : (Ref.taken s0.2 (yg rs)).Perm (yg qs2) := P2.symm
       have hst2 : Xp (yg qs2) + 1 = Xp (yg (s0 :: rs)) := by
         rw [← Ph Pm, lq]
         exact Ms HCE.out
       have hsh2 : ∀ s ∈ yg qs2, s.entries.length < 1048576 ∧ s.age < 4611686018427387904 := fun s hs => Tg (by rw [← lq]; exact hsh) s (Pm.mem_iff.2 hs)
       have hcnt2 : (yg qs2).length < 1048576 := by
         rw [← Pm.length_eq]
         have := Pf s0.2 (yg rs)
         rw [← lq] at this
         omega
       have hwqs : wq.heap.size ≤ w2.heap.size := k2.size
       have hown2 : ∀ g, v2.ownBlock = some g → ¬ C' g ∧ g < (w2.alloc (.cells #[jc ck, jc cv, .bool cg] 88)).heap.size := by
         intro g hg
         refine ⟨?_, (H2a.row.lt g hg).2⟩
         rcases l2 with h | ⟨g2, h, h5⟩
         · rw [h] at hg; exact hnown g hg
         · rw [h] at hg
           cases hg
           intro hc
           have := hbd' _ hc
           omega
       have hent2 : ∀ p ∈ qs2, ∀ ad n c, p.1 = .slice (some ad) n c → ¬ C' ad.block ∧ W.heap.size + 1 ≤ ad.block ∧ ad.block < (w2.alloc (.cells #[jc ck, jc cv, .bool cg] 88)).heap.size := by
         intro p hp ad n c e
         obtain ⟨p', hp', ad', n', c', e', eb⟩ := hbk2 p hp ad n c e
         have h5 := hnent p' hp' ad' n' c' e'
         rw [eb] at h5
         refine ⟨h5.1, h5.2, ?_⟩
         have h6 := (H2a.has p hp).1
         have h7 : p.2.entries ≠ [] := by
           have h8 : p.2 ∈ Ref.taken s0.2 (yg rs) := Pm.mem_iff.2 (List.mem_map.2 ⟨p, hp, rfl⟩)
           exact (Fq.next HCE.out hmin5).2.some p.2 h8
         rw [e] at h6
         exact h6.lt h7
       have cb2 := jd w2 (.cells #[jc ck, jc cv, .bool cg] 88)
       have y0 := cell_of_heap (o := 0) cb2
       have y1 := cell_of_heap (o := 1) cb2
       have y2 := cell_of_heap (o := 2) cb2
       simp at y0 y1 y2
       have HT2 := hide T2
       have HH2 := hide H2a
       clear T2 H2a H2 cb2 hbk2
       by_cases hcl : ck = lk
       · subst hcl
         have hb5 : (ck == ck) = true := by simp
         gi_wp2
         have hnew : ∃ m, m < mf (jc ck, wq) ∧ ∃ (lk : Str) (pre L : List Ref.Ch) (qs : List HS) (v : Value) (C' : Nat → Prop), jc ck = jc lk ∧ Xp (yg qs) = m ∧ MM = pre ++ L ∧ Ref.Tells (yg qs) lk L ∧ Ref.Xf (yg qs) lk ∧ xe (w2.alloc (.cells #[jc ck, jc cv, .bool cg] 88)) (W.heap.size + 1) hb v qs ∧ Ref.Qd (yg qs) qs.length ∧
           J (pre.map Jd) C' (w2.alloc (.cells #[jc ck, jc cv, .bool cg] 88)) ∧ (∀ i, C' i → C i ∨ W.heap.size ≤ i) ∧ (∀ i, C' i → i < (w2.alloc (.cells #[jc ck, jc cv, .bool cg] 88)).heap.size) ∧ ¬ C' hb ∧ (∀ g, v.ownBlock = some g → ¬ C' g) ∧ (∀ p ∈ qs, ∀ ad n c, p.1 = .slice (some ad) n c → ¬ C' ad.block ∧ W.heap.size + 1 ≤ ad.block) ∧ ja W (w2.alloc (.cells #[jc ck, jc cv, .bool cg] 88)) (fun i => C i ∨ j6 ρ i) ∧ Dk E B (w2.alloc (.cells #[jc ck, jc cv, .bool cg] 88)) ρ d G.1 ∧
           (∀ s ∈ yg qs, s.entries.length < 1048576 ∧ s.age < 4611686018427387904) ∧ (yg qs).length < 1048576 := by
           refine ⟨_, by rw [← hstill]; omega, ck, pre, L, qs2, v2, C', rfl, rfl, HML.out, (Tq.again HCE.out rfl).perm Pm, ((Fq.next HCE.out hmin5).2).perm Pm, HH2.out, HT2.out, hJ2, hsub, fun i h => by have := hbd' i h; simp; omega, hnhb, fun g hg => (hown2 g hg).1, fun p hp ad n c e => ⟨(hent2 p hp ad n c e).1, (hent2 p hp ad n c e).2.1⟩, hkw2, D2, hsh2, hcnt2⟩
         obtain ⟨m2, hm2, hrest⟩ := hnew
         go_roundw
         case rel => exact ⟨m2, hrest⟩
         case measure => exact Nat.lt_of_le_of_lt ((HMF.out (_, _) ⟨m2, hrest⟩).2 m2 hrest) hm2
       · have hb5 : (ck == lk) = false := by simp [hcl]
         obtain ⟨hlt5, M, hLM, TM⟩ := Tq.next Fq HCE.out hmin5 hcl
         have hML2 : MM = (pre ++ [⟨ck, cv, cg⟩]) ++ M := by rw [HML.out, hLM]; simp
         have hat : MM[pre.length]? = some ⟨ck, cv, cg⟩ := by rw [HML.out, hLM]; simp
         have htk : pre.map Jd = (MM.take pre.length).map Jd := by rw [HML.out]; simp
         have hbda : ∀ i, C' i → i < (w2.alloc (.cells #[jc ck, jc cv, .bool cg] 88)).heap.size := fun i h => by have := hbd' i h; simp; omega
         obtain ⟨fn, tmps, assign, body, hy, hR⟩ := HY.out (pre.map Jd) (Jd ⟨ck, cv, cg⟩) C' _ hJ2 hbda (.inl ⟨pre.length, _, htk, hat, rfl⟩)
         dsimp only [encI, Jd] at hy
         have HR := hide hR
         have HML2 := hide hML2
         clear hR hLM hML2 hat htk
         gi_wp2
         refine ⟨fun h => by simp [Fence.wide] at h, HR.out.mono ?_⟩
         rintro e W3 ⟨C2, hs2, hb2, hk2, hor⟩
         have hsub2 : ∀ i, C2 i → C i ∨ W.heap.size ≤ i := fun i h => by
           rcases hs2 i h with h | h
           · exact hsub i h
           · have h6 := hkw2.size
             exact .inr (by omega)
         have hkw3 : ja W W3 (fun i => C i ∨ j6 ρ i) := hkw2.trans hk2 (fun i hi h => by
           rcases hsub i h with h5 | h5
           · exact .inl h5
           · omega)
         have hC5 : ∀ i, C' i → ¬ j6 ρ i ∧ B ≤ i := fun i h => by
           rcases hsub i h with h5 | h5
           · exact ⟨(hC i h5).1, Nat.le_of_not_lt (hC i h5).2⟩
           · exact ⟨nT i h5, by omega⟩
         have D3 := D2.apart hk2 (fun i _ h => hC5 i h)
         rcases hor with ⟨rfl, hJ3⟩ | ⟨rfl, hJx3⟩
         · have hnew : ∃ m, m < mf (jc lk, wq) ∧ ∃ (lk : Str) (pre L : List Ref.Ch) (qs : List HS) (v : Value) (C' : Nat → Prop), jc ck = jc lk ∧ Xp (yg qs) = m ∧ MM = pre ++ L ∧ Ref.Tells (yg qs) lk L ∧ Ref.Xf (yg qs) lk ∧ xe W3 (W.heap.size + 1) hb v qs ∧ Ref.Qd (yg qs) qs.length ∧
             J (pre.map Jd) C' W3 ∧ (∀ i, C' i → C i ∨ W.heap.size ≤ i) ∧ (∀ i, C' i → i < W3.heap.size) ∧ ¬ C' hb ∧ (∀ g, v.ownBlock = some g → ¬ C' g) ∧ (∀ p ∈ qs, ∀ ad n c, p.1 = .slice (some ad) n c → ¬ C' ad.block ∧ W.heap.size + 1 ≤ ad.block) ∧ ja W W3 (fun i => C i ∨ j6 ρ i) ∧ Dk E B W3 ρ d G.1 ∧
             (∀ s ∈ yg qs, s.entries.length < 1048576 ∧ s.age < 4611686018427387904) ∧ (yg qs).length < 1048576 := by
             have nC2 : ∀ i, ¬ C' i → i < (w2.alloc (.cells #[jc ck, jc cv, .bool cg] 88)).heap.size → ¬ C2 i := fun i h1 h2 h3 => by
               rcases hs2 i h3 with h | h
               · exact h1 h
               · omega
             refine ⟨_, by rw [← hstill]; omega, ck, pre ++ [⟨ck, cv, cg⟩], M, qs2, v2, C2, rfl, rfl, HML2.out, TM.perm Pm, ((Fq.next HCE.out hmin5).1).perm Pm, HH2.out.keep hk2 hnhb (fun g hg => (hown2 g hg).1) (fun p hp ad n c e => (hent2 p hp ad n c e).1), HT2.out, by rw [List.map_append]; exact hJ3, hsub2, hb2,
               nC2 hb hnhb (lt_of_heap HH2.out.box), fun g hg => nC2 g (hown2 g hg).1 (hown2 g hg).2, fun p hp ad n c e => ⟨nC2 _ (hent2 p hp ad n c e).1 (hent2 p hp ad n c e).2.2, (hent2 p hp ad n c e).2.1⟩, hkw3, D3, hsh2, hcnt2⟩
           obtain ⟨m2, hm2, hrest⟩ := hnew
           have HNEW := hide hrest
           have HM2 := hide hm2
           clear hrest hm2
           gi_wp2
           go_roundw
           case rel => exact ⟨m2, HNEW.out⟩
           case measure => exact Nat.lt_of_le_of_lt ((HMF.out (_, _) ⟨m2, HNEW.out⟩).2 m2 HNEW.out) HM2.out
         · gi_wp2
           refine bodyPost_ret (results_none rfl _ _ _) rfl ?_
           exact ⟨C2, hsub2, hb2, ⟨_, rfl⟩, .inr ⟨_, D3, hJx3⟩⟩
 · obtain ⟨te, ae, rfl⟩ := hev.shape
   have eM : Q6 G = [] := by unfold Q6; rw [hbad]
   have eE : Hr G = some bad := by unfold Hr; rw [hbad]
   rw [eM, eE] at hY
   have HM := hide eM
   have HE := hide eE
   clear eM eE
   obtain ⟨fn, tmps, assign, body, hy, hR⟩ := hY [] (ak, .iface te (.pointer (some ae))) C w1 hJ1 hbd1 (.inr ⟨bad, rfl, rfl, rfl, hev⟩)
   dsimp only [encI, ak] at hy
   have HR := hide hR
   have HDK := hide D1
   clear hR D1 hY
   gi_wp2
   refine ⟨fun h => by simp [Fence.wide] at h, HR.out.mono ?_⟩
   rintro e W3 ⟨C2, hs2, hb2, hk2, hor⟩
   have D3 := HDK.out.apart hk2 (fun i _ h => ⟨(hC i h).1, Nat.le_of_not_lt (hC i h).2⟩)
   have hsub : ∀ i, C2 i → C i ∨ W.heap.size ≤ i := fun i h => (hs2 i h).imp id (fun h => Nat.le_trans kW.size h)
   rcases hor with ⟨rfl, hJ3⟩ | ⟨rfl, hJx3⟩
   · gi_wp2
     refine bodyPost_ret (results_none rfl _ _ _) rfl ?_
     exact ⟨C2, hsub, hb2, ⟨_, rfl⟩, .inl ⟨_, ⟨D3, .inr ⟨bad, _, HE.out, ⟨te, ae, rfl⟩, by rw [HM.out]; rfl⟩⟩, hJ3⟩⟩
   · gi_wp2
     refine bodyPost_ret (results_none rfl _ _ _) rfl ?_
     exact ⟨C2, hsub, hb2, ⟨_, rfl⟩, .inr ⟨_, D3, hJx3⟩⟩
end Go.Proofs.YtnipbplghijdmaaGreatDoor
namespace Go.Proofs.YtnipbplghijdmaaGreatDoor
open Go.RowKit Go.Maps Go.WideShapes
set_option linter.unusedVariables false
abbrev Xz (d : Nat) (n : Nat) (key : Str) : Value := .func (.func 212) #[.agg #[.pointer (some ⟨d, 0, none⟩), jc (jq n), jc key]] #[]
set_option maxRecDepth 100000 in
theorem Vf {E : Nat → Addr} {B : Nat} {w : World} (d n : Nat) (key : Str) (hn : n ≤ 9223372036854775807) (H : Env E B w) :
   Calls Tryz.prog 175 #[.pointer (some ⟨d, 0, none⟩), j4 n, jc key] w fun e w' => e = .returned (Xz d n key) ∧ ja w w' (fun _ => False) := by
 go_enter Tryz.func175, Tryz.ntmps175
 go_wp2_with fail
 refine (ed n hn H).mono ?_
 rintro e w1 ⟨rfl, k1⟩
 go_wp2
 go_ret
 exact ⟨rfl, k1⟩
theorem Tryz.U9 : (Tryz.prog.info? 132).map (fun i => (i.zero, i.size, i.bytes)) = some (some .nilFunc, 1, 8) := by kernel_rfl
theorem jfz (d n : Nat) (key : Str) : ∀ u ∈ [Xz d n key], u.oneCell' = true := by intro u hu; simp at hu; subst hu; rfl
set_option maxHeartbeats 1000000 in
set_option maxRecDepth 100000 in
theorem Yo {E : Nat → Addr} {B : Nat} {w : World} {b : Nat} {t : TypeId} (d : Nat) (m : Ref.Man) (rv last mv : Value) (deg cl : Bool) (key : Str) (H : Env E B w)
   (hb : w.heap[b]? = some (.cells (yl (.pointer (some ⟨d, 0, none⟩)) (jf m.next) (jf m.last) (jf m.log) (jf m.base) rv last mv deg cl) t (0, 0))) (hv : J2 w rv m.runs) (hl : m.runs.length < 524288) (hs : ∀ n ∈ m.settled, n ≤ 9223372036854775807) :
   Calls Tryz.prog 124 #[.pointer (some ⟨b, 0, none⟩), jc key] w fun e w' => ∃ p c, e = .returned (.slice p m.settled.length c) ∧ w'.ownsRow w.heap.size 132 1 (.slice p m.settled.length c) m.settled.length (m.settled.map (fun n => Xz d n key)) ∧ ja w w' (fun _ => False) := by
 obtain ⟨j0, hj, hy0, hy1, hy2⟩ := info_parts Tryz.U9
 have hset := Y2 w m rv hv (by omega)
 have hsl := ym m
 have d0 := cell_of_heap (o := 0) hb
 have d1 := cell_of_heap (o := 1) hb
 have d2 := cell_of_heap (o := 2) hb
 have d3 := cell_of_heap (o := 3) hb
 have d4 := cell_of_heap (o := 4) hb
 have d5 := cell_of_heap (o := 5) hb
 simp at d0 d1 d2 d3 d4 d5
 have HB := hide hb
 generalize m.settled = l at hset hsl hs ⊢
 have HSET := hide hset
 clear hb hset
 go_enter Tryz.func124, Tryz.ntmps124
 go_wp2_with fail
 refine HSET.out.mono ?_
 rintro e w1 ⟨p1, c1, rfl, hown1, k1⟩
 have hN := Qh hown1 rfl
 go_wp2_with fail
 go_loopw [5, 14] (fun b i wr => ∃ (k : Nat) (p : Option Addr) (c : Nat), k ≤ l.length ∧ i = .int .i64 k ∧ b = .slice p k c ∧
     wr.ownsRow w1.heap.size 132 1 (.slice p k c) k ((l.take k).map (fun n => Xz d n key)) ∧ ja w1 wr (fun _ => False))
   (fun _ i _ => l.length - (intOf i).toNat)
 case atStart => exact ⟨0, none, 0, Nat.zero_le _, rfl, rfl, World.ownsRow_nil _ _ _ _, ja.refl _ _⟩
 case round =>
   obtain ⟨k, p, c, hk, rfl, rfl, hown, hkw⟩ := hrel
   rcases Nat.lt_or_ge k l.length with hlt | hge
   · obtain ⟨g, o, rfl, e0⟩ := (hN.same hkw).at hlt
     have hsk := hs l[k] (List.getElem_mem hlt)
     have kw := k1.trans hkw (fun _ _ h => h)
     have HR := H.same kw
     have d0' := cell_of_heap (o := 0) (kw.same HB.out id)
     simp at d0'
     go_wp2_with fail
     refine (Vf d l[k] key hsk HR).mono ?_
     rintro e w2 ⟨rfl, k2⟩
     have kk := hkw.trans k2 (fun _ _ h => h)
     have hown1 := k2.row hown (fun _ _ h => h)
     have hownA := hown1.alloc (.cells #[Xz d l[k] key] 132)
     have h63 : Hid (k + 1 ≤ maxLen) := by unfold Hid maxLen; omega
     have hbs : Hid ((k + 1) * 8 ≤ 140737488355328) := by unfold Hid; omega
     have hstep : (l.take (k + 1)).map (fun n => Xz d n key) = (l.take k).map (fun n => Xz d n key) ++ [Xz d l[k] key] := by
       rw [List.take_succ_eq_append_getElem hlt, List.map_append]
       rfl
     have HS := hide hstep
     clear hstep hown
     go_wp2_with (first | (at_builtin; go_must (refine jm _ rfl (.tmp 18) (.tmp 26) 134 rfl w1.heap.size 132 j0 .nilFunc 1 8 Tryz.underlying134 hj hy0 hy1 hy2 rfl Nat.zero_lt_one _ _ _ rfl hownA ⟨w2.heap.size, 0, none⟩ 1 1 [Xz d l[k] key] rfl rfl (cell_one_new _ _ _) (jfz _ _ _) h63.out hbs.out (kk.more _).size ?_); intro p3 cp3 w3 hown3 hg3 hloc3) | go_in)
     have k3 : ja w1 w3 (fun _ => False) := (kk.more _).grow hg3 (fun j e hj => by have := (hown1.lt j e).1; omega)
     rw [← HS.out] at hown3
     exact ⟨⟨k + 1, p3, cp3, by omega, by simp, rfl, hown3, k3⟩, by simp [intOf]; omega⟩
   · have ek : k = l.length := by omega
     subst ek
     rw [List.take_length] at hown
     go_wp2
     go_ret
     exact ⟨p, c, rfl, xx hown k1.size, k1.trans hkw (fun _ _ h => h)⟩
theorem jfw {P : Program} {w : World} {base : Nat} {e st : TypeId} {v : Value} {n : Nat} {xs : List Value} (hst : P.underlying st = some (.slice e)) (h : w.ownsRow base e 1 v n xs) (h1 : ∀ u ∈ xs, u.oneCell' = true) : Src P 1 st v n xs w := by
 rcases h.2 with ⟨rfl, h0⟩ | ⟨g, cap, cur, rfl, _⟩
 · have hx : xs = [] := List.eq_nil_of_length_eq_zero (by rw [h.1, h0])
   subst hx
   subst h0
   exact Src.ofNil w hst 0
 · exact Src.ofSlice w hst ⟨g, 0, none⟩ n cap _ h.1 (fun j u hu => h.cells rfl j u hu) h1
abbrev Fp (v : Value) : Value := .func (.func 158) #[v] #[]
def ja1 (d : Nat) (m : Ref.Man) (l : List Ref.Ch) (mv : Value) (key : Str) (w : World) (e : Ending) (w' : World) : Prop :=
 ∃ p c v, e = .returned (.slice p (m.settled.length + 1) c) ∧ w'.ownsRow w.heap.size 132 1 (.slice p (m.settled.length + 1) c) (m.settled.length + 1) (Fp v :: m.settled.map (fun n => Xz d n key)) ∧ Chs w' v (l.drop (Ref.below l key)) ∧
   (∀ ad n c, v = .slice (some ad) n c → ∃ ad' n' c', mv = .slice (some ad') n' c' ∧ ad'.block = ad.block) ∧ ja w w' (fun _ => False)
set_option maxHeartbeats 1000000 in
set_option maxRecDepth 100000 in
theorem uk {E : Nat → Addr} {B : Nat} {w : World} {b : Nat} {t : TypeId} (d : Nat) (m : Ref.Man) (rv last mv : Value) (l : List Ref.Ch) (deg cl : Bool) (key : Str) (H : Env E B w)
   (hb : w.heap[b]? = some (.cells (yl (.pointer (some ⟨d, 0, none⟩)) (jf m.next) (jf m.last) (jf m.log) (jf m.base) rv last mv deg cl) t (0, 0))) (hv : J2 w rv m.runs) (hl : m.runs.length < 524288) (hs : ∀ n ∈ m.settled, n ≤ 9223372036854775807)
   (hch : Chs w mv l) (hr : Ref.ji l) (hll : l.length < 1048576) :
   Calls Tryz.prog 72 #[.pointer (some ⟨b, 0, none⟩), jc key] w (ja1 d m l mv key w) := by
 obtain ⟨j0, hj, hy0, hy1, hy2⟩ := info_parts Tryz.U9
 have hsl := ym m
 have hm := Ve b 7 _ t mv l key w hb rfl hch hr hll
 have HB := hide hb
 have HM := hide hm
 clear hb hm
 go_enter Tryz.func72, Tryz.ntmps72
 go_wp2_with fail
 refine HM.out.mono ?_
 rintro e w1 ⟨v, rfl, hc1, k1, hbl⟩
 have kA : ja w (w1.alloc (.cells #[Fp v] 132)) (fun _ => False) := k1.more _
 have hset := Yo d m rv last mv deg cl key (H.same kA) (kA.same HB.out id) (hv.same kA) hl hs
 have hrow := World.ownsRow_lit (base := w.heap.size) (e := 132) (size := 1) w1 #[Fp v] 1 k1.size (by unfold maxLen; omega) rfl
 have HSET := hide hset
 have HBL := hide hbl
 clear hset hbl
 go_wp2_with fail
 refine HSET.out.mono ?_
 rintro e w2 ⟨p2, c2, rfl, hown2, k2⟩
 have kB := kA.trans k2 (fun _ _ h => h)
 have hrow2 := k2.row hrow (fun _ _ h => h)
 have hsrc := jfw (P := Tryz.prog) Tryz.underlying134 hown2 (fun u hu => by
   obtain ⟨n, _, rfl⟩ := List.mem_map.1 hu
   rfl)
 have h63 : Hid (1 + m.settled.length ≤ maxLen) := by unfold Hid maxLen; omega
 have hbs : Hid ((1 + m.settled.length) * 8 ≤ 140737488355328) := by unfold Hid; omega
 have HO := hide hown2
 clear hown2
 go_wp2_with (at_builtin; go_must (refine Q4 w2 rfl (.tmp 10) (.tmp 13) 134 134 rfl w.heap.size 132 j0 .nilFunc 1 8 Tryz.underlying134 hj hy0 hy1 hy2 rfl Nat.zero_lt_one _ 1 _ rfl hrow2 _ m.settled.length _ rfl hsrc h63.out hbs.out kB.size ?_); intro p3 cp3 w3 hown3 hg3 hloc3)
 have k3 : ja w w3 (fun _ => False) := kB.grow hg3 (fun j e hj => by have := (hrow2.lt j e).1; omega)
 have k4 : ja w1 w3 (fun _ => False) := ((ja.alloc w1 _ (fun _ => False)).trans k2 (fun _ _ h => h)).grow hg3 (fun j e hj => by injection e with e; have e' : w1.heap.size = j := e; omega)
 go_ret
 rw [show 1 + m.settled.length = m.settled.length + 1 by omega] at hown3 ⊢
 exact ⟨p3, cp3, v, rfl, hown3, hc1.same k4, HBL.out, k3⟩
abbrev plV (p : Nat × Nat × Str) : Value := .agg #[j4 p.1, j4 p.2.1, jc p.2.2]
def zm (l : List (Nat × Nat × Str)) : List Value := l.flatMap fun p => [j4 p.1, j4 p.2.1, jc p.2.2]
theorem P7 (l : List (Nat × Nat × Str)) (c : Nat × Nat × Str) : zm (l ++ [c]) = zm l ++ zm [c] := by simp [zm]
theorem jgy (l : List (Nat × Nat × Str)) : ∀ u ∈ zm l, u.oneCell' = true := by
 intro u hu
 obtain ⟨c, _, h⟩ := List.mem_flatMap.1 hu
 simp at h
 rcases h with rfl | rfl | rfl <;> rfl
theorem X3 {l : List (Nat × Nat × Str)} {k : Nat} (h : k < l.length) : (zm l)[k * 3]? = some (j4 l[k].1) ∧ (zm l)[k * 3 + 1]? = some (j4 l[k].2.1) ∧ (zm l)[k * 3 + 2]? = some (jc l[k].2.2) := by
 induction l generalizing k with
 | nil => simp at h
 | cons c r ih =>
   have e : zm (c :: r) = j4 c.1 :: j4 c.2.1 :: jc c.2.2 :: zm r := by simp [zm]
   cases k with
   | zero => rw [e]; simp
   | succ k =>
     have := ih (by simpa using h)
     rw [e, show (k + 1) * 3 = k * 3 + 1 + 1 + 1 by omega, show k * 3 + 1 + 1 + 1 + 1 = (k * 3 + 1) + 1 + 1 + 1 by omega, show k * 3 + 1 + 1 + 1 + 2 = (k * 3 + 2) + 1 + 1 + 1 by omega]
     simp only [List.getElem?_cons_succ, List.getElem_cons_succ]
     exact this
theorem jf2 {w : World} {b : Nat} {c : Nat × Nat × Str} (h : w.heap[b]? = some (.cells #[j4 c.1, j4 c.2.1, jc c.2.2] 346 (0, 0))) : (loadVar 346 ⟨b, 0, none⟩).run Tryz.prog w = .ok (plV c) w := by
 have c0 := cell_of_heap (o := 0) h
 have c1 := cell_of_heap (o := 1) h
 have c2 := cell_of_heap (o := 2) h
 simp at c0 c1 c2
 go_simp
theorem Wi {fn : Func} {t u : Tmp} (h : fn.results = #[.cell t 346, .tmp u]) {tmps : Array Value} {w : World} {b : Nat} {c : Nat × Nat × Str} (ht : tmps.getD t undef = .pointer (some ⟨b, 0, none⟩))
   (hb : w.heap[b]? = some (.cells #[j4 c.1, j4 c.2.1, jc c.2.2] 346 (0, 0))) :
   (results fn tmps).run Tryz.prog w = .ok (.tuple #[plV c, tmps.getD u undef]) w := by
 have hl := jf2 hb
 have ht' : tmps[t]?.getD undef = .pointer (some ⟨b, 0, none⟩) := by simpa using ht
 simp [results, h, ht', asAddr, hl]
theorem jd1 {w : World} {b : Nat} {x y : Nat} {k : Str} (h : w.heap[b]? = some (.cells #[j4 x, j4 y, jc k] 346 (0, 0))) :
   w.cell? ⟨b, 0, none⟩ = some (j4 x) ∧ w.cell? ⟨b, 1, none⟩ = some (j4 y) ∧ w.cell? ⟨b, 2, none⟩ = some (jc k) ∧ w.frozen? ⟨b, 0, none⟩ = false ∧ w.frozen? ⟨b, 1, none⟩ = false ∧ w.frozen? ⟨b, 2, none⟩ = false := by
 have c0 := cell_of_heap (o := 0) h
 have c1 := cell_of_heap (o := 1) h
 have c2 := cell_of_heap (o := 2) h
 simp at c0 c1 c2
 exact ⟨c0, c1, c2, frozen_of_heap h, frozen_of_heap h, frozen_of_heap h⟩
theorem jgx {w : World} {b : Nat} {x y x' y' : Nat} {k k' : Str} (h : w.heap[b]? = some (.cells #[j4 x, j4 y, jc k] 346 (0, 0))) :
   (((w.setCell ⟨b, 0, none⟩ (j4 x')).setCell ⟨b, 1, none⟩ (j4 y')).setCell ⟨b, 2, none⟩ (jc k')).heap[b]? = some (.cells #[j4 x', j4 y', jc k'] 346 (0, 0)) := by
 have h1 := jb (o := 0) h (j4 x')
 have h2 := jb (o := 1) h1 (j4 y')
 have h3 := jb (o := 2) h2 (jc k')
 simpa using h3
theorem jhi {w : World} {b : Nat} {x y : Nat} {k : Str} {t : TypeId} {fz : Nat × Nat} (h : w.heap[b]? = some (.cells #[j4 x, j4 y, jc k] t fz)) : ∀ j u, w.cell? ⟨b, j, none⟩ ≠ some (qg u) := by
 intro j x
 rw [cell_of_heap h]
 match j with
 | 0 => simp
 | 1 => simp
 | 2 => simp
 | j + 3 => rw [Array.getElem?_eq_none (by simp)]; simp
set_option maxHeartbeats 1000000 in
set_option maxRecDepth 100000 in
theorem Pv {w : World} {r : Nat} {l q : List UInt8} {F : Nat} {p : Nat × Str} (hr : Rd w r l) (ht : Ref.Z5 F l = some (p, q)) (hF : F < 1099511627776) :
   Calls Tryz.prog 274 #[.pointer (some ⟨r, 0, none⟩), j4 F] w fun e w' => e = .returned (.tuple #[plV (p.1, F, p.2), .nilIface]) ∧ Rd w' r q ∧ ja w w' (fun i => i = r) := by
 have hrl : r < w.heap.size := by obtain ⟨v, h1, _⟩ := hr; exact lt_of_heap h1
 unfold Ref.Z5 at ht
 split at ht
 · rename_i hc
   obtain ⟨h4, hle⟩ := hc
   split at ht
   · rename_i t q' htt
     cases ht
     have kA := ja.alloc w (.cells #[j4 0, j4 0, jc []] 346) (fun _ => False)
     have hRB := jd w (.cells #[j4 0, j4 0, jc []] 346)
     obtain ⟨N, hN⟩ : ∃ N, N = Ref.number (l.take 4) := ⟨_, rfl⟩
     have HRB := hide hRB
     rw [← hN] at hle ⊢
     clear hRB
     go_enter Tryz.func274, Tryz.ntmps274
     go_wp2_with fail
     refine (y8 (n := 4) (hr.same kA) h4 (by omega)).mono ?_
     rintro e w1 ⟨rfl, hr1, k1⟩
     rw [← hN]
     have HN := hide hN
     clear hN
     have hRB1 := k1.same HRB.out (by omega)
     have KA1 : ja w w1 (fun i => i = r) := (Qb kA).trans k1 (fun _ _ h => h)
     have HRB1 := hide hRB1
     clear hRB1
     go_wp2_with fail
     refine (dz hr1 htt).mono ?_
     rintro e w2 ⟨rfl, hr2, k2⟩
     have hRB2 := k2.same HRB1.out (by omega)
     have KA2 : ja w w2 (fun i => i = r) := KA1.trans k2 (fun _ _ h => h)
     obtain ⟨a0, a1, a2, f0, f1, f2⟩ := jd1 (x := 0) (y := 0) hRB2
     have no2 := jhi (x := 0) (y := 0) hRB2
     have hr3 := hr2.other (Yh w2 w.heap.size (j4 N) (j4 F) (jc t)) (show r ≠ w.heap.size by omega) no2
     have hres := jgx (x := 0) (y := 0) (x' := N) (y' := F) (k' := t) hRB2
     have HRES := hide hres
     have HR3 := hide hr3
     clear hres hr3 hRB2 no2
     go_wp2
     refine bodyPost_ret (Wi rfl rfl (c := (N, F, t)) HRES.out) rfl ?_
     exact ⟨rfl, HR3.out, KA2.trans (Yh _ _ _ _ _) (fun i hi e => by have e' : i = w.heap.size := e; omega)⟩
   · cases ht
 · cases ht
def X4 (F : Nat) (ps : List (Nat × Str)) (k : Nat) : List (Nat × Nat × Str) := ps.mapIdx fun j p => (p.1, (if j < k then Ref.Q7 F ps j else F), p.2)
theorem zy (F : Nat) (ps : List (Nat × Str)) (k : Nat) : (X4 F ps k).length = ps.length := by simp [X4]
theorem Qg {F : Nat} {ps : List (Nat × Str)} {k j : Nat} (h : j < ps.length) : (X4 F ps k)[j]'(by rw [zy]; exact h) = (ps[j].1, (if j < k then Ref.Q7 F ps j else F), ps[j].2) := by simp [X4]
theorem jb4 (F : Nat) (ps : List (Nat × Str)) : X4 F ps 0 = ps.map (fun p => (p.1, F, p.2)) := by
 apply List.ext_getElem
 · simp [X4]
 · intro i h1 h2
   simp [X4]
theorem Uf {ps : List (Nat × Nat × Str)} {k : Nat} (h : k < ps.length) (x : Nat) : zm (ps.set k (ps[k].1, x, ps[k].2.2)) = (zm ps).set (k * 3 + 1) (j4 x) := by
 induction ps generalizing k with
 | nil => simp at h
 | cons p r ih =>
   have e : ∀ (x : Nat × Nat × Str) (l : List (Nat × Nat × Str)), zm (x :: l) = j4 x.1 :: j4 x.2.1 :: jc x.2.2 :: zm l := fun x l => by simp [zm]
   cases k with
   | zero => simp [e]
   | succ k =>
     have := ih (by simpa using h : k < r.length)
     simp only [List.getElem_cons_succ, List.set_cons_succ]
     rw [e, this, e, show (k + 1) * 3 + 1 = (k * 3 + 1) + 1 + 1 + 1 by omega]
     simp [List.set_cons_succ]
theorem jb5 {F : Nat} {ps : List (Nat × Str)} {k : Nat} (h : k < ps.length) : X4 F ps (k + 1) = (X4 F ps k).set k (ps[k].1, Ref.Q7 F ps k, ps[k].2) := by
 apply List.ext_getElem
 · simp [X4]
 · intro i h1 h2
   rw [zy] at h1
   rw [Qg h1, List.getElem_set]
   by_cases e : k = i
   · subst e
     rw [if_pos rfl, if_pos (by omega)]
   · rw [if_neg e, Qg h1]
     by_cases hi : i < k
     · rw [if_pos hi, if_pos (by omega)]
     · rw [if_neg hi, if_neg (by omega)]
theorem P6 {F : Nat} {ps : List (Nat × Str)} {k : Nat} (h : k < ps.length) : zm (X4 F ps (k + 1)) = (zm (X4 F ps k)).set (k * 3 + 1) (j4 (Ref.Q7 F ps k)) := by
 rw [jb5 h]
 have hk : k < (X4 F ps k).length := by rw [zy]; exact h
 have := Uf hk (Ref.Q7 F ps k)
 rw [Qg h] at this
 exact this
theorem jcm {ps : List (Nat × Str)} (h : Ref.joined ps = true) {k : Nat} (hk : k + 1 < ps.length) : ps[k].1 ≤ ps[k + 1].1 := by
 unfold Ref.joined at h
 rw [Bool.and_eq_true] at h
 have := of_decide_eq_true h.2
 exact List.pairwise_iff_getElem.1 this k (k + 1) (by omega) hk (by omega)
theorem U4 {ps : List (Nat × Str)} (h : Ref.joined ps = true) : ∃ x r, ps = (0, x) :: r := by
 unfold Ref.joined at h
 rw [Bool.and_eq_true] at h
 have h1 := of_decide_eq_true h.1
 cases ps with
 | nil => cases h1
 | cons p r =>
   obtain ⟨a, x⟩ := p
   simp at h1
   exact ⟨x, r, by rw [h1]⟩
set_option maxHeartbeats 1000000 in
set_option maxRecDepth 100000 in
theorem jf5 {w : World} {base g cap n F : Nat} {ps : List (Nat × Str)} (hn : ps.length = n) (hj : Ref.joined ps = true) (hrow : w.ownsRow base 346 3 (.slice (some ⟨g, 0, none⟩) n cap) n (zm (X4 F ps 0))) (hl : n < 1048576) :
   Calls Tryz.prog 275 #[.slice (some ⟨g, 0, none⟩) n cap] w fun e w' => e = .returned .nilIface ∧ w'.ownsRow base 346 3 (.slice (some ⟨g, 0, none⟩) n cap) n (zm (X4 F ps n)) ∧ ja w w' (fun i => i = g) := by
 obtain ⟨x0, r0, e0⟩ := U4 hj
 have hn1 : 1 ≤ n := by rw [← hn, e0]; simp
 have c0 : w.cell? ⟨g, 0, none⟩ = some (j4 0) := by
   rw [hrow.cellAt 0 (by omega)]
   have := (X3 (l := X4 F ps 0) (k := 0) (by rw [zy]; omega)).1
   rw [Qg (by omega)] at this
   simp only [e0] at this
   simpa [e0] using this
 have hlast : X4 F ps (n - 1) = X4 F ps n := by
   apply List.ext_getElem
   · simp [X4]
   · intro i h1 h2
     rw [zy] at h1
     rw [Qg h1, Qg h1]
     by_cases hi : i < n - 1
     · rw [if_pos hi, if_pos (by omega)]
     · rw [if_neg hi, if_pos (by omega)]
       have : Ref.Q7 F ps i = F := by
         unfold Ref.Q7
         rw [List.getElem?_eq_none (by omega)]
         rfl
       rw [this]
 have HROW := hide hrow
 have HL := hide hlast
 have HJ := hide hj
 have HN := hide hn
 clear hrow hlast hj e0 hn
 have hni : (1 : Int) ≤ (n : Int) := by omega
 go_enter Tryz.func275, Tryz.ntmps275
 go_wp2
 go_loopw [15] (fun i wr => ∃ (k : Nat), k ≤ n - 1 ∧ i = .int .i64 k ∧ wr.ownsRow base 346 3 (.slice (some ⟨g, 0, none⟩) n cap) n (zm (X4 F ps k)) ∧ ja w wr (fun i => i = g))
   (fun i _ => n - 1 - (intOf i).toNat)
 case atStart => exact ⟨0, Nat.zero_le _, rfl, HROW.out, ja.refl _ _⟩
 case round =>
   obtain ⟨k, hk, rfl, hrow, hkw⟩ := hrel
   rcases Nat.lt_or_ge k (n - 1) with hlt | hge
   · have hlti : (k : Int) < (n : Int) - 1 := by omega
     have hkp : k + 1 < ps.length := by rw [HN.out]; omega
     have a1 : wr.cell? ⟨g, k * 3, none⟩ = some (j4 ps[k].1) := by
       rw [hrow.cellAt _ (by omega), (X3 (l := X4 F ps k) (k := k) (by rw [zy]; omega)).1, Qg (by omega)]
     have a2 : wr.cell? ⟨g, (k + 1) * 3, none⟩ = some (j4 ps[k + 1].1) := by
       rw [hrow.cellAt _ (by omega), (X3 (l := X4 F ps k) (k := k + 1) (by rw [zy]; omega)).1, Qg (by omega)]
     have a3 := hrow.cellAt (k * 3 + 1) (by omega)
     rw [(X3 (l := X4 F ps k) (k := k) (by rw [zy]; omega)).2.1] at a3
     have f3 := hrow.frozenAt (k * 3 + 1)
     have hle := jcm HJ.out hkp
     have hst : Ref.Q7 F ps k = ps[k + 1].1 := by
       unfold Ref.Q7
       rw [List.getElem?_eq_getElem hkp]
       rfl
     have hrow2 := Bc hrow (j := k * 3 + 1) (by omega) (j4 ps[k + 1].1)
     rw [← hst, ← P6 (by omega), hst] at hrow2
     have k2 := hkw.set (p := ⟨g, k * 3 + 1, none⟩) rfl (j4 ps[k + 1].1)
     generalize ps[k + 1].1 = X at a2 hle hrow2 k2 hst
     generalize ps[k].1 = Y at a1 hle
     have hlei : ¬ ((X : Int) < (Y : Int)) := by omega
     have HR2 := hide hrow2
     have HK2 := hide k2
     clear hrow hrow2 k2
     go_wp2
     exact ⟨⟨k + 1, by omega, by simp, HR2.out, HK2.out⟩, by simp [intOf]; omega⟩
   · have ek : k = n - 1 := by omega
     subst ek
     rw [HL.out] at hrow
     have hge2 : ¬ (((n - 1 : Nat) : Int) < (n : Int) - 1) := by omega
     go_wp2
     go_ret
     exact ⟨rfl, hrow, hkw⟩
theorem Ref.uj {F n : Nat} {l q : List UInt8} {ps : List (Nat × Str)} (h : Ref.Qa F (n + 1) l = some (ps, q)) : ∃ p r ps', Ref.Z5 F l = some (p, r) ∧ Ref.Qa F n r = some (ps', q) ∧ ps = p :: ps' := by
 unfold Ref.Qa at h
 split at h
 · cases h
 · rename_i p r e
   split at h
   · cases h
   · rename_i ps' q' e'
     cases h
     exact ⟨p, r, ps', e, e', rfl⟩
theorem Ref.Iu {F n : Nat} {l q : List UInt8} {ps : List (Nat × Str)} (h : Ref.Qa F n l = some (ps, q)) : ps.length = n := by
 induction n generalizing l ps with
 | zero => cases h; rfl
 | succ n ih =>
   obtain ⟨p, r, ps', _, h2, rfl⟩ := Ref.uj h
   simp [ih h2]
def plZ : Value := .agg #[.int .i64 0, .int .i64 0, .string ⟨#[]⟩]
theorem Tryz.jg7 : (Tryz.prog.info? 346).map (fun i => (i.zero, i.size, i.bytes)) = some (some plZ, 3, 32) := by kernel_rfl
theorem Ug (w : World) (x y : Nat) (k : Str) (t : TypeId) : ∀ j u, (zm [(x, y, k)])[j]? = some u → (w.alloc (.cells #[j4 x, j4 y, jc k] t)).cell? ((⟨w.heap.size, 0, none⟩ : Addr).add j) = some u := by
 intro j u hj
 exact Qc (jd w (.cells #[j4 x, j4 y, jc k] t)) rfl j u (by simpa [zm] using hj)
theorem Rd.rowAt {w w' : World} {r base n : Nat} {e : TypeId} {size : Nat} {q : List UInt8} {v : Value} {xs : List Value} (h : Rd w r q) (hk : ja w w' (fun i => some i = v.ownBlock)) (ho : w.ownsRow base e size v n xs) (hr : r < base) : Rd w' r q := by
 obtain ⟨u, h1, h2, h3⟩ := h
 have hne : ∀ i, i ≤ r → ¬ some i = v.ownBlock := fun i hi e => by have := (ho.lt i e.symm).1; omega
 refine ⟨u, hk.same h1 (hne r (Nat.le_refl _)), ?_, h3⟩
 rcases Classical.em (q = []) with rfl | hq
 · obtain ⟨p, c, rfl, a1, a2, a3, a4⟩ := h2
   exact ⟨p, c, rfl, a1, a2, a3, fun ad e => ⟨(a4 ad e).1, fun j u hu => by cases hu⟩⟩
 · exact h2.keep hk (fun p n c e => hne _ (Nat.le_of_lt (h3 hq p n c e).1))
set_option maxHeartbeats 1000000 in
set_option maxRecDepth 100000 in
theorem M0 {w : World} {r F : Nat} {l : List UInt8} {ps : List (Nat × Str)} (hr : Rd w r l) (h : Ref.aj F l = some ps) (hF : F < 1099511627776) :
   Calls Tryz.prog 263 #[.pointer (some ⟨r, 0, none⟩), j4 F] w fun e w' => ∃ g cap, e = .returned (.tuple #[.slice (some ⟨g, 0, none⟩) ps.length cap, .nilIface]) ∧
     w'.ownsRow w.heap.size 346 3 (.slice (some ⟨g, 0, none⟩) ps.length cap) ps.length (zm (X4 F ps ps.length)) ∧ ja w w' (fun i => i = r) := by
 have hrl : r < w.heap.size := by obtain ⟨v, h1, _⟩ := hr; exact lt_of_heap h1
 obtain ⟨j0, hj, hy0, hy1, hy2⟩ := info_parts Tryz.jg7
 unfold Ref.aj at h
 split at h
 · rename_i hc
   obtain ⟨h2, hne⟩ := hc
   split at h
   · rename_i ps' htp
     split at h
     · rename_i hjoin
       cases h
       have hlen := Ref.Iu htp
       have hN2 : Ref.number (l.take 2) < 65536 := by
         have := Ref.Yq (l.take 2)
         rw [List.length_take, Nat.min_eq_left h2] at this
         exact this
       obtain ⟨N, hN⟩ : ∃ N, N = Ref.number (l.take 2) := ⟨_, rfl⟩
       rw [← hN] at hN2 hlen htp hne
       rw [hlen]
       have HJ := hide hjoin
       have HTP := hide htp
       have HLEN := hide hlen
       clear hjoin htp hlen
       have hne0 : ((N : Int) == 0) = false := by simp; omega
       have hne1 : ¬ ((N : Int) = 0) := by omega
       go_enter Tryz.func263, Tryz.ntmps263
       go_wp2_with fail
       refine (y8 (n := 2) hr h2 (by omega)).mono ?_
       rintro e w1 ⟨rfl, hr1, k1⟩
       rw [← hN]
       have HHN := hide hN
       clear hN
       go_wp2
       go_loopw [8, 27] (fun v i wr => ∃ (k : Nat) (done todo : List (Nat × Str)) (q : List UInt8) (p : Option Addr) (c : Nat), k ≤ N ∧ ps = done ++ todo ∧ done.length = k ∧ Ref.Qa F (N - k) q = some (todo, []) ∧ i = .int .u64 k ∧ v = .slice p k c ∧
           wr.ownsRow w.heap.size 346 3 (.slice p k c) k (zm (done.map (fun p => (p.1, F, p.2)))) ∧ Rd wr r q ∧ ja w wr (fun i => i = r))
         (fun _ i _ => N - (intOf i).toNat)
       case atStart => exact ⟨0, [], ps, _, none, 0, Nat.zero_le _, rfl, rfl, HTP.out, rfl, rfl, World.ownsRow_nil _ _ _ _, hr1, k1⟩
       case round =>
         obtain ⟨k, done, todo, q, p, c, hk, hps, hdl, htake, rfl, rfl, hown, hrq, hkw⟩ := hrel
         have HPS := hide hps
         clear hps
         rcases Nat.lt_or_ge k N with hlt | hge
         · rw [show N - k = (N - (k + 1)) + 1 by omega] at htake
           obtain ⟨⟨px, pk⟩, q', todo', hT, hT2, rfl⟩ := Ref.uj htake
           have HT2 := hide hT2
           clear htake hT2
           go_wp2_with fail
           refine (Pv hrq hT hF).mono ?_
           rintro e w2 ⟨rfl, hr2, k2⟩
           have hown2 := k2.row hown (fun g hg e => by have := (hown.lt g hg).1; omega)
           have KW := Xb hkw k2
           clear hown hrq
           have hownA := (hown2.alloc (.cells #[j4 px, j4 F, jc pk] 346)).alloc (.cells #[j4 px, j4 F, jc pk] 346)
           have hsz1 : (w2.alloc (.cells #[j4 px, j4 F, jc pk] 346)).heap.size = w2.heap.size + 1 := by simp
           have hnew := Ug (w2.alloc (.cells #[j4 px, j4 F, jc pk] 346)) px F pk 346
           rw [hsz1] at hnew
           have h1 := jgy [(px, F, pk)]
           have h63 : Hid (k + 1 ≤ maxLen) := by unfold Hid maxLen; omega
           have hbs : Hid ((k + 1) * 32 ≤ 140737488355328) := by unfold Hid; omega
           have hb : w.heap.size ≤ ((w2.alloc (.cells #[j4 px, j4 F, jc pk] 346)).alloc (.cells #[j4 px, j4 F, jc pk] 346)).heap.size := by have := KW.size; simp; omega
           have hlt2 := hown2.lt
           go_wp2_with (first | (at_builtin; go_must (refine jm _ rfl (.tmp 39) (.tmp 41) 321 rfl w.heap.size 346 j0 plZ 3 32 Tryz.underlying321 hj hy0 hy1 hy2 rfl (Nat.zero_lt_succ 2) _ _ _ rfl hownA ⟨w2.heap.size + 1, 0, none⟩ 1 1 (zm [(px, F, pk)]) rfl rfl hnew h1 h63.out hbs.out hb ?_); intro p3 cp3 w3 hown3 hg3 hloc3) | go_in)
           rw [← P7] at hown3
           have k3 : ja w2 w3 (fun i => some i = (Value.slice p k c).ownBlock) := (((ja.refl w2 _).more _).more _).grow hg3 (fun j e _ => e.symm)
           have KW3 : ja w w3 (fun i => i = r) := KW.trans k3 (fun i hi e => by have := (hlt2 i e.symm).1; omega)
           have hr3 : Rd w3 r q' := hr2.rowAt k3 hown2 hrl
           have hmm : (done ++ [(px, pk)]).map (fun p => (p.1, F, p.2)) = done.map (fun p => (p.1, F, p.2)) ++ [(px, F, pk)] := by simp
           rw [← hmm] at hown3
           have hpp : ps = (done ++ [(px, pk)]) ++ todo' := by rw [HPS.out]; simp
           exact ⟨⟨k + 1, done ++ [(px, pk)], todo', q', p3, cp3, by omega, hpp, by simp [hdl], HT2.out, by simp, rfl, hown3, hr3, KW3⟩, by simp [intOf]; omega⟩
         · have ek : k = N := by omega
           subst ek
           rw [Nat.sub_self] at htake
           cases htake
           have hd : ps = done := by have := HPS.out; simpa using this
           rw [← hd, ← jb4] at hown
           have hN1 : 0 < k := by omega
           obtain ⟨g, hg⟩ : ∃ g, p = some ⟨g, 0, none⟩ := by
             rcases hown.2 with ⟨e, e0⟩ | ⟨g, _, _, e, _⟩
             · omega
             · cases e; exact ⟨g, rfl⟩
           subst hg
           have hjo := jf5 (base := w.heap.size) HLEN.out HJ.out hown (by omega)
           have HJO := hide hjo
           have hlt := hown.lt
           clear hjo hown HJ hd
           go_wp2_with fail
           refine (jao hrq).mono ?_
           rintro e w' ⟨rfl, rfl⟩
           go_wp2_with fail
           refine HJO.out.mono ?_
           rintro e w5 ⟨rfl, hown5, k5⟩
           go_wp2
           go_ret2
           exact ⟨g, c, rfl, hown5, hkw.trans k5 (fun i hi e => by have := (hlt g rfl).1; omega)⟩
     · cases h
   · cases h
 · cases h
abbrev Mv (hv pv : Value) : Value := .agg #[hv, pv]
theorem jek {w : World} {b : Nat} {hv pv : Value} (h : w.heap[b]? = some (.cells #[hv, pv] 323 (0, 0))) : (loadVar 323 ⟨b, 0, none⟩).run Tryz.prog w = .ok (Mv hv pv) w := by
 have c0 := cell_of_heap (o := 0) h
 have c1 := cell_of_heap (o := 1) h
 simp at c0 c1
 go_simp
theorem Ac {fn : Func} {t u : Tmp} (h : fn.results = #[.cell t 323, .tmp u]) {tmps : Array Value} {w : World} {b : Nat} {hv pv : Value} (ht : tmps.getD t undef = .pointer (some ⟨b, 0, none⟩))
   (hb : w.heap[b]? = some (.cells #[hv, pv] 323 (0, 0))) :
   (results fn tmps).run Tryz.prog w = .ok (.tuple #[Mv hv pv, tmps.getD u undef]) w := by
 have hl := jek hb
 have ht' : tmps[t]?.getD undef = .pointer (some ⟨b, 0, none⟩) := by simpa using ht
 simp [results, h, ht', asAddr, hl]
theorem run_set {w : World} {b : Nat} {x y x' y' : Value} (h : w.heap[b]? = some (.cells #[x, y] 323 (0, 0))) :
   ((w.setCell ⟨b, 0, none⟩ x').setCell ⟨b, 1, none⟩ y').heap[b]? = some (.cells #[x', y'] 323 (0, 0)) := by
 have h1 := jb (o := 0) h x'
 have h2 := jb (o := 1) h1 y'
 simpa using h2
theorem jac (w : World) (b : Nat) (x y : Value) : ja w ((w.setCell ⟨b, 0, none⟩ x).setCell ⟨b, 1, none⟩ y) (fun i => i = b) :=
 ((ja.refl w (fun i => i = b)).set (p := ⟨b, 0, none⟩) rfl x).set (p := ⟨b, 1, none⟩) rfl y
theorem Ref.Mo {l h q : List UInt8} (e : Ref.xh l = some (h, q)) : 8 ≤ l.length := (Ref.vo e).1
set_option maxHeartbeats 1000000 in
set_option maxRecDepth 100000 in
theorem Wn {w : World} {v : Value} {F : Nat} {b : List UInt8} {ps : List (Nat × Str)} (hv : Bytes w v b) (h : Ref.Ib b = some (F, ps)) (hl : b.length < 1099511627776) :
   Calls Tryz.prog 254 #[v] w fun e w' => ∃ g cap, e = .returned (.tuple #[Mv v (.slice (some ⟨g, 0, none⟩) ps.length cap), .nilIface]) ∧
     w'.ownsRow w.heap.size 346 3 (.slice (some ⟨g, 0, none⟩) ps.length cap) ps.length (zm (X4 F ps ps.length)) ∧ ja w w' (fun _ => False) := by
 unfold Ref.Ib at h
 split at h
 · rename_i hc
   obtain ⟨h4, hle⟩ := hc
   split at h
   · rename_i hh htf
     split at h
     · rename_i ps' hps
       have hFF : F = Ref.number (b.drop (b.length - 4)) := by cases h; rfl
       have hpp : ps' = ps := by cases h; rfl
       clear h
       subst hpp
       obtain ⟨M, hM⟩ : ∃ M, b.length = M + 4 := ⟨b.length - 4, by omega⟩
       rw [show b.length - 4 = M by omega] at hle htf hps hFF
       rw [← hFF] at hle htf hps
       obtain ⟨p, c, rfl, a1, a2, a3, a4⟩ := id hv
       unfold maxLen at a2
       have hp : p ≠ none := fun e => by have := a3 e; omega
       have hF4 : F < 4294967296 := by
         have := Ref.Yq (b.drop M)
         rw [List.length_drop, hM, show M + 4 - M = 4 by omega, ← hFF] at this
         exact this
       have b1 := hv.drop M (by omega)
       have b2 := (hv.take M (by omega))
       have hM2 : (b.take M).length = M := by rw [List.length_take]; omega
       have b3 : Bytes w (.slice (if c = F then p else p.map (·.add F)) (M - F) (c - F)) ((b.take M).drop F) := by
         have := Bytes.drop (l := b.take M) (by rw [hM2]; exact b2) F (by omega)
         rwa [hM2] at this
       rw [if_neg (by omega : ¬ c = M), hM, show M + 4 - M = 4 by omega] at b1
       rw [if_neg (by omega : ¬ c = F)] at b3
       have e4 : (b.drop M).length = 4 := by rw [List.length_drop]; omega
       have et : (b.drop M).take 4 = b.drop M := List.take_of_length_le (by omega)
       rw [hM]
       rw [hM] at a1 hl
       clear a3 a4 b2 h4
       have kA := ja.alloc w (.cells #[.slice none 0 0, .slice none 0 0] 323) (fun _ => False)
       have hRB := jd w (.cells #[.slice none 0 0, .slice none 0 0] 323)
       have hnr := Qz _ _ _ (b1.same kA)
       have HV := hide hv
       have HRB := hide hRB
       have HFF := hide hFF
       have HB3 := hide b3
       have HNR := hide hnr
       have HHPS := hide hps
       have HTF := hide htf
       have HET := hide et
       have HM2 := hide hM2
       have HMM := hide hM
       clear hv hRB hFF b3 b1 hnr hps htf et hM2 hM
       have hcF : ¬ c = F := by omega
       have hcM : ¬ c = M := by omega
       go_enter Tryz.func254, Tryz.ntmps254
       go_wp2_with fail
       refine HNR.out.mono ?_
       rintro e w1 ⟨r, rfl, hrs, hr1, k1⟩
       go_wp2_with fail
       refine (y8 (n := 4) hr1 (by omega) (by omega)).mono ?_
       rintro e w2 ⟨rfl, hr2, k2⟩
       rw [HET.out, ← HFF.out]
       have KA2 : ja w w2 (fun _ => False) := Yg (kA.trans k1 (fun _ _ h => h)) (by have := kA.size; omega) k2
       have h9 : (w.alloc (.cells #[.slice none 0 0, .slice none 0 0] 323)).heap.size = w.heap.size + 1 := by simp
       have hRB2 := k2.same (k1.same HRB.out id) (by omega)
       clear h9
       have htw := oq (HB3.out.same KA2) HTF.out (by rw [List.length_drop, HM2.out]; omega)
       have HTW := hide htw
       have HRB2 := hide hRB2
       clear htw hRB2
       go_wp2_with fail
       refine HTW.out.mono ?_
       rintro e w3 ⟨v3, rfl, hb3, k3⟩
       obtain ⟨p3, c3, rfl, _⟩ := id hb3
       go_wp2_with fail
       refine (Qz _ _ _ hb3).mono ?_
       rintro e w4 ⟨r4, rfl, hrs4, hr4, k4⟩
       go_wp2_with fail
       refine (M0 hr4 HHPS.out (by omega)).mono ?_
       rintro e w5 ⟨g, cap, rfl, hown, k5⟩
       have K3 : ja w2 w4 (fun _ => False) := k3.trans k4 (fun _ _ h => h)
       have K4 : ja w w4 (fun _ => False) := KA2.trans K3 (fun _ _ h => h)
       have K5 : ja w w5 (fun _ => False) := Yg K4 (by have := K4.size; have := (KA2.trans k3 (fun _ _ h => h)).size; omega) k5
       have hs2 := lt_of_heap HRB2.out
       have hRB5 := k5.same (K3.same HRB2.out id) (by have := k3.size; omega)
       have q0 := cell_of_heap (o := 0) hRB5
       have q1 := cell_of_heap (o := 1) hRB5
       have f0 := frozen_of_heap (o := 0) hRB5
       have f1 := frozen_of_heap (o := 1) hRB5
       simp at q0 q1
       have HRB5 := hide hRB5
       clear hRB5
       go_wp2
       refine bodyPost_ret (Ac rfl rfl (run_set HRB5.out)) rfl ?_
       have k6 := jac w5 w.heap.size (.slice p (M + 4) c) (.slice (some ⟨g, 0, none⟩) ps'.length cap)
       have hs4 := K4.size
       refine ⟨g, cap, rfl, xx (k6.row hown (fun j hj e => ?_)) hs4, K5.trans k6 (fun i hi e => by have e' : i = w.heap.size := e; omega)⟩
       have := (hown.lt j hj).1
       have := K3.size
       have e' : j = w.heap.size := e
       omega
     · cases h
   · cases h
 · cases h
def Pls (w : World) (g cap : Nat) (l : List (Nat × Nat × Str)) : Prop := l.length ≤ cap ∧ cap ≤ maxLen ∧ ∀ j u, (zm l)[j]? = some u → w.cell? ⟨g, j, none⟩ = some u
theorem Pls.keep {w w' : World} {g cap : Nat} {l : List (Nat × Nat × Str)} {T : Nat → Prop} (h : Pls w g cap l) (k : ja w w' T) (hT : l ≠ [] → ¬ T g) : Pls w' g cap l :=
 ⟨h.1, h.2.1, fun j u hu => k.cell (h.2.2 j u hu) (hT (fun e => by rw [e] at hu; cases hu))⟩
theorem Pls.same {w w' : World} {g cap : Nat} {l : List (Nat × Nat × Str)} (h : Pls w g cap l) (k : ja w w' (fun _ => False)) : Pls w' g cap l := h.keep k (fun _ => id)
theorem Wq {w : World} {base g cap n : Nat} {l : List (Nat × Nat × Str)} (hn : l.length = n) (h : w.ownsRow base 346 3 (.slice (some ⟨g, 0, none⟩) n cap) n (zm l)) : Pls w g cap l := by
 rcases h.2 with ⟨e, _⟩ | ⟨g', cap', cur, e, _, hgg, h1, h2, _⟩
 · cases e
 · cases e
   refine ⟨by omega, h2, fun j u hu => ?_⟩
   have := h.cells (g := g) rfl j u hu
   rwa [X7, Nat.zero_add] at this
theorem Pls.at {w : World} {g cap : Nat} {l : List (Nat × Nat × Str)} (h : Pls w g cap l) {k : Nat} (hk : k < l.length) : w.cell? ⟨g, k * 3, none⟩ = some (j4 l[k].1) ∧ w.cell? ⟨g, k * 3 + 1, none⟩ = some (j4 l[k].2.1) ∧ w.cell? ⟨g, k * 3 + 2, none⟩ = some (jc l[k].2.2) :=
 ⟨h.2.2 _ _ (X3 hk).1, h.2.2 _ _ (X3 hk).2.1, h.2.2 _ _ (X3 hk).2.2⟩
set_option maxRecDepth 100000 in
theorem Xj (c : Nat × Nat × Str) (key : Str) (w : World) :
   Calls Tryz.prog 256 #[plV c, jc key] w fun e w' => e = .returned (.int .i64 (Fz c.2.2 key)) ∧ ja w w' (fun _ => False) := by
 obtain ⟨x, y, k⟩ := c
 go_enter Tryz.func256, Tryz.ntmps256
 go_wp2_with (go_at_call 190; refine (Tryz.strings_Compare ⟨k.toArray⟩ ⟨key.toArray⟩ _).mono ?_; rintro e w' ⟨rfl, rfl⟩)
 go_ret
 exact ⟨by simp [Fz], ja.alloc w _ _⟩
set_option maxHeartbeats 2000000 in
set_option maxRecDepth 100000 in
theorem Ps {g cap n : Nat} (l : List (Nat × Nat × Str)) (A : Nat) (key : Str) (w : World) (hn : l.length = n) (hv : Pls w g cap l) (hA : A ≤ l.length) (hlow : ∀ j, ∀ h : j < l.length, j < A → l[j].2.2 < key) (hup : ∀ j, ∀ h : j < l.length, A ≤ j → ¬ l[j].2.2 < key) (hl : l.length < 1099511627776) :
   Calls Tryz.prog 255 #[.slice (some ⟨g, 0, none⟩) n cap, jc key, .func (.func 256) #[] #[]] w fun e w' =>
     e = .returned (.tuple #[j4 A, .bool (decide ((l[A]?).map (fun p => p.2.2) = some key))]) ∧ ja w w' (fun _ => False) := by
 subst hn
 have HLOW := hide hlow
 have HUP := hide hup
 clear hlow hup
 go_enter Tryz.func255, Tryz.ntmps255
 go_wp2_with fail
 go_loopw [9, 10] (fun a b wr => ∃ (lo hi : Nat), a = .int .i64 lo ∧ b = .int .i64 hi ∧ lo ≤ hi ∧ hi ≤ l.length ∧ (∀ j, ∀ h : j < l.length, j < lo → l[j].2.2 < key) ∧ (∀ j, ∀ h : j < l.length, hi ≤ j → ¬ l[j].2.2 < key) ∧ ja w wr (fun _ => False))
   (fun a b _ => (intOf b - intOf a).toNat)
 case atStart => exact ⟨0, l.length, rfl, rfl, Nat.zero_le _, Nat.le_refl _, (fun j h h2 => by omega), (fun j h h2 => by omega), ja.refl _ _⟩
 case round =>
   obtain ⟨lo, hi, rfl, rfl, h1, h2, hlo, hhi, hkw⟩ := hrel
   have HLO := hide hlo
   have HHI := hide hhi
   clear hlo hhi
   rcases Nat.lt_or_ge lo hi with hlt | hge
   · have hm : (lo + hi) / 2 < l.length := by omega
     have hvr := hv.same hkw
     obtain ⟨e0, e1, e2⟩ := hvr.at hm
     have hdv : ((lo : Int) + (hi : Int)) / 2 = (((lo + hi) / 2 : Nat) : Int) := by omega
     have hmd : ((lo : Int) + (hi : Int)) % 18446744073709551616 = (lo : Int) + (hi : Int) := by omega
     generalize hM : (lo + hi) / 2 = m at hm e0 e1 e2 hdv
     have hm1 : lo ≤ m := by omega
     have hm2 : m < hi := by omega
     have hnotlt : ¬ l[m].2.2 < key → ∀ j, ∀ h : j < l.length, m ≤ j → ¬ l[j].2.2 < key := by
       intro hn j h hj hc
       refine HUP.out j h ?_ hc
       rcases Nat.lt_or_ge m A with h1 | h1
       · exact (hn (HLOW.out m hm h1)).elim
       · omega
     have hless : l[m].2.2 < key → ∀ j, ∀ h : j < l.length, j < m + 1 → l[j].2.2 < key := by
       intro hn j h hj
       refine HLOW.out j h ?_
       rcases Nat.lt_or_ge m A with h1 | h1
       · omega
       · exact (HUP.out m hm h1 hn).elim
     have HNL := hide hnotlt
     have HLS := hide hless
     clear hnotlt hless
     rcases bz l[m].2.2 key with ⟨hc, ec⟩ | ⟨hc, ec⟩ | ⟨hc, ec⟩
     · have hl2 := HLS.out hc
       have HL2 := hide hl2
       clear hl2 hc HLS HNL
       go_wp2_with (go_at_call 256; refine (Xj l[m] key wr).mono ?_; rintro e w1 ⟨rfl, k1⟩; rw [ec])
       exact ⟨⟨m + 1, hi, by simp, by simp, by omega, by omega, HL2.out, HHI.out, hkw.trans k1 (fun _ _ h => h)⟩, by simp [intOf]; omega⟩
     · have hh2 := HNL.out (by rw [hc]; exact List.lt_irrefl _)
       have HH2 := hide hh2
       clear hh2 hc HLS HNL
       go_wp2_with (go_at_call 256; refine (Xj l[m] key wr).mono ?_; rintro e w1 ⟨rfl, k1⟩; rw [ec])
       exact ⟨⟨lo, m, by simp, by simp, by omega, by omega, HLO.out, HH2.out, hkw.trans k1 (fun _ _ h => h)⟩, by simp [intOf]; omega⟩
     · have hh2 := HNL.out (List.lt_asymm hc)
       have HH2 := hide hh2
       clear hh2 hc HLS HNL
       go_wp2_with (go_at_call 256; refine (Xj l[m] key wr).mono ?_; rintro e w1 ⟨rfl, k1⟩; rw [ec])
       exact ⟨⟨lo, m, by simp, by simp, by omega, by omega, HLO.out, HH2.out, hkw.trans k1 (fun _ _ h => h)⟩, by simp [intOf]; omega⟩
   · have eh : hi = lo := by omega
     subst eh
     have hb : A = hi := by
       rcases Nat.lt_trichotomy A hi with h5 | h5 | h5
       · exact (HUP.out A (by omega) (Nat.le_refl _) (HLO.out A (by omega) h5)).elim
       · exact h5
       · exact (HHI.out hi (by omega) (Nat.le_refl _) (HLOW.out hi (by omega) h5)).elim
     have HBB := hide hb
     clear HLO HHI hb
     rcases Nat.lt_or_ge hi l.length with hlt | hge2
     · have hvr := hv.same hkw
       obtain ⟨e0, e1, e2⟩ := hvr.at hlt
       have eg : (l[hi]?).map (fun p => p.2.2) = some l[hi].2.2 := by rw [List.getElem?_eq_getElem hlt]; rfl
       have EG := hide eg
       clear eg
       rcases bz l[hi].2.2 key with ⟨hc, ec⟩ | ⟨hc, ec⟩ | ⟨hc, ec⟩
       all_goals
         have hne : decide (some l[hi].2.2 = some key) = (Fz l[hi].2.2 key == 0) := by
           rw [ec]
           first
             | (have h3 : ¬ l[hi].2.2 = key := fun e => by rw [e] at hc; exact List.lt_irrefl _ hc
                simp [h3])
             | simp [hc]
         rw [ec] at hne
         have HNE := hide hne
         clear hne hc
         go_wp2_with (go_at_call 256; refine (Xj l[hi] key wr).mono ?_; rintro e w1 ⟨rfl, k1⟩; rw [ec])
         go_ret2
         refine ⟨?_, hkw.trans k1 (fun _ _ h => h)⟩
         rw [HBB.out, EG.out, HNE.out]
         rfl
     · have eg : l[hi]? = none := List.getElem?_eq_none hge2
       have EG := hide eg
       clear eg
       go_wp2
       go_ret2
       refine ⟨?_, hkw⟩
       rw [HBB.out, EG.out]
       rfl
theorem jd2 {F : Nat} {ps : List (Nat × Str)} {n A : Nat} : ((X4 F ps n)[A]?).map (fun p => p.2.2) = (ps[A]?).map Prod.snd := by
 rcases Nat.lt_or_ge A ps.length with h | h
 · rw [List.getElem?_eq_getElem (by rw [zy]; exact h), List.getElem?_eq_getElem h, Qg h]
   rfl
 · rw [List.getElem?_eq_none (by rw [zy]; exact h), List.getElem?_eq_none h]
   rfl
set_option maxHeartbeats 1000000 in
set_option maxRecDepth 100000 in
theorem jdm {w : World} {p : Option Addr} {m c g cap n F : Nat} {ps : List (Nat × Str)} (key : Str) (hn : ps.length = n) (h : Pls w g cap (X4 F ps n)) (hp : Ref.jff ps key) (hl : n < 1099511627776) :
   Calls Tryz.prog 236 #[Mv (.slice p m c) (.slice (some ⟨g, 0, none⟩) n cap), jc key] w fun e w' => e = .returned (j4 (Ref.gy ps key)) ∧ ja w w' (fun _ => False) := by
 have kA := ja.alloc w (.cells #[.slice p m c, .slice (some ⟨g, 0, none⟩) n cap] 323) (fun _ => False)
 have hlen := zy F ps n
 have hs := Ps (g := g) (cap := cap) (n := n) (X4 F ps n) (Ref.ahead ps key) key _ (by rw [hlen, hn]) (h.same kA) (by rw [hlen]; exact Ref.Ev ps key) (fun j hj hA => by
     rw [hlen] at hj
     rw [Qg hj]
     show ps[j].2 < key
     exact Ref.Vx hA (List.getElem?_eq_getElem hj)) (fun j hj hA => by
     rw [hlen] at hj
     rw [Qg hj]
     show ¬ ps[j].2 < key
     exact hp j _ hA (List.getElem?_eq_getElem hj)) (by rw [hlen]; omega)
 rw [jd2] at hs
 have hle := Ref.Ev ps key
 obtain ⟨R, hR⟩ : ∃ R, R = Ref.gy ps key := ⟨_, rfl⟩
 rw [← hR]
 unfold Ref.gy at hR
 generalize Ref.ahead ps key = A at hs hR hle
 by_cases hf : (ps[A]?).map Prod.snd = some key
 · rw [if_pos hf] at hR
   rw [decide_eq_true hf] at hs
   subst hR
   have HS := hide hs
   clear hs hf
   go_enter Tryz.func236, Tryz.ntmps236
   go_wp2_with fail
   refine HS.out.mono ?_
   rintro e w1 ⟨rfl, k1⟩
   go_wp2
   go_ret
   exact ⟨rfl, kA.trans k1 (fun _ _ h => h)⟩
 · rw [if_neg hf] at hR
   rw [decide_eq_false hf] at hs
   have HS := hide hs
   clear hs hf
   rcases Nat.eq_zero_or_pos A with h0 | h0
   · subst h0
     subst hR
     go_enter Tryz.func236, Tryz.ntmps236
     go_wp2_with fail
     refine HS.out.mono ?_
     rintro e w1 ⟨rfl, k1⟩
     go_wp2
     go_ret
     exact ⟨rfl, kA.trans k1 (fun _ _ h => h)⟩
   · have hRi : (A : Int) - 1 = (R : Int) := by omega
     have h0i : (0 : Int) < (A : Int) := by omega
     have HR := hide hR
     clear hR
     go_enter Tryz.func236, Tryz.ntmps236
     go_wp2_with fail
     refine HS.out.mono ?_
     rintro e w1 ⟨rfl, k1⟩
     go_wp2
     go_ret
     exact ⟨by first | rfl | simp [hRi], kA.trans k1 (fun _ _ h => h)⟩
set_option maxRecDepth 100000 in
theorem jcx {w : World} {p : Option Addr} {m c g cap n : Nat} :
   Calls Tryz.prog 237 #[Mv (.slice p m c) (.slice (some ⟨g, 0, none⟩) n cap)] w fun e w' => e = .returned (j4 n) ∧ ja w w' (fun _ => False) := by
 go_enter Tryz.func237, Tryz.ntmps237
 go_wp2
 go_ret
 exact ⟨rfl, ja.alloc w _ _⟩
set_option maxHeartbeats 1000000 in
set_option maxRecDepth 100000 in
theorem jga {w : World} {p : Option Addr} {m c g cap n F i : Nat} {ps : List (Nat × Str)} {es : List Ref.Ch} {ev : Value} (hn : ps.length = n) (hi : i < n) (h : Pls w g cap (X4 F ps n)) (hev : Chs w ev es) (he1 : 1 ≤ es.length) (he4 : es.length ≤ 4) (hfit : Ref.fits ps i es = true) (hl : n < 1048576) :
   Calls Tryz.prog 258 #[Mv (.slice p m c) (.slice (some ⟨g, 0, none⟩) n cap), j4 i, ev] w fun e w' => e = .returned (.bool true) ∧ ja w w' (fun _ => False) := by
 have kA := ja.alloc w (.cells #[.slice p m c, .slice (some ⟨g, 0, none⟩) n cap] 323) (fun _ => False)
 have hTop := jd w (.cells #[.slice p m c, .slice (some ⟨g, 0, none⟩) n cap] 323)
 have t1 : (w.alloc (.cells #[.slice p m c, .slice (some ⟨g, 0, none⟩) n cap] 323)).cell? ⟨w.heap.size, 1, none⟩ = some (.slice (some ⟨g, 0, none⟩) n cap) := (cell_of_heap (o := 1) hTop).trans rfl
 unfold Ref.fits at hfit
 rw [Bool.and_eq_true, Bool.and_eq_true] at hfit
 obtain ⟨⟨f1, f2⟩, f3⟩ := hfit
 have f1 := of_decide_eq_true f1
 have f2 := of_decide_eq_true f2
 obtain ⟨pe, ce, rfl, _⟩ := id hev
 have hlen := zy F ps n
 have h' := h.same kA
 have hev' := hev.same kA
 obtain ⟨be, oe, rfl, e0, _, _⟩ := hev'.at (k := 0) (by omega)
 have a0 := (h'.at (k := i) (by rw [hlen]; omega)).2.2
 rw [Qg (by omega)] at a0
 have hk0 : es[0].key = ps[i].2 := by
   have h1 : Ref.Jv es = es[0].key := by
     cases es with
     | nil => simp at he1
     | cons x r => rfl
   have h2 : Ref.keyOf ps i = ps[i].2 := by unfold Ref.keyOf; rw [List.getElem?_eq_getElem (by omega)]; rfl
   rw [← h1, f1, h2]
 simp only at a0
 rw [← hk0] at a0
 have hlast : i + 1 = n ∨ (i + 1 < n ∧ es.length = 4 ∧ ∃ (h3 : 3 < es.length) (hii : i + 1 < ps.length), es[3].key < ps[i + 1].2) := by
   rw [Bool.or_eq_true, Bool.and_eq_true] at f3
   rcases f3 with f3 | ⟨f4, f5⟩
   · have := of_decide_eq_true f3; omega
   · have f4 := of_decide_eq_true f4
     have f5 := of_decide_eq_true f5
     rcases Nat.lt_or_ge (i + 1) n with h6 | h6
     · refine .inr ⟨h6, f4, by omega, by omega, ?_⟩
       have h1 : Ref.Eg es = es[3].key := by
         have e3 : es.length - 1 = 3 := by omega
         unfold Ref.Eg
         rw [List.getLast?_eq_getElem?, e3, List.getElem?_eq_getElem (by omega)]
         rfl
       have h2 : Ref.keyOf ps (i + 1) = ps[i + 1].2 := by unfold Ref.keyOf; rw [List.getElem?_eq_getElem (by omega)]; rfl
       rw [← h1, ← h2]
       exact f5
     · exact .inl (by omega)
 have HLA := hide hlast
 have HH := hide h'
 have HEV := hide hev'
 have HF2 := hide f2
 clear hlast h h' hev hev' f1 f2 f3 hk0 hTop
 have hlen0 : (0 : Int) < (es.length : Int) := by omega
 have hii : (i : Int) < (n : Int) := by omega
 simp at e0
 obtain ⟨ne, hne⟩ : ∃ ne, ne = es.length := ⟨_, rfl⟩
 rw [← hne] at hlen0 he1 he4 ⊢
 have HNE := hide hne
 clear hne
 go_enter Tryz.func258, Tryz.ntmps258
 go_wp2_with fail
 go_quiet (fail)
 go_wp2
 go_loopw [7] (fun k wr => ∃ (j : Nat), j + 1 ≤ ne ∧ k = .int .i64 ((j : Int) + 1) ∧ ja (w.alloc (.cells #[.slice p m c, .slice (some ⟨g, 0, none⟩) n cap] 323)) wr (fun _ => False))
   (fun k _ => ne - (intOf k).toNat)
 case atStart => exact ⟨0, by omega, rfl, by first | exact ja.refl _ _ | exact ja.drewN _ _ _⟩
 case round =>
   obtain ⟨j, hj, rfl, hkw⟩ := hrel
   rcases Nat.lt_or_ge (j + 1) ne with hlt | hge
   · have hj1 : j < es.length := by have := HNE.out; omega
     have hj2 : j + 1 < es.length := by have := HNE.out; omega
     have x1 := ((HEV.out.same hkw).at (k := j) hj1)
     have x2 := ((HEV.out.same hkw).at (k := j + 1) hj2)
     obtain ⟨b1, o1, E1, y1, _, _⟩ := x1
     obtain ⟨b2, o2, E2, y2, _, _⟩ := x2
     cases E1
     cases E2
     have hlt3 : es[j].key < es[j + 1].key := List.pairwise_iff_getElem.1 HF2.out j (j + 1) hj1 hj2 (by omega)
     have hBL : Op.bytesLess es[j + 1].key es[j].key = false := by rw [bytesLess_eq]; simpa using List.lt_asymm hlt3
     have hBE : (es[j + 1].key == es[j].key) = false := by
       rw [beq_eq_false_iff_ne]
       intro e
       rw [e] at hlt3
       exact List.lt_irrefl _ hlt3
     have hlti : (j : Int) + 1 < (ne : Int) := by omega
     clear hlt3
     generalize es[j].key = K1 at y1 hBL hBE
     generalize es[j + 1].key = K2 at y2 hBL hBE
     go_wp2_with fail
     go_quiet (fail)
     go_wp2
     exact ⟨⟨j + 1, by omega, by simp, by first | exact hkw | exact hkw.trans (ja.drewN _ _ (fun _ => False)) (fun _ _ h => h)⟩, by simp [intOf]; omega⟩
   · have ej : ne = j + 1 := by omega
     have t1' := hkw.cell t1 id
     have hnl : ¬ ((j : Int) + 1 < (ne : Int)) := by omega
     rcases HLA.out with hL | ⟨hL1, hL4, h3, hi1, hL5⟩
     · have hin : (i : Int) = (n : Int) - 1 := by omega
       have hin2 : ((i : Int) == (n : Int) - 1) = true := by simp [hin]
       go_wp2
       go_ret
       exact ⟨rfl, kA.trans hkw (fun _ _ h => h)⟩
     · have hin : ¬ ((i : Int) = (n : Int) - 1) := by omega
       have hin2 : ((i : Int) == (n : Int) - 1) = false := by simp [hin]
       obtain ⟨b1, o1, E1, y1, _, _⟩ := ((HEV.out.same hkw).at (k := 3) h3)
       cases E1
       have z1 := ((HH.out.same hkw).at (k := i + 1) (by rw [hlen]; omega)).2.2
       rw [Qg hi1] at z1
       have hBL : Op.bytesLess es[3].key ps[i + 1].2 = true := by rw [bytesLess_eq]; simpa using hL5
       simp only at z1
       have hi1i : (i : Int) + 1 < (n : Int) := by omega
       clear hL5
       generalize es[3].key = K1 at y1 hBL
       generalize ps[i + 1].2 = K2 at z1 hBL
       have hne4 : ne = 4 := by have := HNE.out; omega
       subst hne4
       have hj3 : j = 3 := by omega
       subst hj3
       clear HLA HEV HNE ej hL4
       go_wp2_with fail
       go_quiet (fail)
       go_wp2
       go_ret
       exact ⟨rfl, by first | exact kA.trans hkw (fun _ _ h => h) | exact (kA.trans hkw (fun _ _ h => h)).trans (ja.drewN _ _ (fun _ => False)) (fun _ _ h => h)⟩
set_option maxHeartbeats 1000000 in
set_option maxRecDepth 100000 in
theorem je4 {E : Nat → Addr} {B : Nat} {w : World} {p : Option Addr} {c g cap n F i : Nat} {b : List UInt8} {ps : List (Nat × Str)} {es : List Ref.Ch} (S : Q0 E B w) (hB : B ≤ w.heap.size) (hn : ps.length = n) (hi : i < n) (h : Pls w g cap (X4 F ps n)) (hb : Bytes w (.slice p b.length c) b)
   (hblk : Ref.Ie b F ps i = some es) (hstop : Ref.Q7 F ps i ≤ b.length) (hl : n < 1048576) (hbl : b.length < 1099511627776) :
   Calls Tryz.prog 238 #[Mv (.slice p b.length c) (.slice (some ⟨g, 0, none⟩) n cap), j4 i] w fun e w' => ∃ v, e = .returned (.tuple #[v, .nilIface]) ∧ w'.ownsRow w.heap.size 88 3 v es.length (jg es) ∧ ja w w' (fun _ => False) := by
 unfold Ref.Ie at hblk
 split at hblk
 · rename_i hh htf
   split at hblk
   · rename_i es' hre
     split at hblk
     · rename_i hfit
       cases hblk
       have hm := Ref.Ee hre
       have hbeg : Ref.Et ps i = ps[i].1 := by unfold Ref.Et; rw [List.getElem?_eq_getElem (by omega)]; rfl
       rw [hbeg] at htf
       have h8 := Ref.Mo htf
       rw [List.length_drop, List.length_take, Nat.min_eq_left hstop] at h8
       obtain ⟨q, hq⟩ : ∃ q, q = Ref.Q7 F ps i := ⟨_, rfl⟩
       rw [← hq] at htf h8 hstop
       have kA := ja.alloc w (.cells #[.slice p b.length c, .slice (some ⟨g, 0, none⟩) n cap] 323) (fun _ => False)
       have hlen := zy F ps n
       obtain ⟨a0, a1, a2⟩ := (h.same kA).at (k := i) (by rw [hlen]; omega)
       rw [Qg (by omega), if_pos hi, ← hq] at a0 a1 a2
       simp only at a0 a1 a2
       have t1 : (w.alloc (.cells #[.slice p b.length c, .slice (some ⟨g, 0, none⟩) n cap] 323)).heap[w.heap.size]? = some (.cells #[.slice p b.length c, .slice (some ⟨g, 0, none⟩) n cap] 323 (0, 0)) := jd w _
       obtain ⟨p', c', ee, b1, b2, b3, b4⟩ := id hb
       cases ee
       clear b3 b4
       have hb2 : Bytes w (.slice (p.map (·.add ps[i].1)) (q - ps[i].1) (c - ps[i].1)) ((b.take q).drop ps[i].1) := by
         have hM2 : (b.take q).length = q := by rw [List.length_take]; omega
         have := Bytes.drop (l := b.take q) (by rw [hM2]; exact hb.take q hstop) ps[i].1 (by omega)
         rw [hM2, if_neg (by omega)] at this
         exact this
       have hlt2 : ((b.take q).drop ps[i].1).length < 1099511627776 := by rw [List.length_drop, List.length_take]; omega
       generalize ps[i].1 = X at a0 a1 a2 h8 htf hb2 hlt2
       generalize ps[i].2 = KX at a2
       have hne : ¬ c = X := by omega
       have htw := fun w' (k : ja w w' (fun _ => False)) => oq (hb2.same k) htf hlt2
       have HTW := hide htw
       have HT1 := hide t1
       have HFIT := hide hfit
       have HRE := hide hre
       have HM := hide hm
       have HP := hide h
       clear htw t1 hfit hre hm hbeg h hq hb2 htf hb
       unfold maxLen at b2
       have hxq : X ≤ q := by omega
       have hqc : q ≤ c := by omega
       go_enter Tryz.func238, Tryz.ntmps238
       go_wp2_with fail
       refine (HTW.out _ (kA.more _)).mono ?_
       rintro e w1 ⟨v1, rfl, hb1, k1⟩
       have K1 : ja w w1 (fun _ => False) := (kA.more _).trans k1 (fun _ _ h => h)
       have hR1 := k1.same ((ja.alloc _ _ (fun _ => False)).same HT1.out id) id
       have HR1 := hide hR1
       obtain ⟨p1, c1, rfl, _⟩ := id hb1
       clear hR1
       go_wp2_with fail
       refine (Qz _ _ _ hb1).mono ?_
       rintro e w2 ⟨r, rfl, hrs, hr, k2⟩
       have K2 : ja w w2 (fun _ => False) := K1.trans k2 (fun _ _ h => h)
       have hen := uw 4 (by omega) (S.same K2) (by have := K1.size; omega : B ≤ r) hr
       rw [HRE.out] at hen
       have HEN := hide hen
       clear hen
       go_wp2_with fail
       refine HEN.out.mono ?_
       rintro e w3 ⟨k3, hpost⟩
       rcases hpost with ⟨cs, v, ecs, rfl, hown⟩ | ⟨v, ecs, _⟩
       · have ecs' : cs = es := by injection ecs with ecs; exact ecs.symm
         subst ecs'
         clear ecs
         have hs1 := K1.size
         have K3 : ja w w3 (fun _ => False) := Yg K2 (by omega) k3
         have hR3 := k3.same (k2.same HR1.out id) (by have := lt_of_heap HR1.out; omega)
         have hch := Jk hown
         obtain ⟨pe, ce, rfl⟩ := jh hown
         have hl4 := HM.out
         have hf := jga (p := p) (m := b.length) (c := c) hn hi (HP.out.same K3) hch hl4.2.1 hl4.2.2.1 HFIT.out hl
         have c0 := cell_of_heap (o := 0) hR3
         have c1' := cell_of_heap (o := 1) hR3
         simp at c0 c1'
         have HF := hide hf
         have HOWN := hide hown
         clear hf hown hR3 hl4
         go_wp2_with fail
         refine HF.out.mono ?_
         rintro e w4 ⟨rfl, k4⟩
         go_wp2
         go_ret2
         exact ⟨_, rfl, xx (k4.row HOWN.out (fun _ _ h => h)) K2.size, K3.trans k4 (fun _ _ h => h)⟩
       · cases ecs
     · cases hblk
   · cases hblk
 · cases hblk
set_option maxRecDepth 100000 in
theorem at_nil (s : ByteArray) (w : World) : Calls Tryz.prog 128 #[.string s, .nilIface] w fun e w' => e = .returned .nilIface ∧ w' = w := by
 go_enter Tryz.func128, Tryz.ntmps128
 go_wp2
 go_ret
 exact ⟨rfl, rfl⟩
def Ew (S : je) (nm : Str) (bl : List (List Ref.Ch)) : Prop := Ref.Laid bl ∧ ∃ f a, S.at nm = some f ∧ S.files f = some a ∧ a.bytes = Ref.Je bl
def A9 (w : World) (base : Nat) (rv : Value) (bl : List (List Ref.Ch)) : Prop :=
 ∃ p c g cap, rv = Mv (.slice p (Ref.Je bl).length c) (.slice (some ⟨g, 0, none⟩) bl.length cap) ∧ Bytes w (.slice p (Ref.Je bl).length c) (Ref.Je bl) ∧ Pls w g cap (X4 (bl.flatMap Ref.jr).length (Ref.jl 0 bl) bl.length) ∧ base ≤ g ∧ (∀ ad, p = some ad → base ≤ ad.block)
theorem A9.keep {w w' : World} {base : Nat} {rv : Value} {bl : List (List Ref.Ch)} {T : Nat → Prop} (h : A9 w base rv bl) (k : ja w w' T) (hT : ∀ i, base ≤ i → ¬ T i) : A9 w' base rv bl := by
 obtain ⟨p, c, g, cap, rfl, h1, h2, h3, h4⟩ := h
 exact ⟨p, c, g, cap, rfl, h1.keep k (fun ad n c e => by injection e with e; exact hT _ (h4 ad e)), h2.keep k (fun _ => hT _ h3), h3, h4⟩
def jfd (E : Nat → Addr) (B : Nat) (ρ : Nat → jw) (d : Nat) (S : je) (bl : List (List Ref.Ch)) (w : World) (e : Ending) (w' : World) : Prop :=
 ja w w' (j6 ρ) ∧ Dk E B w' ρ d (S.called false) ∧
 ((S.bad = true ∧ ∃ ev, e = .returned (.tuple #[Mv (.slice none 0 0) (.slice none 0 0), ev]) ∧ ve E w' ev true) ∨
  (S.bad = false ∧ ∃ rv, e = .returned (.tuple #[rv, .nilIface]) ∧ A9 w' w.heap.size rv bl))
set_option maxHeartbeats 1000000 in
set_option maxRecDepth 100000 in
theorem T9 {E : Nat → Addr} {B : Nat} {ρ : Nat → jw} {d : Nat} {S : je} {w : World} {nm key : Str} {bl : List (List Ref.Ch)} (D : Dk E B w ρ d S) (Z : Small S) (hn : nm.length < 1099511627776) (hrun : Ew S nm bl) (hsz : (Ref.Je bl).length < 1099511627776) :
   Calls Tryz.prog 235 #[.agg #[.pointer (some ⟨d, 0, none⟩), jc nm, jc key]] w (jfd E B ρ d S bl w) := by
 obtain ⟨hlaid, f, a, hat, hfile, hby⟩ := hrun
 have kA : ja w ((w.alloc (.cells #[.pointer (some ⟨d, 0, none⟩), jc nm, jc key] 293)).alloc (.cells #[.slice none 0 0, .slice none 0 0] 323)) (fun _ => False) := (ja.alloc w _ _).more _
 have hx0 := jd w (.cells #[.pointer (some ⟨d, 0, none⟩), jc nm, jc key] 293)
 have hx1 := jd (w.alloc (.cells #[.pointer (some ⟨d, 0, none⟩), jc nm, jc key] 293)) (.cells #[.slice none 0 0, .slice none 0 0] 323)
 rw [show (w.alloc (.cells #[.pointer (some ⟨d, 0, none⟩), jc nm, jc key] 293)).heap.size = w.heap.size + 1 by simp] at hx1
 have hx0' := (ja.alloc (w.alloc (.cells #[.pointer (some ⟨d, 0, none⟩), jc nm, jc key] 293)) (.cells #[.slice none 0 0, .slice none 0 0] 323) (fun _ => False)).same hx0 id
 have hrd := iy (D.same kA) Z nm hn
 have HX0 := hide hx0'
 have HX1 := hide hx1
 have HRD := hide hrd
 have HAT := hide hat
 have HFI := hide hfile
 have HBY := hide hby
 clear hx0 hx0' hx1 hrd hat hfile hby
 have hρ := D.rep.lt
 go_enter Tryz.func235, Tryz.ntmps235
 go_wp2_with fail
 refine HRD.out.mono ?_
 rintro e w1 ⟨g1, D1, hpost⟩
 have nT : ∀ i, w.heap.size ≤ i → ¬ j6 ρ i := fun i hi h => by have := hρ i h; omega
 have K1 : ja w w1 (j6 ρ) := (kA.mono (fun _ _ h => h.elim)).trans g1.keeps (fun _ _ h => h)
 have hX0 := g1.keeps.same HX0.out (nT _ (Nat.le_refl _))
 have hX1 := g1.keeps.same HX1.out (nT _ (by omega))
 have hsz1 : w.heap.size + 1 < w1.heap.size := lt_of_heap hX1
 have HY0 := hide hX0
 have HY1 := hide hX1
 clear hX0 hX1 HX0 HX1 HRD
 rcases hpost with ⟨hbad, v, rfl, he⟩ | ⟨hbad, hnone, _⟩ | ⟨hbad, f', a', v, hat', hfi', rfl, hown⟩
 · obtain ⟨t, ad, rfl⟩ := he.shape
   have q0 := cell_of_heap (o := 0) HY1.out
   have q1 := cell_of_heap (o := 1) HY1.out
   have f0 := frozen_of_heap (o := 0) HY1.out
   have f1 := frozen_of_heap (o := 1) HY1.out
   simp at q0 q1
   have HE := hide he
   have HBAD := hide hbad
   clear he hbad
   go_wp2
   refine bodyPost_ret (Ac rfl rfl (run_set HY1.out)) rfl ?_
   have k2 := jac w1 (w.heap.size + 1) (.slice none 0 0) (.slice none 0 0)
   refine ⟨K1.trans k2 (fun i hi e => by have e' : i = w.heap.size + 1 := e; omega), D1.apart k2 (fun i hi e => ?_), .inl ⟨HBAD.out, _, rfl, 1, HE.out.keep k2 (fun i c hi e => ?_), by decide, by simp⟩⟩
   · have e' : i = w.heap.size + 1 := e
     rw [e']
     exact ⟨nT _ (by omega), by have := D.size; omega⟩
   · have e' : i = w.heap.size + 1 := hi
     subst e'
     rw [HY1.out] at e
     cases e
 · rw [HAT.out] at hnone
   cases hnone
 · have e1 : f' = f := by rw [HAT.out] at hat'; cases hat'; rfl
   subst e1
   have e2 : a' = a := by rw [HFI.out] at hfi'; cases hfi'; rfl
   subst e2
   rw [HBY.out] at hown
   clear hat' hfi'
   obtain ⟨p, c, rfl⟩ := jh hown
   have hbv := bytes_of_row hown
   have hlt := hown.lt
   have hrr := Wn hbv hlaid.read hsz
   rw [Ref.xm] at hrr
   have HRR := hide hrr
   have HBV := hide hbv
   have HBAD := hide hbad
   have HLT := hide hlt
   clear hrr hown hbad hbv hlt
   go_wp2_with fail
   refine HRR.out.mono ?_
   rintro e w2 ⟨g, cap, rfl, hown2, k2⟩
   have hpl := Wq (by rw [zy, Ref.xm]) hown2
   have hZ0 := (k2.more (.cells #[.slice p (Ref.Je bl).length c, .slice (some ⟨g, 0, none⟩) bl.length cap] 323)).same HY0.out id
   have hZ1 := (k2.more (.cells #[.slice p (Ref.Je bl).length c, .slice (some ⟨g, 0, none⟩) bl.length cap] 323)).same HY1.out id
   have hZ2 := jd w2 (.cells #[.slice p (Ref.Je bl).length c, .slice (some ⟨g, 0, none⟩) bl.length cap] 323)
   have x1 := cell_of_heap (o := 1) hZ0
   have y0 := cell_of_heap (o := 0) hZ1
   have y1 := cell_of_heap (o := 1) hZ1
   have g0 := frozen_of_heap (o := 0) hZ1
   have g1' := frozen_of_heap (o := 1) hZ1
   have z0 := cell_of_heap (o := 0) hZ2
   have z1 := cell_of_heap (o := 1) hZ2
   simp at x1 y0 y1
   have HZ1 := hide hZ1
   have hn1 : ¬ w2.heap.size = w.heap.size + 1 := by have := k2.size; omega
   have hn2 : ¬ w.heap.size + 1 = w2.heap.size := by have := k2.size; omega
   clear hZ0 hZ1 hZ2
   go_wp2_with fail
   go_region_with (go_at_call 128; refine (at_nil _ _).mono ?_; rintro e w' ⟨rfl, rfl⟩)
   all_goals
     go_wp2
     refine bodyPost_ret (Ac rfl rfl (run_set HZ1.out)) rfl ?_
     have k3 : ja w1 (w2.alloc (.cells #[.slice p (Ref.Je bl).length c, .slice (some ⟨g, 0, none⟩) bl.length cap] 323)) (fun _ => False) := k2.more _
     have k4 := jac (w2.alloc (.cells #[.slice p (Ref.Je bl).length c, .slice (some ⟨g, 0, none⟩) bl.length cap] 323)) (w.heap.size + 1) (.slice p (Ref.Je bl).length c) (.slice (some ⟨g, 0, none⟩) bl.length cap)
     have k5 : ja w1 _ (fun i => i = w.heap.size + 1) := ((k3.mono (fun _ _ h => h.elim)).trans k4 (fun _ _ h => h)).draw
     refine ⟨K1.trans k5 (fun i hi e => by have e' : i = w.heap.size + 1 := e; omega), D1.apart k5 (fun i hi e => ?_), .inr ⟨HBAD.out, _, rfl, p, c, g, cap, rfl, HBV.out.keep k5 (fun ad n' c' e => ?_), hpl.keep (((ja.alloc w2 _ (fun i => i = w.heap.size + 1)).trans k4 (fun _ _ h => h)).draw) (fun _ => ?_), ?_, fun ad e => ?_⟩⟩
     · have e' : i = w.heap.size + 1 := e
       rw [e']
       exact ⟨nT _ (by omega), by have := D.size; omega⟩
     · injection e with e
       have := (HLT.out ad.block (by rw [e]; rfl)).1
       simp at this
       omega
     · have := (hown2.lt g rfl).1
       omega
     · have := (hown2.lt g rfl).1
       omega
     · have := (HLT.out ad.block (by rw [e]; rfl)).1
       simp at this
       omega
end Go.Proofs.YtnipbplghijdmaaGreatDoor
