/-
  La: FindB Get Check StoreC StoreD WriteA Whole Run3.
-/
import Derived.ControlIn
import Derived.Test.YtnipbplghijdmaaGreatDoorLa28
import Derived.Test.YtnipbplghijdmaaGreatDoorLa16
import Derived.Test.YtnipbplghijdmaaGreatDoorLa20
import Derived.Test.YtnipbplghijdmaaGreatDoorLa21
import Derived.Test.YtnipbplghijdmaaGreatDoorLa01
namespace Go.Proofs.YtnipbplghijdmaaGreatDoor
open Go.RowKit Go.Maps Go.WideShapes Go.Shelf
set_option linter.unusedVariables false
attribute [local go_sem] Oper.semAt_some
set_option maxRecDepth 100000 in
set_option maxHeartbeats 1000000 in
theorem je0 {P : je → Prop} {E : Nat → Addr} {B : Nat} {ρ : Nat → jw} {d : Nat} {S : je} {w : World} (D : Dk E B w ρ d S) (Z : P S) (lv : Value) (fs : List Value) (sts : List Jz) (key : Str) (hfs : nz w lv fs) (hoff : fs ≠ [] → ∀ p n c, lv = .slice (some p) n c → ¬ j6 ρ p.block)
   (hlen : fs.length = sts.length) (hl : fs.length < 524288) (hG : ∀ (k : Nat) f st, fs[k]? = some f → sts[k]? = some st → F9 P E B ρ d w f st) :
   Calls Tryz.prog 75 #[lv, jc key] w (jfl P E B ρ d w (Jp key sts S)) := by
 obtain ⟨lp, lc, rfl, h1, h2, h3, h4⟩ := id hfs
 have HFS := hide hfs
 have HLEN := hide hlen
 have HG := hide hG
 have HOFF := hide hoff
 have hρ := D.rep.lt
 have hBw := D.size
 have nT : ∀ i, w.heap.size ≤ i → ¬ j6 ρ i := fun i hi h => by have := hρ i h; omega
 obtain ⟨wA, hwA⟩ : ∃ wA, wA = (((w.alloc (.cells #[jc key] 9)).alloc (.cells #[jc [], jc [], .bool false] 88)).alloc (.cells #[.bool false] 4)).alloc (.cells #[.nilIface] 128) := ⟨_, rfl⟩
 have kA : ja w wA (fun _ => False) := by rw [hwA]; exact (((ja.alloc w _ _).more _).more _).more _
 have sA : wA.heap.size = w.heap.size + 1 + 1 + 1 + 1 := by rw [hwA]; simp
 have y0 : wA.heap[w.heap.size]? = some (.cells #[jc key] 9 (0, 0)) := by
   rw [hwA]; exact (((ja.alloc _ _ (fun _ => False)).more _).more _).same (jd w _) id
 have y1 : wA.heap[w.heap.size + 1]? = some (.cells #[jc [], jc [], .bool false] 88 (0, 0)) := by
   rw [hwA]; have := jd (w.alloc (.cells #[jc key] 9)) (.cells #[jc [], jc [], .bool false] 88)
   rw [World.size_alloc] at this
   exact ((ja.alloc _ _ (fun _ => False)).more _).same this id
 have y2 : wA.heap[w.heap.size + 1 + 1]? = some (.cells #[.bool false] 4 (0, 0)) := by
   rw [hwA]; have := jd ((w.alloc (.cells #[jc key] 9)).alloc (.cells #[jc [], jc [], .bool false] 88)) (.cells #[.bool false] 4)
   rw [World.size_alloc, World.size_alloc] at this
   exact (ja.alloc _ _ (fun _ => False)).same this id
 have y3 : wA.heap[w.heap.size + 1 + 1 + 1]? = some (.cells #[.nilIface] 128 (0, 0)) := by
   rw [hwA]; have := jd (((w.alloc (.cells #[jc key] 9)).alloc (.cells #[jc [], jc [], .bool false] 88)).alloc (.cells #[.bool false] 4)) (.cells #[.nilIface] 128)
   rw [World.size_alloc, World.size_alloc, World.size_alloc] at this
   exact this
 clear h3 h4 hfs hG hoff hlen
 have HY : Hid (wA.heap[w.heap.size]? = some (.cells #[jc key] 9 (0, 0)) ∧ wA.heap[w.heap.size + 1]? = some (.cells #[jc [], jc [], .bool false] 88 (0, 0)) ∧ wA.heap[w.heap.size + 1 + 1]? = some (.cells #[.bool false] 4 (0, 0)) ∧ wA.heap[w.heap.size + 1 + 1 + 1]? = some (.cells #[.nilIface] 128 (0, 0))) := ⟨y0, y1, y2, y3⟩
 clear y0 y1 y2 y3
 refine (callsIn_wide (n := 9)).1 ?_
 refine callsIn_of_wp_marks Tryz.func75 rfl trivial ?_ rfl
 simp only [Tryz.ntmps75, List.size_toArray, List.length_cons, List.length_nil, Nat.reduceAdd, Nat.reduceSub, Array.replicate_succ, Array.replicate_zero, List.push_toArray, List.append_toArray, List.nil_append, List.cons_append]
 gi_wp2
 rw [← hwA]
 refine wpIn_loop (fun a W => ∃ (k : Nat) (Sk : je) (Ds : List Nat) (u8 u14 u15 u16 u17 u29 : Value), a = { tmps := #[.slice lp fs.length lc, jc key, undef, .pointer (some ⟨w.heap.size, 0, none⟩), .pointer (some ⟨w.heap.size + 1, 0, none⟩), .pointer (some ⟨w.heap.size + 1 + 1, 0, none⟩), .pointer (some ⟨w.heap.size + 1 + 1 + 1, 0, none⟩), undef, u8, undef, undef, .slice lp fs.length lc, j4 fs.length, j4 k, u14, u15, u16, u17, undef, undef, undef, undef, undef, undef, undef, undef, undef, undef, undef, u29, undef], defers := marks Ds } ∧ k ≤ fs.length ∧ Dk E B W ρ d Sk ∧ P Sk ∧ Hid (Jp key sts S = Jp key (sts.drop k) Sk) ∧ (W.heap[w.heap.size]? = some (.cells #[jc key] 9 (0, 0)) ∧ W.heap[w.heap.size + 1]? = some (.cells #[jc [], jc [], .bool false] 88 (0, 0)) ∧ W.heap[w.heap.size + 1 + 1]? = some (.cells #[.bool false] 4 (0, 0)) ∧ W.heap[w.heap.size + 1 + 1 + 1]? = some (.cells #[.nilIface] 128 (0, 0))) ∧ ja w W (j6 ρ) ∧ Jy W Ds ∧ (∀ D ∈ Ds, w.heap.size + 4 ≤ D))
   (fun a _ => fs.length - (intOf (a.tmps.getD 13 undef)).toNat) ?_ ?_
 · exact ⟨0, S, [], _, _, _, _, _, _, rfl, Nat.zero_le _, D.same kA, Z, rfl, HY.out, kA.mono (fun _ _ h => h.elim), Jy.nil _, fun D h => by cases h⟩
 · rintro a W ⟨k, Sk, Ds, u8, u14, u15, u16, u17, u29, rfl, hk, Dk', Zk, hfind, hbx, hkw, hmk, hds⟩
   dsimp only
   rcases Nat.lt_or_ge k fs.length with hlt | hge
   · obtain ⟨f, hf⟩ : ∃ f, fs[k]? = some f := ⟨_, List.getElem?_eq_getElem hlt⟩
     obtain ⟨st, hst⟩ : ∃ st, sts[k]? = some st := ⟨_, List.getElem?_eq_getElem (by have := HLEN.out; omega)⟩
     obtain ⟨Z1, gf, rv, lb, Needs, Start, rfl, heg, hgv, hN, hSt⟩ := HG.out k f st hf hst W Sk hkw Dk' Zk
     have hvals : nz W (.slice lp fs.length lc) fs := HFS.out.keep hkw (fun h p n c e => HOFF.out h p n c e)
     obtain ⟨b, o, rfl, e0⟩ := hvals.at hf
     obtain ⟨g0, g1, g2, g3⟩ := hbx
     have hsW := hkw.size
     have hs3 := lt_of_heap g3
     have HST := hide hst
     have HGV := hide hgv
     have HFF := hide hf
     have HB : Hid (W.heap[w.heap.size]? = some (.cells #[jc key] 9 (0, 0)) ∧ W.heap[w.heap.size + 1]? = some (.cells #[jc [], jc [], .bool false] 88 (0, 0)) ∧ W.heap[w.heap.size + 1 + 1]? = some (.cells #[.bool false] 4 (0, 0)) ∧ W.heap[w.heap.size + 1 + 1 + 1]? = some (.cells #[.nilIface] 128 (0, 0))) := ⟨g0, g1, g2, g3⟩
     have hlti : (k : Int) < (fs.length : Int) := by omega
     obtain ⟨LL, hLL⟩ : ∃ LL, LL = (st Sk).2.1 := ⟨_, rfl⟩
     obtain ⟨LE, hLE⟩ : ∃ LE, LE = (st Sk).2.2 := ⟨_, rfl⟩
     rw [← hLL, ← hLE] at hgv
     have HGV := hide hgv
     have HLL := hide hLL
     have HLE := hide hLE
     have hdlt : ∀ D ∈ Ds, D < W.heap.size := fun D h => lt_of_heap (hmk.2 D h)
     clear g0 g1 g2 g3 hst hgv hf hLL hLE hvals hwA sA
     gi_wp2
     refine Z7 rfl (by decide) (gf := gf) (rv := rv) (lb := lb) rfl trivial heg (HGV.out 8) (fun _ => rfl) (fun i h => by have := hρ i h; omega) (fun i h => by have := hN i h; omega) hSt
       (fun pre C W' => pre = [] ∧ (W'.heap[w.heap.size]? = some (.cells #[jc key] 9 (0, 0)) ∧ W'.heap[w.heap.size + 1]? = some (.cells #[jc [], jc [], .bool false] 88 (0, 0)) ∧ W'.heap[w.heap.size + 1 + 1]? = some (.cells #[.bool false] 4 (0, 0)) ∧ W'.heap[w.heap.size + 1 + 1 + 1]? = some (.cells #[.nilIface] 128 (0, 0))) ∧ ja w W' (j6 ρ) ∧ Jy W' Ds ∧ (∀ i, C i ↔ i = w.heap.size + 1 ∨ i = w.heap.size + 1 + 1 ∨ i = w.heap.size + 1 + 1 + 1))
       (fun c pre C W' => ja w W' (j6 ρ) ∧ Jy W' Ds ∧ (∀ i, C i ↔ i = w.heap.size + 1 ∨ i = w.heap.size + 1 + 1 ∨ i = w.heap.size + 1 + 1 + 1) ∧
       ((c = .ret ∧ ∃ c0 r0, LL = c0 :: r0 ∧ c0.key = key ∧ W'.heap[w.heap.size + 1]? = some (.cells #[jc c0.key, jc c0.value, .bool c0.gone] 88 (0, 0)) ∧ W'.heap[w.heap.size + 1 + 1]? = some (.cells #[.bool true] 4 (0, 0)) ∧ W'.heap[w.heap.size + 1 + 1 + 1]? = some (.cells #[.nilIface] 128 (0, 0))) ∨
        (c = .ret ∧ ∃ bad ev, LL = [] ∧ LE = some bad ∧ ve E W' ev bad ∧ W'.heap[w.heap.size + 1]? = some (.cells #[jc [], jc [], .bool false] 88 (0, 0)) ∧ W'.heap[w.heap.size + 1 + 1]? = some (.cells #[.bool false] 4 (0, 0)) ∧ W'.heap[w.heap.size + 1 + 1 + 1]? = some (.cells #[ev] 128 (0, 0))) ∨
        (c = .exit 2 ∧ (∃ c0 r0, LL = c0 :: r0 ∧ c0.key ≠ key) ∧ (W'.heap[w.heap.size]? = some (.cells #[jc key] 9 (0, 0)) ∧ W'.heap[w.heap.size + 1]? = some (.cells #[jc [], jc [], .bool false] 88 (0, 0)) ∧ W'.heap[w.heap.size + 1 + 1]? = some (.cells #[.bool false] 4 (0, 0)) ∧ W'.heap[w.heap.size + 1 + 1 + 1]? = some (.cells #[.nilIface] 128 (0, 0))))))
       ?hI ?hIx (fun i => i = w.heap.size + 1 ∨ i = w.heap.size + 1 + 1 ∨ i = w.heap.size + 1 + 1 + 1) ?hC0 ?h0 ?round ?done ?stop
     case hI =>
       rintro pre C A B' ⟨rfl, ⟨g0, g1, g2, g3⟩, hkA, hmA, hC⟩ hk
       have out : ∀ i, w.heap.size ≤ i → i < W.heap.size → ¬ (j6 ρ i ∨ (W.heap.size ≤ i ∧ ¬ C i)) := by
         rintro i h1 h2 (h3 | ⟨h3, h4⟩)
         · exact nT i h1 h3
         · omega
       refine ⟨rfl, ⟨ja.same hk g0 (out _ (by omega) (by omega)), ja.same hk g1 (out _ (by omega) (by omega)), ja.same hk g2 (out _ (by omega) (by omega)), ja.same hk g3 (out _ (by omega) (by omega))⟩, hkA.trans hk (fun i hi h => ?_), hmA.keep hk (fun D hD => out D (by have := hds D hD; omega) (hdlt D hD)), hC⟩
       rcases h with h | ⟨h, _⟩
       · exact h
       · omega
     case hIx =>
       rintro c pre C A B' lp' r ⟨hkA, hmA, hC, hor⟩ hlp hnc hr hk
       have hne : ∀ i, i < W.heap.size → ¬ i = lp' := fun i hi => by omega
       refine ⟨hkA.trans hk (fun i hi e => by omega), hmA.keep hk (fun D hD => hne D (hdlt D hD)), hC, ?_⟩
       rcases hor with ⟨rfl, c0, r0, e1, e2, g1, g2, g3⟩ | ⟨rfl, bad, ev, e1, e2, e3, g1, g2, g3⟩ | ⟨rfl, e1, g0, g1, g2, g3⟩
       · exact .inl ⟨rfl, c0, r0, e1, e2, hk.same g1 (hne _ (by omega)), hk.same g2 (hne _ (by omega)), hk.same g3 (hne _ (by omega))⟩
       · obtain ⟨g, he, hg⟩ := e3
         exact .inr (.inl ⟨rfl, bad, ev, e1, e2, ⟨g, he.keep hk (fun i c e hc => by rw [e, hr] at hc; cases hc), hg⟩, hk.same g1 (hne _ (by omega)), hk.same g2 (hne _ (by omega)), hk.same g3 (hne _ (by omega))⟩)
       · exact .inr (.inr ⟨rfl, e1, hk.same g0 (hne _ (by omega)), hk.same g1 (hne _ (by omega)), hk.same g2 (hne _ (by omega)), hk.same g3 (hne _ (by omega))⟩)
     case hC0 =>
       rintro i (h | h | h)
       all_goals exact ⟨by omega, nT i (by omega), fun h => by have := hN i h; omega⟩
     case h0 => exact ⟨rfl, HB.out, hkw, hmk, fun _ => Iff.rfl⟩
     case round =>
       rintro lp' pre x C W1 hlp ⟨rl, hrl⟩ hnl hbd ⟨rfl, ⟨g0, g1, g2, g3⟩, hkA, hmA, hC⟩ hcan
       have hlt1 := lt_of_heap hrl
       have hne : ∀ i, i < W.heap.size → ¬ i = lp' := fun i hi => by omega
       rcases hcan with ⟨k0, c, e, hk0, rfl⟩ | ⟨bad, he, e, hx1, hx2⟩
       · obtain ⟨r0, hr0⟩ : ∃ r0, LL = c :: r0 := by
           have hk2 := (List.getElem?_eq_some_iff.1 hk0).1
           have : k0 = 0 := by
             have := congrArg List.length e
             simp at this
             omega
           subst this
           cases LL with
           | nil => cases hk0
           | cons a r => cases hk0; exact ⟨r, rfl⟩
         have HR0 := hide hr0
         clear e hk0 hr0
         obtain ⟨ck, cv, cg⟩ := c
         dsimp only [encI, Jd]
         gi_wp2
         refine ⟨ja.alloc W1 _ _, ?_⟩
         intro W2 k2 _
         have ka : ja W1 W2 (fun i => i = lp') := ((ja.alloc W1 _ (fun _ => False)).mono (fun _ _ h => h.elim)).trans k2 (fun _ _ h => h)
         have hb := k2.same (jd W1 _) (by omega)
         obtain ⟨q0, q1, q2, _, _, _⟩ := yc hb
         have g0' := ka.same g0 (hne _ (by omega))
         have g1' := ka.same g1 (hne _ (by omega))
         have g2' := ka.same g2 (hne _ (by omega))
         have g3' := ka.same g3 (hne _ (by omega))
         have a0 := cell_of_heap (o := 0) g0'
         obtain ⟨a10, a11, a12, f10, f11, f12⟩ := yc g1'
         have a2 := cell_of_heap (o := 0) g2'
         have f2 := frozen_of_heap (o := 0) g2'
         have a3 := cell_of_heap (o := 0) g3'
         have f3 := frozen_of_heap (o := 0) g3'
         simp at a0 a2 a3
         have hmA2 : Jy W2 Ds := hmA.keep ka (fun D hD => hne D (hdlt D hD))
         have hkA2 : ja w W2 (j6 ρ) := hkA.trans ka (fun i hi e => by omega)
         have hsz : W1.heap.size + 1 ≤ W2.heap.size := by have := k2.size; simpa using this
         have H0 := hide g0'
         have H1 := hide g1'
         have H2 := hide g2'
         have H3 := hide g3'
         have HC := hide hC
         clear g0 g1 g2 g3 g0' g1' g2' g3' hb hC
         by_cases hck : ck = key
         · subst hck
           have hbe : (ck == ck) = true := by simp
           gi_wp2
           have k1 := Yh W2 (w.heap.size + 1) (jc ck) (jc cv) (.bool cg)
           have k2' := ja.setCell (((W2.setCell ⟨w.heap.size + 1, 0, none⟩ (jc ck)).setCell ⟨w.heap.size + 1, 1, none⟩ (jc cv)).setCell ⟨w.heap.size + 1, 2, none⟩ (.bool cg)) ⟨w.heap.size + 1 + 1, 0, none⟩ (.bool true)
           have k3 := ja.setCell ((((W2.setCell ⟨w.heap.size + 1, 0, none⟩ (jc ck)).setCell ⟨w.heap.size + 1, 1, none⟩ (jc cv)).setCell ⟨w.heap.size + 1, 2, none⟩ (.bool cg)).setCell ⟨w.heap.size + 1 + 1, 0, none⟩ (.bool true)) ⟨w.heap.size + 1 + 1 + 1, 0, none⟩ .nilIface
           have kk : ja W2 (((((W2.setCell ⟨w.heap.size + 1, 0, none⟩ (jc ck)).setCell ⟨w.heap.size + 1, 1, none⟩ (jc cv)).setCell ⟨w.heap.size + 1, 2, none⟩ (.bool cg)).setCell ⟨w.heap.size + 1 + 1, 0, none⟩ (.bool true)).setCell ⟨w.heap.size + 1 + 1 + 1, 0, none⟩ .nilIface) (fun i => i = w.heap.size + 1 ∨ i = w.heap.size + 1 + 1 ∨ i = w.heap.size + 1 + 1 + 1) := ((k1.mono (fun _ _ h => .inl h)).trans k2' (fun _ _ h => .inr (.inl h))).trans k3 (fun _ _ h => .inr (.inr h))
           refine ⟨C, fun i h => .inl h, fun i h => Nat.lt_of_lt_of_le (hbd i h) (Nat.le_trans (by omega : W1.heap.size ≤ W2.heap.size) kk.size), kk.mono (fun i _ h => (HC.out i).2 h), hkA2.trans kk (fun i hi h => by omega), hmA2.keep kk (fun D hD h => by have := hds D hD; omega), HC.out, .inl ⟨rfl, _, r0, HR0.out, rfl, ?_, ?_, ?_⟩⟩
           · exact k3.same (k2'.same (uf (k := ck) (x := cv) (y := cg) H1.out) (by simp <;> omega)) (by simp <;> omega)
           · exact (k3.same (jb (o := 0) (k1.same H2.out (by simp <;> omega)) (.bool true)) (by simp <;> omega)).trans rfl
           · exact (jb (o := 0) (k2'.same (k1.same H3.out (by simp <;> omega)) (by simp <;> omega)) .nilIface).trans rfl
         · have hbe : (ck == key) = false := by simp [hck]
           gi_wp2
           exact ⟨C, fun i h => .inl h, fun i h => Nat.lt_of_lt_of_le (hbd i h) (by omega), ja.refl _ _, hkA2, hmA2, HC.out, .inr (.inr ⟨rfl, ⟨_, r0, HR0.out, hck⟩, H0.out, H1.out, H2.out, H3.out⟩)⟩
       · obtain ⟨x1, ev⟩ := x
         simp only at hx1 hx2
         subst hx1
         obtain ⟨tv, av, rfl⟩ := hx2.shape
         have hll : LL = [] := by
           cases LL with
           | nil => rfl
           | cons a r => simp at e
         have HHL := hide hll
         have HHE := hide he
         clear e hll he
         dsimp only [encI, ak]
         gi_wp2
         refine ⟨ja.alloc W1 _ _, ?_⟩
         intro W2 k2 _
         have ka : ja W1 W2 (fun i => i = lp') := ((ja.alloc W1 _ (fun _ => False)).mono (fun _ _ h => h.elim)).trans k2 (fun _ _ h => h)
         have G1 := hide g1
         have G2 := hide g2
         have G3 := hide g3
         have g1' := ka.same g1 (hne _ (by omega))
         have g2' := ka.same g2 (hne _ (by omega))
         have g3' := ka.same g3 (hne _ (by omega))
         obtain ⟨a10, a11, a12, f10, f11, f12⟩ := yc g1'
         have a2 := cell_of_heap (o := 0) g2'
         have f2 := frozen_of_heap (o := 0) g2'
         have a3 := cell_of_heap (o := 0) g3'
         have f3 := frozen_of_heap (o := 0) g3'
         simp at a2 a3
         have hmA2 : Jy W2 Ds := hmA.keep ka (fun D hD => hne D (hdlt D hD))
         have hkA2 : ja w W2 (j6 ρ) := hkA.trans ka (fun i hi e => by omega)
         have hsz : W1.heap.size + 1 ≤ W2.heap.size := by have := k2.size; simpa using this
         have H1 := hide g1'
         have H2 := hide g2'
         have H3 := hide g3'
         have HC := hide hC
         have HX := hide hx2
         clear g0 g1 g2 g3 g1' g2' g3' hC hx2
         gi_wp2
         have k1 := Yh W2 (w.heap.size + 1) (jc []) (jc []) (.bool false)
         have k2' := ja.setCell (((W2.setCell ⟨w.heap.size + 1, 0, none⟩ (jc [])).setCell ⟨w.heap.size + 1, 1, none⟩ (jc [])).setCell ⟨w.heap.size + 1, 2, none⟩ (.bool false)) ⟨w.heap.size + 1 + 1, 0, none⟩ (.bool false)
         have k3 := ja.setCell ((((W2.setCell ⟨w.heap.size + 1, 0, none⟩ (jc [])).setCell ⟨w.heap.size + 1, 1, none⟩ (jc [])).setCell ⟨w.heap.size + 1, 2, none⟩ (.bool false)).setCell ⟨w.heap.size + 1 + 1, 0, none⟩ (.bool false)) ⟨w.heap.size + 1 + 1 + 1, 0, none⟩ (.iface tv (.pointer (some av)))
         have kk : ja W2 (((((W2.setCell ⟨w.heap.size + 1, 0, none⟩ (jc [])).setCell ⟨w.heap.size + 1, 1, none⟩ (jc [])).setCell ⟨w.heap.size + 1, 2, none⟩ (.bool false)).setCell ⟨w.heap.size + 1 + 1, 0, none⟩ (.bool false)).setCell ⟨w.heap.size + 1 + 1 + 1, 0, none⟩ (.iface tv (.pointer (some av)))) (fun i => i = w.heap.size + 1 ∨ i = w.heap.size + 1 + 1 ∨ i = w.heap.size + 1 + 1 + 1) := ((k1.mono (fun _ _ h => .inl h)).trans k2' (fun _ _ h => .inr (.inl h))).trans k3 (fun _ _ h => .inr (.inr h))
         refine ⟨C, fun i h => .inl h, fun i h => Nat.lt_of_lt_of_le (hbd i h) (Nat.le_trans (by omega : W1.heap.size ≤ W2.heap.size) kk.size), kk.mono (fun i _ h => (HC.out i).2 h), hkA2.trans kk (fun i hi h => by omega), hmA2.keep kk (fun D hD h => by have := hds D hD; omega), HC.out, .inr (.inl ⟨rfl, bad, .iface tv (.pointer (some av)), HHL.out, HHE.out, ?_, ?_, ?_, ?_⟩)⟩
         · obtain ⟨g, hg, hg2⟩ := HX.out
           have kw : ja W1 (((((W2.setCell ⟨w.heap.size + 1, 0, none⟩ (jc [])).setCell ⟨w.heap.size + 1, 1, none⟩ (jc [])).setCell ⟨w.heap.size + 1, 2, none⟩ (.bool false)).setCell ⟨w.heap.size + 1 + 1, 0, none⟩ (.bool false)).setCell ⟨w.heap.size + 1 + 1 + 1, 0, none⟩ (.iface tv (.pointer (some av)))) (fun i => i = lp' ∨ i = w.heap.size + 1 ∨ i = w.heap.size + 1 + 1 ∨ i = w.heap.size + 1 + 1 + 1) := (ka.mono (fun _ _ h => .inl h)).trans kk (fun _ _ h => .inr h)
           refine ⟨g, hg.keep kw (fun i c h hc => ?_), hg2⟩
           rcases h with h | h | h | h
           · rw [h, hrl] at hc; cases hc
           · rw [h, G1.out] at hc; cases hc
           · rw [h, G2.out] at hc; cases hc
           · rw [h, G3.out] at hc; cases hc
         · exact k3.same (k2'.same (uf (k := []) (x := []) (y := false) H1.out) (by simp <;> omega)) (by simp <;> omega)
         · exact (k3.same (jb (o := 0) (k1.same H2.out (by simp <;> omega)) (.bool false)) (by simp <;> omega)).trans rfl
         · exact (jb (o := 0) (k2'.same (k1.same H3.out (by simp <;> omega)) (by simp <;> omega)) _).trans rfl
     case done =>
       rintro D' lp' C xs W2 W3 hD hlp hne hnd hnl ⟨DK, hfin⟩ hk ⟨rfl, hbx3, hkA, hmA, hC⟩ hK
       have hml : LL = [] ∧ LE = none := by
         rcases hfin with ⟨h1, h2⟩ | ⟨bad, ev, h1, _, h2⟩
         · cases LL with
           | nil => exact ⟨rfl, h1⟩
           | cons c r => simp at h2
         · have := congrArg List.length h2
           simp at this
       have hnx := Gp (key := key) (S := Sk) HST.out (fun c r e => by rw [← HLL.out, hml.1] at e; cases e) (fun _ => by rw [← HLE.out]; exact hml.2)
       have HNX : Hid (Jp key sts S = Jp key (sts.drop (k + 1)) (st Sk).1) := by unfold Hid; rw [hfind.out]; exact hnx
       have DK3 := DK.apart hk (fun i hi e => by rw [e]; exact ⟨nT lp' (by omega), by omega⟩)
       have hnew : D' ∉ Ds := fun h => by have := hdlt D' h; omega
       have HBX3 := hide hbx3
       have HHK := hide hK
       have HDK3 := hide DK3
       clear hml hnx hfin DK DK3 hbx3 hK
       gi_wp2
       refine ⟨⟨k + 1, (st Sk).1, D' :: Ds, _, _, _, _, _, _, rfl, hlt, HDK3.out, Z1, HNX, HBX3.out, hkA, hmA.cons HHK.out hnew, fun E hE => ?_⟩, ?_⟩
       · rcases List.mem_cons.1 hE with rfl | hE
         · omega
         · exact hds E hE
       · simp [intOf]
         omega
     case stop =>
       rintro D' lp' C c pre W2 W3 hD hlp hne hnd hnl DK hk ⟨hkA, hmA, hC, hor⟩ hK
       rcases hor with ⟨rfl, c0, r0, e1, e2, g1, g2, g3⟩ | ⟨rfl, bad, ev, e1, e2, e3, g1, g2, g3⟩ | ⟨rfl, ⟨c0, r0, e1, e2⟩, hbx3⟩
       · have hm2 : Jy W3 (D' :: Ds) := hmA.cons hK (fun h => by have := hdlt D' h; omega)
         have DK3 := DK.apart hk (fun i hi e => by rw [e]; exact ⟨nT lp' (by omega), by omega⟩)
         have hge : ∀ i, i ∈ D' :: Ds → w.heap.size + 4 ≤ i := fun i h => by
           rcases List.mem_cons.1 h with rfl | h
           · omega
           · exact hds i h
         have kS := Xm W3 (D' :: Ds)
         have z1 := kS.same g1 (fun h => by have := hge _ h; omega)
         have z2 := kS.same g2 (fun h => by have := hge _ h; omega)
         have z3 := kS.same g3 (fun h => by have := hge _ h; omega)
         have eF : Jp key sts S = ((st Sk).1, .inl (some c0)) := by rw [hfind.out]; exact jal HST.out (by rw [← HLL.out]; exact e1) e2
         gi_wp2
         refine Yf (Ds := D' :: Ds) (by simp) hm2 ?_
         refine ⟨.tuple #[chV c0, .bool true, .nilIface], o8 (c := c0) rfl rfl rfl rfl z1 z2 z3, ?_⟩
         rw [eF]
         refine ⟨hkA.trans kS (fun i hi h => by have := hge i h; omega), DK3.apart kS (fun i hi h => ⟨nT i (by have := hge i h; omega), by have := hge i h; omega⟩), Z1, .inl ⟨c0, rfl, rfl⟩⟩
       · have hm2 : Jy W3 (D' :: Ds) := hmA.cons hK (fun h => by have := hdlt D' h; omega)
         have DK3 := DK.apart hk (fun i hi e => by rw [e]; exact ⟨nT lp' (by omega), by omega⟩)
         have hge : ∀ i, i ∈ D' :: Ds → w.heap.size + 4 ≤ i := fun i h => by
           rcases List.mem_cons.1 h with rfl | h
           · omega
           · exact hds i h
         have kS := Xm W3 (D' :: Ds)
         have z1 := kS.same g1 (fun h => by have := hge _ h; omega)
         have z2 := kS.same g2 (fun h => by have := hge _ h; omega)
         have z3 := kS.same g3 (fun h => by have := hge _ h; omega)
         have eF : Jp key sts S = ((st Sk).1, .inr bad) := by rw [hfind.out]; exact jam HST.out (by rw [← HLL.out]; exact e1) (by rw [← HLE.out]; exact e2)
         gi_wp2
         refine Yf (Ds := D' :: Ds) (by simp) hm2 ?_
         refine ⟨.tuple #[chV ak, .bool false, ev], o8 (c := ak) rfl rfl rfl rfl z1 z2 z3, ?_⟩
         rw [eF]
         refine ⟨hkA.trans kS (fun i hi h => by have := hge i h; omega), DK3.apart kS (fun i hi h => ⟨nT i (by have := hge i h; omega), by have := hge i h; omega⟩), Z1, .inr (.inr ⟨bad, ev, rfl, rfl, ?_⟩)⟩
         obtain ⟨g, he, hg⟩ := e3
         refine ⟨g, he.keep kS (fun i c h hc => ?_), hg⟩
         rw [hm2.2 i h] at hc
         cases hc
       · have hnx := Gp (key := key) (S := Sk) HST.out (fun c r e => by rw [← HLL.out, e1] at e; cases e; exact e2) (fun e => by rw [← HLL.out, e1] at e; cases e)
         have HNX : Hid (Jp key sts S = Jp key (sts.drop (k + 1)) (st Sk).1) := by unfold Hid; rw [hfind.out]; exact hnx
         have DK3 := DK.apart hk (fun i hi e => by rw [e]; exact ⟨nT lp' (by omega), by omega⟩)
         have hnew : D' ∉ Ds := fun h => by have := hdlt D' h; omega
         have HBX3 := hide hbx3
         have HHK := hide hK
         have HDK3 := hide DK3
         clear hnx DK DK3 hbx3 hK e1 e2
         gi_wp2
         refine ⟨⟨k + 1, (st Sk).1, D' :: Ds, _, _, _, _, _, _, rfl, hlt, HDK3.out, Z1, HNX, HBX3.out, hkA, hmA.cons HHK.out hnew, fun E hE => ?_⟩, ?_⟩
         · rcases List.mem_cons.1 hE with rfl | hE
           · omega
           · exact hds E hE
         · simp [intOf]
           omega
   · obtain rfl : k = fs.length := by omega
     obtain ⟨g0, g1, g2, g3⟩ := hbx
     obtain ⟨a10, a11, a12, f10, f11, f12⟩ := yc g1
     have a2 := cell_of_heap (o := 0) g2
     have f2 := frozen_of_heap (o := 0) g2
     have a3 := cell_of_heap (o := 0) g3
     have f3 := frozen_of_heap (o := 0) g3
     simp at a2 a3
     have H1 := hide g1
     have H2 := hide g2
     have H3 := hide g3
     have HF := hfind
     clear g0 g1 g2 g3 hfind
     gi_wp2
     have k1 := Yh W (w.heap.size + 1) (jc []) (jc []) (.bool false)
     have k2 := ja.setCell (((W.setCell ⟨w.heap.size + 1, 0, none⟩ (jc [])).setCell ⟨w.heap.size + 1, 1, none⟩ (jc [])).setCell ⟨w.heap.size + 1, 2, none⟩ (.bool false)) ⟨w.heap.size + 1 + 1, 0, none⟩ (.bool false)
     have k3 := ja.setCell ((((W.setCell ⟨w.heap.size + 1, 0, none⟩ (jc [])).setCell ⟨w.heap.size + 1, 1, none⟩ (jc [])).setCell ⟨w.heap.size + 1, 2, none⟩ (.bool false)).setCell ⟨w.heap.size + 1 + 1, 0, none⟩ (.bool false)) ⟨w.heap.size + 1 + 1 + 1, 0, none⟩ .nilIface
     have kk : ja W (((((W.setCell ⟨w.heap.size + 1, 0, none⟩ (jc [])).setCell ⟨w.heap.size + 1, 1, none⟩ (jc [])).setCell ⟨w.heap.size + 1, 2, none⟩ (.bool false)).setCell ⟨w.heap.size + 1 + 1, 0, none⟩ (.bool false)).setCell ⟨w.heap.size + 1 + 1 + 1, 0, none⟩ .nilIface) (fun i => i = w.heap.size + 1 ∨ i = w.heap.size + 1 + 1 ∨ i = w.heap.size + 1 + 1 + 1) := ((k1.mono (fun _ _ h => .inl h)).trans k2 (fun _ _ h => .inr (.inl h))).trans k3 (fun _ _ h => .inr (.inr h))
     have hm2 : Jy (((((W.setCell ⟨w.heap.size + 1, 0, none⟩ (jc [])).setCell ⟨w.heap.size + 1, 1, none⟩ (jc [])).setCell ⟨w.heap.size + 1, 2, none⟩ (.bool false)).setCell ⟨w.heap.size + 1 + 1, 0, none⟩ (.bool false)).setCell ⟨w.heap.size + 1 + 1 + 1, 0, none⟩ .nilIface) Ds := hmk.keep kk (fun D hD h => by have := hds D hD; omega)
     have kS := Xm (((((W.setCell ⟨w.heap.size + 1, 0, none⟩ (jc [])).setCell ⟨w.heap.size + 1, 1, none⟩ (jc [])).setCell ⟨w.heap.size + 1, 2, none⟩ (.bool false)).setCell ⟨w.heap.size + 1 + 1, 0, none⟩ (.bool false)).setCell ⟨w.heap.size + 1 + 1 + 1, 0, none⟩ .nilIface) Ds
     have z1 := kS.same (k3.same (k2.same (uf (k := []) (x := []) (y := false) H1.out) (by simp <;> omega)) (by simp <;> omega)) (fun h => by have := hds _ h; omega)
     have z2 := kS.same (k3.same (jb (o := 0) (k1.same H2.out (by simp <;> omega)) (.bool false)) (by simp <;> omega)) (fun h => by have := hds _ h; omega)
     have z3 := kS.same (jb (o := 0) (k2.same (k1.same H3.out (by simp <;> omega)) (by simp <;> omega)) .nilIface) (fun h => by have := hds _ h; omega)
     refine Yf (by simp) hm2 ?_
     refine ⟨.tuple #[chV ak, .bool false, .nilIface], o8 (c := ak) rfl rfl rfl rfl z1 z2 z3, ?_⟩
     have kkS : ja W (shutAll (((((W.setCell ⟨w.heap.size + 1, 0, none⟩ (jc [])).setCell ⟨w.heap.size + 1, 1, none⟩ (jc [])).setCell ⟨w.heap.size + 1, 2, none⟩ (.bool false)).setCell ⟨w.heap.size + 1 + 1, 0, none⟩ (.bool false)).setCell ⟨w.heap.size + 1 + 1 + 1, 0, none⟩ .nilIface) Ds) (fun i => (i = w.heap.size + 1 ∨ i = w.heap.size + 1 + 1 ∨ i = w.heap.size + 1 + 1 + 1) ∨ i ∈ Ds) := (kk.mono (fun _ _ h => .inl h)).trans kS (fun _ _ h => .inr h)
     have eF : Jp key sts S = (Sk, .inl none) := by rw [HF.out, HLEN.out, List.drop_length]; rfl
     rw [eF]
     refine ⟨hkw.trans kkS (fun i hi h => ?_), Dk'.apart kkS (fun i hi h => ?_), Zk, .inr (.inl ⟨rfl, rfl⟩)⟩
     · rcases h with h | h
       · omega
       · have := hds i h
         omega
     · have hge : w.heap.size ≤ i := by
         rcases h with h | h
         · omega
         · have := hds i h
           omega
       exact ⟨nT i hge, by omega⟩
end Go.Proofs.YtnipbplghijdmaaGreatDoor
namespace Go.Proofs.YtnipbplghijdmaaGreatDoor
open Go.RowKit Go.Maps Go.WideShapes Go.Shelf
set_option linter.unusedVariables false
theorem cz.jbm {P : je → Prop} {ns : List Nat} {bls : List (List (List Ref.Ch))} (h : cz P ns bls) {E : Nat → Addr} {B : Nat} {ρ : Nat → jw} {d : Nat} {w : World} (hB : B ≤ w.heap.size) (key : Str) :
   ∀ (k : Nat) f st, (ns.map (fun n => Xz d n key))[k]? = some f → (y7 bls key)[k]? = some st → F9 P E B ρ d w f st := by
 intro k f st hf hst
 rw [List.getElem?_map] at hf hst
 cases hn : ns[k]? with
 | none => rw [hn] at hf; cases hf
 | some n =>
   cases hb : bls[k]? with
   | none => rw [hb] at hst; cases hst
   | some bl =>
     rw [hn] at hf
     rw [hb] at hst
     cases hf
     cases hst
     have h1 := h.small bl (List.mem_of_getElem? hb)
     exact jhs hB (h.num n (List.mem_of_getElem? hn)) h1.1 (fun S hS => ⟨(h.step S hS).1, (h.step S hS).2, h.file k n bl hn hb S hS⟩)
def Hm : Option Ref.Ch → Str × Bool
 | some c => if c.gone = true then ([], false) else (c.value, true)
 | none => ([], false)
def jgj (P : je → Prop) (E : Nat → Addr) (B : Nat) (ρ : Nat → jw) (d b : Nat) (t : TypeId) (row : Bool → Array Value) (deg : Bool) (G : je × (Option Ref.Ch ⊕ Bool)) (w : World) (e : Ending) (w' : World) : Prop :=
 ja w w' (fun i => j6 ρ i ∨ i = b) ∧ Dk E B w' ρ d G.1 ∧ P G.1 ∧
 ((∃ o, G.2 = .inl o ∧ e = .returned (.tuple #[jc (Hm o).1, .bool (Hm o).2, .int .i64 0]) ∧ w'.heap[b]? = some (.cells (row deg) t (0, 0))) ∨
  (∃ bad, G.2 = .inr bad ∧ e = .returned (.tuple #[jc [], .bool false, .int .i64 1]) ∧ w'.heap[b]? = some (.cells (row true) t (0, 0))))
set_option maxRecDepth 100000 in
set_option maxHeartbeats 1000000 in
theorem jf8 {P : je → Prop} {E : Nat → Addr} {B : Nat} {ρ : Nat → jw} {d : Nat} {S : je} {w : World} {b : Nat} {t : TypeId} (m0 : Ref.Man) (rv last mv : Value) (mem : List Ref.Ch) (deg : Bool) (bls : List (List (List Ref.Ch))) (H : Env E B w) (D : Dk E B w ρ d S) (Z : P S) (R : cz P m0.settled bls)
   (hb : w.heap[b]? = some (.cells (yl (.pointer (some ⟨d, 0, none⟩)) (jf m0.next) (jf m0.last) (jf m0.log) (jf m0.base) rv last mv deg false) t (0, 0))) (hρb : ¬ j6 ρ b) (hBb : B ≤ b) (hv : J2 w rv m0.runs) (hl : m0.runs.length < 262144)
   (hch : Chs w mv mem) (hr : oh mem) (hmv : ∀ p n c, mv = .slice (some p) n c → ¬ j6 ρ p.block ∧ p.block < w.heap.size) (key : Str) :
   Calls Tryz.prog 33 #[.pointer (some ⟨b, 0, none⟩), jc key] w
     (jgj P E B ρ d b t (fun x => yl (.pointer (some ⟨d, 0, none⟩)) (jf m0.next) (jf m0.last) (jf m0.log) (jf m0.base) rv last mv x false) deg (Jp key (Yc (mem.drop (Ref.below mem key)) :: y7 bls key) S) w) := by
 have hsl := ym m0
 have hset := uk d m0 rv last mv mem deg false key H hb hv (by omega) R.num hch hr.1 hr.2.2
 have hρ := D.rep.lt
 have hB := D.size
 have d9 := cell_of_heap (o := 9) hb
 simp at d9
 have hlm : (mem.drop (Ref.below mem key)).length < 1048576 := Nat.lt_of_le_of_lt (List.drop_sublist _ _).length_le hr.2.2
 have hlen : (m0.settled.map (fun n => Xz d n key)).length = (y7 bls key).length := by simp [R.len]
 have HLAY : Hid (∀ (W : World), B ≤ W.heap.size → ∀ (k : Nat) f st, (m0.settled.map (fun n => Xz d n key))[k]? = some f → (y7 bls key)[k]? = some st → F9 P E B ρ d W f st) := fun W hW => R.jbm hW key
 obtain ⟨sts, hsts⟩ : ∃ sts, sts = Yc (mem.drop (Ref.below mem key)) :: y7 bls key := ⟨_, rfl⟩
 rw [← hsts]
 obtain ⟨G, hG⟩ : ∃ G, G = Jp key sts S := ⟨_, rfl⟩
 rw [← hG]
 have HG := hide hG
 clear hG
 have HSTS := hide hsts
 have HSET := hide hset
 have HB := hide hb
 have HLEN := hide hlen
 have HMV := hide hmv
 clear hset hb hlen hsts hmv
 go_enter Tryz.func33, Tryz.ntmps33
 go_wp2_with fail
 refine HSET.out.mono ?_
 rintro e w1 ⟨lp0, lc0, v0, rfl, hown0, hch0, hbk0, k1⟩
 have nT : ∀ i, w.heap.size ≤ i → ¬ j6 ρ i := fun i hi h => by have := hρ i h; omega
 have hvals : nz w1 (.slice lp0 (m0.settled.length + 1) lc0) (Fp v0 :: m0.settled.map (fun n => Xz d n key)) := dx hown0 (by simp)
 have hoff : Fp v0 :: m0.settled.map (fun n => Xz d n key) ≠ [] → ∀ p n c, Value.slice lp0 (m0.settled.length + 1) lc0 = .slice (some p) n c → ¬ j6 ρ p.block := by
   intro _ p n c e
   injection e with e
   have := (hown0.lt p.block (by rw [e]; rfl)).1
   exact nT _ (by omega)
 have hv0 : ∀ p n c, v0 = .slice (some p) n c → ¬ j6 ρ p.block ∧ p.block < w1.heap.size := by
   intro p n c e
   obtain ⟨ad', n', c', e1, e2⟩ := hbk0 p n c e
   rw [← e2]
   exact ⟨(HMV.out ad' n' c' e1).1, Nat.lt_of_lt_of_le (HMV.out ad' n' c' e1).2 k1.size⟩
 have hB1 : B ≤ w1.heap.size := by have := k1.size; omega
 have hfnd := je0 (D.same k1) Z _ (Fp v0 :: m0.settled.map (fun n => Xz d n key)) sts key hvals hoff (by rw [HSTS.out]; simp [R.len]) (by simp; omega) (fun j f st hf hst => by
   rw [HSTS.out] at hst
   cases j with
   | zero =>
     cases hf
     cases hst
     exact jhu hch0 hlm hv0 hB1
   | succ j => exact HLAY.out w1 hB1 j f st hf hst)
 rw [← HG.out] at hfnd
 have HF := hide hfnd
 have hb1 := k1.same HB.out id
 have HB1 := hide hb1
 clear hfnd hvals hoff hv0 hown0 hch0 hbk0 hb1
 go_wp2_with fail
 refine HF.out.mono ?_
 rintro e w2 ⟨k2, D2, Z2, hor⟩
 have hb2 := k2.same HB1.out hρb
 have kW : ja w w2 (fun i => j6 ρ i ∨ i = b) := (k1.mono (fun _ _ h => h.elim)).trans (k2.mono (fun _ _ h => .inl h)) (fun _ _ h => h)
 have HB2 := hide hb2
 clear hb2
 rcases hor with ⟨c, hc, rfl⟩ | ⟨hc, rfl⟩ | ⟨bad, ev, hc, rfl, hev⟩
 · obtain ⟨ck, cv, cg⟩ := c
   have kA := ja.alloc w2 (.cells #[jc ck, jc cv, .bool cg] 88) (fun _ => False)
   have HC := hide hc
   clear hc
   cases cg with
   | true =>
     go_wp2
     go_ret3
     exact ⟨kW.trans kA (fun _ _ h => h.elim), D2.same kA, Z2, .inl ⟨_, HC.out, rfl, kA.same HB2.out id⟩⟩
   | false =>
     go_wp2
     go_ret3
     exact ⟨kW.trans kA (fun _ _ h => h.elim), D2.same kA, Z2, .inl ⟨_, HC.out, rfl, kA.same HB2.out id⟩⟩
 · have kA := ja.alloc w2 (.cells #[jc [], jc [], .bool false] 88) (fun _ => False)
   have HC := hide hc
   clear hc
   unfold ak
   go_wp2
   go_ret3
   exact ⟨kW.trans kA (fun _ _ h => h.elim), D2.same kA, Z2, .inl ⟨_, HC.out, rfl, kA.same HB2.out id⟩⟩
 · obtain ⟨te, ae, rfl⟩ := hev.shape
   have kA := ja.alloc w2 (.cells #[jc [], jc [], .bool false] 88) (fun _ => False)
   have HC := hide hc
   clear hc hev
   have hdg := Gs (kA.same HB2.out id)
   have HDG := hide hdg
   clear hdg
   unfold ak
   go_wp2_with fail
   refine HDG.out.mono ?_
   rintro e w3 ⟨rfl, hb3, k3⟩
   have H3 := hide hb3
   clear hb3
   go_wp2
   go_ret3
   have k4 : ja w2 w3 (fun i => i = b) := (kA.mono (fun _ _ h => h.elim)).trans k3 (fun _ _ h => h)
   exact ⟨kW.trans k4 (fun _ _ h => .inr h), D2.apart k4 (fun i _ e => by rw [e]; exact ⟨hρb, hBb⟩), Z2, .inr ⟨bad, HC.out, rfl, H3.out⟩⟩
end Go.Proofs.YtnipbplghijdmaaGreatDoor
namespace Go.Proofs.YtnipbplghijdmaaGreatDoor
open Go.RowKit Go.Maps Go.WideShapes Go.Shelf
set_option linter.unusedVariables false
attribute [local go_sem] Oper.semAt_some
def Xv : List Jz → je → je × Option Bool
 | [], S => (S, none)
 | st :: r, S =>
   match (st S).2.2 with
   | some bad => ((st S).1, some bad)
   | none => Xv r (st S).1
theorem tq (st : Jz) (r : List Jz) (S : je) : Xv (st :: r) S =
   match (st S).2.2 with
   | some bad => ((st S).1, some bad)
   | none => Xv r (st S).1 := rfl
theorem drop_at {α : Type} {l : List α} {k : Nat} {x : α} (h : l[k]? = some x) : l.drop k = x :: l.drop (k + 1) := by
 have e1 : l[k]'((List.getElem?_eq_some_iff.1 h).1) = x := (List.getElem?_eq_some_iff.1 h).2
 rw [← e1, List.getElem_cons_drop]
def ja6 (P : je → Prop) (E : Nat → Addr) (B : Nat) (ρ : Nat → jw) (d : Nat) (w : World) (G : je × Option Bool) (e : Ending) (w' : World) : Prop :=
 ja w w' (j6 ρ) ∧ Dk E B w' ρ d G.1 ∧ P G.1 ∧ ((G.2 = none ∧ e = .returned .nilIface) ∨ ∃ bad ev, G.2 = some bad ∧ e = .returned ev ∧ ve E w' ev bad)
theorem fe {fn : Func} {x : Tmp} (h : fn.results = #[.cell x 128]) {tmps : Array Value} {w : World} {b : Nat} {ev : Value} (hx : tmps.getD x undef = .pointer (some ⟨b, 0, none⟩)) (h3 : w.heap[b]? = some (.cells #[ev] 128 (0, 0))) :
   (results fn tmps).run Tryz.prog w = .ok ev w := by
 have l3 := Uu h3
 have hx' : tmps[x]?.getD undef = .pointer (some ⟨b, 0, none⟩) := by simpa using hx
 simp [results, h, hx', asAddr, l3]
set_option maxRecDepth 100000 in
set_option maxHeartbeats 1000000 in
theorem Od {P : je → Prop} {E : Nat → Addr} {B : Nat} {ρ : Nat → jw} {d : Nat} {S : je} {w : World} {b : Nat} {t : TypeId} (m0 : Ref.Man) (rv last mv : Value) (deg cl : Bool) (bls : List (List (List Ref.Ch))) (H : Env E B w) (D : Dk E B w ρ d S) (Z : P S) (R : cz P m0.settled bls)
   (hb : w.heap[b]? = some (.cells (yl (.pointer (some ⟨d, 0, none⟩)) (jf m0.next) (jf m0.last) (jf m0.log) (jf m0.base) rv last mv deg cl) t (0, 0))) (hv : J2 w rv m0.runs) (hl : m0.runs.length < 262144) :
   Calls Tryz.prog 179 #[.pointer (some ⟨b, 0, none⟩)] w (ja6 P E B ρ d w (Xv (y7 bls []) S)) := by
 have hsl := ym m0
 have kA := ja.alloc w (.cells #[.nilIface] 128) (fun _ => False)
 have y0 := jd w (.cells #[.nilIface] 128)
 have hset := Yo d m0 rv last mv deg cl [] (H.same kA) (kA.same hb id) (hv.same kA) (by omega) R.num
 have hρ := D.rep.lt
 have hBw := D.size
 have nT : ∀ i, w.heap.size ≤ i → ¬ j6 ρ i := fun i hi h => by have := hρ i h; omega
 have HLAY : Hid (∀ (W : World), B ≤ W.heap.size → ∀ (k : Nat) f st, (m0.settled.map (fun n => Xz d n []))[k]? = some f → (y7 bls [])[k]? = some st → F9 P E B ρ d W f st) := fun W hW => R.jbm hW []
 have HLEN : Hid (m0.settled.length = (y7 bls []).length) := by unfold Hid; simp [R.len]
 obtain ⟨sts, hsts⟩ : ∃ sts, sts = y7 bls [] := ⟨_, rfl⟩
 obtain ⟨fs, hfs⟩ : ∃ fs, fs = m0.settled.map (fun n => Xz d n []) := ⟨_, rfl⟩
 have hlf : fs.length = m0.settled.length := by rw [hfs]; simp
 rw [← hsts] at HLAY HLEN ⊢
 rw [← hfs] at HLAY hset
 obtain ⟨ns, hns⟩ : ∃ ns, ns = m0.settled.length := ⟨_, rfl⟩
 rw [← hns] at hset HLEN hsl hlf
 have HSET := hide hset
 have HY := hide y0
 have HLF := hide hlf
 clear hset y0 hsts hfs hns hb hlf R
 refine (callsIn_wide (n := 9)).1 ?_
 refine callsIn_of_wp_marks Tryz.func179 rfl trivial ?_ rfl
 simp only [Tryz.ntmps179, List.size_toArray, List.length_cons, List.length_nil, Nat.reduceAdd, Nat.reduceSub, Array.replicate_succ, Array.replicate_zero, List.push_toArray, List.append_toArray, List.nil_append, List.cons_append]
 gi_wp2_with fail
 refine ⟨trivial, (callsIn_wide.2 HSET.out).mono ?_⟩
 rintro e w1 ⟨lp, lc, rfl, hown, k1⟩
 have kW : ja w w1 (fun _ => False) := kA.trans k1 (fun _ _ h => h)
 have y1 := k1.same HY.out id
 have hs1 := lt_of_heap y1
 have hB1 : B ≤ w1.heap.size := by omega
 have HFS : Hid (nz w1 (.slice lp ns lc) fs) := dx hown HLF.out
 have HOFF : Hid (∀ p n c, Value.slice lp ns lc = .slice (some p) n c → ¬ j6 ρ p.block) := by
   intro p n c e
   injection e with e
   have := (hown.lt p.block (by rw [e]; rfl)).1
   simp at this
   exact nT _ (by omega)
 have HY1 := hide y1
 clear hown y1
 gi_wp2
 refine wpIn_loop (fun a W => ∃ (k : Nat) (Sk : je) (Ds : List Nat) (u4 u11 u12 u13 u14 u20 : Value), a = { tmps := #[.pointer (some ⟨b, 0, none⟩), undef, .pointer (some ⟨w.heap.size, 0, none⟩), undef, u4, undef, undef, .pointer (some ⟨b, 0, none⟩), .slice lp ns lc, j4 ns, j4 k, u11, u12, u13, u14, undef, undef, undef, undef, undef, u20], defers := marks Ds } ∧ k ≤ ns ∧ Dk E B W ρ d Sk ∧ P Sk ∧ Hid (Xv sts S = Xv (sts.drop k) Sk) ∧ W.heap[w.heap.size]? = some (.cells #[.nilIface] 128 (0, 0)) ∧ ja w1 W (j6 ρ) ∧ Jy W Ds ∧ (∀ D ∈ Ds, w.heap.size + 1 ≤ D))
   (fun a _ => ns - (intOf (a.tmps.getD 10 undef)).toNat) ?_ ?_
 · exact ⟨0, S, [], _, _, _, _, _, _, rfl, Nat.zero_le _, D.same kW, Z, rfl, HY1.out, ja.refl _ _, Jy.nil _, fun D h => by cases h⟩
 · rintro a W ⟨k, Sk, Ds, u4, u11, u12, u13, u14, u20, rfl, hk, Dk', Zk, hfind, g0, hkw1, hmk, hds⟩
   have hkw : ja w W (j6 ρ) := (kW.mono (fun _ _ h => h.elim)).trans hkw1 (fun _ _ h => h)
   dsimp only
   rcases Nat.lt_or_ge k ns with hlt | hge
   · obtain ⟨f, hf⟩ : ∃ f, fs[k]? = some f := ⟨_, List.getElem?_eq_getElem (by have := HLF.out; omega)⟩
     obtain ⟨st, hst⟩ : ∃ st, sts[k]? = some st := ⟨_, List.getElem?_eq_getElem (by have := HLEN.out; omega)⟩
     obtain ⟨Z1, gf, rvv, lb, Needs, Start, rfl, heg, hgv, hN, hSt⟩ := HLAY.out w hBw k f st hf hst W Sk hkw Dk' Zk
     have hvals : nz W (.slice lp ns lc) fs := HFS.out.keep hkw1 (fun h p n c e => HOFF.out p n c e)
     have hvals2 : nz W (.slice lp fs.length lc) fs := by rw [HLF.out]; exact hvals
     obtain ⟨bb, o, rfl, e0⟩ := hvals2.at hf
     have hsW := hkw1.size
     have HST := hide hst
     have HB := hide g0
     have hlti : (k : Int) < (ns : Int) := by omega
     obtain ⟨LL, hLL⟩ : ∃ LL, LL = (st Sk).2.1 := ⟨_, rfl⟩
     obtain ⟨LE, hLE⟩ : ∃ LE, LE = (st Sk).2.2 := ⟨_, rfl⟩
     rw [← hLL, ← hLE] at hgv
     have HGV := hide hgv
     have HLE := hide hLE
     have hdlt : ∀ D ∈ Ds, D < W.heap.size := fun D h => lt_of_heap (hmk.2 D h)
     clear g0 hst hgv hf hLL hLE hvals hvals2
     gi_wp2
     refine Z7 rfl (by decide) (gf := gf) (rv := rvv) (lb := lb) rfl trivial heg (HGV.out 8) (fun _ => rfl) (fun i h => by have := hρ i h; omega) (fun i h => by have := hN i h; omega) hSt
       (fun pre C W' => (∃ m, pre = (LL.take m).map Jd ∧ m ≤ LL.length) ∧ W'.heap[w.heap.size]? = some (.cells #[.nilIface] 128 (0, 0)) ∧ ja w1 W' (j6 ρ) ∧ Jy W' Ds ∧ (∀ i, C i ↔ i = w.heap.size))
       (fun c pre C W' => c = .ret ∧ ja w W' (j6 ρ) ∧ Jy W' Ds ∧ ∃ bad ev, LE = some bad ∧ ve E W' ev bad ∧ W'.heap[w.heap.size]? = some (.cells #[ev] 128 (0, 0)))
       ?hI ?hIx (fun i => i = w.heap.size) ?hC0 ?h0 ?round ?done ?stop
     case hI =>
       rintro pre C A B' ⟨hm, g0, hkA, hmA, hC⟩ hk
       have out : ∀ i, w.heap.size ≤ i → i < W.heap.size → ¬ (j6 ρ i ∨ (W.heap.size ≤ i ∧ ¬ C i)) := by
         rintro i h1 h2 (h3 | ⟨h3, h4⟩)
         · exact nT i h1 h3
         · omega
       refine ⟨hm, ja.same hk g0 (out _ (by omega) (by omega)), hkA.trans hk (fun i hi h => ?_), hmA.keep hk (fun D hD => out D (by have := hds D hD; omega) (hdlt D hD)), hC⟩
       rcases h with h | ⟨h, _⟩
       · exact h
       · omega
     case hIx =>
       rintro c pre C A B' lp' r ⟨rfl, hkA, hmA, bad, ev, e1, e3, g0⟩ hlp hnc hr hk
       have hne : ∀ i, i < W.heap.size → ¬ i = lp' := fun i hi => by omega
       obtain ⟨g, he, hg⟩ := e3
       exact ⟨rfl, hkA.trans hk (fun i hi e => by omega), hmA.keep hk (fun D hD => hne D (hdlt D hD)), bad, ev, e1, ⟨g, he.keep hk (fun i c e hc => by rw [e, hr] at hc; cases hc), hg⟩, hk.same g0 (hne _ (by omega))⟩
     case hC0 =>
       rintro i h
       exact ⟨by omega, nT i (by omega), fun h => by have := hN i h; omega⟩
     case h0 => exact ⟨⟨0, rfl, Nat.zero_le _⟩, HB.out, hkw1, hmk, fun _ => Iff.rfl⟩
     case round =>
       rintro lp' pre x C W1 hlp ⟨rl, hrl⟩ hnl hbd ⟨⟨m, rfl, hm⟩, g0, hkA, hmA, hC⟩ hcan
       have hlt1 := lt_of_heap hrl
       have hne : ∀ i, i < W.heap.size → ¬ i = lp' := fun i hi => by omega
       rcases hcan with ⟨k0, c, e, hk0, rfl⟩ | ⟨bad, he, e, hx1, hx2⟩
       · have hk2 := (List.getElem?_eq_some_iff.1 hk0).1
         obtain rfl : m = k0 := by
           have := congrArg List.length e
           simp at this
           omega
         have E1 := hide (lh hk0).symm
         clear e
         dsimp only [encI, Jd]
         gi_wp2
         refine ⟨ja.refl W1 _, ?_⟩
         intro W2 ka _
         have HC := hide hC
         have H0 := hide (ka.same g0 (hne _ (by omega)))
         have hmA2 : Jy W2 Ds := hmA.keep ka (fun D hD => hne D (hdlt D hD))
         have hkA2 : ja w1 W2 (j6 ρ) := hkA.trans ka (fun i hi e => by omega)
         clear g0 hC
         gi_wp2
         exact ⟨C, fun i h => .inl h, fun i h => Nat.lt_of_lt_of_le (hbd i h) ka.size, ja.refl _ _, ⟨m + 1, E1.out, hk2⟩, H0.out, hkA2, hmA2, HC.out⟩
       · obtain ⟨x1, ev⟩ := x
         simp only at hx1 hx2
         subst hx1
         obtain ⟨tv, av, rfl⟩ := hx2.shape
         have HHE := hide he
         clear e he
         dsimp only [encI, ak]
         gi_wp2
         refine ⟨ja.refl W1 _, ?_⟩
         intro W2 ka _
         have G0 := hide g0
         have g0' := ka.same g0 (hne _ (by omega))
         have a0 := cell_of_heap (o := 0) g0'
         have f0 := frozen_of_heap (o := 0) g0'
         simp at a0
         have hmA2 : Jy W2 Ds := hmA.keep ka (fun D hD => hne D (hdlt D hD))
         have hkA2 : ja w1 W2 (j6 ρ) := hkA.trans ka (fun i hi e => by omega)
         have H0 := hide g0'
         have HC := hide hC
         have HX := hide hx2
         clear g0 g0' hC hx2
         gi_wp2
         have kk := ja.setCell W2 ⟨w.heap.size, 0, none⟩ (.iface tv (.pointer (some av)))
         refine ⟨C, fun i h => .inl h, fun i h => Nat.lt_of_lt_of_le (hbd i h) (Nat.le_trans ka.size kk.size), kk.mono (fun i _ h => (HC.out i).2 h), rfl, ((kW.mono (fun _ _ h => h.elim)).trans hkA2 (fun _ _ h => h)).trans kk (fun i hi h => ?_), hmA2.keep kk (fun D hD h => by have := hds D hD; have e' : D = w.heap.size := h; omega), bad, .iface tv (.pointer (some av)), HHE.out, ?_, ?_⟩
         · have e' : i = w.heap.size := h
           omega
         · obtain ⟨g, hg, hg2⟩ := HX.out
           have kw : ja W1 (W2.setCell ⟨w.heap.size, 0, none⟩ (.iface tv (.pointer (some av)))) (fun i => i = lp' ∨ i = w.heap.size) := (ka.mono (fun _ _ h => .inl h)).trans kk (fun _ _ h => .inr h)
           refine ⟨g, hg.keep kw (fun i c h hc => ?_), hg2⟩
           rcases h with h | h
           · rw [h, hrl] at hc; cases hc
           · rw [h, G0.out] at hc; cases hc
         · exact (jb (o := 0) H0.out _).trans rfl
     case done =>
       rintro D' lp' C xs W2 W3 hD hlp hne hnd hnl ⟨DK, hfin⟩ hk ⟨⟨m, rfl, hm⟩, hbx3, hkA, hmA, hC⟩ hK
       have hml : LE = none := by
         rcases hfin with ⟨h1, h2⟩ | ⟨bad, ev, h1, ⟨t, a, rfl⟩, h2⟩
         · exact h1
         · have h3 : (ak, Value.iface t (.pointer (some a))) ∈ (LL.take m).map Jd := by rw [h2]; simp
           obtain ⟨c, _, h4⟩ := List.mem_map.1 h3
           cases h4
       have HNX : Hid (Xv sts S = Xv (sts.drop (k + 1)) (st Sk).1) := by
         unfold Hid
         rw [hfind.out, drop_at HST.out, tq, ← HLE.out, hml]
       have DK3 := DK.apart hk (fun i hi e => by rw [e]; exact ⟨nT lp' (by omega), by omega⟩)
       have hnew : D' ∉ Ds := fun h => by have := hdlt D' h; omega
       have HBX3 := hide hbx3
       have HHK := hide hK
       have HDK3 := hide DK3
       clear hml hfin DK DK3 hbx3 hK
       gi_wp2
       refine ⟨⟨k + 1, (st Sk).1, D' :: Ds, _, _, _, _, _, _, rfl, hlt, HDK3.out, Z1, HNX, HBX3.out, hkA, hmA.cons HHK.out hnew, fun E hE => ?_⟩, ?_⟩
       · rcases List.mem_cons.1 hE with rfl | hE
         · omega
         · exact hds E hE
       · simp [intOf]
         omega
     case stop =>
       rintro D' lp' C c pre W2 W3 hD hlp hne hnd hnl DK hk ⟨rfl, hkA, hmA, bad, ev, e1, e3, g0⟩ hK
       have hm2 : Jy W3 (D' :: Ds) := hmA.cons hK (fun h => by have := hdlt D' h; omega)
       have DK3 := DK.apart hk (fun i hi e => by rw [e]; exact ⟨nT lp' (by omega), by omega⟩)
       have hge : ∀ i, i ∈ D' :: Ds → w.heap.size + 1 ≤ i := fun i h => by
         rcases List.mem_cons.1 h with rfl | h
         · omega
         · exact hds i h
       have kS := Xm W3 (D' :: Ds)
       have z0 := kS.same g0 (fun h => by have := hge _ h; omega)
       have eF : Xv sts S = ((st Sk).1, some bad) := by rw [hfind.out, drop_at HST.out, tq, ← HLE.out, e1]
       gi_wp2
       refine Yf (Ds := D' :: Ds) (by simp) hm2 ?_
       refine ⟨ev, fe rfl rfl z0, ?_⟩
       rw [eF]
       refine ⟨hkA.trans kS (fun i hi h => by have := hge i h; omega), DK3.apart kS (fun i hi h => ⟨nT i (by have := hge i h; omega), by have := hge i h; omega⟩), Z1, .inr ⟨bad, ev, rfl, rfl, ?_⟩⟩
       obtain ⟨g, he, hg⟩ := e3
       refine ⟨g, he.keep kS (fun i c h hc => ?_), hg⟩
       rw [hm2.2 i h] at hc
       cases hc
   · obtain rfl : k = ns := by omega
     have a0 := cell_of_heap (o := 0) g0
     have f0 := frozen_of_heap (o := 0) g0
     simp at a0
     have H0 := hide g0
     clear g0
     gi_wp2
     have kk := ja.setCell W ⟨w.heap.size, 0, none⟩ .nilIface
     have hm2 : Jy (W.setCell ⟨w.heap.size, 0, none⟩ .nilIface) Ds := hmk.keep kk (fun D hD h => by have := hds D hD; have e' : D = w.heap.size := h; omega)
     have kS := Xm (W.setCell ⟨w.heap.size, 0, none⟩ .nilIface) Ds
     have z0 := kS.same ((jb (o := 0) H0.out .nilIface).trans rfl) (fun h => by have := hds _ h; omega)
     have kkS : ja W (shutAll (W.setCell ⟨w.heap.size, 0, none⟩ .nilIface) Ds) (fun i => i = w.heap.size ∨ i ∈ Ds) := (kk.mono (fun _ _ h => .inl h)).trans kS (fun _ _ h => .inr h)
     refine Yf (by simp) hm2 ?_
     refine ⟨.nilIface, fe rfl rfl z0, ?_⟩
     have eF : Xv sts S = (Sk, none) := by rw [hfind.out, HLEN.out, List.drop_length]; rfl
     rw [eF]
     have hge : ∀ i, (i = w.heap.size ∨ i ∈ Ds) → w.heap.size ≤ i := fun i h => by
       rcases h with h | h
       · omega
       · have := hds i h
         omega
     exact ⟨hkw.trans kkS (fun i hi h => by have := hge i h; omega), Dk'.apart kkS (fun i hi h => ⟨nT i (hge i h), by have := hge i h; omega⟩), Zk, .inl ⟨rfl, rfl⟩⟩
end Go.Proofs.YtnipbplghijdmaaGreatDoor
namespace Go.Proofs.YtnipbplghijdmaaGreatDoor
open Go.RowKit Go.Maps Go.WideShapes
set_option linter.unusedVariables false
set_option maxRecDepth 100000 in
theorem Mg {w : World} (b : Nat) : Calls Tryz.prog 67 #[.pointer (some ⟨b, 0, none⟩), .nilIface] w fun e w' => e = .returned (.int .i64 0) ∧ w' = w := by
 go_enter Tryz.func67, Tryz.ntmps67
 go_wp2
 go_ret
 exact ⟨rfl, rfl⟩
def Yy : Str := [109, 97, 110, 105, 102, 101, 115, 116]
set_option maxHeartbeats 1000000 in
set_option maxRecDepth 100000 in
theorem I4 {E : Nat → Addr} {B : Nat} {w : World} {b : Nat} {t : TypeId} (m : Ref.Man) (dv rv last mv : Value) (deg cl : Bool) (H : Env E B w)
   (hb : w.heap[b]? = some (.cells (yl dv (jf m.next) (jf m.last) (jf m.log) (jf m.base) rv last mv deg cl) t (0, 0))) (hv : J2 w rv m.runs) (hl : m.runs.length < 524288) (hs : ∀ n ∈ m.settled, n ≤ 9223372036854775807) (hlog : m.log ≤ 9223372036854775807) :
   Calls Tryz.prog 182 #[.pointer (some ⟨b, 0, none⟩)] w fun e w' => ∃ p c, e = .returned (.slice p ((qi m).length + 1) c) ∧ w'.ownsRow w.heap.size 9 1 (.slice p ((qi m).length + 1) c) ((qi m).length + 1) ((qi m ++ [Yy]).map jc) ∧ ja w w' (fun _ => False) := by
 obtain ⟨j0, hj, hy0, hy1, hy2⟩ := info_parts Tryz.Ei
 have hfl := Ed m rv H hv (by omega) hs hlog
 have hsl := ym m
 have hlen : (qi m).length = m.settled.length + 1 := by unfold qi; simp
 have d1 := cell_of_heap (o := 1) hb
 have d2 := cell_of_heap (o := 2) hb
 have d3 := cell_of_heap (o := 3) hb
 have d4 := cell_of_heap (o := 4) hb
 have d5 := cell_of_heap (o := 5) hb
 simp at d1 d2 d3 d4 d5
 generalize qi m = F at hfl hlen ⊢
 obtain ⟨q, hq⟩ : ∃ q, q = F.length := ⟨_, rfl⟩
 rw [← hq] at hfl hlen ⊢
 have hq2 : q < 524290 := by omega
 have HF := hide hfl
 have HQ := hide hq
 clear hfl hb hlen hq
 go_enter Tryz.func182, Tryz.ntmps182
 go_wp2_with fail
 refine HF.out.mono ?_
 rintro e w1 ⟨p1, c1, rfl, hown1, k1⟩
 have hownA := hown1.alloc (.cells #[jc Yy] 9)
 have h63 : Hid (q + 1 ≤ maxLen) := by unfold Hid maxLen; omega
 have hbs : Hid ((q + 1) * 16 ≤ 140737488355328) := by unfold Hid; omega
 go_wp2_with (at_builtin; go_must (refine jm _ rfl (.tmp 7) (.tmp 8) 40 rfl w.heap.size 9 j0 (.string ⟨#[]⟩) 1 16 Tryz.underlying40 hj hy0 hy1 hy2 rfl Nat.zero_lt_one _ _ _ rfl hownA ⟨w1.heap.size, 0, none⟩ 1 1 [jc Yy] rfl rfl (cell_one_new _ _ _) (Re _) h63.out hbs.out (k1.more _).size ?_); intro p3 cp3 w3 hown3 hg3 hloc3)
 have k3 : ja w w3 (fun _ => False) := (k1.more _).grow hg3 (fun j e hj => by have := (hown1.lt j e).1; omega)
 go_ret
 refine ⟨p3, cp3, rfl, ?_, k3⟩
 rw [List.map_append]
 exact hown3
theorem Xl {lo : Nat} (hlo : lo ≤ 9223372036854775807) : (j3 lo).length < 1099511627776 := by
 have := Jf hlo
 unfold j3
 simp only [List.length_append, List.length_cons, List.length_nil]
 omega
theorem Ht (ys : Array Value) (w : World) : (callFunc 159 ys).run Tryz.prog w = .ok (.enter 159 ys) w := by kernel_rfl
set_option maxHeartbeats 1000000 in
set_option maxRecDepth 100000 in
theorem Tj {E : Nat → Addr} {B : Nat} {w : World} {ρ : Nat → jw} {d b : Nat} {S : je} {t : TypeId} {nx la ba ru last mv : Value} {lo : Nat} {deg cl : Bool} (D : Dk E B w ρ d S) (H : Env E B w) (hlo : lo ≤ 9223372036854775807)
   (hb : w.heap[b]? = some (.cells (yl (.pointer (some ⟨d, 0, none⟩)) nx la (j4 lo) ba ru last mv deg cl) t (0, 0))) :
   Calls Tryz.prog 113 #[.pointer (some ⟨b, 0, none⟩)] w (gq E B w ρ d (S.Qq (j3 lo))) := by
 have d0 := cell_of_heap (o := 0) hb
 have d3 := cell_of_heap (o := 3) hb
 simp at d0 d3
 have hlen := Xl hlo
 have HBD : Hid (w.drew.heap[b]? = some (.cells (yl (.pointer (some ⟨d, 0, none⟩)) nx la (j4 lo) ba ru last mv deg cl) t (0, 0))) := hb
 have HED : Env E B w.drew := H.keep (ja.drew w (fun _ => False)) (fun _ h => h.elim)
 have DD := D.same (ja.drew w _)
 clear hb
 go_enter Tryz.func113, Tryz.ntmps113
 go_wp2_with fail
 go_region_law (first
   | (refine jo rfl 63 [.tmp 11] _ rfl Qm [.int .i64 lo] (by simp [Act.eval]) (Q9 lo hlo HED) ?_
      rintro e w1 ⟨rfl, k1⟩
      have hb1 := k1.same HBD.out id
      have c0 := cell_of_heap (o := 0) hb1
      have c3 := cell_of_heap (o := 3) hb1
      simp at c0 c3
      clear hb1
      have D1 := DD.same k1
      refine ⟨_, rfl, ?_⟩)
   | (refine jo rfl 159 [.tmp 6, .tmp 12] _ rfl Ht [.pointer (some ⟨d, 0, none⟩), jc (j3 lo)] (by simp [Act.eval]) (Ar D1 (j3 lo) hlen) ?_
      rintro e w2 hpost
      have hret : ∃ v, e = .returned v := by
        obtain ⟨_, _, _, hr⟩ := hpost
        rcases hr with ⟨_, rfl⟩ | ⟨_, v, rfl, _⟩
        · exact ⟨_, rfl⟩
        · exact ⟨_, rfl⟩
      obtain ⟨v, rfl⟩ := hret
      have HP := hide hpost
      clear hpost
      refine ⟨_, rfl, ?_⟩))
 all_goals
   go_wp2
   go_ret
   exact gq.before (yf.of (((ja.drew w (fun _ => False)).trans k1 (fun _ _ h => h))) (fun _ _ h => h.elim)) HP.out
theorem Vm (ys : Array Value) (w : World) : (callFunc 64 ys).run Tryz.prog w = .ok (.enter 64 ys) w := by kernel_rfl
theorem Oc (ys : Array Value) (w : World) : (callFunc 62 ys).run Tryz.prog w = .ok (.enter 62 ys) w := by kernel_rfl
theorem je8 {E : Nat → Addr} {B : Nat} {w : World} {ρ : Nat → jw} {d k : Nat} {S : je} (D : Dk E B w ρ d S) (F : Fit k S) (hk : k < 549755813888) (nm : Str) (hnl : nm.length < 1099511627776) {f : Nat} {a : yw} (hA : S.at nm = some f) (ha : S.files f = some a) (v : Value) (b : List UInt8) (hpos : 0 < b.length) (hbl : b.length < 549755813888) (hv : Bytes w v b) (hoff : Off ρ v) :
   Calls Tryz.prog 62 #[.pointer (some ⟨d, 0, none⟩), jc nm, v] w fun e w' => ∃ S' ok ρ' cc, e = .returned (.int .i64 cc) ∧ Hid (jfo nm b S S' ok) ∧ yf w ρ w' ρ' ∧ Dk E B w' ρ' d S' ∧ Hid ((ok = true ∧ cc = (0 : Int)) ∨ (ok = false ∧ cc = 1)) := by
 have Z : Small S := F.small (by omega)
 have ht : total S.files S.names < 1099511627776 := by have := F.total; omega
 obtain ⟨p, c, rfl, hb1, hb2, hb3, hb4⟩ := id hv
 obtain ⟨ad, rfl⟩ : ∃ ad, p = some ad := by
   cases p with
   | some ad => exact ⟨ad, rfl⟩
   | none => have := hb3 rfl; omega
 have harg : Arg w ρ (.slice (some ad) b.length c) b := .inr ⟨ad, c, rfl, hb1, hoff _ _ _ rfl, fun j u hu => by
   rw [List.getElem?_map] at hu
   obtain ⟨x, hx, rfl⟩ := Option.map_eq_some_iff.1 hu
   exact (hb4 ad rfl).2 j x hx⟩
 refine (Gx nm b ad c D.rep Z hnl hA ha hpos (by omega) harg (by omega) hb2 ht).mono ?_
 rintro e w3 ⟨ρ3, g3, ⟨hx, rfl, R3⟩ | ⟨hx, hy, rfl, R3⟩⟩
 · exact ⟨_, false, ρ3, 1, rfl, ⟨f, a, hA, ha, .inl ⟨hx, rfl, rfl⟩⟩, g3, D.step g3 R3, .inr ⟨rfl, rfl⟩⟩
 · exact ⟨_, true, ρ3, 0, rfl, ⟨f, a, hA, ha, .inr ⟨hx, hy, rfl, rfl⟩⟩, g3, D.step g3 R3, .inl ⟨rfl, rfl⟩⟩
end Go.Proofs.YtnipbplghijdmaaGreatDoor
namespace Go.Proofs.YtnipbplghijdmaaGreatDoor.Ref
set_option linter.unusedVariables false
structure St where
 m : Man
 bs : List (List Ch)
 bls : List (List Ch)
def St.last (s : St) : Nat := s.m.last + s.bs.length
def St.mem (s : St) : List Ch := memory s.bs
def St.all (s : St) : List Ch := merged (s.mem :: s.bls)
def St.tell (s : St) : List Ch := there s.all
def St.live (s : St) : List Ch := there (merged s.bls)
def St.write (s : St) (b : List Ch) : St := ⟨s.m, s.bs ++ [b], s.bls⟩
def Man.xz (m : Man) (last : Nat) : Man := ⟨m.next + 2, last, m.next + 1, m.base, m.next :: m.runs⟩
def Man.zi (m : Man) : Man := ⟨m.next + 1, m.last, m.log, m.next, []⟩
def Man.bare (m : Man) : Man := ⟨m.next, m.last, m.log, 0, []⟩
def St.flush (s : St) : St := if s.bs = [] then s else ⟨s.m.xz s.last, [], s.mem :: s.bls⟩
def St.compact (s : St) : St := if s.m.runs = [] then s else if s.live = [] then ⟨s.m.bare, s.bs, []⟩ else ⟨s.m.zi, s.bs, [s.live]⟩
def Man.first : Man := ⟨2, 0, 1, 0, []⟩
def St.first : St := ⟨Man.first, [], []⟩
structure jbt (l : List Ch) : Prop where
 rising : ji l
 some : l ≠ []
 allowed : ∀ c ∈ l, allowed c = true
 few : l.length < 65536
structure St.Ok (s : St) : Prop where
 good : s.m.Good
 runs : s.m.runs.length < 65535
 len : s.bls.length = s.m.settled.length
 bl : ∀ l ∈ s.bls, jbt l
 log : ∀ b ∈ s.bs, Ji b = true
 cap : s.last ≤ 1000000000
theorem St.Ok.first : St.first.Ok :=
 ⟨by refine ⟨by decide, by decide, by decide, by decide⟩, by decide, rfl, fun l h => (by cases h), fun b h => (by cases h), by decide⟩
theorem St.Ok.write {s : St} (h : s.Ok) {b : List Ch} (hb : Ji b = true) (hc : s.last < 1000000000) : (s.write b).Ok :=
 ⟨h.good, h.runs, h.len, h.bl, fun x hx => by
   rcases List.mem_append.1 hx with hx | hx
   · exact h.log x hx
   · rw [List.mem_singleton.1 hx]; exact hb, by
   show s.m.last + (s.bs ++ [b]).length ≤ 1000000000
   unfold St.last at hc
   rw [List.length_append, List.length_singleton]
   omega⟩
theorem Uo {l more : List Ch} (h : ji l) {x : Ch} (hx : x ∈ over l more) : x ∈ l ∨ x ∈ more := by
 induction more generalizing l with
 | nil => exact .inl hx
 | cons c r ih =>
   have e : over l (c :: r) = over (put l c) r := rfl
   rw [e, Xg h] at hx
   rcases ih (Js h) hx with hx | hx
   · rcases Rl hx with hx | hx
     · exact .inr (hx ▸ List.mem_cons_self)
     · exact .inl hx
   · exact .inr (List.mem_cons_of_mem _ hx)
theorem ry {bs : List (List Ch)} {x : Ch} (hx : x ∈ memory bs) : ∃ b ∈ bs, x ∈ b := by
 have H : ∀ (bs : List (List Ch)) (l : List Ch), ji l → ∀ x, x ∈ bs.foldl over l → x ∈ l ∨ ∃ b ∈ bs, x ∈ b := by
   intro bs
   induction bs with
   | nil => intro l _ x h; exact .inl h
   | cons b r ih =>
     intro l hl x h
     rcases ih _ (zl hl) x h with h | ⟨c, hc, h⟩
     · rcases Uo hl h with h | h
       · exact .inl h
       · exact .inr ⟨b, List.mem_cons_self, h⟩
     · exact .inr ⟨c, List.mem_cons_of_mem _ hc, h⟩
 rcases H bs [] List.Pairwise.nil x hx with h | h
 · cases h
 · exact h
theorem Ce (c : Ch) (l : List Ch) : (ins c l).length ≤ l.length + 1 ∧ l.length ≤ (ins c l).length ∧ 1 ≤ (ins c l).length := by
 induction l with
 | nil => simp [ins]
 | cons x r ih =>
   unfold ins
   split
   · simp
   · split
     · simp
     · simp only [List.length_cons]; omega
theorem Ao {l more : List Ch} (h : ji l) : (over l more).length ≤ l.length + more.length ∧ l.length ≤ (over l more).length ∧ (more ≠ [] → 1 ≤ (over l more).length) := by
 induction more generalizing l with
 | nil => exact ⟨Nat.le_refl _, Nat.le_refl _, fun e => (e rfl).elim⟩
 | cons c r ih =>
   have e : over l (c :: r) = over (put l c) r := rfl
   rw [e, Xg h]
   have h1 := ih (Js (c := c) h)
   have h2 := Ce c l
   rw [List.length_cons]
   exact ⟨by omega, by omega, fun _ => by omega⟩
theorem Gh {bs : List (List Ch)} (hb : ∀ b ∈ bs, Ji b = true) (hn : bs ≠ []) : memory bs ≠ [] := by
 obtain ⟨b, hm⟩ := List.exists_mem_of_ne_nil bs hn
 intro e
 have H : ∀ (bs : List (List Ch)) (l : List Ch), ji l → (∀ b ∈ bs, Ji b = true) → bs ≠ [] → 1 ≤ (bs.foldl over l).length := by
   intro bs
   induction bs with
   | nil => intro l _ _ h; exact (h rfl).elim
   | cons b r ih =>
     intro l hl ha _
     have hb := (Jb b).1 (ha b List.mem_cons_self)
     have hne : b ≠ [] := fun e => by rw [e] at hb; exact absurd hb.1 (by decide)
     have h1 := (Ao (more := b) hl).2.2 hne
     by_cases hr : r = []
     · rw [hr]; exact h1
     · exact ih _ (zl hl) (fun x hx => ha x (List.mem_cons_of_mem _ hx)) hr
 have := H bs [] List.Pairwise.nil hb hn
 have e2 : bs.foldl over [] = [] := e
 rw [e2] at this
 exact absurd this (by decide)
theorem St.jeg {s : St} (h : s.Ok) (hn : s.bs ≠ []) (hl : s.mem.length < 65536) : jbt s.mem :=
 ⟨yn _, Gh h.log hn, fun c hc => by
   obtain ⟨b, hb, hcb⟩ := ry hc
   exact ((Jb b).1 (h.log b hb)).2.2 c hcb, hl⟩
theorem Man.Qx (m : Man) (last : Nat) : (m.xz last).settled = m.next :: m.settled := by
 unfold Man.settled Man.xz
 split <;> rfl
theorem Man.Good.xz {m : Man} (h : m.Good) {last : Nat} (hl : last ≤ 1000000000) (hn : m.next + 2 ≤ 2000000000) (hn0 : 1 ≤ m.next) : (m.xz last).Good := by
 obtain ⟨h1, h2, h3, h4⟩ := h
 have hs : ∀ n ∈ m.settled, 1 ≤ n ∧ n < m.next := fun n hm => h3 n (List.mem_append.2 (.inl hm))
 refine ⟨hn, hl, ?_, ?_⟩
 · intro n hm
   unfold Man.numbers at hm
   rw [Man.Qx] at hm
   show 1 ≤ n ∧ n < m.next + 2
   rcases List.mem_append.1 hm with hm | hm
   · rcases List.mem_cons.1 hm with rfl | hm
     · omega
     · have := hs n hm; omega
   · have : n = m.next + 1 := List.mem_singleton.1 hm
     omega
 · unfold Man.numbers at h4 ⊢
   rw [Man.Qx]
   show (m.next :: m.settled ++ [m.next + 1]).Nodup
   rw [List.nodup_append] at h4 ⊢
   refine ⟨List.nodup_cons.2 ⟨fun hm => by have := hs _ hm; omega, h4.1⟩, by simp, ?_⟩
   intro a ha b hb
   rw [List.mem_singleton.1 hb]
   rcases List.mem_cons.1 ha with rfl | ha
   · omega
   · have := hs a ha; omega
theorem St.Ok.flush {s : St} (h : s.Ok) (hl : s.mem.length < 65536) (hn : s.m.next + 2 ≤ 2000000000) (hn0 : 1 ≤ s.m.next) (hr : s.m.runs.length + 1 < 65535) : s.flush.Ok := by
 unfold St.flush
 split
 · exact h
 · rename_i hb
   refine ⟨h.good.xz h.cap hn hn0, ?_, ?_, ?_, fun b hb => (by cases hb), ?_⟩
   · show (s.m.next :: s.m.runs).length < 65535
     simpa using hr
   · show (s.mem :: s.bls).length = _
     rw [Man.Qx, List.length_cons, List.length_cons, h.len]
   · intro l hm
     rcases List.mem_cons.1 hm with rfl | hm
     · exact St.jeg h hb hl
     · exact h.bl l hm
   · exact h.cap
theorem Ex (l : List Ch) : ∀ c ∈ there l, c ∈ l := fun c hc => (List.mem_filter.1 hc).1
theorem Cw {ls : List (List Ch)} (h : ∀ l ∈ ls, ji l) {x : Ch} (hx : x ∈ merged ls) : ∃ l ∈ ls, x ∈ l := by
 induction ls with
 | nil => cases hx
 | cons l r ih =>
   rw [Qt] at hx
   rcases Uo (zg r) hx with hx | hx
   · obtain ⟨a, ha, hxa⟩ := ih (fun y hy => h y (List.mem_cons_of_mem _ hy)) hx
     exact ⟨a, List.mem_cons_of_mem _ ha, hxa⟩
   · exact ⟨l, List.mem_cons_self, hx⟩
theorem Cc (ls : List (List Ch)) : (merged ls).length ≤ (ls.map List.length).sum := by
 induction ls with
 | nil => simp [merged]
 | cons l r ih =>
   rw [Qt, List.map_cons, List.sum_cons]
   have := (Ao (more := l) (zg r)).1
   omega
theorem St.jbk {s : St} (h : s.Ok) (hn : s.live ≠ []) (hl : s.live.length < 65536) : jbt s.live :=
 ⟨Qy (zg _) _, hn, fun c hc => by
   obtain ⟨l, hm, hcl⟩ := Cw (fun l hl => (h.bl l hl).rising) (Ex _ c hc)
   exact (h.bl l hm).allowed c hcl, hl⟩
theorem Man.Good.log {m : Man} (h : m.Good) : 1 ≤ m.log ∧ m.log < m.next := h.2.2.1 m.log (List.mem_append.2 (.inr (List.mem_singleton.2 rfl)))
theorem Man.Good.zi {m : Man} (h : m.Good) (hn : m.next + 1 ≤ 2000000000) : m.zi.Good := by
 have hg := h.log
 obtain ⟨h1, h2, h3, h4⟩ := h
 have hne : ¬ m.next = 0 := by omega
 have e : m.zi.numbers = [m.next, m.log] := by
   unfold Man.numbers Man.settled Man.zi
   simp [hne]
 refine ⟨hn, h2, ?_, ?_⟩
 · intro n hm
   rw [e] at hm
   show 1 ≤ n ∧ n < m.next + 1
   rcases List.mem_cons.1 hm with rfl | hm
   · omega
   · rw [List.mem_singleton.1 hm]; omega
 · rw [e]
   simp
   omega
theorem Man.Good.bare {m : Man} (h : m.Good) : m.bare.Good := by
 have hg := h.log
 obtain ⟨h1, h2, h3, h4⟩ := h
 have e : m.bare.numbers = [m.log] := by
   unfold Man.numbers Man.settled Man.bare
   simp
 refine ⟨h1, h2, ?_, ?_⟩
 · intro n hm
   rw [e] at hm
   rw [List.mem_singleton.1 hm]
   exact hg
 · rw [e]; simp
theorem Man.Zl {m : Man} (h : 1 ≤ m.next) : m.zi.settled = [m.next] := by
 unfold Man.settled Man.zi
 have : ¬ m.next = 0 := by omega
 simp [this]
theorem Man.Eu (m : Man) : m.bare.settled = [] := by simp [Man.settled, Man.bare]
theorem St.Ok.compact {s : St} (h : s.Ok) (hl : s.live.length < 65536) (hn : s.m.next + 1 ≤ 2000000000) : s.compact.Ok := by
 have hg := h.good.log
 unfold St.compact
 split
 · exact h
 · split
   · exact ⟨h.good.bare, Nat.zero_lt_succ _, by show _ = s.m.bare.settled.length; rw [Man.Eu]; rfl, fun l hm => (by cases hm), h.log, h.cap⟩
   · rename_i hb
     refine ⟨h.good.zi hn, Nat.zero_lt_succ _, by show _ = s.m.zi.settled.length; rw [Man.Zl (by omega)]; rfl, fun l hm => ?_, h.log, h.cap⟩
     rw [List.mem_singleton.1 hm]
     exact St.jbk h hb hl
theorem Zc {l : List Ch} (h : ji l) (k : List UInt8) : xw (there l) k = (xw l k).filter (fun c => !c.gone) := by
 induction l with
 | nil => rfl
 | cons x r ih =>
   have h' := h
   unfold ji at h
   rw [List.pairwise_cons] at h
   have hr := ih h.2
   rw [qy]
   by_cases hx : x.key = k
   · have hno : xw r k = none := Yt (fun c hc e => by have := h.1 c hc; rw [hx, e] at this; exact List.lt_irrefl _ this)
     rw [hno] at hr
     rw [if_pos hx]
     by_cases hg : x.gone = true
     · have e : there (x :: r) = there r := by unfold there; rw [List.filter_cons_of_neg (by simp [hg])]
       rw [e, hr]
       simp [Option.filter, hg]
     · have e : there (x :: r) = x :: there r := by unfold there; rw [List.filter_cons_of_pos (by simp [hg])]
       rw [e, qy, if_pos hx]
       simp [Option.filter, hg]
   · rw [if_neg hx]
     by_cases hg : x.gone = true
     · have e : there (x :: r) = there r := by unfold there; rw [List.filter_cons_of_neg (by simp [hg])]
       rw [e, hr]
     · have e : there (x :: r) = x :: there r := by unfold there; rw [List.filter_cons_of_pos (by simp [hg])]
       rw [e, qy, if_neg hx, hr]
theorem Jg {l : List Ch} (h : ji l) : ji (there l) := Qy h _
theorem Il {l m : List Ch} (hl : ji l) (hm : ji m) : there (over (there l) m) = there (over l m) := by
 refine o7 (Jg (zl (Jg hl))) (Jg (zl hl)) (fun k => ?_)
 rw [Zc (zl (Jg hl)), Zc (zl hl), bg (Jg hl) hm, bg hl hm, Zc hl]
 cases xw m k with
 | some c => rfl
 | none =>
   cases xw l k with
   | none => rfl
   | some c => by_cases hg : c.gone = true <;> simp [Option.filter, hg]
theorem jd7 {l m : List Ch} (hl : ji l) (hm : ji m) (c : Ch) : over l (ins c m) = ins c (over l m) := by
 refine o7 (zl hl) (Js (zl hl)) (fun k => ?_)
 rw [bg hl (Js hm), Bi hm, Bi (zl hl), bg hl hm]
 split <;> rfl
theorem jb9 {l m : List Ch} (hl : ji l) (hm : ji m) (b : List Ch) : over l (over m b) = over (over l m) b := by
 induction b generalizing m with
 | nil => rfl
 | cons c r ih =>
   have e1 : over m (c :: r) = over (put m c) r := rfl
   have e2 : over (over l m) (c :: r) = over (put (over l m) c) r := rfl
   rw [e1, e2, Xg hm, Xg (zl hl), ih (Js hm), jd7 hl hm]
theorem St.De (s : St) : ji s.all := zg _
theorem St.F7 (s : St) (b : List Ch) : (s.write b).all = over s.all b := by
 unfold St.all St.mem St.write
 rw [Qt, Qt, Am, jb9 (zg _) (yn _)]
theorem St.Pd (s : St) : s.flush.all = s.all := by
 unfold St.flush
 split
 · rfl
 · rfl
theorem St.om {s : St} (h : s.Ok) : s.compact.tell = s.tell := by
 unfold St.compact
 split
 · rfl
 · have key : there (over s.live s.mem) = s.tell := Il (zg s.bls) (yn _)
   split
   · rename_i hb
     rw [hb] at key
     exact key
   · rw [← key]
     show there (over (merged [s.live]) s.mem) = _
     rw [K9 (l := s.live) (Jg (zg _))]
theorem Oz (l : List Ch) (m : Nat) (h : 4 * m < l.length) : (chunks l)[m]? = some ((l.drop (4 * m)).take 4) := by
 induction m generalizing l with
 | zero =>
   rw [Gv (fun e => by rw [e] at h; simp at h)]
   simp
 | succ m ih =>
   rw [Gv (fun e => by rw [e] at h; simp at h), List.getElem?_cons_succ, ih _ (by rw [List.length_drop]; omega), List.drop_drop]
   congr 3
   omega
theorem Kt (n : Nat) (bl : List (List Ch)) (b : List Ch) : jl n (bl ++ [b]) = jl n bl ++ [(n + (bl.flatMap jr).length, Jv b)] := by
 induction bl generalizing n with
 | nil => simp [jl]
 | cons x r ih =>
   rw [List.cons_append, jl, jl, ih, List.cons_append, List.flatMap_cons, List.length_append, Nat.add_assoc]
def zq (l : List Ch) (m : Nat) : List UInt8 := ((chunks l).take m).flatMap jr
def Jr (l : List Ch) (m : Nat) : List UInt8 := (jl 0 ((chunks l).take m)).flatMap xy
theorem Cr (l : List Ch) (m : Nat) (h : 4 * m < l.length) : zq l (m + 1) = zq l m ++ jr ((l.drop (4 * m)).take 4) := by
 unfold zq
 rw [List.take_add_one, Oz l m h, Option.toList_some, List.flatMap_append]
 simp
theorem Bz (l : List Ch) (m : Nat) (h : 4 * m < l.length) : Jr l (m + 1) = (Jr l m ++ big (zq l m).length 4) ++ text (Jv ((l.drop (4 * m)).take 4)) := by
 unfold Jr zq
 rw [List.take_add_one, Oz l m h, Option.toList_some, Kt, List.flatMap_append]
 simp [xy]
theorem Aa (l : List Ch) : ql l = (zq l ((l.length + 3) / 4) ++ frame (big ((l.length + 3) / 4) 2 ++ Jr l ((l.length + 3) / 4))) ++ big (zq l ((l.length + 3) / 4)).length 4 := by
 unfold ql Je zq Jr
 rw [← Y0, List.take_length]
theorem Es {b : List Ch} (h : ∀ c ∈ b, allowed c = true) (h4 : b.length ≤ 4) : (jr b).length ≤ 245 := by
 have := Zd h
 unfold jr frame
 simp only [List.length_append, jk]
 omega
theorem Xx {l : List Ch} (h : ∀ c ∈ l, allowed c = true) (m : Nat) : (zq l m).length ≤ 245 * m := by
 unfold zq
 have H : ∀ bl : List (List Ch), (∀ b ∈ bl, (jr b).length ≤ 245) → (bl.flatMap jr).length ≤ 245 * bl.length := by
   intro bl
   induction bl with
   | nil => intro _; simp
   | cons b r ih =>
     intro hb
     have h1 := hb b List.mem_cons_self
     have h2 := ih (fun x hx => hb x (List.mem_cons_of_mem _ hx))
     rw [List.flatMap_cons, List.length_append, List.length_cons]
     omega
 have h1 := H ((chunks l).take m) (fun b hb => Es (fun c hc => h c (L9 (List.mem_of_mem_take hb) c hc)) (Ma (List.mem_of_mem_take hb)).2)
 have h2 : ((chunks l).take m).length ≤ m := by rw [List.length_take]; omega
 exact Nat.le_trans h1 (Nat.mul_le_mul_left _ h2)
theorem Xt {l : List Ch} (h : ∀ c ∈ l, allowed c = true) (m : Nat) (hm : 4 * m < l.length + 4) : (Jr l m).length ≤ 21 * m := by
 induction m with
 | zero => simp [Jr, jl]
 | succ m ih =>
   have h1 := ih (by omega)
   rw [Bz l m (by omega)]
   have hk : (Jv ((l.drop (4 * m)).take 4)).length ≤ 16 := by
     unfold Jv
     cases hh : ((l.drop (4 * m)).take 4).head? with
     | none => simp
     | some c =>
       have hc := h c (List.mem_of_mem_drop (List.mem_of_mem_take (List.mem_of_mem_head? (by rw [hh]; exact rfl))))
       have := (Jo c).1 hc
       simp
       omega
   simp only [List.length_append, jk, text]
   omega
theorem Xr {l : List Ch} (h : ∀ c ∈ l, allowed c = true) : (ql l).length ≤ 67 * l.length + 300 := by
 rw [Aa]
 have h1 := Xx h ((l.length + 3) / 4)
 have h2 := Xt h ((l.length + 3) / 4) (by omega)
 simp only [List.length_append, jk, frame]
 omega
end Go.Proofs.YtnipbplghijdmaaGreatDoor.Ref
