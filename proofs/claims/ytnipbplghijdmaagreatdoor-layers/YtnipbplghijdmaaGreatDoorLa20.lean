/-
  La: MemPut MemFrom Apply Replay Files Files2 Files3.
-/
import Derived.Deep.DeepCutAuto
import Derived.Test.YtnipbplghijdmaaGreatDoorLa19
import Derived.Test.YtnipbplghijdmaaGreatDoorLa17
import Derived.Test.YtnipbplghijdmaaGreatDoorLa14
import Derived.Test.YtnipbplghijdmaaGreatDoorLa07
import Derived.Test.YtnipbplghijdmaaGreatDoorLa09
import Derived.Test.YtnipbplghijdmaaGreatDoorLa11
namespace Go.Proofs.YtnipbplghijdmaaGreatDoor
open Go.RowKit Go.Maps Go.WideShapes
set_option linter.unusedVariables false
theorem R9 {w w' : World} (h : Below w.heap.size w w') : ja w w' (fun _ => False) := ⟨h.os, h.tape, h.output, h.size, fun k hk _ => h.block k hk⟩
set_option maxRecDepth 100000 in
theorem Sy (s : Str) (w : World) (hs : s.length < 1099511627776) :
   Calls Tryz.prog 152 #[jc s] w fun e w' => e = .returned (jc s) ∧ ja w w' (fun _ => False) := by
 have hlim : (⟨s.toArray⟩ : ByteArray).size ≤ 281474976710656 := by show s.toArray.size ≤ _; simp; omega
 go_enter Tryz.func152, Tryz.ntmps152
 go_wp2_with (go_at_call 189; refine (Tryz.stringslite_Clone ⟨s.toArray⟩ _ hlim).mono ?_; rintro e w' ⟨rfl, hb⟩)
 go_ret
 exact ⟨rfl, R9 hb⟩
def Qs (c : Ref.Ch) : Obj := .cells #[jc c.key, jc c.value, .bool c.gone] 88
theorem Gu {s : Str} {w W : World} {X : Nat} {c : Ref.Ch} (hs : s.length < 1099511627776) (hX : W.heap[X]? = some (Qs c)) (hk : ja w W (fun _ => False)) :
   Calls Tryz.prog 152 #[jc s] W fun e w' => e = .returned (jc s) ∧ w'.heap[X]? = some (Qs c) ∧ ja w w' (fun _ => False) := by
 refine (Sy s W hs).mono ?_
 rintro e w' ⟨rfl, k⟩
 exact ⟨rfl, k.same hX id, hk.trans k (fun _ _ h => h)⟩
theorem Av (ys : Array Value) (w : World) : (callFunc 152 ys).run Tryz.prog w = .ok (.enter 152 ys) w := by kernel_rfl
theorem jc3 {w w3 : World} {X : Nat} {key val : Str} {gone : Bool} (hX : w3.heap[X]? = some (Qs ⟨key, val, gone⟩)) (hk : ja w w3 (fun _ => False)) (hl : w.heap.size ≤ X := by exact Nat.le_refl _) :
   ((w3.setCell ⟨X, 0, none⟩ (jc key)).setCell ⟨X, 1, none⟩ (jc val)).heap[X]? = some (Qs ⟨key, val, gone⟩) ∧ ja w ((w3.setCell ⟨X, 0, none⟩ (jc key)).setCell ⟨X, 1, none⟩ (jc val)) (fun _ => False) :=
 ⟨(jb (o := 1) (jb (o := 0) hX (jc key)) (jc val)).trans rfl, (hk.Xk hl _).Xk hl _⟩
theorem Sn (ys : Array Value) (w : World) : (callFunc 153 ys).run Tryz.prog w = .ok (.enter 153 ys) w := by kernel_rfl
theorem Sq (ys : Array Value) (w : World) : (callFunc 155 ys).run Tryz.prog w = .ok (.enter 155 ys) w := by kernel_rfl
theorem jb1 {v : Value} {l : List Ref.Ch} {key : Str} {w W : World} {X A : Nat} {F : Bool} {c : Ref.Ch} (hA : A = Ref.below l key) (hF : F = decide ((l[Ref.below l key]?).map Ref.Ch.key = some key)) (hv : Chs W v l) (hr : Ref.ji l) (hl : l.length < 1099511627776) (hX : W.heap[X]? = some (Qs c)) (hk : ja w W (fun _ => False)) :
   Calls Tryz.prog 153 #[v, jc key, .func (.func 154) #[] #[]] W fun e w' => e = .returned (.tuple #[j4 A, .bool F]) ∧ w'.heap[X]? = some (Qs c) ∧ ja w w' (fun _ => False) := by
 refine (Kb v l key W hv hr hl).mono ?_
 rintro e w' ⟨rfl, k⟩
 rw [hA, hF]
 exact ⟨rfl, k.same hX id, hk.trans k (fun _ _ h => h)⟩
theorem Vt {l : List Ref.Ch} {k : Nat} (h : k < l.length) (c : Ref.Ch) : jg (l.set k c) = (((jg l).set (k * 3) (jc c.key)).set (k * 3 + 1) (jc c.value)).set (k * 3 + 2) (.bool c.gone) := by
 induction l generalizing k with
 | nil => simp at h
 | cons x r ih =>
   cases k with
   | zero => rfl
   | succ k =>
     have := ih (k := k) (by simpa using h)
     have e : ∀ (x : Ref.Ch) r, jg (x :: r) = jc x.key :: jc x.value :: Value.bool x.gone :: jg r := fun _ _ => rfl
     rw [List.set_cons_succ, e, e, this, show (k + 1) * 3 = k * 3 + 1 + 1 + 1 by omega]
     rfl
theorem jdk {cur : Array Value} {o : Nat} {v : Value} (h : cur[o]? = some v) : cur.setIfInBounds o v = cur := by
 apply Array.ext_getElem?
 intro j
 rw [Array.getElem?_setIfInBounds]
 split
 · rename_i e; subst e
   rw [h, if_pos (Array.getElem?_eq_some_iff.1 h).1]
 · rfl
theorem jcq {v : Value} {l L : List Ref.Ch} {A : Nat} {c : Ref.Ch} {base q : Nat} {W : World} (hL : L = l.take A ++ c :: l.drop A) (hA : A ≤ l.length) (hl : l.length < 1048576) (hbase : base ≤ W.heap.size) (hown : W.ownsRow base 88 3 v l.length (jg l)) (hx : One W q c) (hne : v.ownBlock ≠ some q) :
   Calls Tryz.prog 155 #[v, j4 A, .slice (some ⟨q, 0, none⟩) 1 1] W fun e w' =>
     ∃ v', e = .returned v' ∧ w'.ownsRow base 88 3 v' L.length (jg L) ∧ Grown W v w' v' := by
 subst hL
 have h1 := jag v (l.take A) (l.drop A) c base q W (by rw [List.take_append_drop]; exact hl) hbase (by rw [List.take_append_drop]; exact hown) hx hne
 rw [List.length_take, Nat.min_eq_left hA] at h1
 exact h1
set_option maxHeartbeats 2000000 in
set_option maxRecDepth 100000 in
theorem put_mem (b o : Nat) (cur : Array Value) (t : TypeId) (v : Value) (l : List Ref.Ch) (c : Ref.Ch) (base : Nat) (w : World) (hb : w.heap[b]? = some (.cells cur t (0, 0))) (hv : cur[o]? = some v)
   (hown : w.ownsRow base 88 3 v l.length (jg l)) (hne : v.ownBlock ≠ some b) (hr : Ref.ji l) (hl : l.length < 1048576) (hk : c.key.length < 1099511627776) (hx : c.value.length < 1099511627776) (hbase : base ≤ w.heap.size) :
   Calls Tryz.prog 108 #[.pointer (some ⟨b, o, none⟩), chV c] w fun e w' => e = .returned (.tuple #[]) ∧ ∃ v', w'.heap[b]? = some (.cells (cur.setIfInBounds o v') t (0, 0)) ∧
     w'.ownsRow base 88 3 v' (Ref.put l c).length (jg (Ref.put l c)) ∧ (v'.ownBlock = v.ownBlock ∨ ∃ g, v'.ownBlock = some g ∧ w.heap.size ≤ g) ∧ ja w w' (fun i => i = b ∨ some i = v.ownBlock) := by
 rw [Ref.Xg hr, ← Ref.jcr hr]
 have hX0 := jd w (Qs c)
 have hK0 := ja.alloc w (Qs c) (fun _ => False)
 have HX : Hid ((w.alloc (Qs c)).drew.heap[w.heap.size]? = some (Qs c)) := hX0
 have KA := hK0.draw
 have c0 := cell_of_heap (o := 0) hX0
 have c1 := cell_of_heap (o := 1) hX0
 simp at c0 c1
 obtain ⟨X, hXX⟩ : ∃ X, X = w.heap.size := ⟨_, rfl⟩
 obtain ⟨key, val, gone⟩ := c
 have HXX := hide hXX
 clear hXX hX0
 go_enter Tryz.func108, Tryz.ntmps108
 go_wp2_with fail
 go_cut [] from 6 (fun wc => wc.heap[w.heap.size]? = some (Qs ⟨key, val, gone⟩) ∧ ja w wc (fun _ => False))
 case first =>
   go_region_law (first
     | (refine jo rfl 152 [.tmp 7] _ rfl Av [jc key] (by simp [Act.eval, Act.put]) (Gu hk HX.out KA) ?_
        rintro e w2 ⟨rfl, hX2, KB⟩
        have c0 := cell_of_heap (o := 0) hX2
        have c1 := cell_of_heap (o := 1) hX2
        simp at c0 c1
        have HX2 := hide hX2
        clear hX2
        refine ⟨_, rfl, ?_⟩)
     | (refine jo rfl 152 [.tmp 10] _ rfl Av [jc val] (by simp [Act.eval, Act.put]) (Gu hx HX2.out KB) ?_
        rintro e w3 ⟨rfl, hX3, KC⟩
        have f0 := frozen_of_heap (o := 0) hX3
        have f1 := frozen_of_heap (o := 1) hX3
        have c0 := cell_of_heap (o := 0) hX3
        have c1 := cell_of_heap (o := 1) hX3
        simp at c0 c1
        have HX3 := hide hX3
        clear hX3
        refine ⟨_, rfl, ?_⟩))
   all_goals
     go_wp2
     go_meet
     case rel => exact jc3 HX3.out KC
 case rest =>
   obtain ⟨hXc, kc⟩ := hcut
   have hbc : wc.heap[b]? = some (.cells cur t (0, 0)) := kc.same hb id
   have m0 := cell_of_heap (o := o) hbc
   rw [hv] at m0
   have x0 := cell_of_heap (o := 0) hXc
   simp at x0
   have hownc : wc.ownsRow base 88 3 v l.length (jg l) := kc.row hown (fun _ _ h => h)
   have hvd : Chs wc.drew v l := (Jk hownc).same (ja.drew wc _)
   have HXC := hide hXc
   have HBC := hide hbc
   have HKC := hide kc
   have HV := hide hv
   have hl2 : l.length < 1099511627776 := by omega
   clear hXc hbc kc HX KA c0 c1 hK0 hv
   obtain ⟨A, hA⟩ : ∃ A, A = Ref.below l key := ⟨_, rfl⟩
   obtain ⟨F, hF⟩ : ∃ F : Bool, F = decide ((l[Ref.below l key]?).map Ref.Ch.key = some key) := ⟨_, rfl⟩
   have HXD : Hid (wc.drew.heap[w.heap.size]? = some (Qs ⟨key, val, gone⟩)) := HXC.out
   have HKD : Hid (ja w wc.drew (fun _ => False)) := HKC.out.draw
   have HA := hide hA
   have HF := hide hF
   clear hA hF
   go_wp2_with fail
   go_cut [4, 5] from 14 (fun s4 s5 wd => s4 = j4 A ∧ s5 = .bool F ∧ wd.heap[w.heap.size]? = some (Qs ⟨key, val, gone⟩) ∧ ja w wd (fun _ => False))
   case first =>
     go_region_law (
       refine jo rfl 153 [.tmp 18, .tmp 20, .func 154] _ rfl Sn [v, jc key, .func (.func 154) #[] #[]] (by simp [Act.eval]) (jb1 HA.out HF.out hvd hr hl2 HXD.out HKD.out) ?_
       rintro e w2 ⟨rfl, hX2, k2⟩
       have HX2 := hide hX2
       clear hX2
       refine ⟨_, rfl, ?_⟩)
     all_goals
       go_wp2
       go_meet
       case rel => exact ⟨rfl, rfl, HX2.out, k2⟩
   case rest =>
     clear m0 x0 hownc hvd HXC HBC HKC HXD HKD
     obtain ⟨rfl, rfl, hXd, kd⟩ := hcut
     have hbd : wc.heap[b]? = some (.cells cur t (0, 0)) := kd.same hb id
     have m0 := cell_of_heap (o := o) hbd
     rw [HV.out] at m0
     have f0 := frozen_of_heap (o := o) hbd
     have x0 := cell_of_heap (o := 0) hXd
     have x1 := cell_of_heap (o := 1) hXd
     have x2 := cell_of_heap (o := 2) hXd
     simp at x0 x1 x2
     have hownd : wc.ownsRow base 88 3 v l.length (jg l) := kd.row hown (fun _ _ h => h)
     have HBD := hide hbd
     have HOWN := hide hownd
     have HKD := hide kd
     clear hbd hownd kd hXd
     cases F with
     | true =>
       have hfd : (l[Ref.below l key]?).map Ref.Ch.key = some key := of_decide_eq_true HF.out.symm
       have hAl : A < l.length := by
         rw [← HA.out] at hfd
         rcases Nat.lt_or_ge A l.length with h | h
         · exact h
         · rw [List.getElem?_eq_none h] at hfd; cases hfd
       have hins : Ref.Cf ⟨key, val, gone⟩ l = l.set A ⟨key, val, gone⟩ := by unfold Ref.Cf; rw [if_pos hfd, HA.out]
       have HINS := hide hins
       clear hins hfd
       rcases HOWN.out.2 with ⟨_, h0⟩ | ⟨g, cap, cg, e, hbg, hgg, h1, h2, h3, h4⟩
       · omega
       · subst e
         have hg0 := frozen_of_heap (o := A * 3) hgg
         have hg1 := frozen_of_heap (o := A * 3 + 1) hgg
         have hg2 := frozen_of_heap (o := A * 3 + 2) hgg
         obtain ⟨ca0, ca1, ca2⟩ := Md hAl
         have d0 := HOWN.out.cells rfl (A * 3) _ ca0
         have d1 := HOWN.out.cells rfl (A * 3 + 1) _ ca1
         have d2 := HOWN.out.cells rfl (A * 3 + 2) _ ca2
         rw [add_zero] at d0 d1 d2
         clear ca0 ca1 ca2
         have HGG := hide hgg
         have H3 := hide h3
         have H4 := hide h4
         clear hgg h3 h4
         go_wp2_with fail
         go_region
         all_goals
           go_wp2
           refine bodyPost_ret (results_none rfl _ _ _) rfl ?_
           refine ⟨rfl, ?_⟩
           have q1 := jb (w := wc.drew) (o := A * 3) HGG.out (jc key)
           have q2 := jb (o := A * 3 + 1) q1 (jc val)
           have q3 := jb (o := A * 3 + 2) q2 (.bool gone)
           have kk : ja w (((wc.drew.setCell ⟨g, A * 3, none⟩ (jc key)).setCell ⟨g, A * 3 + 1, none⟩ (jc val)).setCell ⟨g, A * 3 + 2, none⟩ (.bool gone)) (fun i => i = b ∨ some i = (Value.slice (some ⟨g, 0, none⟩) l.length cap).ownBlock) :=
             ((((HKD.out.draw).mono (fun _ _ h => h.elim)).set (p := ⟨g, A * 3, none⟩) (.inr rfl) _).set (p := ⟨g, A * 3 + 1, none⟩) (.inr rfl) _).set (p := ⟨g, A * 3 + 2, none⟩) (.inr rfl) _
           refine ⟨.slice (some ⟨g, 0, none⟩) l.length cap, ?_, ?_, .inl rfl, kk⟩
           · have hne2 : b ≠ g := fun e => hne (by rw [e]; rfl)
             have e1 : cur.setIfInBounds o (.slice (some ⟨g, 0, none⟩) l.length cap) = cur := by
               exact jdk HV.out
             rw [e1]
             have h5 := (((ja.setCell wc.drew ⟨g, A * 3, none⟩ (jc key)).set (p := ⟨g, A * 3 + 1, none⟩) rfl (jc val)).set (p := ⟨g, A * 3 + 2, none⟩) rfl (.bool gone)).same (k := b) HBD.out hne2
             exact h5
           · rw [HINS.out]
             refine ⟨by rw [za], .inr ⟨g, cap, _, by rw [List.length_set], hbg, q3, by rw [List.length_set]; exact h1, h2, by simp [H3.out], ?_⟩⟩
             rw [Vt hAl, List.length_set, ← H4.out]
             simp [List.take_set]
     | false =>
       have hfd : ¬ (l[Ref.below l key]?).map Ref.Ch.key = some key := of_decide_eq_false HF.out.symm
       have hins : Ref.Cf ⟨key, val, gone⟩ l = l.take A ++ ⟨key, val, gone⟩ :: l.drop A := by unfold Ref.Cf; rw [if_neg hfd, HA.out]
       have hAle : A ≤ l.length := by rw [HA.out]; unfold Ref.below; exact (List.takeWhile_prefix _).length_le
       obtain ⟨L, hL⟩ : ∃ L, L = l.take A ++ (⟨key, val, gone⟩ : Ref.Ch) :: l.drop A := ⟨_, rfl⟩
       rw [← hL] at hins
       have HLL := hide hL
       have HINS := hide hins
       have HAL := hide hAle
       clear hins hfd hAle hL
       have hone : One (wc.drew.alloc (Qs ⟨key, val, gone⟩)) wc.heap.size ⟨key, val, gone⟩ := jd wc.drew _
       have hownY : (wc.drew.alloc (Qs ⟨key, val, gone⟩)).ownsRow base 88 3 v l.length (jg l) := (ja.alloc wc.drew _ _).row (T := fun _ => False) ((ja.drew wc _).row (T := fun _ => False) HOWN.out (fun _ _ h => h)) (fun _ _ h => h)
       have hbY : base ≤ (wc.drew.alloc (Qs ⟨key, val, gone⟩)).heap.size := Nat.le_trans hbase (Nat.le_trans HKD.out.size ((ja.alloc wc.drew (Qs ⟨key, val, gone⟩) (fun _ => False)).size))
       have hneY : v.ownBlock ≠ some wc.heap.size := fun e => by have := (HOWN.out.lt _ e).2; omega
       have hblt : b < wc.heap.size := lt_of_heap HBD.out
       have kY : ja w (wc.drew.alloc (Qs ⟨key, val, gone⟩)) (fun _ => False) := (HKD.out.draw).more _
       have hbdY : (wc.drew.alloc (Qs ⟨key, val, gone⟩)).heap[b]? = some (.cells cur t (0, 0)) := (ja.alloc wc.drew _ (fun _ => False)).same (k := b) HBD.out id
       have HONE := hide hone
       have HOY := hide hownY
       have HBY := hide hbY
       have HNY := hide hneY
       have HKY := hide kY
       have HBDY := hide hbdY
       clear hone hownY hbY hneY kY hbdY
       obtain ⟨p0, cp0, rfl⟩ := jh hown
       go_wp2_with fail
       go_region_law (
         refine jo rfl 155 [.tmp 36, .tmp 37, .tmp 39] _ rfl Sq [.slice p0 l.length cp0, j4 A, .slice (some ⟨wc.heap.size, 0, none⟩) 1 1] (by simp [Act.eval]) (jcq HLL.out HAL.out hl HBY.out HOY.out HONE.out HNY.out) ?_
         rintro e w2 ⟨v2, rfl, hown2, hgr2⟩
         obtain ⟨p2, cp2, rfl⟩ := jh hown2
         have hb2 := hgr2.keeps.same HBDY.out (fun e => hne e.symm)
         have m2 := cell_of_heap (o := o) hb2
         rw [HV.out] at m2
         have f2 := frozen_of_heap (o := o) hb2
         have HB2 := hide hb2
         have HO2 := hide hown2
         clear hb2 hown2
         refine ⟨_, rfl, ?_⟩)
       all_goals
         go_wp2
         go_end0
         refine ⟨rfl, _, jb HB2.out _, ?_, ?_, ?_⟩
         · rw [HINS.out]
           refine (ja.setCell w2 ⟨b, o, none⟩ _).row HO2.out (fun gg hgg e => ?_)
           subst e
           rcases hgr2.1 with h | ⟨g2, h, h3⟩
           · rw [h] at hgg; exact hne hgg
           · rw [h] at hgg; cases hgg; simp at h3; omega
         · rcases hgr2.1 with h | ⟨g2, h, h3⟩
           · exact .inl h
           · refine .inr ⟨g2, h, Nat.le_trans HKY.out.size h3⟩
         · exact ((HKY.out.mono (fun _ _ h => h.elim)).trans hgr2.keeps (fun i _ h => .inr h)).set (p := ⟨b, o, none⟩) (.inl rfl) _
theorem Ta (l : List Ref.Ch) (k : Nat) : jg (l.drop k) = (jg l).drop (k * 3) := by
 rcases Nat.lt_or_ge k l.length with h | h
 · have e : jg l = jg (l.take k) ++ jg (l.drop k) := by rw [← Jw, List.take_append_drop]
   have h2 : (jg (l.take k)).length = k * 3 := by rw [za, List.length_take, Nat.min_eq_left (by omega)]
   rw [e, ← h2, List.drop_left]
 · rw [List.drop_eq_nil_of_le h, List.drop_eq_nil_of_le (by rw [za]; omega)]
   rfl
theorem Chs.drop {w : World} {b o c : Nat} {l : List Ref.Ch} (h : Chs w (.slice (some ⟨b, o, none⟩) l.length c) l) {k : Nat} (hk : k ≤ l.length) :
   Chs w (.slice (some ⟨b, o + k * 3, none⟩) (l.length - k) (c - k)) (l.drop k) := by
 obtain ⟨p', c', e, h1, h2, h3, h4⟩ := h
 cases e
 refine ⟨some ⟨b, o + k * 3, none⟩, c - k, by rw [List.length_drop], by rw [List.length_drop]; omega, by omega, (fun h => by cases h), fun ad had => ?_⟩
 cases had
 refine ⟨rfl, fun j u hu => ?_⟩
 rw [Ta, List.getElem?_drop] at hu
 have := (h4 _ rfl).2 _ u hu
 rw [X7] at this ⊢
 rw [Nat.add_assoc]
 exact this
theorem Chs.empty {w : World} {b o : Nat} {l : List Ref.Ch} (h : l = []) : Chs w (.slice (some ⟨b, o, none⟩) 0 0) l := by
 subst h
 exact ⟨some ⟨b, o, none⟩, 0, rfl, Nat.le_refl _, Nat.zero_le _, (fun h => by cases h), fun ad had => by cases had; exact ⟨rfl, fun j u hu => by simp [jg] at hu⟩⟩
theorem Tw {v : Value} {l : List Ref.Ch} {key : Str} {W : World} {A : Nat} {F : Bool} (hA : A = Ref.below l key) (hF : F = decide ((l[Ref.below l key]?).map Ref.Ch.key = some key)) (hv : Chs W v l) (hr : Ref.ji l) (hl : l.length < 1099511627776) :
   Calls Tryz.prog 153 #[v, jc key, .func (.func 154) #[] #[]] W fun e w' => e = .returned (.tuple #[j4 A, .bool F]) ∧ ja W w' (fun _ => False) := by
 refine (Kb v l key W hv hr hl).mono ?_
 rintro e w' ⟨rfl, k⟩
 rw [hA, hF]
 exact ⟨rfl, k⟩
set_option maxHeartbeats 1000000 in
set_option maxRecDepth 100000 in
theorem Ve (b o : Nat) (cur : Array Value) (t : TypeId) (v : Value) (l : List Ref.Ch) (key : Str) (w : World) (hb : w.heap[b]? = some (.cells cur t (0, 0))) (hv : cur[o]? = some v)
   (hch : Chs w v l) (hr : Ref.ji l) (hl : l.length < 1048576) :
   Calls Tryz.prog 112 #[.pointer (some ⟨b, o, none⟩), jc key] w fun e w' => ∃ v', e = .returned (.func (.func 158) #[v'] #[]) ∧ Chs w' v' (l.drop (Ref.below l key)) ∧ ja w w' (fun _ => False) ∧ (∀ ad n c, v' = .slice (some ad) n c → ∃ ad' n' c', v = .slice (some ad') n' c' ∧ ad'.block = ad.block) := by
 have m0 := cell_of_heap (o := o) hb
 rw [hv] at m0
 have hl2 : l.length < 1099511627776 := by omega
 have hle : Ref.below l key ≤ l.length := by unfold Ref.below; exact (List.takeWhile_prefix _).length_le
 obtain ⟨A, hA⟩ : ∃ A, A = Ref.below l key := ⟨_, rfl⟩
 obtain ⟨F, hF⟩ : ∃ F : Bool, F = decide ((l[Ref.below l key]?).map Ref.Ch.key = some key) := ⟨_, rfl⟩
 rw [← hA] at hle ⊢
 obtain ⟨p, c, rfl, h1, h2, h3, h4⟩ := id hch
 have HB := hide hb
 have HV := hide hv
 have HA := hide hA
 have HF := hide hF
 cases p with
 | none =>
   have hc0 : c = 0 := h3 rfl
   have hl0 : l = [] := List.eq_nil_of_length_eq_zero (by omega)
   subst hl0
   subst hc0
   have hA0 : A = 0 := by simp at hle; exact hle
   clear hb hv hA hF h4 h3 hle
   subst hA0
   go_enter Tryz.func112, Tryz.ntmps112
   go_wp2_with (go_at_call 153; go_must (refine (Tw HA.out HF.out hch hr hl2).mono ?_); rintro e w1 ⟨rfl, k1⟩; have hm1 := k1.cell m0 id)
   go_ret
   exact ⟨_, rfl, Chs.nil _, k1, fun ad n c e => by cases e⟩
 | some ad =>
   obtain ⟨g, off, sp⟩ := ad
   have hsp : sp = none := (h4 _ rfl).1
   subst hsp
   clear hb hv hA hF h4 h3
   go_enter Tryz.func112, Tryz.ntmps112
   go_wp2_with (go_at_call 153; go_must (refine (Tw HA.out HF.out hch hr hl2).mono ?_); rintro e w1 ⟨rfl, k1⟩; have hm1 := k1.cell m0 id)
   all_goals go_ret
   · skip
     refine ⟨_, rfl, ?_, k1, fun ad n c e => by injection e with e1 e2 e3; injection e1 with e1; subst e1; first | exact ⟨_, _, _, rfl, rfl⟩ | rfl⟩
     have h0 : l.length - A = 0 := by omega
     rw [h0]
     exact Chs.empty (List.drop_eq_nil_of_le (by omega))
   · exact ⟨_, rfl, (hch.same k1).drop hle, k1, fun ad n c e => by injection e with e1 e2 e3; injection e1 with e1; subst e1; first | exact ⟨_, _, _, rfl, rfl⟩ | rfl⟩
theorem Ref.jah (c : Ref.Ch) (l : List Ref.Ch) : (Ref.ins c l).length ≤ l.length + 1 := by
 induction l with
 | nil => simp [Ref.ins]
 | cons x r ih => unfold Ref.ins; split <;> (try split) <;> simp <;> omega
theorem Ref.Aj {l : List Ref.Ch} (h : Ref.ji l) (more : List Ref.Ch) : (Ref.over l more).length ≤ l.length + more.length := by
 induction more generalizing l with
 | nil => simp [Ref.over]
 | cons c r ih =>
   have h1 : Ref.over l (c :: r) = Ref.over (Ref.put l c) r := rfl
   have h2 := ih (l := Ref.put l c) (by rw [Ref.Xg h]; exact Ref.Js h)
   have h3 := Ref.jah c l
   rw [← Ref.Xg h] at h3
   rw [h1]
   simp only [List.length_cons]
   omega
theorem jcw (ys : Array Value) (w : World) : (callFunc 108 ys).run Tryz.prog w = .ok (.enter 108 ys) w := by kernel_rfl
theorem jb3 {b : Nat} {c0 c1 c2 c3 c4 c5 c6 c8 c9 v : Value} {t : TypeId} {l : List Ref.Ch} {c : Ref.Ch} {base : Nat} {w W : World} (hb : W.heap[b]? = some (.cells #[c0, c1, c2, c3, c4, c5, c6, v, c8, c9] t (0, 0)))
   (hown : W.ownsRow base 88 3 v l.length (jg l)) (hne : v.ownBlock ≠ some b) (hr : Ref.ji l) (hl : l.length < 1048576) (hk : c.key.length < 1099511627776) (hx : c.value.length < 1099511627776) (hbase : base ≤ W.heap.size) (hK : ja w W (fun _ => False)) :
   Calls Tryz.prog 108 #[.pointer (some ⟨b, 7, none⟩), chV c] W fun e w' => e = .returned (.tuple #[]) ∧ ∃ v', w'.heap[b]? = some (.cells #[c0, c1, c2, c3, c4, c5, c6, v', c8, c9] t (0, 0)) ∧
     w'.ownsRow base 88 3 v' (Ref.put l c).length (jg (Ref.put l c)) ∧ v'.ownBlock ≠ some b ∧ (v'.ownBlock = v.ownBlock ∨ ∃ g, v'.ownBlock = some g ∧ w.heap.size ≤ g) ∧ ja w w' (fun i => i = b ∨ some i = v.ownBlock) := by
 refine (put_mem b 7 _ t v l c base W hb rfl hown hne hr hl hk hx hbase).mono ?_
 rintro e w' ⟨rfl, v', h1, h2, h3, h4⟩
 refine ⟨rfl, v', h1, h2, ?_, ?_, (hK.mono (fun _ _ h => h.elim)).trans h4 (fun _ _ h => h)⟩
 · intro e
   rcases h3 with h | ⟨g, h, h5⟩
   · exact hne (h ▸ e)
   · rw [h] at e; cases e; have := lt_of_heap hb; omega
 · rcases h3 with h | ⟨g, h, h5⟩
   · exact .inl h
   · exact .inr ⟨g, h, Nat.le_trans hK.size h5⟩
theorem Kv {l es : List Ref.Ch} {k : Nat} {c : Ref.Ch} (hk : k < es.length) (hc : es[k] = c) : Ref.over l (es.take (k + 1)) = Ref.put (Ref.over l (es.take k)) c := by
 rw [List.take_add_one, List.getElem?_eq_getElem hk, hc]
 exact Ref.jb8 _ _ _
set_option maxHeartbeats 2000000 in
set_option maxRecDepth 100000 in
theorem Pb (b : Nat) (c0 c1 c2 c3 c4 c5 c8 c9 : Value) (last : Nat) (t : TypeId) (v ev : Value) (l es : List Ref.Ch) (base : Nat) (w : World)
   (hb : w.heap[b]? = some (.cells #[c0, c1, c2, c3, c4, c5, j4 last, v, c8, c9] t (0, 0))) (hown : w.ownsRow base 88 3 v l.length (jg l)) (hne : v.ownBlock ≠ some b) (hr : Ref.ji l)
   (hl : l.length + es.length < 1048576) (hlast : last < 4611686018427387904) (hev : Chs w ev es) (hs : ∀ c ∈ es, c.key.length < 1099511627776 ∧ c.value.length < 1099511627776) (hbase : base ≤ w.heap.size)
   (hap : es ≠ [] → ∀ p n c, ev = .slice (some p) n c → p.block ≠ b ∧ v.ownBlock ≠ some p.block) :
   Calls Tryz.prog 66 #[.pointer (some ⟨b, 0, none⟩), ev] w fun e w' => e = .returned (.tuple #[]) ∧ ∃ v', w'.heap[b]? = some (.cells #[c0, c1, c2, c3, c4, c5, j4 (last + 1), v', c8, c9] t (0, 0)) ∧
     w'.ownsRow base 88 3 v' (Ref.over l es).length (jg (Ref.over l es)) ∧ v'.ownBlock ≠ some b ∧ (v'.ownBlock = v.ownBlock ∨ ∃ g, v'.ownBlock = some g ∧ w.heap.size ≤ g) ∧ ja w w' (fun i => i = b ∨ some i = v.ownBlock) := by
 obtain ⟨p, cp, rfl, h1, h2, h3, h4⟩ := id hev
 have hblt := lt_of_heap hb
 have hlen : es.length < 1048576 := by omega
 clear h3 h4
 go_enter Tryz.func66, Tryz.ntmps66
 go_wp2_with fail
 go_loopw [8] (fun i wr => ∃ (k : Nat) (vk : Value), k ≤ es.length ∧ i = .int .i64 k ∧ wr.heap[b]? = some (.cells #[c0, c1, c2, c3, c4, c5, j4 last, vk, c8, c9] t (0, 0)) ∧
     wr.ownsRow base 88 3 vk (Ref.over l (es.take k)).length (jg (Ref.over l (es.take k))) ∧ vk.ownBlock ≠ some b ∧ (vk.ownBlock = v.ownBlock ∨ ∃ g, vk.ownBlock = some g ∧ w.heap.size ≤ g) ∧ ja w wr (fun i => i = b ∨ some i = v.ownBlock))
   (fun i _ => es.length - (intOf i).toNat)
 case atStart => exact ⟨0, v, Nat.zero_le _, rfl, hb, hown, hne, .inl rfl, ja.refl _ _⟩
 case round =>
   obtain ⟨k, vk, hk, rfl, hbk, hownk, hnek, hlock, hkw⟩ := hrel
   rcases Nat.lt_or_ge k es.length with hlt | hge
   · have hevk : Chs wr (.slice p es.length cp) es := hev.keep hkw (fun hn pp n c e => by
       have h5 := hap hn pp n c e
       rintro (h6 | h6)
       · exact h5.1 h6
       · exact h5.2 h6.symm)
     obtain ⟨b1, o1, rfl, e0, e1, e2⟩ := hevk.at hlt
     generalize hc : es[k] = x at e0 e1 e2
     obtain ⟨ck, cv, cg⟩ := x
     have HC := hide hc
     clear hc
     have HBK := hide hbk
     have HOK := hide hownk
     clear hbk hownk
     have hcm := hs _ (List.getElem_mem hlt)
     rw [HC.out] at hcm
     have hck : ck.length < 1099511627776 := hcm.1
     have hcv : cv.length < 1099511627776 := hcm.2
     have HBW : Hid ((wr.alloc (Qs ⟨ck, cv, cg⟩)).drew.heap[b]? = some (.cells #[c0, c1, c2, c3, c4, c5, j4 last, vk, c8, c9] t (0, 0))) := (ja.alloc wr _ (fun _ => False)).same (k := b) HBK.out id
     have HOW : Hid ((wr.alloc (Qs ⟨ck, cv, cg⟩)).drew.ownsRow base 88 3 vk (Ref.over l (es.take k)).length (jg (Ref.over l (es.take k)))) := ((ja.alloc wr (Qs ⟨ck, cv, cg⟩) (fun _ => False)).draw).row HOK.out (fun _ _ h => h)
     have HRK : Hid (Ref.ji (Ref.over l (es.take k))) := Ref.zl hr
     have HLK : Hid ((Ref.over l (es.take k)).length < 1048576) := by
       have h5 := Ref.Aj hr (es.take k)
       rw [List.length_take] at h5
       unfold Hid
       omega
     have HKW : Hid (ja wr (wr.alloc (Qs ⟨ck, cv, cg⟩)).drew (fun _ => False)) := (ja.alloc wr _ _).draw
     have HBB : Hid (base ≤ (wr.alloc (Qs ⟨ck, cv, cg⟩)).drew.heap.size) := Nat.le_trans hbase (Nat.le_trans hkw.size HKW.out.size)
     have HCM := hide hcm
     clear hcm
     go_wp2_with fail
     go_region_law (
       refine jo rfl 108 [.tmp 14, .tmp 15] _ rfl jcw [.pointer (some ⟨b, 7, none⟩), chV ⟨ck, cv, cg⟩] (by simp [Act.eval]) (jb3 HBW.out HOW.out hnek HRK.out HLK.out hck hcv HBB.out HKW.out) ?_
       rintro e w2 ⟨rfl, v2, hb2, ho2, hn2, hl2, k2⟩
       have HB2 := hide hb2
       have HO2 := hide ho2
       clear hb2 ho2
       refine ⟨_, rfl, ?_⟩)
     all_goals
       go_wp2
       go_roundw
       case rel =>
         refine ⟨k + 1, v2, hlt, by simp, HB2.out, by rw [Kv hlt HC.out]; exact HO2.out, hn2, ?_, hkw.trans k2 ?_⟩
         · rcases hl2 with h | ⟨g, h, h5⟩
           · rw [h]; exact hlock
           · exact .inr ⟨g, h, Nat.le_trans hkw.size h5⟩
         · rintro i hi (h | h)
           · exact .inl h
           · rcases hlock with h6 | ⟨g, h6, h7⟩
             · exact .inr (h.trans h6)
             · rw [h6] at h; cases h; omega
       case measure => simp [intOf]; omega
   · have ek : k = es.length := by omega
     subst ek
     rw [List.take_length] at hownk
     have d6 := cell_of_heap (o := 6) hbk
     have f6 := frozen_of_heap (o := 6) hbk
     simp at d6
     have HBK := hide hbk
     have HOK := hide hownk
     clear hbk hownk
     go_wp2
     go_end0
     refine ⟨rfl, vk, (jb HBK.out _).trans rfl, (ja.setCell wr _ _).row HOK.out (fun g hg e => hnek (by rw [hg, e])), hnek, hlock, hkw.set (p := ⟨b, 6, none⟩) (.inl rfl) _⟩
def jhv : Value → Nat
 | .slice _ n _ => n
 | _ => 0
def Ref.Zn (l : List Ref.Ch) (bs : List (List Ref.Ch)) : List Ref.Ch := bs.foldl Ref.over l
theorem Ref.Ws (l : List Ref.Ch) (bs : List (List Ref.Ch)) (b : List Ref.Ch) : Ref.Zn l (bs ++ [b]) = Ref.over (Ref.Zn l bs) b := by simp [Ref.Zn, List.foldl_append]
theorem Ref.P8 {l : List Ref.Ch} (h : Ref.ji l) (bs : List (List Ref.Ch)) : Ref.ji (Ref.Zn l bs) := by
 induction bs generalizing l with
 | nil => exact h
 | cons b r ih => exact ih (Ref.zl h)
theorem Ref.Ra {l : List Ref.Ch} (h : Ref.ji l) (bs : List (List Ref.Ch)) (hb : ∀ b ∈ bs, b.length ≤ 8) : (Ref.Zn l bs).length ≤ l.length + 8 * bs.length := by
 induction bs generalizing l with
 | nil => simp [Ref.Zn]
 | cons b r ih =>
   have h1 := ih (l := Ref.over l b) (Ref.zl h) (fun x hx => hb x (List.mem_cons_of_mem _ hx))
   have h2 := Ref.Aj h b
   have h3 := hb b (List.mem_cons_self ..)
   have h4 : Ref.Zn l (b :: r) = Ref.Zn (Ref.over l b) r := rfl
   rw [h4, List.length_cons]
   omega
theorem Ref.A7 (n : Nat) (b : List Ref.Ch) : 16 ≤ (Ref.j5 n b).length := by
 simp [Ref.j5, Ref.frame, Ref.jk]
 omega
theorem Ref.Hf (last : Nat) (bs : List (List Ref.Ch)) : 16 * bs.length ≤ (Ref.jy last bs).length := by
 induction bs generalizing last with
 | nil => simp
 | cons b r ih =>
   have h1 := ih (last + 1)
   have h2 := Ref.A7 (last + 1) b
   have h3 : Ref.jy last (b :: r) = Ref.j5 (last + 1) b ++ Ref.jy (last + 1) r := by simp [Ref.jy, Ref.j5]
   rw [h3, List.length_append, List.length_cons]
   omega
def jaz (b : Nat) (c0 c1 c2 c3 c4 c5 c8 c9 : Value) (last : Nat) (t : TypeId) (v : Value) (l : List Ref.Ch) (L : List UInt8) (base : Nat) (w : World) (e : Ending) (w' : World) : Prop :=
 ∃ bs r v', Ref.Taken last L bs r ∧ Ref.Over last bs r ∧ e = .returned (j4 (L.length - r.length)) ∧ w'.heap[b]? = some (.cells #[c0, c1, c2, c3, c4, c5, j4 (last + bs.length), v', c8, c9] t (0, 0)) ∧
   w'.ownsRow base 88 3 v' (Ref.Zn l bs).length (jg (Ref.Zn l bs)) ∧ v'.ownBlock ≠ some b ∧ (v'.ownBlock = v.ownBlock ∨ ∃ g, v'.ownBlock = some g ∧ w.heap.size ≤ g) ∧ ja w w' (fun i => i = b ∨ some i = v.ownBlock)
set_option maxHeartbeats 2000000 in
set_option maxRecDepth 100000 in
theorem Wj {E : Nat → Addr} {B : Nat} (b : Nat) (c0 c1 c2 c3 c4 c5 c8 c9 : Value) (last : Nat) (t : TypeId) (v lv : Value) (l : List Ref.Ch) (L : List UInt8) (base : Nat) (w : World) (S : Q0 E B w) (hBb : B ≤ b) (hBv : ∀ g, v.ownBlock = some g → B ≤ g)
   (hb : w.heap[b]? = some (.cells #[c0, c1, c2, c3, c4, c5, j4 last, v, c8, c9] t (0, 0))) (hown : w.ownsRow base 88 3 v l.length (jg l)) (hne : v.ownBlock ≠ some b) (hr : Ref.ji l)
   (hl : l.length + L.length < 1000000) (hlast : last ≤ 1000000000) (hL : Bytes w lv L) (hbase : base ≤ w.heap.size)
   (hap : L ≠ [] → ∀ p n c, lv = .slice (some p) n c → p.block ≠ b ∧ v.ownBlock ≠ some p.block) :
   Calls Tryz.prog 180 #[.pointer (some ⟨b, 0, none⟩), lv] w (jaz b c0 c1 c2 c3 c4 c5 c8 c9 last t v l L base w) := by
 have hblt := lt_of_heap hb
 obtain ⟨p, cp, rfl, _⟩ := id hL
 have hG0 : L ≠ [] → ∀ p' n' c', Value.slice p L.length cp = .slice (some p') n' c' → p'.block ≠ b ∧ v.ownBlock ≠ some p'.block ∧ p'.block < w.heap.size := by
   intro hn p' n' c' e
   cases e
   exact ⟨(hap hn _ _ _ rfl).1, (hap hn _ _ _ rfl).2, hL.lt hn⟩
 go_enter Tryz.func180, Tryz.ntmps180
 go_wp2_with fail
 go_loopw [5] (fun rv wr => ∃ (bs : List (List Ref.Ch)) (r : List UInt8) (vk : Value), Ref.Taken last L bs r ∧ Bytes wr rv r ∧ (r ≠ [] → ∀ p' n' c', rv = .slice (some p') n' c' → p'.block ≠ b ∧ v.ownBlock ≠ some p'.block ∧ p'.block < w.heap.size) ∧
     wr.heap[b]? = some (.cells #[c0, c1, c2, c3, c4, c5, j4 (last + bs.length), vk, c8, c9] t (0, 0)) ∧
     wr.ownsRow base 88 3 vk (Ref.Zn l bs).length (jg (Ref.Zn l bs)) ∧ vk.ownBlock ≠ some b ∧ (vk.ownBlock = v.ownBlock ∨ ∃ g, vk.ownBlock = some g ∧ w.heap.size ≤ g) ∧ ja w wr (fun i => i = b ∨ some i = v.ownBlock))
   (fun rv _ => jhv rv)
 case atStart => exact ⟨[], L, v, .none, hL, hG0, hb, hown, hne, .inl rfl, ja.refl _ _⟩
 case round =>
   obtain ⟨bs, r, vk, hT, hrv, hGr, hbk, hownk, hnek, hlock, hkw⟩ := hrel
   obtain ⟨pr, cr, rfl, _⟩ := id hrv
   have hby := hT.bytes
   have hlb := Ref.Hf last bs
   have hLr : L.length = (Ref.jy last bs).length + r.length := by
     have h5 := congrArg List.length hby.1
     rw [List.length_append] at h5
     exact h5
   have h8 : ∀ x ∈ bs, x.length ≤ 8 := fun x hx => ((Ref.Jb x).1 (hby.2 x hx)).2.1
   have hol := Ref.Ra hr bs h8
   have d6 := cell_of_heap (o := 6) hbk
   simp at d6
   have hr40 : r.length < 1099511627776 := by omega
   have hLL : r.length ≤ L.length := by omega
   have hsub : ((L.length : Int) - (r.length : Int)) = ((L.length - r.length : Nat) : Int) := by omega
   have hovl : (Ref.Zn l bs).length + 8 < 1048576 := by omega
   have HBK := hide hbk
   have HOK := hide hownk
   have HSUB := hide hsub
   have HLR := hide hLr
   have HOVL := hide hovl
   clear hbk hownk hby hlb h8 hol hsub hLr hovl
   rcases Nat.lt_or_ge (last + bs.length) 1000000000 with hlt | hge
   · have Sr : Q0 E B wr := S.keep hkw (fun i e => by
       rcases e with e | e
       · rw [e]; exact hBb
       · exact hBv _ e.symm)
     have hBr : B ≤ wr.heap.size := by have := hkw.size; omega
     have hlt2 : ((last : Int) + (bs.length : Int)) < 1000000000 := by omega
     have hnum : last + bs.length + 1 < 9223372036854775808 := by omega
     have hcast : ((last : Int) + (bs.length : Int) + 1) = ((last + bs.length + 1 : Nat) : Int) := by omega
     have HCAST := hide hcast
     clear hcast
     go_wp2_with fail
     rw [HCAST.out]
     refine (Mq (G := fun g => g ≠ b ∧ v.ownBlock ≠ some g ∧ g < w.heap.size) (last + bs.length + 1) hnum Sr hBr hrv hGr hr40).mono ?_
     rintro e w1 ⟨k1, ⟨b1, q, v1, v2, hres, rfl, hb2, hg2, hown1⟩ | ⟨v1, hres, rfl, he⟩⟩
     · have hbm := Ref.fu hres
       have hok := (Ref.Jb b1).1 hbm.2
       have hqr : q.length < r.length := by
         have h5 := congrArg List.length hbm.1
         have h6 := Ref.A7 (last + bs.length + 1) b1
         rw [List.length_append] at h5
         omega
       have hbw1 : w1.heap[b]? = some (.cells #[c0, c1, c2, c3, c4, c5, j4 (last + bs.length : Nat), vk, c8, c9] t (0, 0)) := k1.same HBK.out id
       have hownw1 := k1.row HOK.out (fun _ _ h => h)
       have hT2 := Ref.Taken.more hT hlt hres
       obtain ⟨p1, cp1, rfl⟩ := jh hown1
       have hall : ∀ c ∈ b1, c.key.length < 1099511627776 ∧ c.value.length < 1099511627776 := fun c hc => by
         have h5 := (Ref.Jo c).1 (hok.2.2 c hc)
         omega
       have hap1 : b1 ≠ [] → ∀ p' n' c', Value.slice p1 b1.length cp1 = .slice (some p') n' c' → p'.block ≠ b ∧ vk.ownBlock ≠ some p'.block := by
         intro _ p' n' c' e
         cases e
         have h5 := (hown1.lt p'.block rfl).1
         refine ⟨fun e => ?_, fun e => ?_⟩
         · have h6 := lt_of_heap HBK.out
           omega
         · have h6 := (HOK.out.lt _ e).2
           omega
       have hl1 : (Ref.Zn l bs).length + b1.length < 1048576 := by have h5 := HOVL.out; have h6 := hok.2.1; omega
       have hap := Pb b c0 c1 c2 c3 c4 c5 c8 c9 (last + bs.length) t vk (.slice p1 b1.length cp1) (Ref.Zn l bs) b1 base w1 hbw1 hownw1 hnek (Ref.P8 hr bs) hl1 (by omega) (Jk hown1) hall (by have h5 := k1.size; have h6 := hkw.size; omega) hap1
       have HAP := hide hap
       have HT2 := hide hT2
       have HG2 := hide hg2
       clear hap hT2 hg2 hap1 hall hbw1 hownw1 hl1 hok hbm hres hown1
       obtain ⟨p2, cp2, rfl, _⟩ := id hb2
       go_wp2_with fail
       refine HAP.out.mono ?_
       rintro e w2 ⟨rfl, v', hb3, hown3, hne3, hloc3, k3⟩
       have hq2 : Bytes w2 (.slice p2 q.length cp2) q := by
         rcases Classical.em (q = []) with rfl | hq
         · obtain ⟨p9, c9, e9, a1, a2, a3, a4⟩ := hb2
           exact ⟨p9, c9, e9, a1, a2, a3, fun ad e => ⟨(a4 ad e).1, fun j u hu => by cases hu⟩⟩
         · refine hb2.keep k3 (fun p9 n9 c9 e9 hT9 => ?_)
           obtain ⟨g1, g2, g3⟩ := HG2.out hq p9 n9 c9 e9
           rcases hT9 with h5 | h5
           · exact g1 h5
           · rcases hlock with h6 | ⟨g, h6, h7⟩
             · exact g2 (h6 ▸ h5.symm)
             · rw [h6] at h5; cases h5; omega
       have HB3 := hide hb3
       have HO3 := hide hown3
       clear hb3 hown3
       go_wp2
       refine ⟨⟨bs ++ [b1], q, v', HT2.out, hq2, HG2.out, ?_, ?_, hne3, ?_, ?_⟩, hqr⟩
       · rw [List.length_append, List.length_singleton, ← Nat.add_assoc]
         exact HB3.out
       · rw [Ref.Ws]
         exact HO3.out
       · rcases hloc3 with h | ⟨g, h, h5⟩
         · rw [h]; exact hlock
         · refine .inr ⟨g, h, ?_⟩
           have h6 := k1.size
           have h7 := hkw.size
           omega
       · refine (hkw.trans k1 (fun _ _ h => h.elim)).trans k3 ?_
         rintro i hi (h | h)
         · exact .inl h
         · rcases hlock with h6 | ⟨g, h6, h7⟩
           · exact .inr (h.trans h6)
           · rw [h6] at h; cases h; omega
     · obtain ⟨t1, a1, rfl⟩ := he.shape
       go_wp2
       go_ret
       refine ⟨bs, r, vk, hT, .inr hres, ?_, k1.same HBK.out id, k1.row HOK.out (fun _ _ h => h), hnek, hlock, hkw.trans k1 (fun _ _ h => h.elim)⟩
       simp [j4, HSUB.out]
   · have hge2 : ¬ ((last : Int) + (bs.length : Int)) < 1000000000 := by omega
     go_wp2
     go_ret
     refine ⟨bs, r, vk, hT, .inl (by omega), ?_, HBK.out, HOK.out, hnek, hlock, hkw⟩
     simp [j4, HSUB.out]
structure Dk (E : Nat → Addr) (B : Nat) (w : World) (ρ : Nat → jw) (d : Nat) (S : je) : Prop where
 rep : Rep w ρ d S
 sent : Q0 E B w
 yt : ∀ i, ρ i ≠ .none → B ≤ i
 size : B ≤ w.heap.size
theorem Dk.step {E : Nat → Addr} {B : Nat} {w w' : World} {ρ ρ' : Nat → jw} {d : Nat} {S S' : je} (h : Dk E B w ρ d S) (g : yf w ρ w' ρ') (r : Rep w' ρ' d S') : Dk E B w' ρ' d S' :=
 ⟨r, h.sent.keep g.keeps (fun i hi => h.yt i hi), fun i hi => by
   rcases Nat.lt_or_ge i w.heap.size with hlt | hge
   · rw [g.role i hlt] at hi; exact h.yt i hi
   · exact Nat.le_trans h.size hge, Nat.le_trans h.size g.keeps.size⟩
theorem Dk.same {E : Nat → Addr} {B : Nat} {w w' : World} {ρ : Nat → jw} {d : Nat} {S : je} (h : Dk E B w ρ d S) (k : ja w w' (fun _ => False)) : Dk E B w' ρ d S :=
 ⟨h.rep.keep k (fun _ h _ => h.elim), h.sent.same k, h.yt, Nat.le_trans h.size k.size⟩
theorem yf.same {w w' w'' : World} {ρ ρ' : Nat → jw} (g : yf w ρ w' ρ') (k : ja w' w'' (fun _ => False)) : yf w ρ w'' ρ' := g.trans (yf.of k (fun _ _ h => h.elim))
set_option maxRecDepth 100000 in
theorem Xc (nm : Str) (w : World) : Calls Tryz.prog 160 #[jc nm, .int .i64 0] w fun e w' => e = .returned .nilIface ∧ w' = w := by
 go_enter Tryz.func160, Tryz.ntmps160
 go_wp2
 go_ret
 exact ⟨rfl, rfl⟩
set_option maxRecDepth 100000 in
theorem J8 {E : Nat → Addr} {B : Nat} {w : World} (S : Q0 E B w) (nm : Str) (c : Int) (hc : c ≠ 0) :
   Calls Tryz.prog 160 #[jc nm, .int .i64 c] w fun e w' => ∃ v, e = .returned v ∧ Err E w' v 1 ∧ ja w w' (fun _ => False) := by
 have s0 := S.cell 1 (by decide)
 go_enter Tryz.func160, Tryz.ntmps160
 go_wp2_with fail
 refine (Ja _ (.base (E := E) 1 (by decide))).mono ?_
 rintro e w1 ⟨v, rfl, he, k1⟩
 go_wp2
 go_ret
 exact ⟨v, rfl, he, k1⟩
set_option maxRecDepth 100000 in
theorem Oa {E : Nat → Addr} {B : Nat} {w : World} {ρ : Nat → jw} {d : Nat} {S : je} (D : Dk E B w ρ d S) (nm : Str) (hn : nm.length < 1099511627776) :
   Calls Tryz.prog 159 #[.pointer (some ⟨d, 0, none⟩), jc nm] w fun e w' => ∃ ρ', yf w ρ w' ρ' ∧
     (((S.bad = true ∨ S.at nm = none) ∧ (∃ v, e = .returned v ∧ Err E w' v 1) ∧ Dk E B w' ρ' d (S.called true)) ∨
      (S.bad = false ∧ e = .returned .nilIface ∧ ∃ f a, S.at nm = some f ∧ S.files f = some a ∧ Dk E B w' ρ' d ((S.called true).withFile f a.synced))) := by
 go_enter Tryz.func159, Tryz.ntmps159
 go_wp2_with fail
 refine (jdg nm D.rep hn).mono ?_
 rintro e w1 ⟨ρ1, g1, ⟨hB, rfl, R1⟩ | ⟨hB, hA, rfl, R1⟩ | ⟨hB, rfl, f, a, hA, ha, R1⟩⟩
 · have D1 := D.step g1 R1
   go_wp2_with fail
   refine (J8 D1.sent nm 1 (by decide)).mono ?_
   rintro e w2 ⟨v, rfl, he, k2⟩
   go_wp2
   go_ret
   exact ⟨ρ1, g1.same k2, .inl ⟨.inl hB, ⟨v, rfl, he⟩, D1.same k2⟩⟩
 · have D1 := D.step g1 R1
   go_wp2_with fail
   refine (J8 D1.sent nm 2 (by decide)).mono ?_
   rintro e w2 ⟨v, rfl, he, k2⟩
   go_wp2
   go_ret
   exact ⟨ρ1, g1.same k2, .inl ⟨.inr hA, ⟨v, rfl, he⟩, D1.same k2⟩⟩
 · have D1 := D.step g1 R1
   go_wp2_with fail
   refine (Xc nm w1).mono ?_
   rintro e w2 ⟨rfl, rfl⟩
   go_wp2
   go_ret
   exact ⟨ρ1, g1, .inr ⟨hB, rfl, f, a, hA, ha, D1⟩⟩
set_option maxRecDepth 100000 in
theorem Mr {E : Nat → Addr} {B : Nat} {w : World} {ρ : Nat → jw} {d : Nat} {S : je} (D : Dk E B w ρ d S) (hz : Maps.size S.safe + S.late.length < 1099511627776) :
   Calls Tryz.prog 169 #[.pointer (some ⟨d, 0, none⟩)] w fun e w' => ∃ ρ', yf w ρ w' ρ' ∧
     ((S.bad = true ∧ (∃ v, e = .returned v ∧ Err E w' v 1) ∧ Dk E B w' ρ' d (S.called true)) ∨
      (S.bad = false ∧ e = .returned .nilIface ∧ Dk E B w' ρ' d { S.called true with safe := (S.called true).late.foldl doA (S.called true).safe, late := [] })) := by
 have hB : S.bad = true ∨ S.bad = false := by cases S.bad <;> simp
 rcases hB with hB | hB
 · go_enter Tryz.func169, Tryz.ntmps169
   go_wp2_with fail
   refine (Ti D.rep hB).mono ?_
   rintro e w1 ⟨rfl, g1, R1⟩
   have D1 := D.step g1 R1
   go_wp2_with fail
   refine (J8 D1.sent [110, 97, 109, 101, 115] 1 (by decide)).mono ?_
   rintro e w2 ⟨v, rfl, he, k2⟩
   go_wp2
   go_ret
   exact ⟨ρ, g1.same k2, .inl ⟨hB, ⟨v, rfl, he⟩, D1.same k2⟩⟩
 · go_enter Tryz.func169, Tryz.ntmps169
   go_wp2_with fail
   refine (Pg D.rep hB hz).mono ?_
   rintro e w1 ⟨rfl, ρ1, g1, R1⟩
   have D1 := D.step g1 R1
   go_wp2_with fail
   refine (Xc [110, 97, 109, 101, 115] w1).mono ?_
   rintro e w2 ⟨rfl, rfl⟩
   go_wp2
   go_ret
   exact ⟨ρ1, g1, .inr ⟨hB, rfl, D1⟩⟩
set_option maxRecDepth 100000 in
theorem iy {E : Nat → Addr} {B : Nat} {w : World} {ρ : Nat → jw} {d : Nat} {S : je} (D : Dk E B w ρ d S) (Z : Small S) (nm : Str) (hn : nm.length < 1099511627776) :
   Calls Tryz.prog 129 #[.pointer (some ⟨d, 0, none⟩), jc nm] w fun e w' => yf w ρ w' ρ ∧ Dk E B w' ρ d (S.called false) ∧
     ((S.bad = true ∧ ∃ v, e = .returned (.tuple #[.slice none 0 0, v]) ∧ Err E w' v 1) ∨
      (S.bad = false ∧ S.at nm = none ∧ ∃ v, e = .returned (.tuple #[.slice none 0 0, v]) ∧ Err E w' v 2) ∨
      (S.bad = false ∧ ∃ f a v, S.at nm = some f ∧ S.files f = some a ∧ e = .returned (.tuple #[v, .nilIface]) ∧ w'.ownsRow w.heap.size 5 1 v a.bytes.length (a.bytes.map qg))) := by
 have hB : S.bad = true ∨ S.bad = false := by cases S.bad <;> simp
 rcases hB with hB | hB
 · go_enter Tryz.func129, Tryz.ntmps129
   go_wp2_with fail
   refine (jdv nm 0 9223372036854775807 D.rep hB).mono ?_
   rintro e w1 ⟨rfl, g1, R1⟩
   have D1 := D.step g1 R1
   go_wp2_with fail
   refine (J8 D1.sent nm 1 (by decide)).mono ?_
   rintro e w2 ⟨v, rfl, he, k2⟩
   obtain ⟨t, a, rfl⟩ := he.shape
   go_wp2
   go_ret2
   exact ⟨g1.same k2, D1.same k2, .inl ⟨hB, _, rfl, he⟩⟩
 · rcases Option.eq_none_or_eq_some (S.at nm) with hA | ⟨f, hA⟩
   · have HA := hide hA
     clear hA
     go_enter Tryz.func129, Tryz.ntmps129
     go_wp2_with fail
     refine (jb2 nm 0 9223372036854775807 D.rep hn hB HA.out).mono ?_
     rintro e w1 ⟨rfl, g1, R1⟩
     have D1 := D.step g1 R1
     have s0 := D1.sent.cell 2 (by decide)
     go_wp2_with fail
     refine (Ja _ (.base (E := E) 2 (by decide))).mono ?_
     rintro e w2 ⟨v, rfl, he, k2⟩
     go_wp2
     go_ret2
     exact ⟨g1.same k2, D1.same k2, .inr (.inl ⟨hB, HA.out, _, rfl, he⟩)⟩
   · obtain ⟨a, ha⟩ : ∃ a, S.files f = some a := D.rep.at hA
     have HA := hide hA
     have HF := hide ha
     clear hA ha
     go_enter Tryz.func129, Tryz.ntmps129
     go_wp2_with fail
     refine (jdw 9223372036854775807 (by decide) (by decide) nm D.rep Z hn hB HA.out HF.out).mono ?_
     rintro e w1 ⟨g1, R1, p, c, rfl, hown⟩
     have D1 := D.step g1 R1
     go_wp2_with fail
     refine (Xc nm w1).mono ?_
     rintro e w2 ⟨rfl, rfl⟩
     go_wp2
     go_ret2
     exact ⟨g1, D1, .inr (.inr ⟨hB, f, a, _, HA.out, HF.out, rfl, hown⟩)⟩
def je.Qq (S : je) (nm : Str) : je × Bool :=
 if S.bad = true then (S.called true, false) else
 match S.at nm with
 | none => (S.called true, false)
 | some f => match S.files f with
   | none => (S.called true, false)
   | some a => ((S.called true).withFile f a.synced, true)
def je.u7 (S : je) : je × Bool :=
 if S.bad = true then (S.called true, false) else ({ S.called true with safe := (S.called true).late.foldl doA (S.called true).safe, late := [] }, true)
def je.ze (S : je) (nm : Str) : je × Bool :=
 if S.bad = true then (S.called true, false) else
 match S.at nm with
 | none => (S.called true, false)
 | some _ => ((S.called true).named ⟨[], nm, [], none⟩, true)
def je.Qe (S : je) (sr ds : Str) : je × Bool :=
 if S.bad = true then (S.called true, false) else
 match S.at sr with
 | none => (S.called true, false)
 | some f => if ds = [] then (S.called true, false) else ((S.called true).named ⟨[], sr, ds, some f⟩, true)
def Q5 (F : je × Bool) : je × Bool := if F.2 = true then F.1.u7 else (F.1, false)
def jhy (E : Nat → Addr) (w : World) (e : Ending) (ok : Bool) : Prop := (ok = true ∧ e = .returned .nilIface) ∨ (ok = false ∧ ∃ v, e = .returned v ∧ Err E w v 1)
def gq (E : Nat → Addr) (B : Nat) (w : World) (ρ : Nat → jw) (d : Nat) (F : je × Bool) (e : Ending) (w' : World) : Prop := ∃ ρ', yf w ρ w' ρ' ∧ Dk E B w' ρ' d F.1 ∧ jhy E w' e F.2
theorem Ar {E : Nat → Addr} {B : Nat} {w : World} {ρ : Nat → jw} {d : Nat} {S : je} (D : Dk E B w ρ d S) (nm : Str) (hn : nm.length < 1099511627776) :
   Calls Tryz.prog 159 #[.pointer (some ⟨d, 0, none⟩), jc nm] w (gq E B w ρ d (S.Qq nm)) := by
 refine (Oa D nm hn).mono ?_
 rintro e w' ⟨ρ', g, ⟨h1, h2, h3⟩ | ⟨h1, h2, f, a, h3, h4, h5⟩⟩
 · have e1 : S.Qq nm = (S.called true, false) := by
     unfold je.Qq
     split
     · rfl
     · rcases h1 with h1 | h1
       · contradiction
       · rw [h1]
   rw [e1]
   exact ⟨ρ', g, h3, .inr ⟨rfl, h2⟩⟩
 · have e1 : S.Qq nm = ((S.called true).withFile f a.synced, true) := by
     unfold je.Qq
     rw [if_neg (by rw [h1]; decide), h3]
     simp only [h4]
   rw [e1]
   exact ⟨ρ', g, h5, .inl ⟨rfl, h2⟩⟩
theorem vv {E : Nat → Addr} {B : Nat} {w : World} {ρ : Nat → jw} {d : Nat} {S : je} (D : Dk E B w ρ d S) (hz : Maps.size S.safe + S.late.length < 1099511627776) :
   Calls Tryz.prog 169 #[.pointer (some ⟨d, 0, none⟩)] w (gq E B w ρ d S.u7) := by
 refine (Mr D hz).mono ?_
 rintro e w' ⟨ρ', g, ⟨h1, h2, h3⟩ | ⟨h1, h2, h5⟩⟩
 · have e1 : S.u7 = (S.called true, false) := by unfold je.u7; rw [if_pos h1]
   rw [e1]
   exact ⟨ρ', g, h3, .inr ⟨rfl, h2⟩⟩
 · unfold je.u7
   rw [if_neg (by rw [h1]; decide)]
   exact ⟨ρ', g, h5, .inl ⟨rfl, h2⟩⟩
def je.X8 : List Str → je → je × Bool
 | [], S => S.u7
 | n :: r, S => if (S.Qq n).2 = true then je.X8 r (S.Qq n).1 else ((S.Qq n).1, false)
theorem Tk (S : je) (nm : Str) : (S.Qq nm).1.safe = S.safe ∧ (S.Qq nm).1.late = S.late := by
 unfold je.Qq
 split
 · exact ⟨rfl, rfl⟩
 · split
   · exact ⟨rfl, rfl⟩
   · split <;> exact ⟨rfl, rfl⟩
theorem gq.before {E : Nat → Addr} {B : Nat} {w w1 : World} {ρ ρ1 : Nat → jw} {d : Nat} {F : je × Bool} {e : Ending} {w' : World} (g : yf w ρ w1 ρ1) (h : gq E B w1 ρ1 d F e w') : gq E B w ρ d F e w' := by
 obtain ⟨ρ', g', D, r⟩ := h
 exact ⟨ρ', g.trans g', D, r⟩
set_option maxHeartbeats 1000000 in
set_option maxRecDepth 100000 in
theorem Ro {E : Nat → Addr} {B : Nat} {w : World} {ρ : Nat → jw} {d : Nat} {S : je} (D : Dk E B w ρ d S) (v : Value) (ns : List Str) (base : Nat) (hv : w.ownsRow base 9 1 v ns.length (ns.map encStr)) (hρ : ∀ g, v.ownBlock = some g → ρ g = .none)
   (hn : ∀ n ∈ ns, n.length < 1099511627776) (hl : ns.length < 1099511627776) (hz : Maps.size S.safe + S.late.length < 1099511627776) :
   Calls Tryz.prog 164 #[.pointer (some ⟨d, 0, none⟩), v] w (gq E B w ρ d (je.X8 ns S)) := by
 obtain ⟨p, c, rfl⟩ := jh hv
 go_enter Tryz.func164, Tryz.ntmps164
 go_wp2_with fail
 go_loopw [10] (fun i wr => ∃ (k : Nat) (ρr : Nat → jw) (T : je), k ≤ ns.length ∧ i = .int .i64 k ∧ yf w ρ wr ρr ∧ Dk E B wr ρr d T ∧ je.X8 ns S = je.X8 (ns.drop k) T ∧ T.safe = S.safe ∧ T.late = S.late)
   (fun i _ => ns.length - (intOf i).toNat)
 case atStart => exact ⟨0, ρ, S, Nat.zero_le _, rfl, yf.refl _ _, D, rfl, rfl, rfl⟩
 case round =>
   obtain ⟨k, ρr, T, hk, rfl, hg, hD, hsure, hs1, hs2⟩ := hrel
   have HSURE := hide hsure
   have HS1 := hide hs1
   have HS2 := hide hs2
   clear hsure hs1 hs2
   rcases Nat.lt_or_ge k ns.length with hlt | hge
   · have hvr := hg.keeps.row hv (fun g hg2 h => h (hρ g hg2))
     have hp : ∃ g, p = some ⟨g, 0, none⟩ := by
       rcases hvr.2 with ⟨_, h0⟩ | ⟨g, cap, cur, e, _⟩
       · omega
       · cases e; exact ⟨g, rfl⟩
     obtain ⟨g, rfl⟩ := hp
     have hcell := hvr.cells rfl k (encStr ns[k]) (by rw [List.getElem?_map, List.getElem?_eq_getElem hlt]; rfl)
     have hdr : ns.drop k = ns[k] :: ns.drop (k + 1) := List.drop_eq_getElem_cons hlt
     have hnk := hn _ (List.getElem_mem hlt)
     have HDR := hide hdr
     clear hdr
     generalize hx : ns[k] = x at hcell hnk
     have HX := hide hx
     clear hx
     rw [add_zero] at hcell
     unfold encStr at hcell
     go_wp2_with fail
     refine (Ar hD x hnk).mono ?_
     rintro e w1 ⟨ρ1, g1, D1, ⟨hok, rfl⟩ | ⟨hok, v1, rfl, he⟩⟩
     · have hstep : je.X8 ns S = je.X8 (ns.drop (k + 1)) (T.Qq x).1 := by
         rw [HSURE.out, HDR.out, HX.out, je.X8, if_pos hok]
       have hsz := Tk T x
       have HST := hide hstep
       have HSZ := hide hsz
       clear hstep hsz
       go_wp2
       exact ⟨⟨k + 1, ρ1, (T.Qq x).1, hlt, by simp, hg.trans g1, D1, HST.out, HSZ.out.1.trans HS1.out, HSZ.out.2.trans HS2.out⟩, by simp [intOf]; omega⟩
     · have hstep : je.X8 ns S = ((T.Qq x).1, false) := by
         rw [HSURE.out, HDR.out, HX.out, je.X8, if_neg (by rw [hok]; decide)]
       have HST := hide hstep
       clear hstep
       obtain ⟨t1, a1, rfl⟩ := he.shape
       go_wp2
       go_ret
       rw [HST.out]
       exact ⟨ρ1, hg.trans g1, D1, .inr ⟨rfl, _, rfl, he⟩⟩
   · have ek : k = ns.length := by omega
     have hend : je.X8 ns S = T.u7 := by rw [HSURE.out, ek, List.drop_length, je.X8]
     have hz1 : Maps.size T.safe + T.late.length < 1099511627776 := by rw [HS1.out, HS2.out]; exact hz
     have HEND := hide hend
     clear hend
     go_wp2_with fail
     refine (vv hD hz1).mono ?_
     intro e w1 hp
     have hq := hp.before hg
     rw [← HEND.out] at hq
     obtain ⟨ρ1, g1, D1, ⟨hok, rfl⟩ | ⟨hok, v1, rfl, he⟩⟩ := hp
     all_goals
       go_wp2
       go_ret
       exact hq
set_option maxHeartbeats 1000000 in
set_option maxRecDepth 100000 in
theorem Ho {E : Nat → Addr} {B : Nat} {w : World} {ρ : Nat → jw} {d : Nat} {S : je} (D : Dk E B w ρ d S) (Z : Small S) (sr ds : Str) (h1 : sr.length < 1099511627776) (h2 : ds.length < 1099511627776) (hz : Maps.size S.safe + S.late.length + 1 < 1099511627776) :
   Calls Tryz.prog 167 #[.pointer (some ⟨d, 0, none⟩), jc sr, jc ds] w (gq E B w ρ d (Q5 (S.Qe sr ds))) := by
 go_enter Tryz.func167, Tryz.ntmps167
 go_wp2_with fail
 refine (Wl sr ds D.rep Z h1 h2).mono ?_
 rintro e w1 ⟨ρ1, g1, ⟨hB, rfl, R1⟩ | ⟨hB, hA, rfl, R1⟩ | ⟨hB, hds, rfl, f, hA, R1⟩⟩
 · have D1 := D.step g1 R1
   have hst : S.Qe sr ds = (S.called true, false) := by unfold je.Qe; rw [if_pos hB]
   have HST := hide hst
   clear hst
   go_wp2_with fail
   refine (J8 D1.sent sr 1 (by decide)).mono ?_
   rintro e w2 ⟨v, rfl, he, k2⟩
   obtain ⟨t1, a1, rfl⟩ := he.shape
   go_wp2
   go_ret
   rw [HST.out]
   exact ⟨ρ1, g1.same k2, D1.same k2, .inr ⟨rfl, _, rfl, he⟩⟩
 · have D1 := D.step g1 R1
   have hst : S.Qe sr ds = (S.called true, false) := by
     unfold je.Qe
     rw [if_neg (by rw [hB]; decide)]
     split
     · rfl
     · rename_i f hf
       rcases hA with hA | hA
       · rw [hA] at hf; cases hf
       · rw [if_pos hA]
   have HST := hide hst
   clear hst hA
   go_wp2_with fail
   refine (J8 D1.sent sr 2 (by decide)).mono ?_
   rintro e w2 ⟨v, rfl, he, k2⟩
   obtain ⟨t1, a1, rfl⟩ := he.shape
   go_wp2
   go_ret
   rw [HST.out]
   exact ⟨ρ1, g1.same k2, D1.same k2, .inr ⟨rfl, _, rfl, he⟩⟩
 · have D1 := D.step g1 R1
   have hst : S.Qe sr ds = ((S.called true).named ⟨[], sr, ds, some f⟩, true) := by
     unfold je.Qe
     rw [if_neg (by rw [hB]; decide), hA]
     simp only [if_neg hds]
   have HST := hide hst
   clear hst hA hds
   have hz1 : Maps.size ((S.called true).named ⟨[], sr, ds, some f⟩).safe + ((S.called true).named ⟨[], sr, ds, some f⟩).late.length < 1099511627776 := by
     show Maps.size S.safe + (S.late ++ [_]).length < _
     rw [List.length_append, List.length_singleton]
     omega
   have HZ := hide hz1
   clear hz1
   go_wp2_with fail
   refine (Xc sr w1).mono ?_
   rintro e w2 ⟨rfl, rfl⟩
   go_wp2_with fail
   refine (vv D1 HZ.out).mono ?_
   intro e w3 hp
   have hq := hp.before g1
   have hq2 : gq E B w ρ d (Q5 (S.Qe sr ds)) e w3 := by
     rw [HST.out]
     exact hq
   clear hq
   obtain ⟨ρ3, g3, D3, ⟨hok, rfl⟩ | ⟨hok, v1, rfl, he⟩⟩ := hp
   all_goals
     go_wp2
     go_ret
     exact hq2
def je.Jq : List Str → je → je × Bool
 | [], S => (S, true)
 | n :: r, S => if (S.ze n).2 = true then je.Jq r (S.ze n).1 else ((S.ze n).1, false)
def je.zh (ns : List Str) (S : je) : je × Bool := if ns = [] then (S, true) else Q5 (je.Jq ns S)
theorem Mw (S : je) (nm : Str) : (S.ze nm).1.safe = S.safe ∧ (S.ze nm).1.late.length ≤ S.late.length + 1 ∧ (S.ze nm).1.files = S.files := by
 unfold je.ze
 split
 · exact ⟨rfl, Nat.le_succ _, rfl⟩
 · split
   · exact ⟨rfl, Nat.le_succ _, rfl⟩
   · exact ⟨rfl, by show (S.late ++ [_]).length ≤ _; simp, rfl⟩
theorem Rep.Mx {w : World} {ρ : Nat → jw} {d : Nat} {S : je} (R : Rep w ρ d S) (nm : Str) : Maps.size (S.ze nm).1.names ≤ Maps.size S.names := by
 obtain ⟨nb, sm, lv, hd, rn, rs, on, _⟩ := R.mem
 unfold je.ze
 split
 · exact Nat.le_refl _
 · split
   · exact Nat.le_refl _
   · show Maps.size (S.names.del (.string nm)) ≤ _
     have h := size_del (k := .string nm) (on.tidy law)
     omega
theorem jdt {E : Nat → Addr} {B : Nat} {w : World} {ρ : Nat → jw} {d : Nat} {S : je} (D : Dk E B w ρ d S) (Z : Small S) (nm : Str) (hn : nm.length < 1099511627776) :
   Calls Tryz.prog 168 #[.pointer (some ⟨d, 0, none⟩), jc nm] w fun e w' => ∃ ρ', yf w ρ w' ρ' ∧ Dk E B w' ρ' d (S.ze nm).1 ∧ (((S.ze nm).2 = true ∧ e = .returned (.int .i64 0)) ∨ ((S.ze nm).2 = false ∧ ∃ c : Int, c ≠ 0 ∧ e = .returned (.int .i64 c))) := by
 refine (Wm nm D.rep Z hn).mono ?_
 rintro e w1 ⟨ρ1, g1, ⟨hB, rfl, R1⟩ | ⟨hB, hA, rfl, R1⟩ | ⟨hB, rfl, f, hA, R1⟩⟩
 · have e1 : S.ze nm = (S.called true, false) := by unfold je.ze; rw [if_pos hB]
   rw [e1]
   exact ⟨ρ1, g1, D.step g1 R1, .inr ⟨rfl, 1, by decide, rfl⟩⟩
 · have e1 : S.ze nm = (S.called true, false) := by unfold je.ze; rw [if_neg (by rw [hB]; decide), hA]
   rw [e1]
   exact ⟨ρ1, g1, D.step g1 R1, .inr ⟨rfl, 2, by decide, rfl⟩⟩
 · have e1 : S.ze nm = ((S.called true).named ⟨[], nm, [], none⟩, true) := by unfold je.ze; rw [if_neg (by rw [hB]; decide), hA]
   rw [e1]
   exact ⟨ρ1, g1, D.step g1 R1, .inl ⟨rfl, rfl⟩⟩
set_option maxHeartbeats 1000000 in
set_option maxRecDepth 100000 in
theorem u6 {E : Nat → Addr} {B : Nat} {w : World} {ρ : Nat → jw} {d : Nat} {S : je} (D : Dk E B w ρ d S) (Z : Small S) (v : Value) (ns : List Str) (base : Nat) (hv : w.ownsRow base 9 1 v ns.length (ns.map encStr)) (hρ : ∀ g, v.ownBlock = some g → ρ g = .none)
   (hn : ∀ n ∈ ns, n.length < 1099511627776) (hl : ns.length < 1099511627776) (hz : Maps.size S.safe + S.late.length + ns.length < 1099511627776) :
   Calls Tryz.prog 118 #[.pointer (some ⟨d, 0, none⟩), v] w (gq E B w ρ d (je.zh ns S)) := by
 obtain ⟨p, c, rfl⟩ := jh hv
 go_enter Tryz.func118, Tryz.ntmps118
 go_wp2_with fail
 go_loopw [10] (fun i wr => ∃ (k : Nat) (ρr : Nat → jw) (T : je), k ≤ ns.length ∧ i = .int .i64 k ∧ yf w ρ wr ρr ∧ Dk E B wr ρr d T ∧ Small T ∧ je.Jq ns S = je.Jq (ns.drop k) T ∧ T.safe = S.safe ∧ T.late.length ≤ S.late.length + k ∧ (k = 0 → T = S))
   (fun i _ => ns.length - (intOf i).toNat)
 case atStart => exact ⟨0, ρ, S, Nat.zero_le _, rfl, yf.refl _ _, D, Z, rfl, rfl, Nat.le_refl _, fun _ => rfl⟩
 case round =>
   obtain ⟨k, ρr, T, hk, rfl, hg, hD, hZ, hsure, hs1, hs2, hs3⟩ := hrel
   have HSURE := hide hsure
   have HS1 := hide hs1
   have HS2 := hide hs2
   have HS3 := hide hs3
   clear hsure hs1 hs2 hs3
   rcases Nat.lt_or_ge k ns.length with hlt | hge
   · have hvr := hg.keeps.row hv (fun g hg2 h => h (hρ g hg2))
     have hp : ∃ g, p = some ⟨g, 0, none⟩ := by
       rcases hvr.2 with ⟨_, h0⟩ | ⟨g, cap, cur, e, _⟩
       · omega
       · cases e; exact ⟨g, rfl⟩
     obtain ⟨g, rfl⟩ := hp
     have hcell := hvr.cells rfl k (encStr ns[k]) (by rw [List.getElem?_map, List.getElem?_eq_getElem hlt]; rfl)
     have hdr : ns.drop k = ns[k] :: ns.drop (k + 1) := List.drop_eq_getElem_cons hlt
     have hnk := hn _ (List.getElem_mem hlt)
     have hne : ns ≠ [] := fun e => by rw [e] at hlt; simp at hlt
     have HNE := hide hne
     have HDR := hide hdr
     clear hdr hne
     generalize hx : ns[k] = x at hcell hnk
     have HX := hide hx
     clear hx
     rw [add_zero] at hcell
     unfold encStr at hcell
     have hsz := Mw T x
     have hsn := hD.rep.Mx x
     have hZ2 : Small (T.ze x).1 := ⟨by have := hZ.names; omega, by rw [hsz.1]; exact hZ.safe, by have h5 := hsz.2.1; have h6 := HS2.out; omega, by rw [hsz.2.2]; exact hZ.files⟩
     have HSZ := hide hsz
     clear hsz hsn
     go_wp2_with fail
     refine (jdt hD hZ x hnk).mono ?_
     rintro e w1 ⟨ρ1, g1, D1, ⟨hok, rfl⟩ | ⟨hok, cc, hcc, rfl⟩⟩
     · have hstep : je.Jq ns S = je.Jq (ns.drop (k + 1)) (T.ze x).1 := by
         rw [HSURE.out, HDR.out, HX.out, je.Jq, if_pos hok]
       have HST := hide hstep
       clear hstep
       go_wp2_with fail
       refine (Xc x w1).mono ?_
       rintro e w2 ⟨rfl, rfl⟩
       go_wp2
       exact ⟨⟨k + 1, ρ1, (T.ze x).1, hlt, by simp, hg.trans g1, D1, hZ2, HST.out, HSZ.out.1.trans HS1.out, by have h5 := HSZ.out.2.1; have h6 := HS2.out; omega, fun h => by omega⟩, by simp [intOf]; omega⟩
     · have hstep : je.zh ns S = ((T.ze x).1, false) := by
         unfold je.zh
         rw [if_neg HNE.out, HSURE.out, HDR.out, HX.out, je.Jq, if_neg (by rw [hok]; decide)]
         rfl
       have HST := hide hstep
       clear hstep
       go_wp2_with fail
       refine (J8 D1.sent x cc hcc).mono ?_
       rintro e w2 ⟨v2, rfl, he, k2⟩
       obtain ⟨t1, a1, rfl⟩ := he.shape
       go_wp2
       go_ret
       rw [HST.out]
       exact ⟨ρ1, (hg.trans g1).same k2, D1.same k2, .inr ⟨rfl, _, rfl, he⟩⟩
   · have ek : k = ns.length := by omega
     have hend : je.Jq ns S = (T, true) := by rw [HSURE.out, ek, List.drop_length, je.Jq]
     rcases Classical.em (ns = []) with hnil | hnil
     · have hres : je.zh ns S = (T, true) := by
         unfold je.zh
         rw [if_pos hnil, HS3.out (by rw [ek, hnil]; rfl)]
       have hl0 : ns.length = 0 := by rw [hnil]; rfl
       have HRES := hide hres
       clear hres hend hnil
       rw [hl0] at ek
       subst ek
       go_wp2
       go_ret
       rw [HRES.out]
       exact ⟨ρr, hg, hD, .inl ⟨rfl, rfl⟩⟩
     · have hres : je.zh ns S = T.u7 := by
         unfold je.zh
         rw [if_neg hnil, hend]
         rfl
       have hz1 : Maps.size T.safe + T.late.length < 1099511627776 := by have h5 := HS2.out; rw [HS1.out]; omega
       have hpos : ¬ ((ns.length : Int) = 0) := fun e => hnil (List.eq_nil_of_length_eq_zero (by omega))
       have HRES := hide hres
       have HZ1 := hide hz1
       clear hres hend hnil hz1
       go_wp2_with fail
       refine (vv hD HZ1.out).mono ?_
       intro e w1 hp
       have hq := hp.before hg
       rw [← HRES.out] at hq
       obtain ⟨ρ1, g1, D1, ⟨hok, rfl⟩ | ⟨hok, v1, rfl, he⟩⟩ := hp
       all_goals
         go_wp2
         go_ret
         exact hq
end Go.Proofs.YtnipbplghijdmaaGreatDoor
