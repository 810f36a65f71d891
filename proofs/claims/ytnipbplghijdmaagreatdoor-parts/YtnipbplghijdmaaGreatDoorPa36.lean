/-
  Pa: PartsB.
-/
import Derived.Test.YtnipbplghijdmaaGreatDoorPa35
namespace Go.Proofs.YtnipbplghijdmaaGreatDoor
open Go.RowKit Go.Maps Go.WideShapes
set_option linter.unusedVariables false
set_option linter.unusedSimpArgs false
def Raws (w : World) (v : Value) (rss : List (List Int)) : Prop :=
 ∃ p c, v = .slice p rss.length c ∧ (p = none → rss = []) ∧ rss.length < 1000000000000000 ∧ ∀ j (h : j < rss.length), ∃ b o rv, p = some ⟨b, o, none⟩ ∧ w.cell? ⟨b, o + j, none⟩ = some rv ∧ Zs w rv rss[j]
theorem Raws.same {w w' : World} {v : Value} {rss : List (List Int)} (h : Raws w v rss) (k : Keeps w w' (fun _ => False)) : Raws w' v rss := by
 obtain ⟨p, c, rfl, h1, h2, h4⟩ := h
 refine ⟨p, c, rfl, h1, h2, fun j hj => ?_⟩
 obtain ⟨b, o, rv, e, h6, h7⟩ := h4 j hj
 exact ⟨b, o, rv, e, k.cell h6 id, h7.same k⟩
theorem Raws.at {w : World} {p : Option Addr} {c : Nat} {rss : List (List Int)} (h : Raws w (.slice p rss.length c) rss) {j : Nat} (hj : j < rss.length) : ∃ b o rv, p = some ⟨b, o, none⟩ ∧ w.cell? ⟨b, o + j, none⟩ = some rv ∧ Zs w rv rss[j] := by
 obtain ⟨p', c', e, h1, h2, h4⟩ := h
 cases e
 exact h4 j hj
theorem Tryz.infoChs : (Tryz.prog.info? 38).map (fun i => (i.zero, i.size, i.bytes)) = some (some (.slice none 0 0), 1, 24) := by kernel_rfl
def wantTo (T : List Ref.Ch) (lo hi : Str) (m j : Nat) : List Ref.Ch := ((T.take j).filter (Ref.inPart lo hi)).take m
def hasTo (T : List Ref.Ch) (lo : Str) (j : Nat) : Bool := (T.take j).any (fun c => decide (c.key = lo))
theorem wantTo_in {T : List Ref.Ch} {lo hi : Str} {m j : Nat} {c : Ref.Ch} (h : T[j]? = some c) (hc : Ref.inPart lo hi c = true) (hm : (wantTo T lo hi m j).length < m) : wantTo T lo hi m (j + 1) = wantTo T lo hi m j ++ [c] := by
 unfold wantTo at hm ⊢
 rw [List.take_add_one, h, Option.toList_some, List.filter_append, List.take_append]
 rw [List.length_take] at hm
 have e : List.filter (Ref.inPart lo hi) [c] = [c] := by simp [hc]
 rw [e, List.take_of_length_le (l := [c]) (by rw [List.length_singleton]; omega)]
theorem wantTo_full {T : List Ref.Ch} {lo hi : Str} {m j : Nat} {c : Ref.Ch} (h : T[j]? = some c) (hm : ¬ (wantTo T lo hi m j).length < m) : wantTo T lo hi m (j + 1) = wantTo T lo hi m j := by
 unfold wantTo at hm ⊢
 rw [List.take_add_one, h, Option.toList_some, List.filter_append, List.take_append]
 rw [List.length_take] at hm
 have e : m - (List.filter (Ref.inPart lo hi) (T.take j)).length = 0 := by omega
 rw [e, List.take_zero, List.append_nil]
theorem wantTo_out {T : List Ref.Ch} {lo hi : Str} {m j : Nat} {c : Ref.Ch} (h : T[j]? = some c) (hc : Ref.inPart lo hi c = false) : wantTo T lo hi m (j + 1) = wantTo T lo hi m j := by
 unfold wantTo
 rw [List.take_add_one, h, Option.toList_some, List.filter_append]
 simp [hc]
theorem hasTo_step {T : List Ref.Ch} {lo : Str} {j : Nat} {c : Ref.Ch} (h : T[j]? = some c) : hasTo T lo (j + 1) = (hasTo T lo j || decide (c.key = lo)) := by
 unfold hasTo
 rw [List.take_add_one, h, Option.toList_some, List.any_append]
 simp
theorem wantTo_length (T : List Ref.Ch) (lo hi : Str) (m j : Nat) : (wantTo T lo hi m j).length ≤ j := by
 unfold wantTo
 rw [List.length_take]
 have h1 := List.length_filter_le (Ref.inPart lo hi) (T.take j)
 have h2 := List.length_take_le j T
 omega
theorem has_all (T : List Ref.Ch) (lo : Str) : hasTo T lo T.length = (Ref.getIn T lo).isSome := by
 unfold hasTo Ref.getIn
 rw [List.take_length]
 induction T with
 | nil => rfl
 | cons x r ih =>
   rw [List.any_cons, List.find?_cons, ih]
   by_cases h : x.key = lo <;> simp [h]
structure BookAt (E : Nat → Addr) (B : Nat) (w : World) (kb : Nat) (i : Nat) (s : Ref.St) (d b : Nat) (F : Nat → Prop) (wv : Value) (W : World) : Prop where
 own : Own E B W d b s (1000 + 70000 * i) F
 fine : Fine i s
 row : W.heap[kb]? = some (.cells (bookRow d b wv) 51 (0, 0))
 wri : ∃ xs, W.ownsRow w.heap.size 38 1 wv i xs
 new : ∀ j, F j → w.heap.size ≤ j
 nkb : ¬ F kb ∧ w.heap.size ≤ kb
 nwv : ∀ g, wv.ownBlock = some g → ¬ F g ∧ g ≠ kb
 kw : Keeps w W (fun _ => False)
set_option maxHeartbeats 16000000 in
set_option maxRecDepth 100000 in
theorem parts_any {E : Nat → Addr} {B : Nat} {w : World} (H : Env E B w) (hB : B ≤ w.heap.size) (v0 v1 : Value) (rss : List (List Int)) (zs : List Int) (hr : Raws w v0 rss) (hz : Zs w v1 zs) (lo hi : Str) (most : Int) (hm1 : -9223372036854775808 ≤ most) (hm2 : most ≤ 9223372036854775807) :
   Calls Tryz.prog 7 #[v0, v1, strV lo, strV hi, .int .i64 most] w fun e w' => e = .returned (.bool true) ∧ Keeps w w' (fun _ => False) := by
 obtain ⟨j0, hj, hy0, hy1, hy2⟩ := info_parts Tryz.infoChs
 obtain ⟨j1, hj1, hz0, hz1, hz2⟩ := info_parts Tryz.infoPr
 obtain ⟨p0, c0, rfl, _, hrl, _⟩ := id hr
 obtain ⟨p1, c1, rfl, _, hzb, hzl, _⟩ := id hz
 have HSURE := hide (sure_o H hB)
 have HR := hide hr
 have HZ := hide hz
 have HRL := hide hrl
 have HZL := hide hzl
 have HZB := hide hzb
 clear hr hz hrl hzl hzb
 go_enter Tryz.func7, Tryz.ntmps7
 go_wp2_with fail
 refine HSURE.out.mono ?_
 rintro e w1 ⟨rfl, k1⟩
 have HBEG := hide (begun_o (H.same k1) (Nat.le_trans hB k1.size))
 go_wp2_with fail
 refine HBEG.out.mono ?_
 rintro e w2 ⟨kb, d, b, F0, rfl, hrow2, O2, k2, hF2, hnk2, hkb2⟩
 have sz1 := k1.size
 have B0 : BookAt E B w kb 0 Ref.St.first d b F0 (.slice none 0 0) w2 := ⟨O2.mono (by omega), Fine.first, hrow2, ⟨[], World.ownsRow_nil _ _ _ _⟩, fun j hj => by have := hF2 j hj; omega, ⟨hnk2, by omega⟩, fun g hg => (by cases hg), k1.trans k2 (fun _ _ h => h)⟩
 have HB0 := hide B0
 clear B0 O2 hrow2 hF2 hnk2
 go_wp2_with fail
 go_loopw [13, 14, 15, 16] (fun t13 t14 t15 t16 wr => ∃ (i : Nat) (s : Ref.St) (F : Nat → Prop) (wv : Value), t13 = .int .i64 i ∧ i ≤ 20 ∧ i ≤ rss.length ∧ BookAt E B w kb i s d b F wv wr) (fun t13 _ _ _ _ => 20 - (intOf t13).toNat)
 case atStart => exact ⟨0, _, _, _, rfl, by omega, by omega, HB0.out⟩
 case round =>
   obtain ⟨i, s, F, wv, rfl, hi20, hil, hBk⟩ := hrel
   have HBK := hide hBk
   obtain ⟨xs, hxs⟩ := hBk.wri
   obtain ⟨pv, cv, rfl⟩ := slice_of_row hxs
   have HXS := hide hxs
   have q1 := cell_of_heap (o := 1) hBk.row
   have q2 := cell_of_heap (o := 2) hBk.row
   simp at q1 q2
   have hrr := HRL.out
   have hzz := HZL.out
   clear hBk hxs
   rcases Nat.lt_or_ge i rss.length with hlt | hge
   · have hb1 : (i : Int) < (rss.length : Int) := by omega
     rcases Nat.lt_or_ge i 20 with h20 | h20
     · have hb2 : (i : Int) < 20 := by omega
       obtain ⟨rb, ro, rv, rfl, hrc, hrz⟩ := (HR.out.same HBK.out.kw).at hlt
       have HBAT := hide (batch_raw q2 (by omega) rv rss[i] hrz)
       have hil2 : i < rss.length := hlt
       clear hrz
       go_wp2_with fail
       refine HBAT.out.mono ?_
       rintro e w3 ⟨v3, es, rfl, hr3, h1, h8, hsm, k3⟩
       obtain ⟨p3, c3, rfl⟩ := slice_of_row hr3
       have O3 := HBK.out.own.same k3
       have hsb := smallBatch h1 h8 hsm
       have hfin := HBK.out.fine
       have HWR := hide (write_o O3 (by omega) (.slice p3 es.length c3) es hsb.1 (chs_of_row hr3) (fun p n c e t => by
         have hb' : (Value.slice p3 es.length c3).ownBlock = some p.block := by rw [e]; rfl
         have h2 := (hr3.lt _ hb').1
         have h3 := (HBK.out.own.old t).2
         omega) (by have := hfin.last; omega) (by have := hfin.mem; have := hfin.split; omega) (by
         have h2 := hfin.size
         have h3 := hsb.2 (s.last + 1)
         have h4 := hfin.split
         omega))
       have hrow3 := k3.same HBK.out.row id
       have q13 := cell_of_heap (o := 1) hrow3
       simp at q13
       have fin1 := hfin.write h1 h8 hsm (by omega)
       obtain ⟨ne, hne⟩ : ∃ ne, ne = es.length := ⟨_, rfl⟩
       rw [← hne] at HWR hr3 ⊢
       have HR3 := hide hr3
       have HROW3 := hide hrow3
       have HFIN1 := hide fin1
       have HXS3 := hide (k3.row HXS.out (fun _ _ h => h))
       clear hrow3 hsb hfin fin1 hne hr3 h1 h8 hsm q1 q2 hrc
       go_wp2_with fail
       refine HWR.out.mono ?_
       rintro e w4 ⟨rfl, h4⟩
       obtain ⟨F4, O4, hF4, kw4, k34, hF34⟩ := OwnPost.new (HBK.out.kw.trans k3 (fun _ _ h => h)) HBK.out.new h4
       have hkb3 : kb < w3.heap.size := lt_of_heap HROW3.out
       have hnk4 : ¬ F4 kb := fun t => by
         rcases hF34 kb t with t | t
         · exact HBK.out.nkb.1 t
         · omega
       have hrow4 := k34.same HROW3.out HBK.out.nkb.1
       have hxs4 := k34.row HXS3.out (fun g hg t => (HBK.out.nwv g hg).1 t)
       have hnv4 : ∀ g, (Value.slice pv i cv).ownBlock = some g → ¬ F4 g := fun g hg t => by
         rcases hF34 g t with t | t
         · exact (HBK.out.nwv g hg).1 t
         · have := (HXS3.out.lt g hg).2
           omega
       have q14 := cell_of_heap (o := 1) hrow4
       simp at q14
       have HROW4 := hide hrow4
       have HXS4 := hide hxs4
       clear h4 hrow4 hxs4 q13
       rcases Nat.lt_or_ge i zs.length with hz1 | hz1
       · have hbz : (i : Int) < (zs.length : Int) := by omega
         obtain ⟨zb, zo, rfl, hzc⟩ := (HZ.out.same kw4).at hz1
         have hzi := HZB.out zs[i] (List.getElem_mem hz1)
         generalize zs[i] = z at hzc hzi
         have HPK : Hid (∀ W, Calls Tryz.prog 25 #[.int .i64 z, .int .i64 2] W fun e w' => e = .returned (.int .i64 (pickA z 2)) ∧ w' = W) := fun W => pick_any z hzi.1 hzi.2 2 (by decide) (by decide) W
         have hp2 := pickA_lt z (n := 2) (by decide)
         generalize pickA z 2 = P at HPK hp2
         clear hzi
         rcases Nat.eq_zero_or_pos P with hP | hP
         · have hPb : ((P : Int) == 0) = true := by simp; omega
           have hk4 : 1000 + 70000 * i + 20000 < 530000000000 := by omega
           have HFL := hide (flush_o O4 hk4 (by have := HFIN1.out.next; have := HFIN1.out.split; omega) (by have := HFIN1.out.runs; have := HFIN1.out.split; omega) (HFIN1.out.room (by omega)))
           clear hP hp2 hk4
           go_wp2_with fail
           refine (HPK.out _).mono ?_
           rintro e w4' ⟨rfl, h4'⟩
           subst h4'
           go_wp2_with fail
           refine HFL.out.mono ?_
           rintro e w5 ⟨rfl, h5⟩
           obtain ⟨F5, O5', hF5, kw5, k45, hF45⟩ := OwnPost.new kw4 hF4 h5
           have O5 := O5'.mono (m := 1000 + 70000 * (i + 1)) (by omega)
           have fin5 := HFIN1.out.flush (by omega)
           have hnk5 : ¬ F5 kb := fun t => by
             rcases hF45 kb t with t | t
             · exact hnk4 t
             · have := k34.size; omega
           have hrow5 := k45.same HROW4.out hnk4
           have hxs5 := k45.row HXS4.out (fun g hg t => hnv4 g hg t)
           have hnv5 : ∀ g, (Value.slice pv i cv).ownBlock = some g → ¬ F5 g := fun g hg t => by
             rcases hF45 g t with t | t
             · exact hnv4 g hg t
             · have := (HXS4.out.lt g hg).2
               omega
           generalize (s.write es).flush = s5 at O5 fin5
           clear O5' h5 q14 hzc HFL HPK
           have z2 := cell_of_heap (o := 2) hrow5
           simp at z2
           have HROW5 := hide hrow5
           have HXS5 := hide hxs5
           have h63 : Hid (i + 1 ≤ maxLen) := (show i + 1 ≤ maxLen from by unfold maxLen; omega)
           have hbs : Hid ((i + 1) * 24 ≤ 140737488355328) := (show (i + 1) * 24 ≤ 140737488355328 from by omega)
           have hownA := hxs5.alloc (.cells #[.slice p3 ne c3] 38)
           have hsz5 : w.heap.size ≤ (w5.alloc (.cells #[.slice p3 ne c3] 38)).heap.size := Nat.le_trans kw5.size (Keeps.alloc w5 _ (fun _ => False)).size
           have hone : ∀ u ∈ [Value.slice p3 ne c3], u.oneCell' = true := fun u hu => by rw [List.mem_singleton.1 hu]; rfl
           have hwi : IntKind.i64.wrap ((i : Int) + 1) = (i : Int) + 1 := wrap_i64 (by omega) (by omega)
           have hkl5 : kb < w5.heap.size := lt_of_heap hrow5
           have HST : Hid (∀ W6, (w5.alloc (.cells #[.slice p3 ne c3] 38)).grownBy W6 (Value.slice pv i cv).ownBlock → W6.cell? ⟨kb, 2, none⟩ = some (.slice pv i cv) ∧ W6.frozen? ⟨kb, 2, none⟩ = false ∧ W6.heap[kb]? = some (.cells (bookRow d b (.slice pv i cv)) 51 (0, 0))) := fun W6 hg => by
             have hk := (Keeps.grown hg).same ((Keeps.alloc w5 (.cells #[.slice p3 ne c3] 38) (fun _ => False)).same HROW5.out id) (fun e => (HBK.out.nwv kb e.symm).2 rfl)
             have hc := cell_of_heap (o := 2) hk
             exact ⟨by simpa using hc, frozen_of_heap hk, hk⟩
           clear hrow5 hxs5
           go_wp2_with (first | (at_builtin; refine wpList_append_own_sl _ rfl (.tmp 79) (.tmp 81) 27 rfl w.heap.size 38 j0 (.slice none 0 0) 1 24 Tryz.underlying27 hj hy0 hy1 hy2 rfl Nat.zero_lt_one _ _ _ rfl hownA ⟨w5.heap.size, 0, none⟩ 1 1 [.slice p3 ne c3] rfl rfl (cell_one_new _ _ _) hone h63.out hbs.out hsz5 ?_; intro p6 c6 w6 hr6 hg6 hl6; obtain ⟨r2, r3, r4⟩ := HST.out w6 hg6))
           have kA := Keeps.alloc w5 (.cells #[.slice p3 ne c3] 38) (fun _ => False)
           have k56 : Keeps w5 w6 (fun j => (Value.slice pv i cv).ownBlock = some j) := (kA.mono (fun _ _ h => h.elim)).trans (Keeps.grown hg6) (fun j _ e => e.symm)
           have k67 := Keeps.setCell w6 ⟨kb, 2, none⟩ (.slice p6 (i + 1) c6)
           have sz56 := k56.size
           have hown6 : ∀ g, (Value.slice p6 (i + 1) c6).ownBlock = some g → (Value.slice pv i cv).ownBlock = some g ∨ w5.heap.size ≤ g := fun g hg => by
             rcases hl6 with h | h
             · exact .inl (h ▸ hg)
             · rw [h] at hg
               cases hg
               exact .inr kA.size
           have hB5 := O5.size
           have B7 : BookAt E B w kb (i + 1) s5 d b F5 (.slice p6 (i + 1) c6) (w6.setCell ⟨kb, 2, none⟩ (.slice p6 (i + 1) c6)) := by
             refine ⟨(O5.keep k56 (fun j _ e => ⟨by have := (HXS5.out.lt j e).1; omega, hnv5 j e⟩)).keep k67 (fun j _ e => by have e' : j = kb := e; rw [e']; exact ⟨by have := HBK.out.nkb.2; omega, hnk5⟩), fin5, (heap_setCell_at r4 _).trans rfl, ⟨_, k67.row hr6 (fun g hg e => ?_)⟩, hF5, ⟨hnk5, HBK.out.nkb.2⟩, fun g hg => ⟨fun t => ?_, fun e => ?_⟩, (kw5.trans k56 (fun j hj e => by have := (HXS5.out.lt j e).1; omega)).trans k67 (fun j hj e => by have e' : j = kb := e; have := HBK.out.nkb.2; omega)⟩
             · have e' : g = kb := e
               rcases hown6 g hg with t | t
               · exact (HBK.out.nwv g t).2 e'
               · omega
             · rcases hown6 g hg with t' | t'
               · exact hnv5 g t' t
               · have := (O5.old t).2
                 omega
             · rcases hown6 g hg with t | t
               · exact (HBK.out.nwv g t).2 e
               · omega
           have HB7 := hide B7
           clear B7
           go_wp2
           exact ⟨⟨i + 1, s5, F5, .slice p6 (i + 1) c6, by simp, by omega, by omega, HB7.out⟩, by simp [intOf]; omega⟩
         · have hPb : ((P : Int) == 0) = false := by simp; omega
           clear hP hp2
           go_wp2_with fail
           refine (HPK.out _).mono ?_
           rintro e w4' ⟨rfl, h4'⟩
           subst h4'
           have O5 := O4.mono (m := 1000 + 70000 * (i + 1)) (by omega)
           have fin5 := HFIN1.out
           have hnk5 := hnk4
           have hrow5 := HROW4.out
           have hxs5 := HXS4.out
           have hnv5 := hnv4
           have hF5 := hF4
           have kw5 := kw4
           generalize s.write es = s5 at O5 fin5
           obtain ⟨w5, hw5⟩ : ∃ w5, w5 = w4' := ⟨_, rfl⟩
           subst hw5
           obtain ⟨F5, hFF⟩ : ∃ F5, F5 = F4 := ⟨_, rfl⟩
           subst hFF
           have z2 := cell_of_heap (o := 2) hrow5
           simp at z2
           have HROW5 := hide hrow5
           have HXS5 := hide hxs5
           have h63 : Hid (i + 1 ≤ maxLen) := (show i + 1 ≤ maxLen from by unfold maxLen; omega)
           have hbs : Hid ((i + 1) * 24 ≤ 140737488355328) := (show (i + 1) * 24 ≤ 140737488355328 from by omega)
           have hownA := hxs5.alloc (.cells #[.slice p3 ne c3] 38)
           have hsz5 : w.heap.size ≤ (w5.alloc (.cells #[.slice p3 ne c3] 38)).heap.size := Nat.le_trans kw5.size (Keeps.alloc w5 _ (fun _ => False)).size
           have hone : ∀ u ∈ [Value.slice p3 ne c3], u.oneCell' = true := fun u hu => by rw [List.mem_singleton.1 hu]; rfl
           have hwi : IntKind.i64.wrap ((i : Int) + 1) = (i : Int) + 1 := wrap_i64 (by omega) (by omega)
           have hkl5 : kb < w5.heap.size := lt_of_heap hrow5
           have HST : Hid (∀ W6, (w5.alloc (.cells #[.slice p3 ne c3] 38)).grownBy W6 (Value.slice pv i cv).ownBlock → W6.cell? ⟨kb, 2, none⟩ = some (.slice pv i cv) ∧ W6.frozen? ⟨kb, 2, none⟩ = false ∧ W6.heap[kb]? = some (.cells (bookRow d b (.slice pv i cv)) 51 (0, 0))) := fun W6 hg => by
             have hk := (Keeps.grown hg).same ((Keeps.alloc w5 (.cells #[.slice p3 ne c3] 38) (fun _ => False)).same HROW5.out id) (fun e => (HBK.out.nwv kb e.symm).2 rfl)
             have hc := cell_of_heap (o := 2) hk
             exact ⟨by simpa using hc, frozen_of_heap hk, hk⟩
           clear hrow5 hxs5
           go_wp2_with (first | (at_builtin; refine wpList_append_own_sl _ rfl (.tmp 79) (.tmp 81) 27 rfl w.heap.size 38 j0 (.slice none 0 0) 1 24 Tryz.underlying27 hj hy0 hy1 hy2 rfl Nat.zero_lt_one _ _ _ rfl hownA ⟨w5.heap.size, 0, none⟩ 1 1 [.slice p3 ne c3] rfl rfl (cell_one_new _ _ _) hone h63.out hbs.out hsz5 ?_; intro p6 c6 w6 hr6 hg6 hl6; obtain ⟨r2, r3, r4⟩ := HST.out w6 hg6))
           have kA := Keeps.alloc w5 (.cells #[.slice p3 ne c3] 38) (fun _ => False)
           have k56 : Keeps w5 w6 (fun j => (Value.slice pv i cv).ownBlock = some j) := (kA.mono (fun _ _ h => h.elim)).trans (Keeps.grown hg6) (fun j _ e => e.symm)
           have k67 := Keeps.setCell w6 ⟨kb, 2, none⟩ (.slice p6 (i + 1) c6)
           have sz56 := k56.size
           have hown6 : ∀ g, (Value.slice p6 (i + 1) c6).ownBlock = some g → (Value.slice pv i cv).ownBlock = some g ∨ w5.heap.size ≤ g := fun g hg => by
             rcases hl6 with h | h
             · exact .inl (h ▸ hg)
             · rw [h] at hg
               cases hg
               exact .inr kA.size
           have hB5 := O5.size
           have B7 : BookAt E B w kb (i + 1) s5 d b F5 (.slice p6 (i + 1) c6) (w6.setCell ⟨kb, 2, none⟩ (.slice p6 (i + 1) c6)) := by
             refine ⟨(O5.keep k56 (fun j _ e => ⟨by have := (HXS5.out.lt j e).1; omega, hnv5 j e⟩)).keep k67 (fun j _ e => by have e' : j = kb := e; rw [e']; exact ⟨by have := HBK.out.nkb.2; omega, hnk5⟩), fin5, (heap_setCell_at r4 _).trans rfl, ⟨_, k67.row hr6 (fun g hg e => ?_)⟩, hF5, ⟨hnk5, HBK.out.nkb.2⟩, fun g hg => ⟨fun t => ?_, fun e => ?_⟩, (kw5.trans k56 (fun j hj e => by have := (HXS5.out.lt j e).1; omega)).trans k67 (fun j hj e => by have e' : j = kb := e; have := HBK.out.nkb.2; omega)⟩
             · have e' : g = kb := e
               rcases hown6 g hg with t | t
               · exact (HBK.out.nwv g t).2 e'
               · omega
             · rcases hown6 g hg with t' | t'
               · exact hnv5 g t' t
               · have := (O5.old t).2
                 omega
             · rcases hown6 g hg with t | t
               · exact (HBK.out.nwv g t).2 e
               · omega
           have HB7 := hide B7
           clear B7
           go_wp2
           exact ⟨⟨i + 1, s5, F5, .slice p6 (i + 1) c6, by simp, by omega, by omega, HB7.out⟩, by simp [intOf]; omega⟩
       · have hbz : ¬ (i : Int) < (zs.length : Int) := by omega
         have O5 := O4.mono (m := 1000 + 70000 * (i + 1)) (by omega)
         have fin5 := HFIN1.out
         have hnk5 := hnk4
         have hrow5 := HROW4.out
         have hxs5 := HXS4.out
         have hnv5 := hnv4
         have hF5 := hF4
         have kw5 := kw4
         generalize s.write es = s5 at O5 fin5
         obtain ⟨w5, hw5⟩ : ∃ w5, w5 = w4 := ⟨_, rfl⟩
         subst hw5
         obtain ⟨F5, hFF⟩ : ∃ F5, F5 = F4 := ⟨_, rfl⟩
         subst hFF
         have z2 := cell_of_heap (o := 2) hrow5
         simp at z2
         have HROW5 := hide hrow5
         have HXS5 := hide hxs5
         have h63 : Hid (i + 1 ≤ maxLen) := (show i + 1 ≤ maxLen from by unfold maxLen; omega)
         have hbs : Hid ((i + 1) * 24 ≤ 140737488355328) := (show (i + 1) * 24 ≤ 140737488355328 from by omega)
         have hownA := hxs5.alloc (.cells #[.slice p3 ne c3] 38)
         have hsz5 : w.heap.size ≤ (w5.alloc (.cells #[.slice p3 ne c3] 38)).heap.size := Nat.le_trans kw5.size (Keeps.alloc w5 _ (fun _ => False)).size
         have hone : ∀ u ∈ [Value.slice p3 ne c3], u.oneCell' = true := fun u hu => by rw [List.mem_singleton.1 hu]; rfl
         have hwi : IntKind.i64.wrap ((i : Int) + 1) = (i : Int) + 1 := wrap_i64 (by omega) (by omega)
         have hkl5 : kb < w5.heap.size := lt_of_heap hrow5
         have HST : Hid (∀ W6, (w5.alloc (.cells #[.slice p3 ne c3] 38)).grownBy W6 (Value.slice pv i cv).ownBlock → W6.cell? ⟨kb, 2, none⟩ = some (.slice pv i cv) ∧ W6.frozen? ⟨kb, 2, none⟩ = false ∧ W6.heap[kb]? = some (.cells (bookRow d b (.slice pv i cv)) 51 (0, 0))) := fun W6 hg => by
           have hk := (Keeps.grown hg).same ((Keeps.alloc w5 (.cells #[.slice p3 ne c3] 38) (fun _ => False)).same HROW5.out id) (fun e => (HBK.out.nwv kb e.symm).2 rfl)
           have hc := cell_of_heap (o := 2) hk
           exact ⟨by simpa using hc, frozen_of_heap hk, hk⟩
         clear hrow5 hxs5
         go_wp2_with (first | (at_builtin; refine wpList_append_own_sl _ rfl (.tmp 79) (.tmp 81) 27 rfl w.heap.size 38 j0 (.slice none 0 0) 1 24 Tryz.underlying27 hj hy0 hy1 hy2 rfl Nat.zero_lt_one _ _ _ rfl hownA ⟨w5.heap.size, 0, none⟩ 1 1 [.slice p3 ne c3] rfl rfl (cell_one_new _ _ _) hone h63.out hbs.out hsz5 ?_; intro p6 c6 w6 hr6 hg6 hl6; obtain ⟨r2, r3, r4⟩ := HST.out w6 hg6))
         have kA := Keeps.alloc w5 (.cells #[.slice p3 ne c3] 38) (fun _ => False)
         have k56 : Keeps w5 w6 (fun j => (Value.slice pv i cv).ownBlock = some j) := (kA.mono (fun _ _ h => h.elim)).trans (Keeps.grown hg6) (fun j _ e => e.symm)
         have k67 := Keeps.setCell w6 ⟨kb, 2, none⟩ (.slice p6 (i + 1) c6)
         have sz56 := k56.size
         have hown6 : ∀ g, (Value.slice p6 (i + 1) c6).ownBlock = some g → (Value.slice pv i cv).ownBlock = some g ∨ w5.heap.size ≤ g := fun g hg => by
           rcases hl6 with h | h
           · exact .inl (h ▸ hg)
           · rw [h] at hg
             cases hg
             exact .inr kA.size
         have hB5 := O5.size
         have B7 : BookAt E B w kb (i + 1) s5 d b F5 (.slice p6 (i + 1) c6) (w6.setCell ⟨kb, 2, none⟩ (.slice p6 (i + 1) c6)) := by
           refine ⟨(O5.keep k56 (fun j _ e => ⟨by have := (HXS5.out.lt j e).1; omega, hnv5 j e⟩)).keep k67 (fun j _ e => by have e' : j = kb := e; rw [e']; exact ⟨by have := HBK.out.nkb.2; omega, hnk5⟩), fin5, (heap_setCell_at r4 _).trans rfl, ⟨_, k67.row hr6 (fun g hg e => ?_)⟩, hF5, ⟨hnk5, HBK.out.nkb.2⟩, fun g hg => ⟨fun t => ?_, fun e => ?_⟩, (kw5.trans k56 (fun j hj e => by have := (HXS5.out.lt j e).1; omega)).trans k67 (fun j hj e => by have e' : j = kb := e; have := HBK.out.nkb.2; omega)⟩
           · have e' : g = kb := e
             rcases hown6 g hg with t | t
             · exact (HBK.out.nwv g t).2 e'
             · omega
           · rcases hown6 g hg with t' | t'
             · exact hnv5 g t' t
             · have := (O5.old t).2
               omega
           · rcases hown6 g hg with t | t
             · exact (HBK.out.nwv g t).2 e
             · omega
         have HB7 := hide B7
         clear B7
         go_wp2
         exact ⟨⟨i + 1, s5, F5, .slice p6 (i + 1) c6, by simp, by omega, by omega, HB7.out⟩, by simp [intOf]; omega⟩
     · have hb2 : ¬ (i : Int) < 20 := by omega
       have O1 := HBK.out.own
       have hall := lens_all HBK.out.fine
       obtain ⟨T, hT⟩ : ∃ T, T = Ref.there s.all := ⟨_, rfl⟩
       have hTl : T.length ≤ 160 := by
         have h1 := List.length_filter_le (fun c : Ref.Ch => !c.gone) s.all
         rw [hT]
         unfold Ref.there
         omega
       have hsc1 := scan_o O1 (by omega) (by omega) [] [] 1000 (by decide)
       have e1 : Ref.scanIn s.all [] [] 1000 = T := by
         unfold Ref.scanIn
         rw [← hT, List.filter_eq_self.2 (fun c _ => by simp [Ref.inPart]), List.take_of_length_le (by omega)]
       rw [e1] at hsc1
       have HSC1 := hide hsc1
       have HT := hide hT
       have hkF := HBK.out.nkb.1
       have hnF := HBK.out.new
       have hkw := HBK.out.kw
       clear hsc1 e1 hT hall
       go_wp2_with fail
       refine HSC1.out.mono ?_
       rintro e w5 ⟨⟨v5, rfl, hr5⟩, O5, k5⟩
       have hrow5 := k5.same HBK.out.row hkF
       have q15 := cell_of_heap (o := 1) hrow5
       simp at q15
       have kw5 : Keeps w w5 (fun _ => False) := hkw.trans k5 (fun j hj t => by have := hnF j t; omega)
       have HROW5 := hide hrow5
       clear hrow5
       rcases (by omega : most < 0 ∨ 0 ≤ most) with hneg | hpos
       · obtain ⟨ρ5, rv5, mv5, S5, _⟩ := id O5
         have HNEG := hide (scan_neg S5.row lo hi most hneg)
         clear S5
         go_wp2_with fail
         refine HNEG.out.mono ?_
         rintro e w6 ⟨rfl, k6⟩
         go_wp2
         go_ret
         exact ⟨rfl, kw5.trans k6 (fun _ _ h => h)⟩
       · obtain ⟨m, rfl⟩ := Int.eq_ofNat_of_zero_le hpos
         have hsc2 := scan_o O5 (by omega) (by have := lens_all HBK.out.fine; omega) lo hi m (by omega)
         have e2 : Ref.scanIn s.all lo hi m = wantTo T lo hi m T.length := by
           unfold Ref.scanIn wantTo
           rw [HT.out, List.take_length]
         rw [e2] at hsc2
         have HSC2 := hide hsc2
         have hmneg : ¬ (m : Int) < 0 := by omega
         clear hsc2 e2 hpos
         obtain ⟨p5, c5, rfl⟩ := slice_of_row hr5
         have HR5 := hide hr5
         obtain ⟨n, hn⟩ : ∃ n, n = T.length := ⟨_, rfl⟩
         rw [← hn]
         have HN := hide hn
         have hn160 : n ≤ 160 := by omega
         clear hr5 hn hTl
         go_wp2_with fail
         refine HSC2.out.mono ?_
         rintro e w6 ⟨⟨v6, rfl, hr6⟩, O6, k6⟩
         have hPA : Prs w6 (.slice p5 n c5) T := ⟨w.heap.size, row_base (k6.row (by have := HR5.out; rw [← HN.out] at this; rw [← HN.out]; exact this) (fun g hg t => by
           have h1 := (HR5.out.lt g (by rw [← HN.out]; exact hg)).1
           have h2 := (O1.old t).2
           omega)) (by have := hkw.size; omega)⟩
         have hrow6 := k6.same HROW5.out hkF
         have kw6 : Keeps w w6 (fun _ => False) := kw5.trans k6 (fun j hj t => by have := hnF j t; omega)
         have HPA := hide hPA
         have HR6 := hide hr6
         have HROW6 := hide hrow6
         obtain ⟨p6, c6, rfl⟩ := slice_of_row hr6
         obtain ⟨nl, hnl⟩ : ∃ nl, nl = (wantTo T lo hi m T.length).length := ⟨_, rfl⟩
         rw [← hnl]
         have HNL := hide hnl
         clear hPA hr6 hrow6 hnl q15
         go_wp2_with fail
         go_loopw [21, 22, 23] (fun t21 t22 t23 wr2 => ∃ (j : Nat) (hv : Bool), t23 = .int .i64 j ∧ j ≤ n ∧ t22 = .bool hv ∧ Hid (hv = hasTo T lo j) ∧ wr2.ownsRow w6.heap.size 65 2 t21 (wantTo T lo hi m j).length (prCells (wantTo T lo hi m j)) ∧ Keeps w6 wr2 (fun _ => False)) (fun _ _ t23 _ => n - (intOf t23).toNat)
         case atStart => exact ⟨0, false, rfl, Nat.zero_le _, rfl, rfl, by unfold wantTo; simp [prCells]; exact World.ownsRow_nil _ _ _ _, Keeps.refl _ _⟩
         case round =>
           obtain ⟨j, hv, rfl, hjn, rfl, HHV, hrw, kk⟩ := hrel
           have HRW := hide hrw
           obtain ⟨pq, cq, rfl⟩ := slice_of_row hrw
           have hwl := wantTo_length T lo hi m j
           obtain ⟨q, hq⟩ : ∃ q, q = (wantTo T lo hi m j).length := ⟨_, rfl⟩
           rw [← hq] at hwl ⊢
           have HQ := hide hq
           clear hrw hq
           rcases Nat.lt_or_ge j n with hlt | hge
           · have hjT : j < T.length := by rw [← HN.out]; exact hlt
             obtain ⟨g, cg, eg, a0, a1⟩ := (HPA.out.same kk).at hjT
             injection eg with eg1 eg2 eg3
             subst eg1
             clear eg2 eg3
             have hcj : T[j]? = some T[j] := List.getElem?_eq_getElem hjT
             generalize T[j] = x at a0 a1 hcj
             obtain ⟨xk, xv, xg⟩ := x
             simp only at a0 a1
             have HCJ := hide hcj
             have hst := hasTo_step (lo := lo) hcj
             have hji : (j : Int) < (n : Int) := by omega
             have hwj : IntKind.i64.wrap ((j : Int) + 1) = (j : Int) + 1 := wrap_i64 (by omega) (by omega)
             obtain ⟨EB, hEB⟩ : ∃ EB, EB = decide (xk = lo) := ⟨_, rfl⟩
             have hkb : (xk == lo) = EB := by rw [hEB]; exact (Bool.beq_eq_decide_eq xk lo)
             have hst2 : hasTo T lo (j + 1) = (hv || EB) := by rw [hst, ← HHV.out, hEB]
             have HST2 := hide hst2
             have hne : q + 1 ≤ 200 := by omega
             have h63 : Hid (q + 1 ≤ maxLen) := (show q + 1 ≤ maxLen from by unfold maxLen; omega)
             have hbs : Hid ((q + 1) * 32 ≤ 140737488355328) := (show (q + 1) * 32 ≤ 140737488355328 from by omega)
             have HRWQ : Hid (wr.ownsRow w6.heap.size 65 2 (.slice pq q cq) q (prCells (wantTo T lo hi m j))) := by have := HRW.out; rw [← HQ.out] at this; exact this
             clear hcj hst hst2 hEB hjT
             by_cases hK : xk < lo
             · have hBL : Op.bytesLess xk lo = true := by rw [bytesLess_eq]; simpa using hK
               have HEQ := hide (wantTo_out (lo := lo) (hi := hi) (m := m) HCJ.out (by simp [Ref.inPart, hK]))
               clear hK
               cases hv with
               | true =>
                 go_wp2
                 exact ⟨⟨j + 1, true, by simp, by omega, rfl, (show true = hasTo T lo (j + 1) from by rw [HST2.out]; rfl), by rw [HEQ.out, ← HQ.out]; exact HRWQ.out, kk⟩, by simp [intOf]; omega⟩
               | false =>
                 go_wp2
                 exact ⟨⟨j + 1, EB, by simp, by omega, rfl, (show EB = hasTo T lo (j + 1) from by rw [HST2.out]; rfl), by rw [HEQ.out, ← HQ.out]; exact HRWQ.out, kk⟩, by simp [intOf]; omega⟩
             · have hBL : Op.bytesLess xk lo = false := by rw [bytesLess_eq]; simpa using hK
               by_cases h0 : hi = []
               · have HIN : Hid (Ref.inPart lo hi ⟨xk, xv, xg⟩ = true) := (show Ref.inPart lo hi ⟨xk, xv, xg⟩ = true from by simp [Ref.inPart, hK, h0])
                 have hE : List.isEmpty hi = true := by rw [h0]; rfl
                 clear hK h0
                 rcases Nat.lt_or_ge q m with hqm | hqm
                 · have hqi : (q : Int) < (m : Int) := by omega
                   have HEQ := hide (wantTo_in HCJ.out HIN.out (by rw [← HQ.out]; exact hqm))
                   have HLN : Hid ((wantTo T lo hi m (j + 1)).length = q + 1) := by rw [HEQ.out, List.length_append, ← HQ.out]; rfl
                   have hownA := HRWQ.out.alloc (.cells #[strV xk, strV xv] 65)
                   have hone : ∀ u ∈ prCells [⟨xk, xv, xg⟩], u.oneCell' = true := pr_one _
                   have hnew : ∀ j' u, (prCells [⟨xk, xv, xg⟩])[j']? = some u → (wr.alloc (.cells #[strV xk, strV xv] 65)).cell? ((⟨wr.heap.size, 0, none⟩ : Addr).add j') = some u := fun j' u hu => by
                     rw [add_at, cell_of_heap (heap_alloc_top wr _)]
                     simpa [prCells] using hu
                   have hsz : w6.heap.size ≤ (wr.alloc (.cells #[strV xk, strV xv] 65)).heap.size := Nat.le_trans kk.size (Keeps.alloc wr _ (fun _ => False)).size
                   have HST : Hid (∀ W7, (wr.alloc (.cells #[strV xk, strV xv] 65)).grownBy W7 (Value.slice pq q cq).ownBlock → W7.cell? ⟨g, j * 2, none⟩ = some (strV xk)) := fun W7 hg => (Keeps.grown hg).cell ((Keeps.alloc wr _ (fun _ => False)).cell a0 id) (fun e => by
                     have h1 := (HRWQ.out.lt g e.symm).1
                     obtain ⟨base, hP⟩ := HPA.out
                     have h2 := (hP.lt g rfl).2
                     omega)
                   cases hv with
                   | true =>
                     go_wp2_with (first | (at_builtin; refine wpList_append_own_sl _ rfl (.tmp 153) (.tmp 158) 55 rfl w6.heap.size 65 j1 prZ 2 32 Tryz.underlying55 hj1 hz0 hz1 hz2 rfl (Nat.zero_lt_succ 1) _ _ _ rfl hownA ⟨wr.heap.size, 0, none⟩ 1 1 (prCells [⟨xk, xv, xg⟩]) rfl rfl hnew hone h63.out hbs.out hsz ?_; intro p7 c7 w7 hr7 hg7 hl7; have a07 := HST.out w7 hg7))
                     have k7 : Keeps w6 w7 (fun _ => False) := (kk.more _).grow hg7 (fun i e hi => by have := (HRWQ.out.lt i e).1; omega)
                     rw [← prCells_snoc, ← HEQ.out] at hr7
                     exact ⟨⟨j + 1, true, by simp, by omega, rfl, (show true = hasTo T lo (j + 1) from by rw [HST2.out]; rfl), by rw [HLN.out]; exact hr7, k7⟩, by simp [intOf]; omega⟩
                   | false =>
                     go_wp2_with (first | (at_builtin; refine wpList_append_own_sl _ rfl (.tmp 153) (.tmp 158) 55 rfl w6.heap.size 65 j1 prZ 2 32 Tryz.underlying55 hj1 hz0 hz1 hz2 rfl (Nat.zero_lt_succ 1) _ _ _ rfl hownA ⟨wr.heap.size, 0, none⟩ 1 1 (prCells [⟨xk, xv, xg⟩]) rfl rfl hnew hone h63.out hbs.out hsz ?_; intro p7 c7 w7 hr7 hg7 hl7; have a07 := HST.out w7 hg7))
                     have k7 : Keeps w6 w7 (fun _ => False) := (kk.more _).grow hg7 (fun i e hi => by have := (HRWQ.out.lt i e).1; omega)
                     rw [← prCells_snoc, ← HEQ.out] at hr7
                     exact ⟨⟨j + 1, EB, by simp, by omega, rfl, (show EB = hasTo T lo (j + 1) from by rw [HST2.out]; rfl), by rw [HLN.out]; exact hr7, k7⟩, by simp [intOf]; omega⟩
                 · have hqi : ¬ (q : Int) < (m : Int) := by omega
                   have HEQ := hide (wantTo_full (lo := lo) (hi := hi) (m := m) HCJ.out (by rw [← HQ.out]; omega))
                   cases hv with
                   | true =>
                     go_wp2
                     exact ⟨⟨j + 1, true, by simp, by omega, rfl, (show true = hasTo T lo (j + 1) from by rw [HST2.out]; rfl), by rw [HEQ.out, ← HQ.out]; exact HRWQ.out, kk⟩, by simp [intOf]; omega⟩
                   | false =>
                     go_wp2
                     exact ⟨⟨j + 1, EB, by simp, by omega, rfl, (show EB = hasTo T lo (j + 1) from by rw [HST2.out]; rfl), by rw [HEQ.out, ← HQ.out]; exact HRWQ.out, kk⟩, by simp [intOf]; omega⟩
               · have hE : List.isEmpty hi = false := by cases hi <;> simp_all
                 by_cases hH : xk < hi
                 · have HIN : Hid (Ref.inPart lo hi ⟨xk, xv, xg⟩ = true) := (show Ref.inPart lo hi ⟨xk, xv, xg⟩ = true from by simp [Ref.inPart, hK, hH])
                   have hBH : Op.bytesLess xk hi = true := by rw [bytesLess_eq]; simpa using hH
                   clear hK h0 hH
                   rcases Nat.lt_or_ge q m with hqm | hqm
                   · have hqi : (q : Int) < (m : Int) := by omega
                     have HEQ := hide (wantTo_in HCJ.out HIN.out (by rw [← HQ.out]; exact hqm))
                     have HLN : Hid ((wantTo T lo hi m (j + 1)).length = q + 1) := by rw [HEQ.out, List.length_append, ← HQ.out]; rfl
                     have hownA := HRWQ.out.alloc (.cells #[strV xk, strV xv] 65)
                     have hone : ∀ u ∈ prCells [⟨xk, xv, xg⟩], u.oneCell' = true := pr_one _
                     have hnew : ∀ j' u, (prCells [⟨xk, xv, xg⟩])[j']? = some u → (wr.alloc (.cells #[strV xk, strV xv] 65)).cell? ((⟨wr.heap.size, 0, none⟩ : Addr).add j') = some u := fun j' u hu => by
                       rw [add_at, cell_of_heap (heap_alloc_top wr _)]
                       simpa [prCells] using hu
                     have hsz : w6.heap.size ≤ (wr.alloc (.cells #[strV xk, strV xv] 65)).heap.size := Nat.le_trans kk.size (Keeps.alloc wr _ (fun _ => False)).size
                     have HST : Hid (∀ W7, (wr.alloc (.cells #[strV xk, strV xv] 65)).grownBy W7 (Value.slice pq q cq).ownBlock → W7.cell? ⟨g, j * 2, none⟩ = some (strV xk)) := fun W7 hg => (Keeps.grown hg).cell ((Keeps.alloc wr _ (fun _ => False)).cell a0 id) (fun e => by
                       have h1 := (HRWQ.out.lt g e.symm).1
                       obtain ⟨base, hP⟩ := HPA.out
                       have h2 := (hP.lt g rfl).2
                       omega)
                     cases hv with
                     | true =>
                       go_wp2_with (first | (at_builtin; refine wpList_append_own_sl _ rfl (.tmp 153) (.tmp 158) 55 rfl w6.heap.size 65 j1 prZ 2 32 Tryz.underlying55 hj1 hz0 hz1 hz2 rfl (Nat.zero_lt_succ 1) _ _ _ rfl hownA ⟨wr.heap.size, 0, none⟩ 1 1 (prCells [⟨xk, xv, xg⟩]) rfl rfl hnew hone h63.out hbs.out hsz ?_; intro p7 c7 w7 hr7 hg7 hl7; have a07 := HST.out w7 hg7))
                       have k7 : Keeps w6 w7 (fun _ => False) := (kk.more _).grow hg7 (fun i e hi => by have := (HRWQ.out.lt i e).1; omega)
                       rw [← prCells_snoc, ← HEQ.out] at hr7
                       exact ⟨⟨j + 1, true, by simp, by omega, rfl, (show true = hasTo T lo (j + 1) from by rw [HST2.out]; rfl), by rw [HLN.out]; exact hr7, k7⟩, by simp [intOf]; omega⟩
                     | false =>
                       go_wp2_with (first | (at_builtin; refine wpList_append_own_sl _ rfl (.tmp 153) (.tmp 158) 55 rfl w6.heap.size 65 j1 prZ 2 32 Tryz.underlying55 hj1 hz0 hz1 hz2 rfl (Nat.zero_lt_succ 1) _ _ _ rfl hownA ⟨wr.heap.size, 0, none⟩ 1 1 (prCells [⟨xk, xv, xg⟩]) rfl rfl hnew hone h63.out hbs.out hsz ?_; intro p7 c7 w7 hr7 hg7 hl7; have a07 := HST.out w7 hg7))
                       have k7 : Keeps w6 w7 (fun _ => False) := (kk.more _).grow hg7 (fun i e hi => by have := (HRWQ.out.lt i e).1; omega)
                       rw [← prCells_snoc, ← HEQ.out] at hr7
                       exact ⟨⟨j + 1, EB, by simp, by omega, rfl, (show EB = hasTo T lo (j + 1) from by rw [HST2.out]; rfl), by rw [HLN.out]; exact hr7, k7⟩, by simp [intOf]; omega⟩
                   · have hqi : ¬ (q : Int) < (m : Int) := by omega
                     have HEQ := hide (wantTo_full (lo := lo) (hi := hi) (m := m) HCJ.out (by rw [← HQ.out]; omega))
                     cases hv with
                     | true =>
                       go_wp2
                       exact ⟨⟨j + 1, true, by simp, by omega, rfl, (show true = hasTo T lo (j + 1) from by rw [HST2.out]; rfl), by rw [HEQ.out, ← HQ.out]; exact HRWQ.out, kk⟩, by simp [intOf]; omega⟩
                     | false =>
                       go_wp2
                       exact ⟨⟨j + 1, EB, by simp, by omega, rfl, (show EB = hasTo T lo (j + 1) from by rw [HST2.out]; rfl), by rw [HEQ.out, ← HQ.out]; exact HRWQ.out, kk⟩, by simp [intOf]; omega⟩
                 · have hBH : Op.bytesLess xk hi = false := by rw [bytesLess_eq]; simpa using hH
                   have HEQ := hide (wantTo_out (lo := lo) (hi := hi) (m := m) HCJ.out (by simp [Ref.inPart, hK, h0, hH]))
                   clear hK h0 hH
                   cases hv with
                   | true =>
                     go_wp2
                     exact ⟨⟨j + 1, true, by simp, by omega, rfl, (show true = hasTo T lo (j + 1) from by rw [HST2.out]; rfl), by rw [HEQ.out, ← HQ.out]; exact HRWQ.out, kk⟩, by simp [intOf]; omega⟩
                   | false =>
                     go_wp2
                     exact ⟨⟨j + 1, EB, by simp, by omega, rfl, (show EB = hasTo T lo (j + 1) from by rw [HST2.out]; rfl), by rw [HEQ.out, ← HQ.out]; exact HRWQ.out, kk⟩, by simp [intOf]; omega⟩
           · have hji : ¬ (j : Int) < (n : Int) := by omega
             have hjn2 : j = T.length := by rw [← HN.out]; omega
             have hrow7 := kk.same HROW6.out id
             have q17 := cell_of_heap (o := 1) hrow7
             simp at q17
             have HGET := hide (get_o (O6.same kk) (by omega) lo)
             have hga : (getA (Ref.getIn s.all lo)).2 = hv := by
               rw [HHV.out, hjn2, has_all, getA_there (Ref.St.all_rising _), ← HT.out]
               cases Ref.getIn T lo <;> rfl
             rw [hga] at HGET
             generalize (getA (Ref.getIn s.all lo)).1 = GV at HGET
             have HJ := hide hjn2
             clear hga hjn2 hrow7
             go_wp2_with fail
             refine HGET.out.mono ?_
             rintro e w8 ⟨rfl, O8, k8⟩
             have kw8 : Keeps w w8 (fun _ => False) := (kw6.trans kk (fun _ _ h => h)).trans k8 (fun i hi t => by have := hnF i t; omega)
             have hS1 : Prs w8 (.slice p6 nl c6) (wantTo T lo hi m T.length) := ⟨w5.heap.size, k8.row (kk.row (by have := HR6.out; rw [← HNL.out] at this; rw [← HNL.out]; exact this) (fun _ _ h => h)) (fun g hg t => by
               have h1 := (HR6.out.lt g (by rw [← HNL.out]; exact hg)).1
               have h2 := (O5.old t).2
               omega)⟩
             have hS2 : Prs w8 (.slice pq q cq) (wantTo T lo hi m T.length) := ⟨w6.heap.size, k8.row (by rw [← HJ.out, HQ.out]; exact HRW.out) (fun g hg t => by
               have h1 := (HRW.out.lt g (by rw [← HQ.out]; exact hg)).1
               have h2 := (O6.old t).2
               omega)⟩
             have HSAME := hide (same_any _ _ _ _ hS1 hS2 rfl (by have := wantTo_length T lo hi m T.length; have := HN.out; omega))
             clear hS1 hS2
             go_wp2_with fail
             refine HSAME.out.mono ?_
             rintro e w9 ⟨rfl, k9⟩
             cases hv
             all_goals
               go_wp2
               go_ret
               exact ⟨rfl, kw8.trans k9 (fun _ _ h => h)⟩
   · have hb1 : ¬ (i : Int) < (rss.length : Int) := by omega
     have O1 := HBK.out.own
     have hall := lens_all HBK.out.fine
     obtain ⟨T, hT⟩ : ∃ T, T = Ref.there s.all := ⟨_, rfl⟩
     have hTl : T.length ≤ 160 := by
       have h1 := List.length_filter_le (fun c : Ref.Ch => !c.gone) s.all
       rw [hT]
       unfold Ref.there
       omega
     have hsc1 := scan_o O1 (by omega) (by omega) [] [] 1000 (by decide)
     have e1 : Ref.scanIn s.all [] [] 1000 = T := by
       unfold Ref.scanIn
       rw [← hT, List.filter_eq_self.2 (fun c _ => by simp [Ref.inPart]), List.take_of_length_le (by omega)]
     rw [e1] at hsc1
     have HSC1 := hide hsc1
     have HT := hide hT
     have hkF := HBK.out.nkb.1
     have hnF := HBK.out.new
     have hkw := HBK.out.kw
     clear hsc1 e1 hT hall
     go_wp2_with fail
     refine HSC1.out.mono ?_
     rintro e w5 ⟨⟨v5, rfl, hr5⟩, O5, k5⟩
     have hrow5 := k5.same HBK.out.row hkF
     have q15 := cell_of_heap (o := 1) hrow5
     simp at q15
     have kw5 : Keeps w w5 (fun _ => False) := hkw.trans k5 (fun j hj t => by have := hnF j t; omega)
     have HROW5 := hide hrow5
     clear hrow5
     rcases (by omega : most < 0 ∨ 0 ≤ most) with hneg | hpos
     · obtain ⟨ρ5, rv5, mv5, S5, _⟩ := id O5
       have HNEG := hide (scan_neg S5.row lo hi most hneg)
       clear S5
       go_wp2_with fail
       refine HNEG.out.mono ?_
       rintro e w6 ⟨rfl, k6⟩
       go_wp2
       go_ret
       exact ⟨rfl, kw5.trans k6 (fun _ _ h => h)⟩
     · obtain ⟨m, rfl⟩ := Int.eq_ofNat_of_zero_le hpos
       have hsc2 := scan_o O5 (by omega) (by have := lens_all HBK.out.fine; omega) lo hi m (by omega)
       have e2 : Ref.scanIn s.all lo hi m = wantTo T lo hi m T.length := by
         unfold Ref.scanIn wantTo
         rw [HT.out, List.take_length]
       rw [e2] at hsc2
       have HSC2 := hide hsc2
       have hmneg : ¬ (m : Int) < 0 := by omega
       clear hsc2 e2 hpos
       obtain ⟨p5, c5, rfl⟩ := slice_of_row hr5
       have HR5 := hide hr5
       obtain ⟨n, hn⟩ : ∃ n, n = T.length := ⟨_, rfl⟩
       rw [← hn]
       have HN := hide hn
       have hn160 : n ≤ 160 := by omega
       clear hr5 hn hTl
       go_wp2_with fail
       refine HSC2.out.mono ?_
       rintro e w6 ⟨⟨v6, rfl, hr6⟩, O6, k6⟩
       have hPA : Prs w6 (.slice p5 n c5) T := ⟨w.heap.size, row_base (k6.row (by have := HR5.out; rw [← HN.out] at this; rw [← HN.out]; exact this) (fun g hg t => by
         have h1 := (HR5.out.lt g (by rw [← HN.out]; exact hg)).1
         have h2 := (O1.old t).2
         omega)) (by have := hkw.size; omega)⟩
       have hrow6 := k6.same HROW5.out hkF
       have kw6 : Keeps w w6 (fun _ => False) := kw5.trans k6 (fun j hj t => by have := hnF j t; omega)
       have HPA := hide hPA
       have HR6 := hide hr6
       have HROW6 := hide hrow6
       obtain ⟨p6, c6, rfl⟩ := slice_of_row hr6
       obtain ⟨nl, hnl⟩ : ∃ nl, nl = (wantTo T lo hi m T.length).length := ⟨_, rfl⟩
       rw [← hnl]
       have HNL := hide hnl
       clear hPA hr6 hrow6 hnl q15
       go_wp2_with fail
       go_loopw [21, 22, 23] (fun t21 t22 t23 wr2 => ∃ (j : Nat) (hv : Bool), t23 = .int .i64 j ∧ j ≤ n ∧ t22 = .bool hv ∧ Hid (hv = hasTo T lo j) ∧ wr2.ownsRow w6.heap.size 65 2 t21 (wantTo T lo hi m j).length (prCells (wantTo T lo hi m j)) ∧ Keeps w6 wr2 (fun _ => False)) (fun _ _ t23 _ => n - (intOf t23).toNat)
       case atStart => exact ⟨0, false, rfl, Nat.zero_le _, rfl, rfl, by unfold wantTo; simp [prCells]; exact World.ownsRow_nil _ _ _ _, Keeps.refl _ _⟩
       case round =>
         obtain ⟨j, hv, rfl, hjn, rfl, HHV, hrw, kk⟩ := hrel
         have HRW := hide hrw
         obtain ⟨pq, cq, rfl⟩ := slice_of_row hrw
         have hwl := wantTo_length T lo hi m j
         obtain ⟨q, hq⟩ : ∃ q, q = (wantTo T lo hi m j).length := ⟨_, rfl⟩
         rw [← hq] at hwl ⊢
         have HQ := hide hq
         clear hrw hq
         rcases Nat.lt_or_ge j n with hlt | hge
         · have hjT : j < T.length := by rw [← HN.out]; exact hlt
           obtain ⟨g, cg, eg, a0, a1⟩ := (HPA.out.same kk).at hjT
           injection eg with eg1 eg2 eg3
           subst eg1
           clear eg2 eg3
           have hcj : T[j]? = some T[j] := List.getElem?_eq_getElem hjT
           generalize T[j] = x at a0 a1 hcj
           obtain ⟨xk, xv, xg⟩ := x
           simp only at a0 a1
           have HCJ := hide hcj
           have hst := hasTo_step (lo := lo) hcj
           have hji : (j : Int) < (n : Int) := by omega
           have hwj : IntKind.i64.wrap ((j : Int) + 1) = (j : Int) + 1 := wrap_i64 (by omega) (by omega)
           obtain ⟨EB, hEB⟩ : ∃ EB, EB = decide (xk = lo) := ⟨_, rfl⟩
           have hkb : (xk == lo) = EB := by rw [hEB]; exact (Bool.beq_eq_decide_eq xk lo)
           have hst2 : hasTo T lo (j + 1) = (hv || EB) := by rw [hst, ← HHV.out, hEB]
           have HST2 := hide hst2
           have hne : q + 1 ≤ 200 := by omega
           have h63 : Hid (q + 1 ≤ maxLen) := (show q + 1 ≤ maxLen from by unfold maxLen; omega)
           have hbs : Hid ((q + 1) * 32 ≤ 140737488355328) := (show (q + 1) * 32 ≤ 140737488355328 from by omega)
           have HRWQ : Hid (wr.ownsRow w6.heap.size 65 2 (.slice pq q cq) q (prCells (wantTo T lo hi m j))) := by have := HRW.out; rw [← HQ.out] at this; exact this
           clear hcj hst hst2 hEB hjT
           by_cases hK : xk < lo
           · have hBL : Op.bytesLess xk lo = true := by rw [bytesLess_eq]; simpa using hK
             have HEQ := hide (wantTo_out (lo := lo) (hi := hi) (m := m) HCJ.out (by simp [Ref.inPart, hK]))
             clear hK
             cases hv with
             | true =>
               go_wp2
               exact ⟨⟨j + 1, true, by simp, by omega, rfl, (show true = hasTo T lo (j + 1) from by rw [HST2.out]; rfl), by rw [HEQ.out, ← HQ.out]; exact HRWQ.out, kk⟩, by simp [intOf]; omega⟩
             | false =>
               go_wp2
               exact ⟨⟨j + 1, EB, by simp, by omega, rfl, (show EB = hasTo T lo (j + 1) from by rw [HST2.out]; rfl), by rw [HEQ.out, ← HQ.out]; exact HRWQ.out, kk⟩, by simp [intOf]; omega⟩
           · have hBL : Op.bytesLess xk lo = false := by rw [bytesLess_eq]; simpa using hK
             by_cases h0 : hi = []
             · have HIN : Hid (Ref.inPart lo hi ⟨xk, xv, xg⟩ = true) := (show Ref.inPart lo hi ⟨xk, xv, xg⟩ = true from by simp [Ref.inPart, hK, h0])
               have hE : List.isEmpty hi = true := by rw [h0]; rfl
               clear hK h0
               rcases Nat.lt_or_ge q m with hqm | hqm
               · have hqi : (q : Int) < (m : Int) := by omega
                 have HEQ := hide (wantTo_in HCJ.out HIN.out (by rw [← HQ.out]; exact hqm))
                 have HLN : Hid ((wantTo T lo hi m (j + 1)).length = q + 1) := by rw [HEQ.out, List.length_append, ← HQ.out]; rfl
                 have hownA := HRWQ.out.alloc (.cells #[strV xk, strV xv] 65)
                 have hone : ∀ u ∈ prCells [⟨xk, xv, xg⟩], u.oneCell' = true := pr_one _
                 have hnew : ∀ j' u, (prCells [⟨xk, xv, xg⟩])[j']? = some u → (wr.alloc (.cells #[strV xk, strV xv] 65)).cell? ((⟨wr.heap.size, 0, none⟩ : Addr).add j') = some u := fun j' u hu => by
                   rw [add_at, cell_of_heap (heap_alloc_top wr _)]
                   simpa [prCells] using hu
                 have hsz : w6.heap.size ≤ (wr.alloc (.cells #[strV xk, strV xv] 65)).heap.size := Nat.le_trans kk.size (Keeps.alloc wr _ (fun _ => False)).size
                 have HST : Hid (∀ W7, (wr.alloc (.cells #[strV xk, strV xv] 65)).grownBy W7 (Value.slice pq q cq).ownBlock → W7.cell? ⟨g, j * 2, none⟩ = some (strV xk)) := fun W7 hg => (Keeps.grown hg).cell ((Keeps.alloc wr _ (fun _ => False)).cell a0 id) (fun e => by
                   have h1 := (HRWQ.out.lt g e.symm).1
                   obtain ⟨base, hP⟩ := HPA.out
                   have h2 := (hP.lt g rfl).2
                   omega)
                 cases hv with
                 | true =>
                   go_wp2_with (first | (at_builtin; refine wpList_append_own_sl _ rfl (.tmp 153) (.tmp 158) 55 rfl w6.heap.size 65 j1 prZ 2 32 Tryz.underlying55 hj1 hz0 hz1 hz2 rfl (Nat.zero_lt_succ 1) _ _ _ rfl hownA ⟨wr.heap.size, 0, none⟩ 1 1 (prCells [⟨xk, xv, xg⟩]) rfl rfl hnew hone h63.out hbs.out hsz ?_; intro p7 c7 w7 hr7 hg7 hl7; have a07 := HST.out w7 hg7))
                   have k7 : Keeps w6 w7 (fun _ => False) := (kk.more _).grow hg7 (fun i e hi => by have := (HRWQ.out.lt i e).1; omega)
                   rw [← prCells_snoc, ← HEQ.out] at hr7
                   exact ⟨⟨j + 1, true, by simp, by omega, rfl, (show true = hasTo T lo (j + 1) from by rw [HST2.out]; rfl), by rw [HLN.out]; exact hr7, k7⟩, by simp [intOf]; omega⟩
                 | false =>
                   go_wp2_with (first | (at_builtin; refine wpList_append_own_sl _ rfl (.tmp 153) (.tmp 158) 55 rfl w6.heap.size 65 j1 prZ 2 32 Tryz.underlying55 hj1 hz0 hz1 hz2 rfl (Nat.zero_lt_succ 1) _ _ _ rfl hownA ⟨wr.heap.size, 0, none⟩ 1 1 (prCells [⟨xk, xv, xg⟩]) rfl rfl hnew hone h63.out hbs.out hsz ?_; intro p7 c7 w7 hr7 hg7 hl7; have a07 := HST.out w7 hg7))
                   have k7 : Keeps w6 w7 (fun _ => False) := (kk.more _).grow hg7 (fun i e hi => by have := (HRWQ.out.lt i e).1; omega)
                   rw [← prCells_snoc, ← HEQ.out] at hr7
                   exact ⟨⟨j + 1, EB, by simp, by omega, rfl, (show EB = hasTo T lo (j + 1) from by rw [HST2.out]; rfl), by rw [HLN.out]; exact hr7, k7⟩, by simp [intOf]; omega⟩
               · have hqi : ¬ (q : Int) < (m : Int) := by omega
                 have HEQ := hide (wantTo_full (lo := lo) (hi := hi) (m := m) HCJ.out (by rw [← HQ.out]; omega))
                 cases hv with
                 | true =>
                   go_wp2
                   exact ⟨⟨j + 1, true, by simp, by omega, rfl, (show true = hasTo T lo (j + 1) from by rw [HST2.out]; rfl), by rw [HEQ.out, ← HQ.out]; exact HRWQ.out, kk⟩, by simp [intOf]; omega⟩
                 | false =>
                   go_wp2
                   exact ⟨⟨j + 1, EB, by simp, by omega, rfl, (show EB = hasTo T lo (j + 1) from by rw [HST2.out]; rfl), by rw [HEQ.out, ← HQ.out]; exact HRWQ.out, kk⟩, by simp [intOf]; omega⟩
             · have hE : List.isEmpty hi = false := by cases hi <;> simp_all
               by_cases hH : xk < hi
               · have HIN : Hid (Ref.inPart lo hi ⟨xk, xv, xg⟩ = true) := (show Ref.inPart lo hi ⟨xk, xv, xg⟩ = true from by simp [Ref.inPart, hK, hH])
                 have hBH : Op.bytesLess xk hi = true := by rw [bytesLess_eq]; simpa using hH
                 clear hK h0 hH
                 rcases Nat.lt_or_ge q m with hqm | hqm
                 · have hqi : (q : Int) < (m : Int) := by omega
                   have HEQ := hide (wantTo_in HCJ.out HIN.out (by rw [← HQ.out]; exact hqm))
                   have HLN : Hid ((wantTo T lo hi m (j + 1)).length = q + 1) := by rw [HEQ.out, List.length_append, ← HQ.out]; rfl
                   have hownA := HRWQ.out.alloc (.cells #[strV xk, strV xv] 65)
                   have hone : ∀ u ∈ prCells [⟨xk, xv, xg⟩], u.oneCell' = true := pr_one _
                   have hnew : ∀ j' u, (prCells [⟨xk, xv, xg⟩])[j']? = some u → (wr.alloc (.cells #[strV xk, strV xv] 65)).cell? ((⟨wr.heap.size, 0, none⟩ : Addr).add j') = some u := fun j' u hu => by
                     rw [add_at, cell_of_heap (heap_alloc_top wr _)]
                     simpa [prCells] using hu
                   have hsz : w6.heap.size ≤ (wr.alloc (.cells #[strV xk, strV xv] 65)).heap.size := Nat.le_trans kk.size (Keeps.alloc wr _ (fun _ => False)).size
                   have HST : Hid (∀ W7, (wr.alloc (.cells #[strV xk, strV xv] 65)).grownBy W7 (Value.slice pq q cq).ownBlock → W7.cell? ⟨g, j * 2, none⟩ = some (strV xk)) := fun W7 hg => (Keeps.grown hg).cell ((Keeps.alloc wr _ (fun _ => False)).cell a0 id) (fun e => by
                     have h1 := (HRWQ.out.lt g e.symm).1
                     obtain ⟨base, hP⟩ := HPA.out
                     have h2 := (hP.lt g rfl).2
                     omega)
                   cases hv with
                   | true =>
                     go_wp2_with (first | (at_builtin; refine wpList_append_own_sl _ rfl (.tmp 153) (.tmp 158) 55 rfl w6.heap.size 65 j1 prZ 2 32 Tryz.underlying55 hj1 hz0 hz1 hz2 rfl (Nat.zero_lt_succ 1) _ _ _ rfl hownA ⟨wr.heap.size, 0, none⟩ 1 1 (prCells [⟨xk, xv, xg⟩]) rfl rfl hnew hone h63.out hbs.out hsz ?_; intro p7 c7 w7 hr7 hg7 hl7; have a07 := HST.out w7 hg7))
                     have k7 : Keeps w6 w7 (fun _ => False) := (kk.more _).grow hg7 (fun i e hi => by have := (HRWQ.out.lt i e).1; omega)
                     rw [← prCells_snoc, ← HEQ.out] at hr7
                     exact ⟨⟨j + 1, true, by simp, by omega, rfl, (show true = hasTo T lo (j + 1) from by rw [HST2.out]; rfl), by rw [HLN.out]; exact hr7, k7⟩, by simp [intOf]; omega⟩
                   | false =>
                     go_wp2_with (first | (at_builtin; refine wpList_append_own_sl _ rfl (.tmp 153) (.tmp 158) 55 rfl w6.heap.size 65 j1 prZ 2 32 Tryz.underlying55 hj1 hz0 hz1 hz2 rfl (Nat.zero_lt_succ 1) _ _ _ rfl hownA ⟨wr.heap.size, 0, none⟩ 1 1 (prCells [⟨xk, xv, xg⟩]) rfl rfl hnew hone h63.out hbs.out hsz ?_; intro p7 c7 w7 hr7 hg7 hl7; have a07 := HST.out w7 hg7))
                     have k7 : Keeps w6 w7 (fun _ => False) := (kk.more _).grow hg7 (fun i e hi => by have := (HRWQ.out.lt i e).1; omega)
                     rw [← prCells_snoc, ← HEQ.out] at hr7
                     exact ⟨⟨j + 1, EB, by simp, by omega, rfl, (show EB = hasTo T lo (j + 1) from by rw [HST2.out]; rfl), by rw [HLN.out]; exact hr7, k7⟩, by simp [intOf]; omega⟩
                 · have hqi : ¬ (q : Int) < (m : Int) := by omega
                   have HEQ := hide (wantTo_full (lo := lo) (hi := hi) (m := m) HCJ.out (by rw [← HQ.out]; omega))
                   cases hv with
                   | true =>
                     go_wp2
                     exact ⟨⟨j + 1, true, by simp, by omega, rfl, (show true = hasTo T lo (j + 1) from by rw [HST2.out]; rfl), by rw [HEQ.out, ← HQ.out]; exact HRWQ.out, kk⟩, by simp [intOf]; omega⟩
                   | false =>
                     go_wp2
                     exact ⟨⟨j + 1, EB, by simp, by omega, rfl, (show EB = hasTo T lo (j + 1) from by rw [HST2.out]; rfl), by rw [HEQ.out, ← HQ.out]; exact HRWQ.out, kk⟩, by simp [intOf]; omega⟩
               · have hBH : Op.bytesLess xk hi = false := by rw [bytesLess_eq]; simpa using hH
                 have HEQ := hide (wantTo_out (lo := lo) (hi := hi) (m := m) HCJ.out (by simp [Ref.inPart, hK, h0, hH]))
                 clear hK h0 hH
                 cases hv with
                 | true =>
                   go_wp2
                   exact ⟨⟨j + 1, true, by simp, by omega, rfl, (show true = hasTo T lo (j + 1) from by rw [HST2.out]; rfl), by rw [HEQ.out, ← HQ.out]; exact HRWQ.out, kk⟩, by simp [intOf]; omega⟩
                 | false =>
                   go_wp2
                   exact ⟨⟨j + 1, EB, by simp, by omega, rfl, (show EB = hasTo T lo (j + 1) from by rw [HST2.out]; rfl), by rw [HEQ.out, ← HQ.out]; exact HRWQ.out, kk⟩, by simp [intOf]; omega⟩
         · have hji : ¬ (j : Int) < (n : Int) := by omega
           have hjn2 : j = T.length := by rw [← HN.out]; omega
           have hrow7 := kk.same HROW6.out id
           have q17 := cell_of_heap (o := 1) hrow7
           simp at q17
           have HGET := hide (get_o (O6.same kk) (by omega) lo)
           have hga : (getA (Ref.getIn s.all lo)).2 = hv := by
             rw [HHV.out, hjn2, has_all, getA_there (Ref.St.all_rising _), ← HT.out]
             cases Ref.getIn T lo <;> rfl
           rw [hga] at HGET
           generalize (getA (Ref.getIn s.all lo)).1 = GV at HGET
           have HJ := hide hjn2
           clear hga hjn2 hrow7
           go_wp2_with fail
           refine HGET.out.mono ?_
           rintro e w8 ⟨rfl, O8, k8⟩
           have kw8 : Keeps w w8 (fun _ => False) := (kw6.trans kk (fun _ _ h => h)).trans k8 (fun i hi t => by have := hnF i t; omega)
           have hS1 : Prs w8 (.slice p6 nl c6) (wantTo T lo hi m T.length) := ⟨w5.heap.size, k8.row (kk.row (by have := HR6.out; rw [← HNL.out] at this; rw [← HNL.out]; exact this) (fun _ _ h => h)) (fun g hg t => by
             have h1 := (HR6.out.lt g (by rw [← HNL.out]; exact hg)).1
             have h2 := (O5.old t).2
             omega)⟩
           have hS2 : Prs w8 (.slice pq q cq) (wantTo T lo hi m T.length) := ⟨w6.heap.size, k8.row (by rw [← HJ.out, HQ.out]; exact HRW.out) (fun g hg t => by
             have h1 := (HRW.out.lt g (by rw [← HQ.out]; exact hg)).1
             have h2 := (O6.old t).2
             omega)⟩
           have HSAME := hide (same_any _ _ _ _ hS1 hS2 rfl (by have := wantTo_length T lo hi m T.length; have := HN.out; omega))
           clear hS1 hS2
           go_wp2_with fail
           refine HSAME.out.mono ?_
           rintro e w9 ⟨rfl, k9⟩
           cases hv
           all_goals
             go_wp2
             go_ret
             exact ⟨rfl, kw8.trans k9 (fun _ _ h => h)⟩
end Go.Proofs.YtnipbplghijdmaaGreatDoor
