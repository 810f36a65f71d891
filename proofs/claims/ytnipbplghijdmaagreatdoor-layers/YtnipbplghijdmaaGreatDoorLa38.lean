/-
  La: LayA.
-/
import Derived.Deep.CutBlock
import Derived.Test.YtnipbplghijdmaaGreatDoorLa37
import Derived.Test.YtnipbplghijdmaaGreatDoorLa36
import Derived.Test.YtnipbplghijdmaaGreatDoorLa35
namespace Go.Proofs.YtnipbplghijdmaaGreatDoor
open Go.RowKit Go.Maps Go.WideShapes
set_option linter.unusedVariables false
set_option linter.unusedSimpArgs false
theorem jbf {p : Option Addr} {n m c c' g : Nat} (h : (Value.slice p n c).ownBlock = some g) : (Value.slice p m c').ownBlock = some g := by cases p <;> exact h
def jfk (E : Nat → Addr) (B : Nat) (w : World) (ka kb da ba db bb i : Nat) (W : World) : Prop :=
 ∃ Fa Fb sa sb wv ess, Bks E B w ka kb da ba db bb Fa Fb sa sb (1000 + 200000 * i) wv ess W ∧ uh i (2 + 3 * i) sa sb ess ∧ Ref.mus ess ≤ 5000 + 47 * i
def jho (E : Nat → Addr) (B : Nat) (w : World) (ka kb da ba db bb : Nat) (W : World) : Prop :=
 ∃ i Fa Fb sa sb wv ess, i ≤ 40 ∧ Bks E B w ka kb da ba db bb Fa Fb sa sb 9000000 wv ess W ∧ uh i 200 sa sb ess ∧ Ref.mus ess ≤ 7200
theorem jfk.end' {E : Nat → Addr} {B : Nat} {w : World} {ka kb da ba db bb i : Nat} {W : World} (h : jfk E B w ka kb da ba db bb i W) (hi : i ≤ 40) : jho E B w ka kb da ba db bb W := by
 obtain ⟨Fa, Fb, sa, sb, wv, ess, h1, h2, h3⟩ := h
 exact ⟨i, Fa, Fb, sa, sb, wv, ess, hi, h1.mono (by omega), h2.mono (by omega), by omega⟩
set_option maxHeartbeats 16000000 in
set_option maxRecDepth 100000 in
theorem Ww {E : Nat → Addr} {B : Nat} {w : World} (H : Env E B w) (hB : B ≤ w.heap.size) (v0 v1 : Value) (rss : List (List Int)) (zs : List Int) (hr : ja0 w v0 rss) (hz : Zs w v1 zs) :
   Calls Tryz.prog 6 #[v0, v1] w fun e w' => e = .returned (.bool true) ∧ ja w w' (fun _ => False) := by
 obtain ⟨j0, hj, hy0, hy1, hy2⟩ := info_parts Tryz.jf7
 obtain ⟨p0, c0, rfl, _, hrl, _⟩ := id hr
 obtain ⟨p1, c1, rfl, _, hzb, hzl, _⟩ := id hz
 have HSURE := hide (jgt H hB)
 have HR := hide hr
 have HZ := hide hz
 have HRL := hide hrl
 have HZL := hide hzl
 have HZB := hide hzb
 clear hr hz hrl hzl hzb
 go_enter Tryz.func6, Tryz.ntmps6
 go_wp2_with fail
 refine HSURE.out.mono ?_
 rintro e w1 ⟨rfl, k1⟩
 have HBEG := hide (jbr (H.same k1) (Nat.le_trans hB k1.size))
 go_wp2_with fail
 refine HBEG.out.mono ?_
 rintro e w2 ⟨ka, da, ba, Fa0, rfl, hrowA, OA, k2, hFA, hnA, hkA⟩
 have k12 := k1.trans k2 (fun _ _ h => h)
 have HBEG2 := hide (jbr (H.same k12) (Nat.le_trans hB k12.size))
 go_wp2_with fail
 refine HBEG2.out.mono ?_
 rintro e w3 ⟨kb, db, bb, Fb0, rfl, hrowB, OB, k3, hFB, hnB, hkB⟩
 have sz1 := k1.size
 have sz2 := k2.size
 have B0 : Bks E B w ka kb da ba db bb Fa0 Fb0 Ref.St.first Ref.St.first 1000 (.slice none 0 0) [] w3 := by
   have hka := lt_of_heap hrowA
   refine ⟨OA.same k3, OB, fun i t f => ?_, fun j hj => ?_, fun j hj => ?_, k3.same hrowA id, hrowB, ⟨hnA, fun f => ?_, by omega⟩, ⟨fun t => ?_, hnB, by omega⟩, by omega, Wr.first _ _ _, k12.trans k3 (fun _ _ h => h)⟩
   · have := (OA.old t).2; have := hFB i f; omega
   · have := hFA j hj; omega
   · have := hFB j hj; omega
   · have := hFB ka f; omega
   · have := (OA.old t).2; omega
 have HB0 : Hid (jfk E B w ka kb da ba db bb 0 w3) := (show jfk E B w ka kb da ba db bb 0 w3 from ⟨_, _, _, _, _, _, B0, uh.first, by simp [Ref.mus]⟩)
 clear B0 OA OB hrowA hrowB hFA hFB hnA hnB
 go_upto_block 0 with fail
 go_cut [8, 9, 10, 11, 12, 13, 14] from 25 (fun _ _ _ _ _ _ _ wc => jho E B w ka kb da ba db bb wc)
 case first =>
   go_wp2_with fail
   go_loopw [8, 9, 10, 11, 12, 13, 14] (fun t8 _ _ _ _ _ _ wr => ∃ (i : Nat), t8 = .int .i64 i ∧ i ≤ 40 ∧ i ≤ rss.length ∧ jfk E B w ka kb da ba db bb i wr) (fun t8 _ _ _ _ _ _ _ => 40 - (intOf t8).toNat)
   case atStart => exact ⟨0, rfl, by omega, by omega, HB0.out⟩
   case round =>
     obtain ⟨i, rfl, hi40, hil, hLL⟩ := hrel
     have HLL := hide hLL
     obtain ⟨Fa, Fb, sa, sb, wv, ess, hBk, hS, hM⟩ := hLL
     have HBK := hide hBk
     have HS := hide hS
     obtain ⟨xs, hxs, hel⟩ := hBk.wr.row
     obtain ⟨pv, cv, rfl⟩ := jh hxs
     have hlen := hS.len
     have q1 := cell_of_heap (o := 1) hBk.l8
     have q2 := cell_of_heap (o := 2) hBk.l8
     have r1 := cell_of_heap (o := 1) hBk.Ct
     simp at q1 q2 r1
     rw [hlen] at q2
     have HXS : Hid (wr.ownsRow w.heap.size 38 1 (.slice pv i cv) i xs) := (show _ from by rw [hlen] at hxs; exact hxs)
     have HEL := hide hel
     have hrr := HRL.out
     have hzz := HZL.out
     clear hBk hxs hel hlen hS
     rcases Nat.lt_or_ge i rss.length with hlt | hge
     · have hb1 : (i : Int) < (rss.length : Int) := by omega
       rcases Nat.lt_or_ge i 40 with h40 | h40
       · have hb2 : (i : Int) < 40 := by omega
         obtain ⟨rb, ro, rv, rfl, hrc, hrz⟩ := (HR.out.same HBK.out.kw).at hlt
         have HBAT := hide (jc5 q2 (by omega) rv rss[i] hrz)
         have hil2 : i < rss.length := hlt
         clear hrz
         go_wp2_with fail
         refine HBAT.out.mono ?_
         rintro e w3 ⟨v3, es, rfl, hr3, h1, h8, hsm, k3⟩
         obtain ⟨p3, c3, rfl⟩ := jh hr3
         have hsb := ah h1 h8 hsm
         have hmu := jft h1 h8 hsm
         have B3 := HBK.out.same k3
         have hEl3 : El w3 (fun i => Fa i ∨ Fb i ∨ i = ka ∨ i = kb) (.slice p3 es.length c3) es := ⟨Jk hr3, fun g hg => ⟨fun t => by
           have h2 := (hr3.lt g hg).1
           have h3 := HBK.out.lt t
           omega, (hr3.lt g hg).2⟩⟩
         have hvx3 : ∀ g, (Value.slice pv ess.length cv).ownBlock = some g → (Value.slice p3 es.length c3).ownBlock ≠ some g := fun g hg e => by
           have h2 := (hr3.lt g e).1
           have h3 := (HXS.out.lt g (jbf hg)).2
           omega
         have S0 := HS.out
         have HWA := hide (H7 B3.Ea (by omega) (.slice p3 es.length c3) es hsb.1 hEl3.1 (fun p n c e t => (hEl3.2 p.block (by rw [e]; rfl)).1 (.inl t)) (by have := S0.fa.last; omega) (by have := S0.fa.mem; omega) (by
           have h2 := S0.fa.size
           have h3 := hsb.2 (sa.last + 1)
           omega))
         have S1 := S0.write hsb.1 (by omega)
         have hM1 : Ref.mus (ess ++ [es]) ≤ 7200 := by rw [Ref.mh]; omega
         obtain ⟨ne, hne⟩ : ∃ ne, ne = es.length := ⟨_, rfl⟩
         rw [← hne] at HWA hEl3 hvx3 ⊢
         have HNE := hide hne
         have HSB := hide hsb
         have HS1 := hide S1
         have HM1 := hide hM1
         have HB3 := hide B3
         have HE3 := hide hEl3
         have q13 := cell_of_heap (o := 1) B3.l8
         simp at q13
         clear hsb S1 S0 hM1 hne hr3 h1 h8 hsm q1 q2 r1 hrc B3 hEl3 hM
         go_wp2_with fail
         refine HWA.out.mono ?_
         rintro e w4 ⟨rfl, h4⟩
         obtain ⟨Fa4, B4, up4⟩ := HB3.out.I6 h4 (by omega)
         have hEl4 := up4 _ _ HE3.out
         have S0 := HS.out
         have HWB := hide (H7 B4.ownB (by omega) (.slice p3 ne c3) es HSB.out.1 hEl4.1 (fun p n c e t => (hEl4.2 p.block (by rw [e]; rfl)).1 (.inr (.inl t))) (by have := S0.fb.last; omega) (by
           have h2 := S0.fb.mem
           have h5 := HM1.out
           rw [Ref.mh] at h5
           omega) (by
           have h2 := S0.fb.size
           have h3 := HSB.out.2 (sb.last + 1)
           have h5 := HM1.out
           rw [Ref.mh] at h5
           omega))
         have r14 := cell_of_heap (o := 1) B4.Ct
         simp at r14
         have HB4 := hide B4
         have HE4 := hide hEl4
         clear h4 B4 up4 hEl4 S0 q13
         go_wp2_with fail
         refine HWB.out.mono ?_
         rintro e w5 ⟨rfl, h5⟩
         obtain ⟨Fb5, B5, up5⟩ := HB4.out.jgm h5 (by omega)
         have hEl5 := up5 _ _ HE4.out
         obtain ⟨xs5, hxs5, hel5⟩ := B5.wr.row
         have hlen := HS.out.len
         have z2 := cell_of_heap (o := 2) B5.l8
         simp at z2
         have hxs5' : w5.ownsRow w.heap.size 38 1 (.slice pv i cv) i xs5 := by rw [hlen] at hxs5; exact hxs5
         rw [hlen] at z2
         have HROW5 : Hid (w5.heap[ka]? = some (.cells (Er da ba (.slice pv i cv)) 51 (0, 0))) := (show _ from by have := B5.l8; rw [hlen] at this; exact this)
         have hnv5 : ∀ g, (Value.slice pv ess.length cv).ownBlock = some g → ¬ (Fa4 g ∨ Fb5 g ∨ g = ka ∨ g = kb) := B5.wr.nv
         have HNV5 := hide hnv5
         have HB5 := hide B5
         have HE5 := hide hEl5
         have HXS5 := hide hxs5
         have HEL5 := hide hel5
         have kw5 := B5.kw
         have h63 : Hid (i + 1 ≤ maxLen) := (show i + 1 ≤ maxLen from by unfold maxLen; omega)
         have hbs : Hid ((i + 1) * 24 ≤ 140737488355328) := (show (i + 1) * 24 ≤ 140737488355328 from by omega)
         have hownA := hxs5'.alloc (.cells #[.slice p3 ne c3] 38)
         have hsz5 : w.heap.size ≤ (w5.alloc (.cells #[.slice p3 ne c3] 38)).heap.size := Nat.le_trans kw5.size (ja.alloc w5 _ (fun _ => False)).size
         have hone : ∀ u ∈ [Value.slice p3 ne c3], u.oneCell' = true := fun u hu => by rw [List.mem_singleton.1 hu]; rfl
         have hwi : IntKind.i64.wrap ((i : Int) + 1) = (i : Int) + 1 := wrap_i64 (by omega) (by omega)
         have HST : Hid (∀ W6, (w5.alloc (.cells #[.slice p3 ne c3] 38)).grownBy W6 (Value.slice pv i cv).ownBlock → W6.cell? ⟨ka, 2, none⟩ = some (.slice pv i cv) ∧ W6.frozen? ⟨ka, 2, none⟩ = false) := fun W6 hg => by
           have hk := (ja.grown hg).same ((ja.alloc w5 (.cells #[.slice p3 ne c3] 38) (fun _ => False)).same HROW5.out id) (fun e => HNV5.out ka (jbf e.symm) (.inr (.inr (.inl rfl))))
           have hc := cell_of_heap (o := 2) hk
           exact ⟨by simpa using hc, frozen_of_heap hk⟩
         clear h5 B5 up5 hEl5 hxs5 hel5 r14 hlen hnv5
         go_upto_region 13 with (first | (at_builtin; refine jm _ rfl (.tmp 70) (.tmp 72) 27 rfl w.heap.size 38 j0 (.slice none 0 0) 1 24 Tryz.underlying27 hj hy0 hy1 hy2 rfl Nat.zero_lt_one _ _ _ rfl hownA ⟨w5.heap.size, 0, none⟩ 1 1 [.slice p3 ne c3] rfl rfl (cell_one_new _ _ _) hone h63.out hbs.out hsz5 ?_; intro p6 c6 w6 hr6 hg6 hl6; obtain ⟨r2, r3⟩ := HST.out w6 hg6))
         have kA := ja.alloc w5 (.cells #[.slice p3 ne c3] 38) (fun _ => False)
         have hle := HS.out.len
         have B7 := HB5.out.note HXS5.out HEL5.out HE5.out (fun g hg => hvx3 g hg) ((kA.mono (fun _ _ h => h.elim)).trans (ja.grown hg6) (fun j _ e => by rw [hle]; exact e.symm)) (v' := .slice p6 (i + 1) c6) (by rw [hle]; exact hr6) (fun g hg => by
           rw [hle]
           rcases hl6 with h | h
           · exact .inl (h ▸ hg)
           · rw [h] at hg
             cases hg
             exact .inr kA.size) hB
         obtain ⟨w7, hw7⟩ : ∃ w7, w7 = w6.setCell ⟨ka, 2, none⟩ (.slice p6 (i + 1) c6) := ⟨_, rfl⟩
         rw [← hw7] at B7 ⊢
         have S7 := HS1.out
         have hM7 := HM1.out
         have kw7 := B7.kw
         generalize sa.write es = sa7 at B7 S7
         generalize sb.write es = sb7 at B7 S7
         generalize ess ++ [es] = ess7 at B7 S7 hM7
         have HB7 := hide B7
         have HS7 := hide S7
         have HM7 := hide hM7
         have q17 := cell_of_heap (o := 1) B7.l8
         simp at q17
         clear hw7 B7 S7 hM7 kA hle hownA HWA HWB HBAT z2 r2 r3 hr6 hg6 hl6 hone hsz5 hvx3
         rcases Nat.lt_or_ge i zs.length with hz1 | hz1
         · have hbz : (i : Int) < (zs.length : Int) := by omega
           obtain ⟨zb, zo, rfl, hzc⟩ := (HZ.out.same kw7).at hz1
           have hzcA : ∀ W, ja w W (fun _ => False) → W.cell? ⟨zb, zo + i, none⟩ = some (.int .i64 zs[i]) := fun W kW => by
             obtain ⟨zb', zo', e, h⟩ := (HZ.out.same kW).at hz1
             cases e
             exact h
           have hzi := HZB.out zs[i] (List.getElem_mem hz1)
           generalize zs[i] = z at hzc hzi hzcA
           have HZC := hide hzcA
           have HPK : Hid (∀ W, Calls Tryz.prog 25 #[.int .i64 z, .int .i64 3] W fun e w' => e = .returned (.int .i64 (uy z 3)) ∧ w' = W) := fun W => Ah z hzi.1 hzi.2 3 (by decide) (by decide) W
           have hp3 := Ai z (n := 3) (by decide)
           generalize uy z 3 = P at HPK hp3
           clear hzi hzcA
           rcases Nat.eq_zero_or_pos P with hP | hP
           · have hP0 : ¬ (0 : Int) < (P : Int) := by omega
             clear hP hp3
             go_wp2_with fail
             refine (HPK.out _).mono ?_
             rintro e w7' ⟨rfl, h7'⟩
             subst h7'
             have HFU := hide (Sd HB7.out.ownB (by omega) HB7.out.Ct (by have := HS7.out.fb.size; have := HM7.out; omega))
             rcases Nat.lt_or_ge 5000 (qm sb7.files) with hv | hv
             · have hd : decide (5000 < qm sb7.files) = true := by simpa using hv
               rw [hd] at HFU
               clear hd hv
               go_wp2_with fail
               refine HFU.out.mono ?_
               rintro e wz ⟨rfl, kz⟩
               go_wp2
               go_meet
               case rel => exact ⟨i + 1, _, _, _, _, _, _, by omega, (HB7.out.same kz).mono (by omega), HS7.out.mono (by omega), HM7.out⟩
             · have hd : decide (5000 < qm sb7.files) = false := by simp; omega
               rw [hd] at HFU
               have HL := hide (HS7.out.jbl hv)
               clear hd hv
               go_wp2_with fail
               refine HFU.out.mono ?_
               rintro e wz ⟨rfl, kz⟩
               go_wp2
               exact ⟨⟨i + 1, by simp, by omega, by omega, _, _, _, _, _, _, (HB7.out.same kz).mono (by omega), HS7.out.mono (by omega), HL.out⟩, by simp [intOf]; omega⟩
           · have hP0 : (0 : Int) < (P : Int) := by omega
             have HFL := hide (Si HB7.out.Ea (by omega) (by have := HS7.out.fa.next; omega) (by have := HS7.out.fa.runs; have := HS7.out.fa.split; omega) (HS7.out.fa.room (by omega) HM7.out))
             rcases (by omega : P = 1 ∨ P = 2) with hP1 | hP1
             · have hP2 : ((P : Int) == 2) = false := by simp; omega
               clear hP hp3 hP1
               go_wp2_with fail
               refine (HPK.out _).mono ?_
               rintro e w7' ⟨rfl, h7'⟩
               subst h7'
               go_wp2_with fail
               refine HFL.out.mono ?_
               rintro e w8 ⟨rfl, h8⟩
               obtain ⟨Fa8, B8, _⟩ := HB7.out.I6 h8 (by omega)
               have S8 := HS7.out.flush (by omega) (by have := HM7.out; omega) (by omega)
               have hz8 := HZC.out _ B8.kw
               have HB8 := hide B8
               have HS8 := hide S8
               clear h8 B8 S8 q17 hzc
               go_wp2_with fail
               refine (HPK.out _).mono ?_
               rintro e w8' ⟨rfl, h8'⟩
               subst h8'
               have HFU := hide (Sd HB8.out.ownB (by omega) HB8.out.Ct (by have := HS8.out.fb.size; have := HM7.out; omega))
               rcases Nat.lt_or_ge 5000 (qm sb7.files) with hv | hv
               · have hd : decide (5000 < qm sb7.files) = true := by simpa using hv
                 rw [hd] at HFU
                 clear hd hv
                 go_wp2_with fail
                 refine HFU.out.mono ?_
                 rintro e wz ⟨rfl, kz⟩
                 go_wp2
                 go_meet
                 case rel => exact ⟨i + 1, _, _, _, _, _, _, by omega, (HB8.out.same kz).mono (by omega), HS8.out.mono (by omega), HM7.out⟩
               · have hd : decide (5000 < qm sb7.files) = false := by simp; omega
                 rw [hd] at HFU
                 have HL := hide (HS8.out.jbl hv)
                 clear hd hv
                 go_wp2_with fail
                 refine HFU.out.mono ?_
                 rintro e wz ⟨rfl, kz⟩
                 go_wp2
                 exact ⟨⟨i + 1, by simp, by omega, by omega, _, _, _, _, _, _, (HB8.out.same kz).mono (by omega), HS8.out.mono (by omega), HL.out⟩, by simp [intOf]; omega⟩
             · have hP2 : ((P : Int) == 2) = true := by simp; omega
               clear hP hp3 hP1
               go_wp2_with fail
               refine (HPK.out _).mono ?_
               rintro e w7' ⟨rfl, h7'⟩
               subst h7'
               go_wp2_with fail
               refine HFL.out.mono ?_
               rintro e w8 ⟨rfl, h8⟩
               obtain ⟨Fa8, B8, _⟩ := HB7.out.I6 h8 (by omega)
               have S8 := HS7.out.flush (by omega) (by have := HM7.out; omega) (by omega)
               have HCO := hide (Fy B8.Ea (by omega) (by have := S8.fa.next; omega) (by have := S8.fa.merged; have := HM7.out; omega) (S8.fa.jgn (by omega) HM7.out))
               have hz8 := HZC.out _ B8.kw
               have q18 := cell_of_heap (o := 1) B8.l8
               simp at q18
               have HB8 := hide B8
               have HS8 := hide S8
               clear h8 B8 S8 q17 hzc
               go_wp2_with fail
               refine (HPK.out _).mono ?_
               rintro e w8' ⟨rfl, h8'⟩
               subst h8'
               go_wp2_with fail
               refine HCO.out.mono ?_
               rintro e w9 ⟨rfl, h9⟩
               obtain ⟨Fa9, B9, _⟩ := HB8.out.I6 h9 (by omega)
               have S9 := HS8.out.compact (by have := HM7.out; omega) (by omega)
               have HB9 := hide B9
               have HS9 := hide S9
               clear h9 B9 S9 q18 hz8
               have HFU := hide (Sd HB9.out.ownB (by omega) HB9.out.Ct (by have := HS9.out.fb.size; have := HM7.out; omega))
               rcases Nat.lt_or_ge 5000 (qm sb7.files) with hv | hv
               · have hd : decide (5000 < qm sb7.files) = true := by simpa using hv
                 rw [hd] at HFU
                 clear hd hv
                 go_wp2_with fail
                 refine HFU.out.mono ?_
                 rintro e wz ⟨rfl, kz⟩
                 go_wp2
                 go_meet
                 case rel => exact ⟨i + 1, _, _, _, _, _, _, by omega, (HB9.out.same kz).mono (by omega), HS9.out.mono (by omega), HM7.out⟩
               · have hd : decide (5000 < qm sb7.files) = false := by simp; omega
                 rw [hd] at HFU
                 have HL := hide (HS9.out.jbl hv)
                 clear hd hv
                 go_wp2_with fail
                 refine HFU.out.mono ?_
                 rintro e wz ⟨rfl, kz⟩
                 go_wp2
                 exact ⟨⟨i + 1, by simp, by omega, by omega, _, _, _, _, _, _, (HB9.out.same kz).mono (by omega), HS9.out.mono (by omega), HL.out⟩, by simp [intOf]; omega⟩
         · have hbz : ¬ (i : Int) < (zs.length : Int) := by omega
           have HFU := hide (Sd HB7.out.ownB (by omega) HB7.out.Ct (by have := HS7.out.fb.size; have := HM7.out; omega))
           rcases Nat.lt_or_ge 5000 (qm sb7.files) with hv | hv
           · have hd : decide (5000 < qm sb7.files) = true := by simpa using hv
             rw [hd] at HFU
             clear hd hv
             go_wp2_with fail
             refine HFU.out.mono ?_
             rintro e wz ⟨rfl, kz⟩
             go_wp2
             go_meet
             case rel => exact ⟨i + 1, _, _, _, _, _, _, by omega, (HB7.out.same kz).mono (by omega), HS7.out.mono (by omega), HM7.out⟩
           · have hd : decide (5000 < qm sb7.files) = false := by simp; omega
             rw [hd] at HFU
             have HL := hide (HS7.out.jbl hv)
             clear hd hv
             go_wp2_with fail
             refine HFU.out.mono ?_
             rintro e wz ⟨rfl, kz⟩
             go_wp2
             exact ⟨⟨i + 1, by simp, by omega, by omega, _, _, _, _, _, _, (HB7.out.same kz).mono (by omega), HS7.out.mono (by omega), HL.out⟩, by simp [intOf]; omega⟩
       · have hb2 : ¬ (i : Int) < 40 := by omega
         go_wp2
         go_meet
         case rel => exact HLL.out.end' (by omega)
     · have hb1 : ¬ (i : Int) < (rss.length : Int) := by omega
       go_wp2
       go_meet
       case rel => exact HLL.out.end' (by omega)
 case rest =>
   obtain ⟨i, Fa, Fb, sa, sb, wv, ess, hi40, hBk, hS, hM⟩ := hcut
   obtain ⟨T, hT⟩ : ∃ T, T = Ref.Qr ess := ⟨_, rfl⟩
   have hTl : 8 * T.length ≤ 7200 := by have := hS.fa.tell; rw [hS.ta, ← hT] at this; omega
   have HBK := hide hBk
   have HS := hide hS
   have HT := hide hT
   obtain ⟨xs, hxs, _⟩ := hBk.wr.row
   obtain ⟨pv, cv, rfl⟩ := jh hxs
   have hsc1 := jdn hBk.Ea (by omega) (by have := hS.fa.all; omega) [] [] 1000 (by decide)
   rw [Ref.Ol sa (by have := hS.fa.tell; omega), hS.ta, ← hT] at hsc1
   have HSC1 := hide hsc1
   have q1 := cell_of_heap (o := 1) hBk.l8
   simp at q1
   clear hBk hS hT hxs hsc1
   go_wp2_with fail
   refine HSC1.out.mono ?_
   rintro e w5 ⟨⟨v5, rfl, hr5⟩, O5, k5⟩
   obtain ⟨Fa5, B5, _⟩ := HBK.out.I6 ⟨Fa, O5, k5, fun i t => .inl t⟩ (Nat.le_refl _)
   have hsc2 := jdn B5.ownB (by omega) (by have := HS.out.fb.all; omega) [] [] 1000 (by decide)
   rw [Ref.Ol sb (by have := HS.out.fb.tell; omega), HS.out.tb, ← HT.out] at hsc2
   have HSC2 := hide hsc2
   have r1 := cell_of_heap (o := 1) B5.Ct
   simp at r1
   have HB5 := hide B5
   obtain ⟨p5, c5, rfl⟩ := jh hr5
   obtain ⟨n, hn⟩ : ∃ n, n = T.length := ⟨_, rfl⟩
   rw [← hn] at hTl hr5 ⊢
   have HN := hide hn
   have HR5 := hide hr5
   clear hsc2 B5 O5 hn hr5 q1
   go_wp2_with fail
   refine HSC2.out.mono ?_
   rintro e w6 ⟨⟨v6, rfl, hr6⟩, O6, k6⟩
   obtain ⟨Fb6, B6, _⟩ := HB5.out.jgm ⟨Fb, O6, k6, fun i t => .inl t⟩ (Nat.le_refl _)
   have hr56 := k6.row HR5.out (fun g hg t => by
     have h1 := (HR5.out.lt g hg).1
     have h2 := (HBK.out.ownB.old t).2
     omega)
   obtain ⟨p6, c6, rfl⟩ := jh hr6
   rw [← HN.out] at hr6 ⊢
   have HR56 := hide hr56
   have HR6 := hide hr6
   have HB6 := hide B6
   have hwri := B6.wr.wri
   have q2 := cell_of_heap (o := 2) B6.l8
   simp at q2
   have kd : ja w6 w6.drew (fun _ => False) := ja.drew _ _
   have HFO := hide (jcj _ ess (hwri.same kd) (fun b hb => ((Ref.Jb b).1 (HS.out.ok b hb)).2.1) (by have := HS.out.len; omega))
   rw [← HT.out, ← HN.out] at HFO
   obtain ⟨m, hm⟩ : ∃ m, m = ess.length := ⟨_, rfl⟩
   have hm40 : m ≤ 40 := by have := HS.out.len; omega
   rw [← hm] at q2 HFO
   clear hr6 B6 O6 hr56 hwri r1 hm
   go_wp2_with fail
   go_cut [19] from 25 (fun s19 wd => ∃ p c, s19 = .slice p n c ∧ wd.ownsRow w6.heap.size 65 2 (.slice p n c) n (qj T) ∧ ja w6 wd (fun _ => False))
   case first =>
     go_region_with (go_at_call 30; refine HFO.out.mono ?_; rintro e w7 ⟨v7, rfl, hr7, k7⟩)
     all_goals
       obtain ⟨p7, c7, rfl⟩ := jh hr7
       go_wp2
       go_meet
     all_goals exact ⟨p7, c7, rfl, hr7, kd.trans k7 (fun _ _ h => h)⟩
   case rest =>
     obtain ⟨p7, c7, rfl, hr7, k7⟩ := hcut
     have B7 := HB6.out.same k7
     have hPa : Prs wc (.slice p5 n c5) T := ⟨_, by have := k7.row HR56.out (fun _ _ h => h); rw [HN.out] at this ⊢; exact this⟩
     have hPb : Prs wc (.slice p6 n c6) T := ⟨_, by have := k7.row HR6.out (fun _ _ h => h); rw [HN.out] at this ⊢; exact this⟩
     have hPw : Prs wc (.slice p7 n c7) T := ⟨_, by rw [HN.out] at hr7 ⊢; exact hr7⟩
     have HB7 := hide B7
     have HSM1 := hide (Tx _ _ T T hPa hPw rfl (by rw [← HN.out]; omega))
     have HPb := hide hPb
     have HPw := hide hPw
     clear hPa hPb hPw B7 hr7 q2
     go_wp2_with fail
     refine HSM1.out.mono ?_
     rintro e w8 ⟨rfl, k8⟩
     have HSM2 := hide (Tx _ _ T T (HPb.out.same k8) (HPw.out.same k8) rfl (by rw [← HN.out]; omega))
     go_wp2_with fail
     refine HSM2.out.mono ?_
     rintro e w9 ⟨rfl, k9⟩
     have B9 := (HB7.out.same k8).same k9
     have S0 := HS.out
     have HFL := hide (Si B9.Ea (by omega) (by have := S0.fa.next; omega) (by have := S0.fa.runs; have := S0.fa.split; omega) (S0.fa.room hi40 hM))
     have q19 := cell_of_heap (o := 1) B9.l8
     simp at q19
     have HB9 := hide B9
     clear B9 S0
     go_wp2_with fail
     refine HFL.out.mono ?_
     rintro e w10 ⟨rfl, h10⟩
     obtain ⟨Fa10, B10, _⟩ := HB9.out.I6 h10 (by omega)
     have S10 := HS.out.flush (by omega) (by omega) (by omega)
     have HCO := hide (Fy B10.Ea (by omega) (by have := S10.fa.next; omega) (by have := S10.fa.merged; omega) (S10.fa.jgn hi40 hM))
     have q110 := cell_of_heap (o := 1) B10.l8
     simp at q110
     have HB10 := hide B10
     have HS10 := hide S10
     clear B10 S10 h10 q19
     go_wp2_with fail
     refine HCO.out.mono ?_
     rintro e w11 ⟨rfl, h11⟩
     obtain ⟨Fa11, B11, _⟩ := HB10.out.I6 h11 (by omega)
     have hlk := jg1 B11.Ea
     have hbase := Ref.St.Pp HS.out.bo HS.out.fa.ok HS10.out.fa.ok HS10.out.fa.Al
     have hrn := Ref.St.Ep sa.flush
     rw [HS.out.ta, ← HT.out] at hbase
     generalize sa.flush.compact = s11 at hlk hbase hrn B11
     have HLK := hide hlk
     have q111 := cell_of_heap (o := 1) B11.l8
     simp at q111
     have kw11 := B11.kw
     have HRN := hide hrn
     have HBS := hide hbase
     clear B11 h11 q110 hlk hrn hbase
     go_wp2_with fail
     refine HLK.out.mono ?_
     rintro e w12 ⟨pl, cl, rfl, _, k12⟩
     rw [HRN.out]
     generalize s11.m.base = bs at HBS ⊢
     generalize s11.m.log = lg
     generalize s11.m.next = nx
     generalize s11.last = ls
     rcases Nat.eq_zero_or_pos n with hn0 | hn0
     · have hb0 : bs = 0 := HBS.out.2 (List.eq_nil_of_length_eq_zero (by rw [← HN.out]; exact hn0))
       have f1 : ((n : Int) == 0) = true := by simp; omega
       have f2 : ((bs : Int) == 0) = true := by simp; omega
       clear hb0 hn0
       go_wp2
       go_ret
       exact ⟨rfl, (kw11.trans k12 (fun _ _ h => h)).more _⟩
     · have hb0 : bs ≠ 0 := fun e => by
         have := HBS.out.1 e
         rw [HN.out, this] at hn0
         cases hn0
       have f1 : ((n : Int) == 0) = false := by simp; omega
       have f2 : ((bs : Int) == 0) = false := by simp; omega
       clear hb0 hn0
       go_wp2
       go_ret
       exact ⟨rfl, (kw11.trans k12 (fun _ _ h => h)).more _⟩
end Go.Proofs.YtnipbplghijdmaaGreatDoor
