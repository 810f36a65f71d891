/-
  La: CompactB SettleW BeginW LoadW.
-/
import Derived.Test.YtnipbplghijdmaaGreatDoorLa33
import Derived.Test.YtnipbplghijdmaaGreatDoorLa17
namespace Go.Proofs.YtnipbplghijdmaaGreatDoor
open Go.RowKit Go.Maps Go.WideShapes
set_option linter.unusedVariables false
set_option linter.unusedSimpArgs false
set_option maxHeartbeats 1000000 in
set_option maxRecDepth 100000 in
theorem L6 {E : Nat → Addr} {B : Nat} {w : World} {ρ : Nat → jw} {d b k : Nat} {s : Ref.St} {rv mv : Value} (S : x8 E B w ρ d b s k rv mv) (hk : k < 530000000000) (hrs : s.m.runs ≠ []) (hn : s.m.next + 1 ≤ 2000000000) (hl : (Ref.merged s.bls).length < 60000)
   (hle : s.live ≠ [])
   (hs : 42 + (Ref.ql s.live).length + qm s.files ≤ 20000) :
   Calls Tryz.prog 69 #[.pointer (some ⟨b, 0, none⟩)] w fun e w' => e = .returned .nilIface ∧ Xe E B w ρ d b rv mv s.compact (k + 100000) w' := by
 obtain ⟨pr, cr, hrv, hv'⟩ := id S.runs
 have hrv2 : ∃ n, rv = .slice pr n cr := ⟨_, hrv⟩
 clear hrv hv'
 obtain ⟨nr, rfl⟩ := hrv2
 obtain ⟨n1, hn1e⟩ : ∃ n1, n1 = s.m.next + 1 := ⟨_, rfl⟩
 have HN1 := hide hn1e
 clear hn1e
 have hrow := S.row
 have c1 := cell_of_heap (o := 1) hrow
 have c2 := cell_of_heap (o := 2) hrow
 have c3 := cell_of_heap (o := 3) hrow
 have c4 := cell_of_heap (o := 4) hrow
 have c5 := cell_of_heap (o := 5) hrow
 simp at c1 c2 c3 c4 c5
 have a1 : ∀ o1, (w.alloc o1).cell? ⟨b, 1, none⟩ = some (jf s.m.next) := fun o1 => (ja.alloc w o1 (fun _ => False)).cell c1 id
 have b1 : ∀ o1 o2, ((w.alloc o1).alloc o2).cell? ⟨b, 1, none⟩ = some (jf s.m.next) := fun o1 o2 => ((ja.alloc w o1 (fun _ => False)).more o2).cell c1 id
 have a2 : ∀ o1, (w.alloc o1).cell? ⟨b, 2, none⟩ = some (jf s.m.last) := fun o1 => (ja.alloc w o1 (fun _ => False)).cell c2 id
 have b2 : ∀ o1 o2, ((w.alloc o1).alloc o2).cell? ⟨b, 2, none⟩ = some (jf s.m.last) := fun o1 o2 => ((ja.alloc w o1 (fun _ => False)).more o2).cell c2 id
 have a3 : ∀ o1, (w.alloc o1).cell? ⟨b, 3, none⟩ = some (jf s.m.log) := fun o1 => (ja.alloc w o1 (fun _ => False)).cell c3 id
 have b3 : ∀ o1 o2, ((w.alloc o1).alloc o2).cell? ⟨b, 3, none⟩ = some (jf s.m.log) := fun o1 o2 => ((ja.alloc w o1 (fun _ => False)).more o2).cell c3 id
 have a4 : ∀ o1, (w.alloc o1).cell? ⟨b, 4, none⟩ = some (jf s.m.base) := fun o1 => (ja.alloc w o1 (fun _ => False)).cell c4 id
 have b4 : ∀ o1 o2, ((w.alloc o1).alloc o2).cell? ⟨b, 4, none⟩ = some (jf s.m.base) := fun o1 o2 => ((ja.alloc w o1 (fun _ => False)).more o2).cell c4 id
 have a5 : ∀ o1, (w.alloc o1).cell? ⟨b, 5, none⟩ = some (.slice pr nr cr) := fun o1 => (ja.alloc w o1 (fun _ => False)).cell c5 id
 have b5 : ∀ o1 o2, ((w.alloc o1).alloc o2).cell? ⟨b, 5, none⟩ = some (.slice pr nr cr) := fun o1 o2 => ((ja.alloc w o1 (fun _ => False)).more o2).cell c5 id
 have HLL : Hid (s.live.length < 60000) := by
   have h1 := List.length_filter_le (fun c : Ref.Ch => !c.gone) (Ref.merged s.bls)
   show (Ref.there (Ref.merged s.bls)).length < 60000
   unfold Ref.there
   omega
 have HN := hide hn
 have HL := hide hl
 have HS := hide hs
 have HK := hide hk
 have HRS := hide hrs
 have HROW := hide hrow
 have hpos : 0 < s.live.length := List.length_pos_iff.2 hle
 have HLE := hide hle
 have HPOS := hide hpos
 clear hrow hn hl hs hk hrs hle hpos
 go_enter Tryz.func69, Tryz.ntmps69
 go_wp2_with fail
 go_cut [3, 4] from 10 (fun s3 s4 wc => ∃ (x y : Nat), s3 = .pointer (some ⟨x, 0, none⟩) ∧ s4 = .pointer (some ⟨y, 0, none⟩) ∧ x ≠ y ∧ w.heap.size ≤ x ∧ w.heap.size ≤ y ∧ wc.heap[x]? = some (.cells #[jf s.m.next, jf s.m.last, jf s.m.log, jf s.m.base, .slice pr nr cr] 117 (0, 0)) ∧
   wc.heap[y]? = some (.cells #[jf s.m.next, jf s.m.last, jf s.m.log, jf s.m.base, .slice pr nr cr] 117 (0, 0)) ∧ ja w wc (fun _ => False))
 case first =>
   go_region
   all_goals
     go_wp2
     go_meet
   case rel =>
     obtain ⟨h1, h2, h3⟩ := Z0 w (.cells #[jf s.m.next, jf s.m.last, jf s.m.log, jf s.m.base, .slice pr nr cr] 117)
     first
       | exact ⟨_, _, rfl, rfl, by omega, by omega, by omega, h1, h2, h3⟩
       | exact ⟨_, _, rfl, rfl, by omega, by omega, by omega, h2, h1, h3⟩
   case rel =>
     obtain ⟨h1, h2, h3⟩ := Z0 w (.cells #[jf s.m.next, jf s.m.last, jf s.m.log, jf s.m.base, .slice pr nr cr] 117)
     first
       | exact ⟨_, _, rfl, rfl, by omega, by omega, by omega, h1, h2, h3⟩
       | exact ⟨_, _, rfl, rfl, by omega, by omega, by omega, h2, h1, h3⟩
 case rest =>
   obtain ⟨x, y, rfl, rfl, hxy, hx, hy, hX, hY, kc⟩ := hcut
   clear a1 a2 a3 a4 a5 b1 b2 b3 b4 b5 c1 c2 c3 c4 c5
   have S1 := S.same kc
   have hlv := jem S1 (by have := HK.out; omega) HL.out
   have HLV := hide hlv
   have HX := hide hX
   have HY := hide hY
   have nx0 : ρ x = .none := Classical.byContradiction (fun hn => by have := (S.disk.yt x hn).2; omega)
   have ny0 : ρ y = .none := Classical.byContradiction (fun hn => by have := (S.disk.yt y hn).2; omega)
   clear hlv hX hY
   go_wp2_with fail
   refine HLV.out.mono ?_
   rintro e w2 ⟨v2, rfl, hr2, g2, D2⟩
   obtain ⟨hrow2, _⟩ := g2.row S1.row S1.nb.1
   obtain ⟨S2, _⟩ := S1.read (g2.keeps.mono (fun i _ h => .inl h)) D2 hrow2
   have hY2 := (g2.row HY.out ny0).1
   have hX2 := (g2.row HX.out nx0).1
   have y0 := cell_of_heap (o := 0) hY2
   have y1 := cell_of_heap (o := 1) hY2
   have y2 := cell_of_heap (o := 2) hY2
   have y3 := cell_of_heap (o := 3) hY2
   have y4 := cell_of_heap (o := 4) hY2
   have q3 := frozen_of_heap (o := 3) hY2
   have q4 := frozen_of_heap (o := 4) hY2
   simp at y0 y1 y2 y3 y4
   obtain ⟨w3, hw3⟩ : ∃ w3, w3 = (w2.setCell ⟨y, 3, none⟩ (.int .i64 0)).setCell ⟨y, 4, none⟩ (.slice none 0 0) := ⟨_, rfl⟩
   have k3 : ja w2 w3 (fun i => i = y) := by rw [hw3]; exact (ja.setCell w2 ⟨y, 3, none⟩ _).set (p := ⟨y, 4, none⟩) rfl _
   have hBy : B ≤ y := Nat.le_trans S.disk.size hy
   have hyS : ¬ StF ρ b mv y := fun h => by have := (StF.old S h).2; omega
   have hyr : ∀ p n c, (Value.slice pr nr cr) = .slice (some p) n c → y ≠ p.block := fun p n c e h => by
     have := (S.nr p n c e).2.2.2.2
     omega
   have S3 : x8 E B w3 ρ d b s k (.slice pr nr cr) mv := S2.keep k3 (fun i hi e => by rw [e]; exact ⟨hBy, hyS, hyr⟩)
   have hY3 : w3.heap[y]? = some (.cells #[jf s.m.next, jf s.m.last, jf s.m.log, .int .i64 0, .slice none 0 0] 117 (0, 0)) := by rw [hw3]; exact (jb (jb hY2 _) _).trans rfl
   have hX3 := k3.same hX2 hxy
   have kw3 : ja w w3 (StF ρ b mv) := ((kc.mono (fun _ _ h => h.elim)).trans g2.keeps (fun i _ h => .inl h)).trans k3 (fun i hi e => by omega)
   have hry : v2.ownBlock ≠ some y := fun e => by have := (hr2.lt y e).1; have := lt_of_heap HY.out; omega
   have hr3 := k3.row hr2 (fun g hg e => hry (by rw [← (show g = y from e)]; exact hg))
   have hnv2 : ∀ g, v2.ownBlock = some g → ρ g = .none ∧ w.heap.size ≤ g := fun g hg => by
     have h1 := (hr2.lt g hg).1
     have h2 := kc.size
     exact ⟨Classical.byContradiction (fun hn => by have := (S.disk.yt g hn).2; omega), by omega⟩
   have HKW2 : Hid (ja w w3 (fun i => ρ i ≠ .none ∨ i = b)) := (show ja w w3 _ from ((kc.mono (fun _ _ h => h.elim)).trans g2.keeps (fun i _ h => .inl h)).trans k3 (fun i hi e => by omega))
   have sz3 := kw3.size
   have HX3 := hide hX3
   have HY3 := hide hY3
   have HR3 := hide hr3
   obtain ⟨pv, cv, rfl⟩ := jh hr3
   have hlo := S.ok.good.log
   have hnx := S.ok.good.1
   have HLOB : Hid (s.m.log ≤ 9223372036854775807) := (show s.m.log ≤ 9223372036854775807 from by omega)
   clear hX2 hY2 hX3 hY3 hr2 hr3 hrow2 hlo hnx D2 g2 S2 hry
   have hle := HLE.out
   have hpos := HPOS.out
   have hpv : ∃ g0, pv = some ⟨g0, 0, none⟩ := by
     rcases HR3.out.2 with ⟨e, h0⟩ | ⟨g, cap, cur, e, _⟩
     · exact (hle (List.eq_nil_of_length_eq_zero h0)).elim
     · cases e
       exact ⟨g, rfl⟩
   obtain ⟨g0, rfl⟩ := hpv
   have hlp : (0 : Int) < (s.live.length : Int) := by omega
   have hlp2 : decide ((0 : Int) < (s.live.length : Int)) = true := by simp; omega
   have hn1 : s.m.next < 2000000000 := by have := HN.out; omega
   have htk := gu HY3.out hn1
   rw [← HN1.out] at htk
   have HTK := hide htk
   obtain ⟨ml, hml⟩ : ∃ ml, ml = s.live.length := ⟨_, rfl⟩
   rw [← hml] at hlp hlp2 ⊢
   have HML := hide hml
   clear htk hn1 hle hml hpos
   go_wp2_with fail
   rw [← hw3]
   clear hw3 y0 y1 y2 y3 y4 q3 q4
   refine HTK.out.mono ?_
   rintro e w4 ⟨rfl, hY4, k4⟩
   have t3 := cell_of_heap (o := 3) hY4
   have r3 := frozen_of_heap (o := 3) hY4
   simp at t3
   obtain ⟨w5, hw5⟩ : ∃ w5, w5 = w4.setCell ⟨y, 3, none⟩ (jf s.m.next) := ⟨_, rfl⟩
   have k5 : ja w3 w5 (fun i => i = y) := by rw [hw5]; exact k4.set (p := ⟨y, 3, none⟩) rfl _
   have hY5 : w5.heap[y]? = some (.cells #[jf n1, jf s.m.last, jf s.m.log, jf s.m.next, .slice none 0 0] 117 (0, 0)) := by rw [hw5]; exact (jb hY4 _).trans rfl
   have S5 : x8 E B w5 ρ d b s k (.slice pr nr cr) mv := S3.keep k5 (fun i hi e => by rw [e]; exact ⟨hBy, hyS, hyr⟩)
   have hX5 := k5.same HX3.out hxy
   have hr5 := k5.row HR3.out (fun g hg e => by
     have h1 := (HR3.out.lt g hg).1
     have h2 := lt_of_heap HY.out
     have e' : g = y := e
     omega)
   have hsl := Oi S5.disk S5.env (lo := s.m.log) HLOB.out (yj.2 (.inr (.inl rfl))) S5.row
   have kw5 : ja w w5 (StF ρ b mv) := kw3.trans k5 (fun i hi e => by omega)
   have kw52 : ja w w5 (fun i => ρ i ≠ .none ∨ i = b) := HKW2.out.trans k5 (fun i hi e => by omega)
   have HSL := hide hsl
   have HX5 := hide hX5
   have HY5 := hide hY5
   have HR5 := hide hr5
   clear hsl hX5 hY5 hr5 hY4
   go_wp2_with fail
   rw [← hw5]
   clear hw5 t3 r3
   refine HSL.out.mono ?_
   rintro e w10 ⟨rfl, ρ10, g10, D10⟩
   obtain ⟨hrow10, hb10⟩ := g10.row S5.row S5.nb.1
   have hY10 := (g10.row HY5.out ny0).1
   have d0 := cell_of_heap (o := 0) hrow10
   have z3 := cell_of_heap (o := 3) hY10
   simp at d0 z3
   have d0 : w10.drew.cell? ⟨b, 0, none⟩ = some (.pointer (some ⟨d, 0, none⟩)) := d0
   have z3 : w10.drew.cell? ⟨y, 3, none⟩ = some (jf s.m.next) := z3
   obtain ⟨RB, hRB⟩ : ∃ RB, RB = Ref.ql s.live := ⟨_, rfl⟩
   have hll : s.live.length < 60000 := HLL.out
   have hokr := Ref.St.jbk S.ok HLE.out (by omega)
   have hE10 := S5.env.keep g10.keeps (fun i t => (S5.disk.yt i t).1)
   have hrow10m := g10.keeps.row HR5.out (fun g hg t => t (hnv2 g hg).1)
   have hrn : ∀ W, ja w10 W (fun _ => False) → Calls Tryz.prog 115 #[j4 s.m.next] W fun e w' => e = .returned (jc (jq s.m.next)) ∧ ja W w' (fun _ => False) := fun W kk => ed s.m.next (by have := HN.out; omega) (hE10.same kk)
   have hmk : ∀ W, ja w10 W (fun _ => False) → Calls Tryz.prog 116 #[.slice (some ⟨g0, 0, none⟩) ml cv] W fun e w' => ∃ p c, e = .returned (.slice p RB.length c) ∧ w'.ownsRow w10.heap.size 5 1 (.slice p RB.length c) RB.length (RB.map qg) ∧ ja W w' (fun _ => False) := fun W kk => by
     have hch : Chs W (.slice (some ⟨g0, 0, none⟩) s.live.length cv) s.live := (Jk hrow10m).same kk
     rw [HML.out, hRB]
     refine (Gi g0 0 cv s.live W hch hokr.some hokr.allowed hokr.few).mono ?_
     rintro e w' ⟨p, c, rfl, h, k'⟩
     exact ⟨p, c, rfl, xx h kk.size, k'⟩
   have hnl : (jq s.m.next).length < 100 := by have := Jf (n := s.m.next) (by have := HN.out; omega); unfold jq; simp only [List.length_append, List.length_cons, List.length_nil]; omega
   have hly : ∀ (W : World) (v : Value), ja w10 W (fun _ => False) → W.ownsRow w10.heap.size 5 1 v RB.length (RB.map qg) → Calls Tryz.prog 114 #[.pointer (some ⟨d, 0, none⟩), jc (jq s.m.next), v] W fun e w' => e = .returned .nilIface ∧ ∃ ρ', yf w10 ρ10 w' ρ' ∧ DW E B w' ρ' d (yu s.files (jq s.m.next) RB) (k + 20200) := fun W v kk hrw => by
     have hsz := HS.out
     rw [← hRB] at hsz
     refine (Uy (D10.same kk) (jq s.m.next) (Kc _) v RB (bytes_of_row hrw) (Rh (fun i hi => (D10.yt i hi).2) hrw) (by have := HK.out; omega) (by have := yx s.files (jq s.m.next); omega)).mono ?_
     rintro e w' ⟨rfl, ρ', g, D'⟩
     exact ⟨rfl, ρ', (yf.of kk (fun _ _ h => h.elim)).trans g, D'.mono (by omega)⟩
   have HRN := hide hrn
   have HMK := hide hmk
   have HLY := hide hly
   have HRB := hide hRB
   have kd : ja w10 w10.drew (fun _ => False) := ja.drew _ _
   clear hrn hmk hly hRB hokr hE10 hrow10m hnl hrow10 hY10 hll
   obtain ⟨rn, hrne⟩ : ∃ rn, rn = jq s.m.next := ⟨_, rfl⟩
   rw [← hrne] at HRN HLY
   have HRNE := hide hrne
   clear hrne
   go_wp2_with fail
   go_cut [8] from 10 (fun s8 wd => s8 = .nilIface ∧ ∃ ρ', yf w10 ρ10 wd ρ' ∧ DW E B wd ρ' d (yu s.files rn RB) (k + 20200))
   case first =>
     go_region_law (first
       | (refine jo rfl 115 [.tmp 49] _ rfl Cm [j4 s.m.next] (by simp [Act.eval, Act.put]) (HRN.out _ kd) ?_
          rintro e w11 ⟨rfl, k11⟩
          try have hrw := k11.row hrw (fun _ _ h => h)
          have d0 := k11.cell d0 id
          have z3 := k11.cell z3 id
          have kd := kd.trans k11 (fun _ _ h => h)
          refine ⟨_, rfl, ?_⟩)
       | (refine jo rfl 116 [.tmp 51] _ rfl Co [.slice (some ⟨g0, 0, none⟩) ml cv] (by simp [Act.eval, Act.put]) (HMK.out _ kd) ?_
          rintro e w11 ⟨pb, cb, rfl, hrw, k11⟩
          have d0 := k11.cell d0 id
          have z3 := k11.cell z3 id
          have kd := kd.trans k11 (fun _ _ h => h)
          refine ⟨_, rfl, ?_⟩)
       | (refine jo rfl 114 [.tmp 47, .tmp 50, .tmp 52] _ rfl nk [.pointer (some ⟨d, 0, none⟩), jc rn, .slice pb RB.length cb] (by simp [Act.eval, Act.put]) (HLY.out _ _ kd hrw) ?_
          rintro e w12 ⟨rfl, ρ12, g12, D12⟩
          refine ⟨_, rfl, ?_⟩))
     all_goals
       go_wp2
       go_meet
     all_goals exact ⟨rfl, _, g12, D12⟩
   case rest =>
     obtain ⟨rfl, ρ12, g12, D12⟩ := hcut
     have gC := g10.trans g12
     obtain ⟨hrow12, hb12⟩ := gC.row S5.row S5.nb.1
     obtain ⟨hX12, nx12⟩ := gC.row HX5.out nx0
     have hY12 := (gC.row HY5.out ny0).1
     have t0 := cell_of_heap (o := 0) hY12
     have t1 := cell_of_heap (o := 1) hY12
     have t2 := cell_of_heap (o := 2) hY12
     have t3 := cell_of_heap (o := 3) hY12
     have t4 := cell_of_heap (o := 4) hY12
     simp at t0 t1 t2 t3 t4
     have hE12 := S5.env.keep gC.keeps (fun i t => (S5.disk.yt i t).1)
     have kw12 : ja w wc (StF ρ b mv) := kw5.trans gC.keeps (fun i _ h => .inl h)
     have hkw2 : ja w wc (fun i => ρ i ≠ .none ∨ i = b) := kw52.trans gC.keeps (fun i _ h => .inl h)
     have sz5 := kw5.size
     have HX12 := hide hX12
     clear hY12 hX12 d0 z3 kd HRN HMK HLY
     have hmv : mo s.m.zi (.slice none 0 0) = .agg #[jf n1, jf s.m.last, jf s.m.log, jf s.m.next, .slice none 0 0] := by rw [HN1.out]; rfl
     have hgood : Ref.Man.Good s.m.zi := S.ok.good.zi HN.out
     have hmb : Ref.Man.bytes s.m.zi = Ref.Man.bytes s.m.zi := rfl
     have hmbl : (Ref.Man.bytes s.m.zi).length = 42 := by rw [zt]; rfl
     have hins := Bg D12 hE12 s.m.zi hgood (by show ([] : List Nat).length < 65536; decide) (.slice none 0 0) (J2.nil _) (fun p n c e => by cases e) hrow12 hb12 S.nb.2 (fun n hn => by
       unfold qi at hn
       rw [Ref.Man.Zl (by have := S.ok.good.log; omega)] at hn
       have hm : n = jq s.m.next ∨ n = j3 s.m.zi.log := by simpa using hn
       rcases hm with e | e
       · exact ⟨RB, y9.2 (.inl (by rw [e, HRNE.out]))⟩
       · have h : (j3 s.m.log, Ref.jy s.m.last s.bs) ∈ yu s.files rn RB := y9.2 (.inr ⟨yj.2 (.inr (.inl rfl)), by rw [HRNE.out]; exact Ye _ _⟩)
         rw [e]
         exact ⟨_, h⟩) (by
       rw [hmbl]
       have hsz := HS.out
       rw [← HRB.out] at hsz
       have h1 := yx (yu s.files rn RB) yh
       have h2 := Yv s.files rn RB
       omega) (by have := HK.out; omega)
     rw [hmv] at hins
     have HINS := hide hins
     clear hins hmv
     go_wp2_with fail
     refine HINS.out.mono ?_
     rintro e w15 ⟨rfl, ρ15, k15, hρ15, D15, hrow15⟩
     have hxb : x ≠ b := fun e => by have := S.blt; omega
     have hX15 := k15.same HX12.out (fun t => t.elim (fun t => t nx12) hxb)
     have szW := kw12.size
     have sz15 := k15.size
     have hb15 : ρ15 b = .none := (hρ15 b (by have := S.blt; omega)).trans hb12
     have kw15 : ja w w15 (StF ρ b mv) := kw12.trans k15 (fun i hi h => h.elim (fun h => .inl (by rw [← (fun (i : Nat) (hi : i < w.heap.size) => gC.role i (by omega)) i hi]; exact h)) (fun h => .inr (.inl h)))
     have hE15 : Env E B w15 := S.env.keep (kw15.mono (fun i hi h => (show B ≤ i from (StF.old S h).1))) (fun i h => h)
     have hN15 : J2 w15 (.slice pr nr cr) s.m.runs := S.runs.keep kw15 (fun _ p n c e t => by
       obtain ⟨a1, a2, a3, a4, a5⟩ := S.nr p n c e
       rcases t with t | t | t
       · exact t a1
       · exact a2 t
       · exact a4 t)
     have d0 := cell_of_heap (o := 0) hrow15
     have x0 := cell_of_heap (o := 0) hX15
     have x1 := cell_of_heap (o := 1) hX15
     have x2 := cell_of_heap (o := 2) hX15
     have x3 := cell_of_heap (o := 3) hX15
     have x4 := cell_of_heap (o := 4) hX15
     simp at d0 x0 x1 x2 x3 x4
     have d0 : w15.drew.cell? ⟨b, 0, none⟩ = some (.pointer (some ⟨d, 0, none⟩)) := d0
     have x0 : w15.drew.cell? ⟨x, 0, none⟩ = some (jf s.m.next) := x0
     have x1 : w15.drew.cell? ⟨x, 1, none⟩ = some (jf s.m.last) := x1
     have x2 : w15.drew.cell? ⟨x, 2, none⟩ = some (jf s.m.log) := x2
     have x3 : w15.drew.cell? ⟨x, 3, none⟩ = some (jf s.m.base) := x3
     have x4 : w15.drew.cell? ⟨x, 4, none⟩ = some (.slice pr nr cr) := x4
     obtain ⟨ns, hns⟩ : ∃ ns, ns = s.m.settled.length := ⟨_, rfl⟩
     have hsl := ym s.m
     have hrl := S.ok.runs
     have hst : ∀ W, ja w15 W (fun _ => False) → Calls Tryz.prog 121 #[mo s.m (.slice pr nr cr)] W fun e w' => ∃ p c, e = .returned (.slice p ns c) ∧ w'.ownsRow w15.heap.size 3 1 (.slice p ns c) ns (s.m.settled.map jf) ∧ ja W w' (fun _ => False) := fun W kk => by
       rw [hns]
       refine (Y2 W s.m _ (hN15.same kk) (by omega)).mono ?_
       rintro e w' ⟨p, c, rfl, h, k'⟩
       exact ⟨p, c, rfl, xx h kk.size, k'⟩
     have hrns : ∀ (W : World) (v : Value), ja w15 W (fun _ => False) → W.ownsRow w15.heap.size 3 1 v ns (s.m.settled.map jf) → Calls Tryz.prog 120 #[v] W fun e w' => ∃ p c, e = .returned (.slice p ns c) ∧ w'.ownsRow w15.heap.size 9 1 (.slice p ns c) ns ((s.m.settled.map jq).map jc) ∧ ja W w' (fun _ => False) := fun W v kk hr => by
       rw [hns] at hr ⊢
       refine (o6 v s.m.settled (hE15.same kk) (Qh hr rfl) (by omega) (fun n hn => by have := S.ok.Z6 hn; have := S.ok.good.1; omega)).mono ?_
       rintro e w' ⟨p, c, rfl, h, k'⟩
       exact ⟨p, c, rfl, xx h kk.size, k'⟩
     have hrm : ∀ (W : World) (v : Value), ja w15 W (fun _ => False) → W.ownsRow w15.heap.size 9 1 v ns ((s.m.settled.map jq).map jc) → Calls Tryz.prog 118 #[.pointer (some ⟨d, 0, none⟩), v] W fun e w' => e = .returned .nilIface ∧ ∃ ρ', yf w15 ρ15 w' ρ' ∧ DW E B w' ρ' d (Ze s) (k + 100000) := fun W v kk hr => by
       have hnl : (s.m.settled.map jq).length = ns := by rw [List.length_map, hns]
       have hnd : (s.m.settled.map jq).Nodup := by
         refine List.pairwise_map.2 (List.Pairwise.imp ?_ S.ok.oz)
         intro a b hab e
         exact hab (Y4 e)
       refine (Kj (D15.same kk) (by have := HK.out; omega) v (s.m.settled.map jq) w15.heap.size (by rw [hnl]; exact hr) (fun g hg => Classical.byContradiction (fun hn => by have := (hr.lt g hg).1; have := (D15.yt g hn).2; omega)) (fun n hn => Yd S.ok.good n (List.mem_append.2 (.inl hn))) (by rw [hnl]; omega) hnd (fun n hn => ?_)).mono ?_
       · obtain ⟨q, hq, rfl⟩ := List.mem_map.1 hn
         obtain ⟨c, hc⟩ := S.ok.there (jq q) (List.mem_append.2 (.inl hn))
         exact (by
       by_cases he : jq q = rn
       · exact ⟨RB, y9.2 (.inr ⟨xu.2 ⟨y9.2 (.inl (by rw [he])), fun e => Ba _ e.symm⟩, fun e => Zw _ e.symm⟩)⟩
       · exact ⟨c, y9.2 (.inr ⟨xu.2 ⟨y9.2 (.inr ⟨hc, he⟩), fun e => Ba _ e.symm⟩, fun e => Zw _ e.symm⟩)⟩)
       · rintro e w' ⟨rfl, ρ', g, D'⟩
         refine ⟨rfl, ρ', (yf.of kk (fun _ _ h => h.elim)).trans g, ?_⟩
         have D'' := D'.mono (m := k + 100000) (by rw [hnl, hmbl]; omega)
         have ev : (yu (without (yu s.files rn RB) yh) qd (Ref.Man.bytes s.m.zi)).filter (fun p => decide (p.1 ∉ s.m.settled.map jq)) = Ze s := by
           unfold Ze
           rw [if_neg HLE.out, HRNE.out, HRB.out]
         rw [ev] at D''
         exact D''
     have HST := hide hst
     have HRNS := hide hrns
     have HRM := hide hrm
     have HROW15 := hide hrow15
     have kd : ja w15 w15.drew (fun _ => False) := ja.drew _ _
     clear hst hrns hrm hns hsl hrl hrow15 hX15 hN15
     go_wp2_with fail
     go_region_law (first
       | (refine jo rfl 121 [.tmp 67] _ rfl Xn [mo s.m (.slice pr nr cr)] (by simp [Act.eval, Act.put]) (HST.out _ kd) ?_
          rintro e w16 ⟨p16, c16, rfl, hr16, k16⟩
          have d0 := k16.cell d0 id
          have kd := kd.trans k16 (fun _ _ h => h)
          refine ⟨_, rfl, ?_⟩)
       | (refine jo rfl 120 [.tmp 68] _ rfl bq [.slice p16 ns c16] (by simp [Act.eval, Act.put]) (HRNS.out _ _ kd hr16) ?_
          rintro e w17 ⟨p17, c17, rfl, hr17, k17⟩
          have d0 := k17.cell d0 id
          have kd := kd.trans k17 (fun _ _ h => h)
          refine ⟨_, rfl, ?_⟩)
       | (refine jo rfl 118 [.tmp 66, .tmp 69] _ rfl sw [.pointer (some ⟨d, 0, none⟩), .slice p17 ns c17] (by simp [Act.eval, Act.put]) (HRM.out _ _ kd hr17) ?_
          rintro e w18 ⟨rfl, ρ18, g18, D18⟩
          refine ⟨_, rfl, ?_⟩))
     all_goals
       go_wp2
       go_ret
       have hokc := S.ok.compact (by have := HLL.out; omega) HN.out
       have D19 := D18.perm (Ck S.ok HRS.out hokc)
       have ec : s.compact = ⟨s.m.zi, s.bs, [s.live]⟩ := by unfold Ref.St.compact; rw [if_neg HRS.out, if_neg HLE.out]
       obtain ⟨hrow18, hb18⟩ := g18.row HROW15.out hb15
       have hro : ∀ i, i < w.heap.size → ρ18 i = ρ i := fun i hi => (g18.role i (by omega)).trans ((hρ15 i (by omega)).trans ((fun (i : Nat) (hi : i < w.heap.size) => gC.role i (by omega)) i (by omega)))
       have kw18 : ja w w18 (StF ρ b mv) := kw15.trans g18.keeps (fun i hi t => .inl (by rw [← (fun (i : Nat) (hi : i < w.heap.size) => gC.role i (by omega)) i hi, ← hρ15 i (by omega)]; exact t))
       have kown : w18.ownsRow B 88 3 mv s.mem.length (jg s.mem) := by
         have kk : ja w w18 (fun i => ρ i ≠ .none ∨ i = b) := (hkw2.trans k15 (fun i hi h => h.imp (fun h => by rw [← (fun (i : Nat) (hi : i < w.heap.size) => gC.role i (by omega)) i hi]; exact h) id)).trans g18.keeps (fun i hi t => .inl (by rw [← (fun (i : Nat) (hi : i < w.heap.size) => gC.role i (by omega)) i hi, ← hρ15 i (by omega)]; exact t))
         exact kk.row S.mem (fun g hg t => t.elim (fun t => t (S.nm g hg).1) (S.nm g hg).2)
       refine ⟨rfl, ρ18, .slice none 0 0, mv, ⟨hE15.keep g18.keeps (fun i t => (D15.yt i t).1), D19, ?_, ?_, ?_, ⟨hb18, S.nb.2⟩, fun p n c e => (by cases e), fun g hg => ⟨by rw [hro g (S.mem.lt g hg).2]; exact (S.nm g hg).1, (S.nm g hg).2⟩, hokc, ?_⟩, kw18, hro, fun g hg => .inl hg, fun p n c e => (by cases e)⟩
       · rw [ec]
         exact hrow18
       · rw [ec]
         exact J2.nil _
       · rw [ec]
         exact kown
       · rw [ec]
         exact S.few
theorem x8.mono {E : Nat → Addr} {B : Nat} {w : World} {ρ : Nat → jw} {d b k m : Nat} {s : Ref.St} {rv mv : Value} (h : x8 E B w ρ d b s k rv mv) (hm : k ≤ m) : x8 E B w ρ d b s m rv mv :=
 ⟨h.env, h.disk.mono hm, h.row, h.runs, h.mem, h.nb, h.nr, h.nm, h.ok, h.few⟩
theorem Xe.still {E : Nat → Addr} {B : Nat} {w w' : World} {ρ : Nat → jw} {d b k m : Nat} {s : Ref.St} {rv mv : Value} (h : x8 E B w ρ d b s k rv mv) (kk : ja w w' (fun _ => False)) (hm : k ≤ m) : Xe E B w ρ d b rv mv s m w' :=
 ⟨ρ, rv, mv, (h.same kk).mono hm, kk.mono (fun _ _ h => h.elim), fun _ _ => rfl, fun g hg => .inl hg, fun p n c e => .inl ⟨n, c, e⟩⟩
theorem jcy {E : Nat → Addr} {B : Nat} {w : World} {ρ : Nat → jw} {d b k : Nat} {s : Ref.St} {rv mv : Value} (S : x8 E B w ρ d b s k rv mv) (hk : k < 530000000000) (hrs : s.m.runs ≠ []) (hn : s.m.next + 1 ≤ 2000000000) (hl : (Ref.merged s.bls).length < 60000) (hs : 42 + (Ref.ql s.live).length + qm s.files ≤ 20000) :
   Calls Tryz.prog 69 #[.pointer (some ⟨b, 0, none⟩)] w fun e w' => e = .returned .nilIface ∧ Xe E B w ρ d b rv mv s.compact (k + 100000) w' := by
 rcases Classical.em (s.live = []) with h | h
 · exact L8 S hk hrs hn hl h hs
 · exact L6 S hk hrs hn hl h hs
set_option maxHeartbeats 1000000 in
set_option maxRecDepth 100000 in
theorem jgk {E : Nat → Addr} {B : Nat} {w : World} {ρ : Nat → jw} {d b k : Nat} {s : Ref.St} {rv mv : Value} (S : x8 E B w ρ d b s k rv mv) (hk : k < 530000000000) (hn : s.m.next + 2 ≤ 2000000000) (hr : s.m.runs.length + 1 < 60000)
   (hs : (s.m.xz s.last).bytes.length + (Ref.ql s.mem).length + qm s.files ≤ 20000) :
   Calls Tryz.prog 26 #[.pointer (some ⟨b, 0, none⟩)] w fun e w' => e = .returned (.int .i64 0) ∧ Xe E B w ρ d b rv mv s.flush (k + 50000) w' := by
 have hrow := S.row
 have c2 := cell_of_heap (o := 2) hrow
 have c6 := cell_of_heap (o := 6) hrow
 simp at c2 c6
 have HROW := hide hrow
 clear hrow
 rcases Classical.em (s.bs = []) with hb | hb
 · have e : s.last = s.m.last := by unfold Ref.St.last; rw [hb]; rfl
   have ef : s.flush = s := by unfold Ref.St.flush; rw [if_pos hb]
   rw [e] at c6
   have HE := hide ef
   rw [ef]
   clear e ef hb hk hn hr hs
   go_enter Tryz.func26, Tryz.ntmps26
   go_wp2_with fail
   refine (Y5 HROW.out).mono ?_
   rintro e w0 ⟨rfl, rfl⟩
   rw [show l9 false false = 0 from rfl]
   go_wp2_with fail
   go_quiet (fail)
   go_wp2
   go_ret
   exact ⟨rfl, Xe.still S (ja.drewN _ _ _) (by omega)⟩
 · have hlt : s.m.last < s.last := by unfold Ref.St.last; have := List.length_pos_iff.2 hb; omega
   obtain ⟨la, hla⟩ : ∃ la, la = s.m.last := ⟨_, rfl⟩
   obtain ⟨ls, hls⟩ : ∃ ls, ls = s.last := ⟨_, rfl⟩
   rw [← hla] at c2 hlt
   rw [← hls] at c6 hlt
   have hne : ((ls : Int) == (la : Int)) = false := by simp; omega
   have hne2 : ¬ ((ls : Int) = (la : Int)) := by omega
   have hfl : ∀ W, ja w W (fun _ => False) → Calls Tryz.prog 68 #[.pointer (some ⟨b, 0, none⟩)] W fun e w' => e = .returned .nilIface ∧ Xe E B w ρ d b rv mv s.flush (k + 50000) w' := fun W kk => by
     refine (jf9 (S.same kk) hk hb hn hr hs).mono ?_
     rintro e w' ⟨rfl, h⟩
     exact ⟨rfl, Xe.trans (S.same kk) (kk.mono (fun _ _ h => h.elim)) (fun _ _ => rfl) (fun g hg => .inl hg) (fun p n c e => .inl ⟨n, c, e⟩) h⟩
   have HFL := hide hfl
   clear hfl hla hls hlt hk hn hr hs hb
   go_enter Tryz.func26, Tryz.ntmps26
   go_wp2_with fail
   refine (Y5 HROW.out).mono ?_
   rintro e w0 ⟨rfl, rfl⟩
   rw [show l9 false false = 0 from rfl]
   go_wp2_with fail
   go_quiet (fail)
   go_wp2_with fail
   refine (HFL.out _ (ja.drewN _ _ _)).mono ?_
   rintro e w2 ⟨rfl, h2⟩
   have H2 := hide h2
   clear h2
   go_wp2_with fail
   refine (Mg b).mono ?_
   rintro e w3 ⟨rfl, rfl⟩
   go_wp2
   go_ret
   exact ⟨rfl, H2.out⟩
set_option maxHeartbeats 1000000 in
set_option maxRecDepth 100000 in
theorem jc9 {E : Nat → Addr} {B : Nat} {w : World} {ρ : Nat → jw} {d b k : Nat} {s : Ref.St} {rv mv : Value} (S : x8 E B w ρ d b s k rv mv) (hk : k < 530000000000) (hn : s.m.next + 1 ≤ 2000000000) (hl : (Ref.merged s.bls).length < 60000)
   (hs : 42 + (Ref.ql s.live).length + qm s.files ≤ 20000) :
   Calls Tryz.prog 27 #[.pointer (some ⟨b, 0, none⟩)] w fun e w' => e = .returned (.int .i64 0) ∧ Xe E B w ρ d b rv mv s.compact (k + 100000) w' := by
 have hrow := S.row
 obtain ⟨pr, cr, hrv, _⟩ := id S.runs
 have c5 := cell_of_heap (o := 5) hrow
 simp at c5
 have HROW := hide hrow
 clear hrow
 rcases Classical.em (s.m.runs = []) with hb | hb
 · have ef : s.compact = s := by unfold Ref.St.compact; rw [if_pos hb]
   rw [hrv, hb] at c5
   have HE := hide ef
   rw [ef]
   clear ef hb hk hn hs hrv
   go_enter Tryz.func27, Tryz.ntmps27
   go_wp2_with fail
   refine (Y5 HROW.out).mono ?_
   rintro e w0 ⟨rfl, rfl⟩
   rw [show l9 false false = 0 from rfl]
   go_wp2
   go_ret
   exact ⟨rfl, Xe.still S (ja.refl _ _) (by omega)⟩
 · have hpos := List.length_pos_iff.2 hb
   rw [hrv] at c5
   obtain ⟨ls, hls⟩ : ∃ ls, ls = s.m.runs.length := ⟨_, rfl⟩
   rw [← hls] at c5 hpos
   have hne : ((ls : Int) == 0) = false := by simp; omega
   have hne2 : ¬ ((ls : Int) = 0) := by omega
   have HCP := hide (jcy S hk hb hn hl hs)
   clear hls hpos hk hn hs hb hrv
   go_enter Tryz.func27, Tryz.ntmps27
   go_wp2_with fail
   refine (Y5 HROW.out).mono ?_
   rintro e w0 ⟨rfl, rfl⟩
   rw [show l9 false false = 0 from rfl]
   go_wp2_with fail
   refine HCP.out.mono ?_
   rintro e w2 ⟨rfl, h2⟩
   have H2 := hide h2
   clear h2
   go_wp2_with fail
   refine (Mg b).mono ?_
   rintro e w3 ⟨rfl, rfl⟩
   go_wp2
   go_ret
   exact ⟨rfl, H2.out⟩
abbrev newRow (d : Nat) : Array Value := yl (.pointer (some ⟨d, 0, none⟩)) (.int .i64 0) (.int .i64 0) (.int .i64 0) (.int .i64 0) (.slice none 0 0) (.int .i64 0) (.slice none 0 0) false false
def Zg (E : Nat → Addr) (B : Nat) (w : World) (ρ : Nat → jw) (d b : Nat) (s : Ref.St) (k : Nat) (w' : World) : Prop :=
 ∃ ρ' rv mv, x8 E B w' ρ' d b s k rv mv ∧ ja w w' (fun i => ρ i ≠ .none ∨ i = b) ∧ (∀ i, i < w.heap.size → ρ' i = ρ i) ∧ (∀ g, mv.ownBlock = some g → w.heap.size ≤ g) ∧ (∀ p n c, rv = .slice (some p) n c → w.heap.size ≤ p.block)
set_option maxHeartbeats 1000000 in
set_option maxRecDepth 100000 in
theorem jge {E : Nat → Addr} {B : Nat} {w : World} {ρ : Nat → jw} {d b k : Nat} {V : List (Str × List UInt8)} (D : DW E B w ρ d V k) (H : Env E B w) (hk : k + V.length < 530000000000) (hb : w.heap[b]? = some (.cells (newRow d) 121 (0, 0))) (hρb : ρ b = .none) (hBb : B ≤ b) :
   Calls Tryz.prog 130 #[.pointer (some ⟨b, 0, none⟩)] w fun e w' => e = .returned .nilIface ∧ Zg E B w ρ d b Ref.St.first (k + V.length + 1000) w' := by
 have c0 := cell_of_heap (o := 0) hb
 simp at c0
 have hrab := Af D (by omega) (.slice none 0 0) [] B (World.ownsRow_nil _ _ _ _) (fun g hg => by cases hg) (by simp)
 have hfn : V.filter (fun p => decide (p.1 ∈ ([] : List Str))) = [] := List.filter_eq_nil_iff.2 (fun p _ => by simp)
 rw [hfn] at hrab
 have HRAB := hide hrab
 have HB := hide hb
 have HK := hide hk
 clear hrab hb hk hfn
 go_enter Tryz.func130, Tryz.ntmps130
 go_wp2_with fail
 refine HRAB.out.mono ?_
 rintro e w1 ⟨rfl, ρ1, g1, D1⟩
 obtain ⟨hrow1, hb1⟩ := g1.row HB.out hρb
 obtain ⟨y, hy⟩ : ∃ y, y = w1.heap.size := ⟨_, rfl⟩
 obtain ⟨w2, hw2⟩ : ∃ w2, w2 = w1.alloc (.cells #[.int .i64 2, .int .i64 0, .int .i64 1, .int .i64 0, .slice none 0 0] 117) := ⟨_, rfl⟩
 have k2 : ja w1 w2 (fun _ => False) := by rw [hw2]; exact ja.alloc _ _ _
 have hY2 : w2.heap[y]? = some (.cells #[.int .i64 2, .int .i64 0, .int .i64 1, .int .i64 0, .slice none 0 0] 117 (0, 0)) := by rw [hw2, hy]; exact jd _ _
 have D2 := D1.same k2
 have hrow2 := k2.same hrow1 id
 have ny : ρ1 y = .none := Classical.byContradiction (fun hn => by have := (D1.yt y hn).2; omega)
 have hE1 : Env E B w1 := H.keep g1.keeps (fun i t => (D.yt i t).1)
 have hE2 := hE1.same k2
 have d0 := cell_of_heap (o := 0) hrow2
 have z2 := cell_of_heap (o := 2) hY2
 simp at d0 z2
 have d0 : w2.drew.cell? ⟨b, 0, none⟩ = some (.pointer (some ⟨d, 0, none⟩)) := d0
 have z2 : w2.drew.cell? ⟨y, 2, none⟩ = some (.int .i64 1) := z2
 have hln : ∀ W, ja w2 W (fun _ => False) → Calls Tryz.prog 63 #[.int .i64 1] W fun e w' => e = .returned (jc (j3 1)) ∧ ja W w' (fun _ => False) := fun W kk => Q9 1 (by omega) (hE2.same kk)
 have hnl : (j3 1).length < 100 := by have := Jf (n := 1) (by omega); unfold j3; simp only [List.length_append, List.length_cons, List.length_nil]; omega
 have hly2 : ∀ W, ja w2 W (fun _ => False) → Calls Tryz.prog 114 #[.pointer (some ⟨d, 0, none⟩), jc (j3 1), .slice none 0 0] W fun e w' => e = .returned .nilIface ∧ ∃ ρ', yf w2 ρ1 w' ρ' ∧ DW E B w' ρ' d (yu [] (j3 1) []) (k + V.length + 200) := fun W kk => by
   refine (Uy (D2.same kk) (j3 1) (Lc _) _ [] (O0 W) (fun p n c e => by cases e) (by have := HK.out; simp only [List.length_nil]; omega) (by simp [without, qm])).mono ?_
   rintro e w' ⟨rfl, ρ', g, D'⟩
   exact ⟨rfl, ρ', (yf.of kk (fun _ _ h => h.elim)).trans g, D'.mono (by simp only [List.length_nil]; omega)⟩
 have HLN := hide hln
 have HLY2 := hide hly2
 have HROW2 := hide hrow2
 have HY2 := hide hY2
 have HY := hide hy
 have kd : ja w2 w2.drew (fun _ => False) := ja.drew _ _
 clear hln hly2 hrow1 hrow2 hY2 hnl hy c0
 obtain ⟨ln, hlne⟩ : ∃ ln, ln = j3 1 := ⟨_, rfl⟩
 rw [← hlne] at HLN HLY2
 have HLNE := hide hlne
 clear hlne
 go_wp2_with fail
 rw [← hw2, ← HY.out]
 clear hw2
 go_cut [5] from 6 (fun s5 wd => s5 = .nilIface ∧ ∃ ρ', yf w2 ρ1 wd ρ' ∧ DW E B wd ρ' d (yu [] ln []) (k + V.length + 200))
 case first =>
   go_region_law (first
     | (refine jo rfl 63 [.tmp 20] _ rfl Qm [.int .i64 1] (by simp [Act.eval, Act.put]) (HLN.out _ kd) ?_
        rintro e w13 ⟨rfl, k13⟩
        have d0 := k13.cell d0 id
        have kd := kd.trans k13 (fun _ _ h => h)
        refine ⟨_, rfl, ?_⟩)
     | (refine jo rfl 114 [.tmp 18, .tmp 21, .const (.slice none 0 0)] _ rfl nk [.pointer (some ⟨d, 0, none⟩), jc ln, .slice none 0 0] (by simp [Act.eval, Act.put]) (HLY2.out _ kd) ?_
        rintro e w14 ⟨rfl, ρ14, g14, D14⟩
        refine ⟨_, rfl, ?_⟩))
   all_goals
     go_wp2
     go_meet
   all_goals exact ⟨rfl, _, g14, D14⟩
 case rest =>
   obtain ⟨rfl, ρ3, g3, D3⟩ := hcut
   obtain ⟨hrow3, hb3⟩ := g3.row HROW2.out hb1
   have hY3 := (g3.row HY2.out ny).1
   have t0 := cell_of_heap (o := 0) hY3
   have t1 := cell_of_heap (o := 1) hY3
   have t2 := cell_of_heap (o := 2) hY3
   have t3 := cell_of_heap (o := 3) hY3
   have t4 := cell_of_heap (o := 4) hY3
   simp at t0 t1 t2 t3 t4
   have hE3 := hE2.keep g3.keeps (fun i t => (D2.yt i t).1)
   have hmbl : Ref.Man.first.bytes.length = 42 := by rw [zt]; rfl
   have hins := Bg D3 hE3 Ref.Man.first Ref.St.Ok.first.good (by decide) (.slice none 0 0) (J2.nil _) (fun p n c e => by cases e) hrow3 hb3 hBb (fun n hn => by
     have e : n = j3 1 := by simpa [qi, Ref.Man.first, Ref.Man.settled] using hn
     exact ⟨[], y9.2 (.inl (by rw [e, HLNE.out]))⟩) (by
     rw [hmbl]
     have h1 := yx (yu [] ln []) yh
     have h2 : qm (yu [] ln []) = 0 := by simp [yu, without, qm]
     omega) (by have := HK.out; omega)
   have hmv : mo Ref.Man.first (.slice none 0 0) = .agg #[.int .i64 2, .int .i64 0, .int .i64 1, .int .i64 0, .slice none 0 0] := rfl
   rw [hmv] at hins
   have HINS := hide hins
   clear hins hmv hY3 d0 z2 kd HLN HLY2
   go_wp2_with fail
   refine HINS.out.mono ?_
   rintro e w4 ⟨rfl, ρ4, k4, hρ4, D4, hrow4⟩
   have HR4 := hide hrow4
   clear hrow4
   go_wp2
   go_ret
   have sz1 := g1.keeps.size
   have sz2 := k2.size
   have sz3 := g3.keeps.size
   have sz4 := k4.size
   have hblt : b < w.heap.size := lt_of_heap HB.out
   have hro : ∀ i, i < w.heap.size → ρ4 i = ρ i := fun i hi => (hρ4 i (by omega)).trans ((g3.role i (by omega)).trans (g1.role i hi))
   have kk : ja w w4 (fun i => ρ i ≠ .none ∨ i = b) := (((g1.keeps.mono (fun i _ h => (Or.inl h : ρ i ≠ .none ∨ i = b))).trans k2 (fun _ _ h => h.elim)).trans g3.keeps (fun i hi h => .inl (by rw [← g1.role i hi]; exact h))).trans k4 (fun i hi h => h.imp (fun h => by rw [← g1.role i hi, ← g3.role i (by omega)]; exact h) id)
   refine ⟨rfl, ρ4, .slice none 0 0, .slice none 0 0, ⟨H.keep (kk.mono (fun i hi h => (show B ≤ i from h.elim (fun h => (D.yt i h).1) (fun h => by rw [h]; exact hBb)))) (fun i h => h), ?_, HR4.out, J2.nil _, World.ownsRow_nil _ _ _ _, ⟨(hro b hblt).trans hρb, hBb⟩, fun p n c e => (by cases e), fun g hg => (by cases hg), Ref.St.Ok.first, Nat.zero_lt_succ _⟩, kk, hro, fun g hg => (by cases hg), fun p n c e => (by cases e)⟩
   rw [Vk, ← HLNE.out]
   exact D4.mono (by rw [hmbl]; omega)
theorem ng (ys : Array Value) (w : World) : (callFunc 182 ys).run Tryz.prog w = .ok (.enter 182 ys) w := by kernel_rfl
theorem Da (ys : Array Value) (w : World) : (callFunc 177 ys).run Tryz.prog w = .ok (.enter 177 ys) w := by kernel_rfl
theorem Hu (ys : Array Value) (w : World) : (callFunc 129 ys).run Tryz.prog w = .ok (.enter 129 ys) w := by kernel_rfl
theorem jan {s : Ref.St} (h : s.Ok) {V : List (Str × List UInt8)} (hA : Apart V) (hV : ∀ p ∈ s.files, p ∈ V) : s.files.Perm (V.filter (fun p => decide (p.1 ∈ qi s.m ++ [Yy]))) := by
 refine Y7 h.apart (hA.filter _) (fun p => ?_)
 rw [List.mem_filter, decide_eq_true_iff]
 constructor
 · intro hp
   refine ⟨hV p hp, ?_⟩
   rcases yj.1 hp with rfl | rfl | hp'
   · exact List.mem_append.2 (.inr (List.mem_singleton.2 rfl))
   · exact List.mem_append.2 (.inl (List.mem_append.2 (.inr (List.mem_singleton.2 rfl))))
   · obtain ⟨n, hn, e⟩ := J7 hp'
     exact List.mem_append.2 (.inl (List.mem_append.2 (.inl (List.mem_map.2 ⟨n, hn, e.symm⟩))))
 · rintro ⟨hp, hn⟩
   rcases List.mem_append.1 hn with hn | hn
   · obtain ⟨c, hc⟩ := h.there p.1 hn
     have e : p.2 = c := hA.one (n := p.1) hp (hV _ hc)
     rw [show p = (p.1, c) from by rw [← e]]
     exact hc
   · have e1 : p.1 = qd := List.mem_singleton.1 hn
     have hm : (qd, s.m.bytes) ∈ s.files := yj.2 (.inl rfl)
     have e : p.2 = s.m.bytes := hA.one (n := p.1) hp (by rw [e1]; exact hV _ hm)
     rw [show p = (qd, s.m.bytes) from by rw [← e, ← e1]]
     exact hm
theorem Ot {V : List (Str × List UInt8)} {p : Str × List UInt8} (h : p ∈ V) : p.2.length ≤ qm V := by
 induction V with
 | nil => cases h
 | cons x r ih =>
   rw [yz]
   rcases List.mem_cons.1 h with rfl | h
   · omega
   · have := ih h
     omega
theorem DW.sent {E : Nat → Addr} {B : Nat} {w : World} {ρ : Nat → jw} {d k : Nat} {V : List (Str × List UInt8)} (h : DW E B w ρ d V k) : Q0 E B w := by
 obtain ⟨S, h1, _⟩ := h
 exact h1.sent
theorem Vs {E : Nat → Addr} {B : Nat} {w : World} {ρ : Nat → jw} {d b k : Nat} {V : List (Str × List UInt8)} {s : Ref.St} {rv last mv : Value} {deg cl : Bool} {t : TypeId} (D : DW E B w ρ d V k) (H : Env E B w) (hk : k < 549755813888) (ok : s.Ok) (hV : ∀ p ∈ yo s.m.settled s.bls, p ∈ V)
   (hb : w.heap[b]? = some (.cells (yl (.pointer (some ⟨d, 0, none⟩)) (jf s.m.next) (jf s.m.last) (jf s.m.log) (jf s.m.base) rv last mv deg cl) t (0, 0))) (hv : J2 w rv s.m.runs) :
   Calls Tryz.prog 179 #[.pointer (some ⟨b, 0, none⟩)] w fun e w' => e = .returned .nilIface ∧ yf w ρ w' ρ ∧ DW E B w' ρ d V k := by
 obtain ⟨T, h1, h2, h3, h4⟩ := D
 have hP : nu V k T := ⟨h2, h3, h4⟩
 have hrl := ok.runs
 refine (Od s.m rv last mv deg cl (s.bls.map Ref.chunks) H h1 hP (Dv ok hV hk) hb hv (by omega)).mono ?_
 rintro e w' ⟨kk, D', hG, ⟨_, rfl⟩ | ⟨bad, ev, hbad, _⟩⟩
 · exact ⟨rfl, ⟨kk, fun _ _ => rfl⟩, _, D', hG.1, hG.2.1, hG.2.2⟩
 · rw [jc1 [] _ hP] at hbad
   cases hbad
set_option maxHeartbeats 1000000 in
set_option maxRecDepth 100000 in
theorem jg2 {E : Nat → Addr} {B : Nat} {w : World} {ρ : Nat → jw} {d b k : Nat} {V : List (Str × List UInt8)} (D : DW E B w ρ d V k) (H : Env E B w) (hk : k + V.length < 530000000000) (s : Ref.St) (ok : s.Ok) (hV : ∀ p ∈ s.files, p ∈ V) (hsz : qm V ≤ 20000) (hfew : s.mem.length < 60000)
   (hb : w.heap[b]? = some (.cells (newRow d) 121 (0, 0))) (hρb : ρ b = .none) (hBb : B ≤ b) (vm : Value) (hvm : Bytes w vm s.m.bytes) :
   Calls Tryz.prog 131 #[.pointer (some ⟨b, 0, none⟩), vm] w fun e w' => e = .returned .nilIface ∧ Zg E B w ρ d b s (k + V.length) w' := by
 have hrl := ok.runs
 have hgood := ok.good
 have hlog := hgood.log
 have hnx := hgood.1
 have hml := zt s.m
 have hmsz := Ot (hV _ (yj.2 (.inl rfl)))
 have hread := Ff D.sent D.size hvm (by simp only at hmsz; omega)
 rw [Ref.M3 hgood (by omega)] at hread
 obtain ⟨pm, cm, rfl, _⟩ := id hvm
 have HREAD := hide hread
 have HB := hide hb
 have HK := hide hk
 have HSZ := hide hsz
 have HF := hide hfew
 have HLO : Hid (s.m.log ≤ 9223372036854775807) := (show s.m.log ≤ 9223372036854775807 from by omega)
 have HRL := hide hrl
 have hset : ∀ n ∈ s.m.settled, n ≤ 9223372036854775807 := fun n hn => by have := ok.Z6 hn; omega
 have HSET := hide hset
 clear hread hb hk hsz hrl hgood hlog hnx hml hmsz hset hfew
 go_enter Tryz.func131, Tryz.ntmps131
 go_wp2_with fail
 refine HREAD.out.mono ?_
 rintro e w1 ⟨k1, ⟨m1, p1, c1, hm1, rfl, hr1⟩ | ⟨v1, hm1, _⟩⟩
 rotate_left
 · cases hm1
 cases hm1
 obtain ⟨nr, hnr⟩ : ∃ nr, nr = s.m.runs.length := ⟨_, rfl⟩
 rw [← hnr] at hr1 ⊢
 obtain ⟨x, hx⟩ : ∃ x, x = w1.heap.size := ⟨_, rfl⟩
 obtain ⟨w2, hw2⟩ : ∃ w2, w2 = w1.alloc (.cells #[jf s.m.next, jf s.m.last, jf s.m.log, jf s.m.base, .slice p1 nr c1] 117) := ⟨_, rfl⟩
 have k2 : ja w w2 (fun _ => False) := by rw [hw2]; exact k1.more _
 have hX2 : w2.heap[x]? = some (.cells #[jf s.m.next, jf s.m.last, jf s.m.log, jf s.m.base, .slice p1 nr c1] 117 (0, 0)) := by rw [hw2, hx]; exact jd _ _
 have hr2 : w2.ownsRow w.heap.size 3 1 (.slice p1 nr c1) nr (s.m.runs.map jf) := by rw [hw2]; exact hr1.alloc _
 have hb2 := k2.same HB.out id
 have hblt := lt_of_heap HB.out
 have hxw : w.heap.size ≤ x := by rw [hx]; exact k1.size
 have hp1 : ∀ g, (Value.slice p1 nr c1).ownBlock = some g → w.heap.size ≤ g ∧ g < x := fun g hg => by rw [hx]; exact hr1.lt g hg
 have x0 := cell_of_heap (o := 0) hX2
 have x1 := cell_of_heap (o := 1) hX2
 have x2 := cell_of_heap (o := 2) hX2
 have x3 := cell_of_heap (o := 3) hX2
 have x4 := cell_of_heap (o := 4) hX2
 have y1 := cell_of_heap (o := 1) hb2
 have y2 := cell_of_heap (o := 2) hb2
 have y3 := cell_of_heap (o := 3) hb2
 have y4 := cell_of_heap (o := 4) hb2
 have y5 := cell_of_heap (o := 5) hb2
 have y6 := cell_of_heap (o := 6) hb2
 have f1 := frozen_of_heap (o := 1) hb2
 have f2 := frozen_of_heap (o := 2) hb2
 have f3 := frozen_of_heap (o := 3) hb2
 have f4 := frozen_of_heap (o := 4) hb2
 have f5 := frozen_of_heap (o := 5) hb2
 have f6 := frozen_of_heap (o := 6) hb2
 simp at x0 x1 x2 x3 x4 y1 y2 y3 y4 y5 y6
 have HX := hide hx
 have HNR := hide hnr
 have HX2 := hide hX2
 have HB2 := hide hb2
 have HR2 := hide hr2
 have D2 := D.same k2
 have E2 := H.same k2
 clear hx hnr hX2 hb2 hr1 hr2
 go_wp2_with fail
 rw [← hw2, ← HX.out]
 clear hw2
 go_cut [] from 10 (fun wd => wd.heap[b]? = some (.cells (yl (.pointer (some ⟨d, 0, none⟩)) (jf s.m.next) (jf s.m.last) (jf s.m.log) (jf s.m.base) (.slice p1 nr c1) (jf s.m.last) (.slice none 0 0) false false) 121 (0, 0)) ∧ ja w2 wd (fun i => i = b))
 case first =>
   go_region
   all_goals
     go_wp2
     go_meet
   all_goals
     have hh : ∀ W : World, W.drew.heap = W.heap := fun _ => rfl
     refine ⟨?_, ja.draw ?_⟩
     · rw [hh]
       exact (jb (jb (jb (jb (jb (jb HB2.out _) _) _) _) _) _).trans rfl
     · exact (((((ja.setCell w2 ⟨b, 1, none⟩ _).set (p := ⟨b, 2, none⟩) rfl _).set (p := ⟨b, 3, none⟩) rfl _).set (p := ⟨b, 4, none⟩) rfl _).set (p := ⟨b, 5, none⟩) rfl _).set (p := ⟨b, 6, none⟩) rfl _
 case rest =>
   obtain ⟨hb3, k3⟩ := hcut
   clear x0 x1 x2 x3 x4 y1 y2 y3 y4 y5 y6 f1 f2 f3 f4 f5 f6
   have D3 : DW E B wc ρ d V k := D2.keep k3 (fun i _ e => by rw [e]; exact ⟨hρb, hBb⟩)
   have E3 : Env E B wc := E2.keep k3 (fun i e => by rw [e]; exact hBb)
   have hxb : x ≠ b := by omega
   have hX3 := k3.same HX2.out hxb
   have hr3 := k3.row HR2.out (fun g hg e => by have := (hp1 g hg).1; have e' : g = b := e; omega)
   have nx0 : ρ x = .none := Classical.byContradiction (fun hn => by have := (D.yt x hn).2; omega)
   have np0 : ∀ g, (Value.slice p1 nr c1).ownBlock = some g → ρ g = .none := fun g hg => Classical.byContradiction (fun hn => by have := (D.yt g hn).2; have := (hp1 g hg).1; omega)
   have hn3 : J2 wc (.slice p1 nr c1) s.m.runs := Qh hr3 HNR.out.symm
   have kw3 : ja w wc (fun i => i = b) := (k2.mono (fun _ _ h => h.elim)).trans k3 (fun i _ e => e)
   have hck := Vs D3 E3 (by have := HK.out; omega) ok (fun p hp => hV p (yj.2 (.inr (.inr hp)))) hb3 hn3
   have HCK := hide hck
   have HB3 := hide hb3
   have HX3 := hide hX3
   have HR3 := hide hr3
   clear hck hb3 hX3 hr3 hn3
   go_wp2_with fail
   refine HCK.out.mono ?_
   rintro e w4 ⟨rfl, g4, D4⟩
   obtain ⟨hb4, _⟩ := g4.row HB3.out hρb
   obtain ⟨hX4, _⟩ := g4.row HX3.out nx0
   have E4 := E3.keep g4.keeps (fun i t => (D3.yt i t).1)
   have d0 := cell_of_heap (o := 0) hb4
   have z2 := cell_of_heap (o := 2) hX4
   simp at d0 z2
   obtain ⟨lo, hlo⟩ : ∃ lo, lo = s.m.log := ⟨_, rfl⟩
   rw [← hlo] at z2
   have d0 : w4.drew.cell? ⟨b, 0, none⟩ = some (.pointer (some ⟨d, 0, none⟩)) := d0
   have z2 : w4.drew.cell? ⟨x, 2, none⟩ = some (jf lo) := z2
   obtain ⟨L, hL⟩ : ∃ L, L = Ref.jy s.m.last s.bs := ⟨_, rfl⟩
   have hmem : (j3 lo, L) ∈ V := by rw [hlo, hL]; exact hV _ (yj.2 (.inr (.inl rfl)))
   have hlsz := Ot hmem
   have hlob : lo ≤ 9223372036854775807 := by rw [hlo]; exact HLO.out
   have hln : ∀ W, ja w4 W (fun _ => False) → Calls Tryz.prog 63 #[j4 lo] W fun e w' => e = .returned (jc (j3 lo)) ∧ ja W w' (fun _ => False) := fun W kk => Q9 lo hlob (E4.same kk)
   have hrd : ∀ W, ja w4 W (fun _ => False) → Calls Tryz.prog 129 #[.pointer (some ⟨d, 0, none⟩), jc (j3 lo)] W fun e w' => ∃ p c, e = .returned (.tuple #[.slice p L.length c, .nilIface]) ∧ w'.ownsRow w4.heap.size 5 1 (.slice p L.length c) L.length (L.map qg) ∧ yf w4 ρ w' ρ ∧ DW E B w' ρ d V k := fun W kk => by
     refine (jdu (D4.same kk) (by have := HK.out; omega) (j3 lo) (Xl hlob) hmem).mono ?_
     rintro e w' ⟨g, D', v, rfl, hr⟩
     obtain ⟨p, c, rfl⟩ := jh hr
     exact ⟨p, c, rfl, xx hr kk.size, (yf.of kk (fun _ _ h => h.elim)).trans g, D'⟩
   have HLN := hide hln
   have HRD := hide hrd
   have HLOE := hide hlo
   have HLE := hide hL
   have HB4 := hide hb4
   have HLSZ := hide hlsz
   have kd : ja w4 w4.drew (fun _ => False) := ja.drew _ _
   clear hln hrd hlo hL hmem hlsz hlob hb4 hX4
   go_wp2_with fail
   go_cut [8, 6] from 10 (fun s8 s6 wd => s6 = .nilIface ∧ ∃ (p : Option Addr) (c : Nat), s8 = .slice p L.length c ∧ wd.ownsRow w4.heap.size 5 1 (.slice p L.length c) L.length (L.map qg) ∧ yf w4 ρ wd ρ ∧ DW E B wd ρ d V k)
   case first =>
     go_region_law (first
       | (refine jo rfl 63 [.tmp 38] _ rfl Qm [j4 lo] (by simp [Act.eval, Act.put]) (HLN.out _ kd) ?_
          rintro e w5 ⟨rfl, k5⟩
          have d0 := k5.cell d0 id
          have kd := kd.trans k5 (fun _ _ h => h)
          refine ⟨_, rfl, ?_⟩)
       | (refine jo rfl 129 [.tmp 36, .tmp 39] _ rfl Hu [.pointer (some ⟨d, 0, none⟩), jc (j3 lo)] (by simp [Act.eval, Act.put]) (HRD.out _ kd) ?_
          rintro e w6 ⟨p6, c6, rfl, hr6, g6, D6⟩
          refine ⟨_, rfl, ?_⟩))
     all_goals
       go_wp2
       go_meet
     all_goals exact ⟨rfl, _, _, rfl, hr6, g6, D6⟩
   case rest =>
     obtain ⟨rfl, p6, c6, rfl, hr6, g6, D6⟩ := hcut
     have g36 := g4.trans g6
     obtain ⟨hb6, _⟩ := g36.row HB3.out hρb
     have hrep := Wj b (.pointer (some ⟨d, 0, none⟩)) (jf s.m.next) (jf s.m.last) (jf s.m.log) (jf s.m.base) (.slice p1 nr c1) (.bool false) (.bool false) s.m.last 121 (.slice none 0 0) (.slice p6 L.length c6) [] L w.heap.size wc D6.sent hBb (fun g hg => by cases hg) hb6 (World.ownsRow_nil _ _ _ _) (fun h => by cases h) List.Pairwise.nil
       (by have h1 : L.length ≤ qm V := HLSZ.out; have h2 := HSZ.out; simp only [List.length_nil]; omega) ok.good.2.1 (bytes_of_row hr6) (by have := kw3.size; have := g36.keeps.size; omega) (fun _ p n c e => by
         have hb' : (Value.slice p6 L.length c6).ownBlock = some p.block := by rw [e]; rfl
         have h1 := (hr6.lt _ hb').1
         have h2 := lt_of_heap HB4.out
         exact ⟨by omega, fun h => by cases h⟩)
     have HREP := hide hrep
     clear hrep hb6 d0 z2 kd HLN HRD
     go_wp2_with fail
     refine HREP.out.mono ?_
     rintro e w7 ⟨bs, r, v7, hT, hO, rfl, hb7, hr7, hn7, ho7, k7⟩
     have hTT := Ref.jby (last := s.m.last) ok.log (by have := ok.cap; unfold Ref.St.last at this; exact this) []
     rw [List.append_nil, ← HLE.out] at hTT
     obtain ⟨rfl, rfl⟩ := Ref.Taken.unique hT hO hTT (Ref.Rb _ _)
     rw [List.length_nil, Nat.sub_zero]
     have hlast : s.m.last + s.bs.length = s.last := rfl
     rw [hlast] at hb7
     have hmm : Ref.Zn [] s.bs = s.mem := rfl
     rw [hmm] at hr7
     have sz3 := kw3.size
     have sz6 := g36.keeps.size
     have sz7 := k7.size
     have hown7 : ∀ g, v7.ownBlock = some g → w4.heap.size ≤ g := fun g hg => by
       rcases ho7 with e | ⟨g', e, h⟩
       · rw [e] at hg
         cases hg
       · rw [hg] at e
         cases e
         have := g6.keeps.size
         omega
     have sz4 := g4.keeps.size
     have D7 : DW E B w7 ρ d V k := D6.keep k7 (fun i _ h => by
       rcases h with h | h
       · rw [h]; exact ⟨hρb, hBb⟩
       · cases h)
     have kw7 : ja w w7 (fun i => ρ i ≠ .none ∨ i = b) := ((kw3.mono (fun i _ h => (Or.inr h : ρ i ≠ .none ∨ i = b))).trans g36.keeps (fun i _ h => .inl h)).trans k7 (fun i _ h => by
       rcases h with h | h
       · exact .inr h
       · cases h)
     have E7 : Env E B w7 := H.keep (kw7.mono (fun i hi h => (show B ≤ i from h.elim (fun h => (D.yt i h).1) (fun h => by rw [h]; exact hBb)))) (fun i h => h)
     have hr7n := k7.row (g36.keeps.row HR3.out (fun g hg t => t (np0 g hg))) (fun g hg t => by
       rcases t with t | t
       · have := (hp1 g hg).1
         omega
       · cases t)
     have hN7 : J2 w7 (.slice p1 nr c1) s.m.runs := Qh hr7n HNR.out.symm
     obtain ⟨nn, hnn⟩ : ∃ nn, nn = (qi s.m).length + 1 := ⟨_, rfl⟩
     have hlenF : (qi s.m ++ [Yy]).length = nn := by rw [hnn]; simp
     have hsl := ym s.m
     have hFl : (qi s.m).length = s.m.settled.length + 1 := by unfold qi; simp
     have hnm : ∀ (W : World), (∃ w0 ρ0, yf w7 ρ w0 ρ0 ∧ ja w0 W (fun _ => False)) → Calls Tryz.prog 182 #[.pointer (some ⟨b, 0, none⟩)] W fun e w' => ∃ p c, e = .returned (.slice p nn c) ∧ w'.ownsRow W.heap.size 9 1 (.slice p nn c) nn ((qi s.m ++ [Yy]).map jc) ∧ ja W w' (fun _ => False) := fun W hW => by
       obtain ⟨w0, ρ0, g0, k0⟩ := hW
       rw [hnn]
       exact I4 s.m _ (.slice p1 nr c1) _ _ _ _ ((E7.keep g0.keeps (fun i t => (D7.yt i t).1)).same k0) (k0.same (g0.row hb7 hρb).1 id) ((hN7.keep g0.keeps (fun _ p n c e t => t (np0 _ (by rw [e]; rfl)))).same k0) (by have := HRL.out; omega) HSET.out HLO.out
     have hms : ∀ (W : World) (v : Value), ja w7 W (fun _ => False) → W.ownsRow w7.heap.size 9 1 v nn ((qi s.m ++ [Yy]).map jc) → Calls Tryz.prog 164 #[.pointer (some ⟨d, 0, none⟩), v] W fun e w' => e = .returned .nilIface ∧ ∃ ρ', yf w7 ρ w' ρ' ∧ DW E B w' ρ' d V k := fun W v kk hr => by
       refine (Lb (D7.same kk) (by have := HK.out; omega) v (qi s.m ++ [Yy]) w7.heap.size (by rw [hlenF]; exact hr) (fun g hg => Classical.byContradiction (fun hn => by have := (hr.lt g hg).1; have := (D7.yt g hn).2; omega)) (fun n hn => ?_) (by rw [hlenF, hnn, hFl]; have := HRL.out; omega) (fun n hn => ?_)).mono ?_
       · rcases List.mem_append.1 hn with hn | hn
         · exact Yd ok.good n hn
         · rw [List.mem_singleton.1 hn]; decide
       · rcases List.mem_append.1 hn with hn | hn
         · obtain ⟨c, hc⟩ := ok.there n hn
           exact ⟨c, hV _ hc⟩
         · rw [List.mem_singleton.1 hn]
           exact ⟨_, hV _ (yj.2 (.inl rfl))⟩
       · rintro e w' ⟨rfl, ρ', g, D'⟩
         exact ⟨rfl, ρ', (yf.of kk (fun _ _ h => h.elim)).trans g, D'⟩
     have d0 := cell_of_heap (o := 0) hb7
     simp at d0
     have d0 : w7.drew.cell? ⟨b, 0, none⟩ = some (.pointer (some ⟨d, 0, none⟩)) := d0
     have HNM := hide hnm
     have HMS := hide hms
     have HB7 := hide hb7
     have HR7 := hide hr7
     have HFL := hide hlenF
     have kd : ja w7 w7.drew (fun _ => False) := ja.drew _ _
     have hNN : Hid (nn < 1099511627776) := (show nn < 1099511627776 from by have := HRL.out; omega)
     clear hnm hms hb7 hr7 hT hO hTT hlenF hsl hFl hnn hlast hmm
     go_wp2_with fail
     go_cut [6] from 10 (fun s6 wd => s6 = .nilIface ∧ ∃ ρ', yf w7 ρ wd ρ' ∧ DW E B wd ρ' d V k)
     case first =>
       go_region_law (first
         | (refine jo rfl 182 [.tmp 62] _ rfl ng [.pointer (some ⟨b, 0, none⟩)] (by simp [Act.eval, Act.put]) (HNM.out _ ⟨_, _, yf.refl _ _, kd⟩) ?_
            rintro e w8 ⟨p8, c8, rfl, hr8, k8⟩
            have hr8 := xx hr8 kd.size
            have d0 := k8.cell d0 id
            have kd := kd.trans k8 (fun _ _ h => h)
            refine ⟨_, rfl, ?_⟩)
         | (refine jo rfl 164 [.tmp 61, .tmp 63] _ rfl Au [.pointer (some ⟨d, 0, none⟩), .slice p8 nn c8] (by simp [Act.eval, Act.put]) (HMS.out _ _ kd hr8) ?_
            rintro e w9 ⟨rfl, ρ9, g9, D9⟩
            refine ⟨_, rfl, ?_⟩))
       all_goals
         go_wp2
         go_meet
       all_goals exact ⟨rfl, _, g9, D9⟩
     case rest =>
       obtain ⟨rfl, ρ9, g9, D9⟩ := hcut
       obtain ⟨hb9, hρ9b⟩ := g9.row HB7.out hρb
       have hrb : ∀ (W : World) (v : Value), ja wc W (fun _ => False) → W.ownsRow wc.heap.size 9 1 v nn ((qi s.m ++ [Yy]).map jc) → Calls Tryz.prog 177 #[.pointer (some ⟨d, 0, none⟩), v] W fun e w' => e = .returned .nilIface ∧ ∃ ρ', yf wc ρ9 w' ρ' ∧ DW E B w' ρ' d s.files (k + V.length) := fun W v kk hr => by
         refine (Af (D9.same kk) (by have := HK.out; omega) v (qi s.m ++ [Yy]) wc.heap.size (by rw [HFL.out]; exact hr) (fun g hg => Classical.byContradiction (fun hn => by have := (hr.lt g hg).1; have := (D9.yt g hn).2; omega)) (by rw [HFL.out]; exact hNN.out)).mono ?_
         rintro e w' ⟨rfl, ρ', g, D'⟩
         exact ⟨rfl, ρ', (yf.of kk (fun _ _ h => h.elim)).trans g, D'.perm (jan ok D.apart hV)⟩
       have d0 := cell_of_heap (o := 0) hb9
       simp at d0
       have d0 : wc.drew.cell? ⟨b, 0, none⟩ = some (.pointer (some ⟨d, 0, none⟩)) := d0
       have HRB := hide hrb
       have HB9 := hide hb9
       have kd : ja wc wc.drew (fun _ => False) := ja.drew _ _
       clear hrb hb9 HMS
       go_wp2_with fail
       go_region_law (first
         | (refine jo rfl 182 [.tmp 72] _ rfl ng [.pointer (some ⟨b, 0, none⟩)] (by simp [Act.eval, Act.put]) (HNM.out _ ⟨_, _, g9, kd⟩) ?_
            rintro e w10 ⟨p10, c10, rfl, hr10, k10⟩
            have hr10 := xx hr10 kd.size
            have d0 := k10.cell d0 id
            have kd := kd.trans k10 (fun _ _ h => h)
            refine ⟨_, rfl, ?_⟩)
         | (refine jo rfl 177 [.tmp 71, .tmp 73] _ rfl Da [.pointer (some ⟨d, 0, none⟩), .slice p10 nn c10] (by simp [Act.eval, Act.put]) (HRB.out _ _ kd hr10) ?_
            rintro e w11 ⟨rfl, ρ11, g11, D11⟩
            refine ⟨_, rfl, ?_⟩))
       all_goals
         go_wp2
         go_ret
         have g711 := g9.trans g11
         obtain ⟨hb11, hρ11b⟩ := g711.row HB7.out hρb
         have hro : ∀ i, i < w.heap.size → ρ11 i = ρ i := fun i hi => g711.role i (by omega)
         have kk : ja w w11 (fun i => ρ i ≠ .none ∨ i = b) := kw7.trans g711.keeps (fun i _ h => .inl h)
         have nv : ∀ g, v7.ownBlock = some g → ρ g = .none := fun g hg => Classical.byContradiction (fun hn => by have := (D.yt g hn).2; have := hown7 g hg; omega)
         refine ⟨rfl, ρ11, .slice p1 nr c1, v7, ⟨E7.keep g711.keeps (fun i t => (D7.yt i t).1), D11, hb11, hN7.keep g711.keeps (fun _ p n c e t => t (np0 _ (by rw [e]; rfl))), xx (g711.keeps.row HR7.out (fun g hg t => t (nv g hg))) D.size, ⟨hρ11b, hBb⟩, ?_, fun g hg => ⟨?_, ?_⟩, ok, HF.out⟩, kk, hro, fun g hg => ?_, fun p n c e => (hp1 p.block (by rw [e]; rfl)).1⟩
         · intro p n c e
           have hb' : (Value.slice p1 nr c1).ownBlock = some p.block := by rw [e]; rfl
           have h1 := hp1 _ hb'
           have h2 := lt_of_heap HX3.out
           have h3 := g711.keeps.size
           have h4 := D.size
           refine ⟨?_, by omega, by omega, fun h => ?_, by omega⟩
           · rw [g711.role _ (by omega)]
             exact np0 _ hb'
           · have := hown7 _ h
             omega
         · rw [g711.role g (HR7.out.lt g hg).2]
           exact nv g hg
         · have := hown7 g hg
           omega
         · have := hown7 g hg
           omega
end Go.Proofs.YtnipbplghijdmaaGreatDoor
