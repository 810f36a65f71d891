/-
  La: InstallW FlushW ReadW CompactA.
-/
import Derived.Test.YtnipbplghijdmaaGreatDoorLa32
import Derived.Test.YtnipbplghijdmaaGreatDoorLa16
import Derived.Test.YtnipbplghijdmaaGreatDoorLa27
import Derived.Test.YtnipbplghijdmaaGreatDoorLa29
namespace Go.Proofs.YtnipbplghijdmaaGreatDoor
open Go.RowKit Go.Maps Go.WideShapes
set_option linter.unusedVariables false
set_option linter.unusedSimpArgs false
theorem Lv (ys : Array Value) (w : World) : (callFunc 165 ys).run Tryz.prog w = .ok (.enter 165 ys) w := by kernel_rfl
theorem Au (ys : Array Value) (w : World) : (callFunc 164 ys).run Tryz.prog w = .ok (.enter 164 ys) w := by kernel_rfl
theorem Lu (ys : Array Value) (w : World) : (callFunc 166 ys).run Tryz.prog w = .ok (.enter 166 ys) w := by kernel_rfl
theorem nk (ys : Array Value) (w : World) : (callFunc 114 ys).run Tryz.prog w = .ok (.enter 114 ys) w := by kernel_rfl
theorem zt (m : Ref.Man) : m.bytes.length = 42 + 8 * m.runs.length := by
 have H : ∀ l : List Nat, (l.flatMap fun r => Ref.big r 8).length = 8 * l.length := by
   intro l
   induction l with
   | nil => rfl
   | cons x r ih => rw [List.flatMap_cons, List.length_append, Ref.jk, ih, List.length_cons]; omega
 unfold Ref.Man.bytes Ref.manifest Ref.frame
 simp only [List.length_append, Ref.jk, H]
 omega
theorem Yd {m : Ref.Man} (hg : m.Good) : ∀ n ∈ qi m, n.length < 1099511627776 := by
 intro n hn
 have hb := hg.1
 have hall := hg.2.2.1
 unfold qi at hn
 rcases List.mem_append.1 hn with hn | hn
 · obtain ⟨k, hk, rfl⟩ := List.mem_map.1 hn
   have h1 := hall k (List.mem_append.2 (.inl hk))
   have := Jf (n := k) (by omega)
   unfold jq
   simp only [List.length_append, List.length_cons, List.length_nil]
   omega
 · rw [List.mem_singleton.1 hn]
   have h1 := hg.log
   exact Xl (by omega)
set_option maxHeartbeats 1000000 in
set_option maxRecDepth 100000 in
theorem Bg {E : Nat → Addr} {B : Nat} {w : World} {ρ : Nat → jw} {d b k : Nat} {V : List (Str × List UInt8)} {t : TypeId} {a1 a2 a3 a4 a5 last mv : Value} {deg cl : Bool} (D : DW E B w ρ d V k) (H : Env E B w) (m : Ref.Man) (hg : m.Good) (hr : m.runs.length < 65536) (rv : Value) (hv : J2 w rv m.runs) (hvn : ∀ p n c, rv = .slice (some p) n c → ρ p.block = .none ∧ p.block ≠ b)
   (hb : w.heap[b]? = some (.cells (yl (.pointer (some ⟨d, 0, none⟩)) a1 a2 a3 a4 a5 last mv deg cl) t (0, 0))) (hρb : ρ b = .none) (hBb : B ≤ b) (hf : ∀ n ∈ qi m, ∃ b, (n, b) ∈ V) (hs : m.bytes.length + qm (without V yh) ≤ 20000) (hk : k < 540000000000) :
   Calls Tryz.prog 117 #[.pointer (some ⟨b, 0, none⟩), mo m rv] w fun e w' => e = .returned .nilIface ∧ ∃ ρ', ja w w' (fun i => ρ i ≠ .none ∨ i = b) ∧ (∀ i, i < w.heap.size → ρ' i = ρ i) ∧ DW E B w' ρ' d (yu (without V yh) qd m.bytes) (k + 22 + m.bytes.length) ∧
     w'.heap[b]? = some (.cells (yl (.pointer (some ⟨d, 0, none⟩)) (jf m.next) (jf m.last) (jf m.log) (jf m.base) rv last mv deg cl) t (0, 0)) := by
 obtain ⟨pr, cr, hrv, hv'⟩ := id hv
 have hrv2 : ∃ n, rv = .slice pr n cr := ⟨_, hrv⟩
 clear hrv hv'
 obtain ⟨nr, rfl⟩ := hrv2
 have hbl := zt m
 have hbd := hg.bounds
 have hnx := hg.1
 have hall := hg.2.2.1
 have hlog := hg.log
 have hset : ∀ n ∈ m.settled, n ≤ 9223372036854775807 := fun n hn => by have := hall n (List.mem_append.2 (.inl hn)); omega
 have hsl := ym m
 have hFl : (qi m).length = m.settled.length + 1 := by unfold qi; simp
 have hruns : ∀ r ∈ m.runs, r < m.next := fun r hrr => (hall r (List.mem_append.2 (.inl (by unfold Ref.Man.settled; split <;> simp [hrr])))).2
 have hbase : m.base < m.next := by
   by_cases e : m.base = 0
   · omega
   · exact (hall m.base (List.mem_append.2 (.inl (by unfold Ref.Man.settled; rw [if_neg e]; simp)))).2
 have hlast := hg.2.1
 obtain ⟨box, hbox⟩ : ∃ box, box = w.heap.size := ⟨_, rfl⟩
 obtain ⟨w1, hw1⟩ : ∃ w1, w1 = w.alloc (.cells #[jf m.next, jf m.last, jf m.log, jf m.base, .slice pr nr cr] 117) := ⟨_, rfl⟩
 have k01 : ja w w1 (fun _ => False) := by rw [hw1]; exact ja.alloc _ _ _
 have hx1 : w1.heap[box]? = some (.cells #[jf m.next, jf m.last, jf m.log, jf m.base, .slice pr nr cr] 117 (0, 0)) := by rw [hw1, hbox]; exact jd w _
 have hb1 := k01.same hb id
 have hblt := lt_of_heap hb
 have hbne : b ≠ box := by omega
 have D1 := D.same k01
 have hρx : ρ box = .none := Classical.byContradiction (fun hn => by have := (D.yt box hn).2; omega)
 have hnum : ∀ W, ja w1 W (fun i => ρ i ≠ .none) → J2 W (.slice pr nr cr) m.runs := fun W kk => (hv.same k01).keep kk (fun _ p n c e t => t (hvn p n c e).1)
 have henv : ∀ W, ja w1 W (fun i => ρ i ≠ .none) → Env E B W := fun W kk => (H.same k01).keep kk (fun i t => (D.yt i t).1)
 have hfil : ∀ W, ja w1 W (fun _ => False) → Calls Tryz.prog 165 #[mo m (.slice pr nr cr)] W fun e w' => ∃ p c, e = .returned (.slice p (qi m).length c) ∧ w'.ownsRow w1.heap.size 9 1 (.slice p (qi m).length c) (qi m).length ((qi m).map jc) ∧ ja W w' (fun _ => False) := fun W kk => by
   have kk' : ja w1 W (fun i => ρ i ≠ .none) := kk.mono (fun _ _ h => h.elim)
   refine (Ed m (.slice pr nr cr) (henv W kk') (hnum W kk') (by omega) hset (by omega)).mono ?_
   rintro e w' ⟨p, c, rfl, h, k'⟩
   exact ⟨p, c, rfl, xx h kk.size, k'⟩
 have hsure : ∀ (W : World) (v : Value), ja w1 W (fun _ => False) → W.ownsRow w1.heap.size 9 1 v (qi m).length ((qi m).map jc) → Calls Tryz.prog 164 #[.pointer (some ⟨d, 0, none⟩), v] W fun e w' => e = .returned .nilIface ∧ ∃ ρ', yf w1 ρ w' ρ' ∧ DW E B w' ρ' d V k := fun W v kk hrow => by
   refine (Lb (D1.same kk) (by omega) v (qi m) w1.heap.size hrow (fun g hg => Classical.byContradiction (fun hn => by have := (hrow.lt g hg).1; have := (D1.yt g hn).2; omega)) (Yd hg) (by omega) hf).mono ?_
   rintro e w' ⟨rfl, ρ', g, D'⟩
   exact ⟨rfl, ρ', (yf.of kk (fun _ _ h => h.elim)).trans g, D'⟩
 have HFIL := hide hfil
 have HSURE := hide hsure
 have HB1 := hide hb1
 have HX1 := hide hx1
 have HBX := hide hbox
 have HNUM := hide hnum
 have HENV := hide henv
 have HS := hide hs
 have HBD := hide hbd
 have HBL := hide hbl
 have HBNE := hide hbne
 have HII : Hid ((m.next : Int) ≤ 9223372036854775807 ∧ (m.last : Int) ≤ 9223372036854775807 ∧ (m.log : Int) ≤ 9223372036854775807 ∧ (m.base : Int) ≤ 9223372036854775807 ∧ ∀ r ∈ m.runs, (r : Int) ≤ 9223372036854775807) := (show _ ∧ _ from ⟨by omega, by omega, by omega, by omega, fun r hrr => by have := hruns r hrr; omega⟩)
 have HR := hide hr
 have HK := hide hk
 obtain ⟨nF, hnF⟩ : ∃ nF, nF = (qi m).length := ⟨_, rfl⟩
 rw [← hnF] at HFIL HSURE
 clear hfil hsure hb1 hx1 hnum henv hs hbd hbl hnx hall hlog hset hsl hFl hruns hbase hlast hb hr hk hbne hbox hnF
 have c0 := cell_of_heap (o := 0) HB1.out
 have x0 := cell_of_heap (o := 0) HX1.out
 have x1 := cell_of_heap (o := 1) HX1.out
 have x2 := cell_of_heap (o := 2) HX1.out
 have x3 := cell_of_heap (o := 3) HX1.out
 have x4 := cell_of_heap (o := 4) HX1.out
 simp at c0 x0 x1 x2 x3 x4
 have c0 : w1.drew.cell? ⟨b, 0, none⟩ = some (.pointer (some ⟨d, 0, none⟩)) := c0
 have x0 : w1.drew.cell? ⟨box, 0, none⟩ = some (jf m.next) := x0
 have x1 : w1.drew.cell? ⟨box, 1, none⟩ = some (jf m.last) := x1
 have x2 : w1.drew.cell? ⟨box, 2, none⟩ = some (jf m.log) := x2
 have x3 : w1.drew.cell? ⟨box, 3, none⟩ = some (jf m.base) := x3
 have x4 : w1.drew.cell? ⟨box, 4, none⟩ = some (.slice pr nr cr) := x4
 have kc : ja w1 w1.drew (fun _ => False) := ja.drew _ _
 go_enter Tryz.func117, Tryz.ntmps117
 go_wp2_with fail
 rw [← hw1, ← HBX.out]
 clear hw1
 go_region_law (first
   | (refine jo rfl 165 [.tmp 13] _ rfl Lv [mo m (.slice pr nr cr)] (by simp [Act.eval, Act.put]) (HFIL.out _ kc) ?_
      rintro e w2 ⟨pf, cf, rfl, hrw, k2⟩
      have c0 := k2.cell c0 id
      have kc := kc.trans k2 (fun _ _ h => h)
      refine ⟨_, rfl, ?_⟩)
   | (refine jo rfl 164 [.tmp 12, .tmp 14] _ rfl Au [.pointer (some ⟨d, 0, none⟩), .slice pf nF cf] (by simp [Act.eval, Act.put]) (HSURE.out _ _ kc hrw) ?_
      rintro e w3 ⟨rfl, ρ3, g3, D3⟩
      refine ⟨_, rfl, ?_⟩))
 all_goals
   have hb3 := g3.keeps.same HB1.out (fun t => t hρb)
   have hx3 := g3.keeps.same HX1.out (fun t => t hρx)
   have hr3b : ρ3 b = .none := (g3.role b (lt_of_heap HB1.out)).trans hρb
   have hr3x : ρ3 box = .none := (g3.role box (lt_of_heap HX1.out)).trans hρx
   have hfra : ∀ W, ja w3 W (fun _ => False) → Calls Tryz.prog 166 #[mo m (.slice pr nr cr)] W fun e w' => ∃ p c, e = .returned (.slice p m.bytes.length c) ∧ w'.ownsRow w3.heap.size 5 1 (.slice p m.bytes.length c) m.bytes.length (m.bytes.map qg) ∧ ja W w' (fun _ => False) := fun W kk => by
     have kk' : ja w1 W (fun i => ρ i ≠ .none) := g3.keeps.trans kk (fun _ _ h => h.elim)
     refine (Rm W m (.slice pr nr cr) (HNUM.out W kk') (by have := HR.out; omega) HBD.out HII.out).mono ?_
     rintro e w' ⟨p, c, rfl, h, k'⟩
     exact ⟨p, c, rfl, xx h kk.size, k'⟩
   have hlay : ∀ (W : World) (v : Value), ja w3 W (fun _ => False) → W.ownsRow w3.heap.size 5 1 v m.bytes.length (m.bytes.map qg) → Calls Tryz.prog 114 #[.pointer (some ⟨d, 0, none⟩), jc yh, v] W fun e w' => e = .returned .nilIface ∧ ∃ ρ', yf w3 ρ3 w' ρ' ∧ DW E B w' ρ' d (yu V yh m.bytes) (k + 1 + yh.length + m.bytes.length) := fun W v kk hrow => by
     refine (Uy (D3.same kk) yh (by decide) v m.bytes (bytes_of_row hrow) (Rh (fun i hi => (D3.yt i hi).2) hrow) (by have := HK.out; have := HBL.out; have := HR.out; have : yh.length = 12 := rfl; omega) HS.out).mono ?_
     rintro e w' ⟨rfl, ρ', g, D'⟩
     exact ⟨rfl, ρ', (yf.of kk (fun _ _ h => h.elim)).trans g, D'⟩
   have HFRA := hide hfra
   have HLAY := hide hlay
   have c0 := cell_of_heap (o := 0) hb3
   have x0 := cell_of_heap (o := 0) hx3
   have x1 := cell_of_heap (o := 1) hx3
   have x2 := cell_of_heap (o := 2) hx3
   have x3 := cell_of_heap (o := 3) hx3
   have x4 := cell_of_heap (o := 4) hx3
   simp at c0 x0 x1 x2 x3 x4
   have c0 : w3.drew.cell? ⟨b, 0, none⟩ = some (.pointer (some ⟨d, 0, none⟩)) := c0
   have x0 : w3.drew.cell? ⟨box, 0, none⟩ = some (jf m.next) := x0
   have x1 : w3.drew.cell? ⟨box, 1, none⟩ = some (jf m.last) := x1
   have x2 : w3.drew.cell? ⟨box, 2, none⟩ = some (jf m.log) := x2
   have x3 : w3.drew.cell? ⟨box, 3, none⟩ = some (jf m.base) := x3
   have x4 : w3.drew.cell? ⟨box, 4, none⟩ = some (.slice pr nr cr) := x4
   have kc : ja w3 w3.drew (fun _ => False) := ja.drew _ _
   have HB3 := hide hb3
   have HX3 := hide hx3
   obtain ⟨nB, hnB⟩ : ∃ nB, nB = m.bytes.length := ⟨_, rfl⟩
   rw [← hnB] at HFRA HLAY
   have HNB := hide hnB
   clear hfra hlay hb3 hx3 hnB
   go_wp2_with fail
   go_region_law (first
     | (refine jo rfl 166 [.tmp 23] _ rfl Lu [mo m (.slice pr nr cr)] (by simp [Act.eval, Act.put]) (HFRA.out _ kc) ?_
        rintro e w4 ⟨pf4, cf4, rfl, hrw, k4⟩
        have c0 := k4.cell c0 id
        have kc := kc.trans k4 (fun _ _ h => h)
        refine ⟨_, rfl, ?_⟩)
     | (refine jo rfl 114 [.tmp 22, .const (jc yh), .tmp 24] _ rfl nk [.pointer (some ⟨d, 0, none⟩), jc yh, .slice pf4 nB cf4] (by simp [Act.eval, Act.put]) (HLAY.out _ _ kc hrw) ?_
        rintro e w5 ⟨rfl, ρ5, g5, D5⟩
        refine ⟨_, rfl, ?_⟩))
 all_goals
   have hb5 := g5.keeps.same HB3.out (fun t => t hr3b)
   have hx5 := g5.keeps.same HX3.out (fun t => t hr3x)
   have hr5b : ρ5 b = .none := (g5.role b (lt_of_heap HB3.out)).trans hr3b
   have hr5x : ρ5 box = .none := (g5.role box (lt_of_heap HX3.out)).trans hr3x
   have c05 := cell_of_heap (o := 0) hb5
   simp at c05
   have hm5 : (yh, m.bytes) ∈ yu V yh m.bytes := List.mem_cons_self
   have hsy := jgs D5 yh (by decide) hm5
   have HSY := hide hsy
   have HB5 := hide hb5
   have HX5 := hide hx5
   clear hsy hb5 hx5 hm5 c0 x0 x1 x2 x3 x4
   go_wp2_with fail
   refine HSY.out.mono ?_
   rintro e w6 ⟨rfl, ρ6, g6, D6⟩
   have hb6 := g6.keeps.same HB5.out (fun t => t hr5b)
   have hx6 := g6.keeps.same HX5.out (fun t => t hr5x)
   have hr6b : ρ6 b = .none := (g6.role b (lt_of_heap HB5.out)).trans hr5b
   have hr6x : ρ6 box = .none := (g6.role box (lt_of_heap HX5.out)).trans hr5x
   have c06 := cell_of_heap (o := 0) hb6
   simp at c06
   have hren := jds D6 (by have := HK.out; have := HNB.out; have := HBL.out; have := HR.out; have : yh.length = 12 := rfl; omega) yh qd (by decide) (by decide) (by decide) (by decide) (b := m.bytes) List.mem_cons_self
   have HREN := hide hren
   have HB6 := hide hb6
   have HX6 := hide hx6
   clear hren hb6 hx6 c05
   go_wp2_with fail
   refine HREN.out.mono ?_
   rintro e w7 ⟨rfl, ρ7, g7, D7⟩
   have hb7 := g7.keeps.same HB6.out (fun t => t hr6b)
   have hx7 := g7.keeps.same HX6.out (fun t => t hr6x)
   have hr7b : ρ7 b = .none := (g7.role b (lt_of_heap HB6.out)).trans hr6b
   have x0 := cell_of_heap (o := 0) hx7
   have x1 := cell_of_heap (o := 1) hx7
   have x2 := cell_of_heap (o := 2) hx7
   have x3 := cell_of_heap (o := 3) hx7
   have x4 := cell_of_heap (o := 4) hx7
   have y1 := cell_of_heap (o := 1) hb7
   have y2 := cell_of_heap (o := 2) hb7
   have y3 := cell_of_heap (o := 3) hb7
   have y4 := cell_of_heap (o := 4) hb7
   have y5 := cell_of_heap (o := 5) hb7
   have f1 := frozen_of_heap (o := 1) hb7
   have f2 := frozen_of_heap (o := 2) hb7
   have f3 := frozen_of_heap (o := 3) hb7
   have f4 := frozen_of_heap (o := 4) hb7
   have f5 := frozen_of_heap (o := 5) hb7
   simp at x0 x1 x2 x3 x4 y1 y2 y3 y4 y5
   have HB7 := hide hb7
   have gg : yf w1 ρ w7 ρ7 := ((g3.trans g5).trans g6).trans g7
   clear hb7 hx7 c06
   go_wp2
   go_ret
   have e0 : k + 1 + yh.length + nB + 1 + qd.length = k + 22 + m.bytes.length := by rw [HNB.out]; have h1 : yh.length = 12 := rfl; have h2 : qd.length = 8 := rfl; omega
   have e1 : yu (without (yu V yh m.bytes) yh) qd m.bytes = yu (without V yh) qd m.bytes := by unfold yu; rw [dw, Di]
   rw [e0, e1] at D7
   have ks := ((((ja.setCell w7 ⟨b, 1, none⟩ (jf m.next)).set (p := ⟨b, 2, none⟩) rfl (jf m.last)).set (p := ⟨b, 3, none⟩) rfl (jf m.log)).set (p := ⟨b, 4, none⟩) rfl (jf m.base)).set (p := ⟨b, 5, none⟩) rfl (.slice pr nr cr)
   refine ⟨rfl, ρ7, ((k01.mono (fun _ _ h => h.elim)).trans gg.keeps (fun i _ h => .inl h)).trans ks (fun i _ e => .inr e), fun i hi => gg.role i (Nat.lt_of_lt_of_le hi k01.size), D7.keep ks (fun i _ e => by rw [e]; exact ⟨hr7b, hBb⟩), ?_⟩
   exact (jb (jb (jb (jb (jb HB7.out _) _) _) _) _).trans rfl
theorem jde (l : List Ref.Ch) : upTo [] l = l := Ik (fun c _ => rfl)
theorem Vd {E : Nat → Addr} {B : Nat} {W : World} {ρ : Nat → jw} {d k : Nat} {V : List (Str × List UInt8)} (D : DW E B W ρ d V k) (v : Value) (l : List Ref.Ch) (hch : Chs W v l) (hl : l.length < 1048576) (hv : ∀ p n c, v = .slice (some p) n c → ρ p.block = .none ∧ p.block < W.heap.size) :
   Calls Tryz.prog 111 #[Fp v, jc []] W fun e w' => ∃ v', e = .returned (.tuple #[v', .nilIface]) ∧ w'.ownsRow W.heap.size 88 3 v' l.length (jg l) ∧ yf W ρ w' ρ ∧ DW E B w' ρ d V k := by
 obtain ⟨S, h1, h2, h3, h4⟩ := D
 refine (Cz (Needs := jbj B v) (Start := fun W' => Chs W' v l ∧ Dk E B W' ρ d S) bu (fun n => az v l hl) (fun i hi => ?_) (fun W' k' => ⟨hch.same k', h1.same k'⟩) h1.rep.lt h1.size [] hl).mono ?_
 · rcases hi with h | ⟨p, n, c, e, rfl⟩
   · have := h1.size
     omega
   · exact (hv p n c e).2
 · rintro e w' ⟨v', ev, rfl, hk, D', ⟨rfl, hr, _⟩ | ⟨bad, hb, _⟩⟩
   · rw [jde] at hr
     exact ⟨v', rfl, hr, ⟨hk, fun _ _ => rfl⟩, S, D', h2, h3, h4⟩
   · cases hb
theorem J2.src {w : World} {v : Value} {l : List Nat} (h : J2 w v l) : Src Tryz.prog 1 39 v l.length (l.map jf) w := by
 obtain ⟨p, c, rfl, h1, h2, h3, h4⟩ := h
 cases p with
 | none =>
   have : c = 0 := h3 rfl
   have hl : l = [] := List.eq_nil_of_length_eq_zero (by omega)
   subst hl
   exact Src.ofNil w Tryz.underlying39 c
 | some ad =>
   exact Src.ofSlice w Tryz.underlying39 ad l.length c _ (by simp) (fun j u hu => by
     rw [List.getElem?_map] at hu
     obtain ⟨y, hy, rfl⟩ := Option.map_eq_some_iff.1 hu
     exact (h4 ad rfl).2 j y hy) (fun u hu => by
     obtain ⟨y, _, rfl⟩ := List.mem_map.1 hu
     rfl)
theorem jc4 (l : List Ref.Ch) : Ref.below l [] = 0 := by
 unfold Ref.below
 cases l with
 | nil => rfl
 | cons x r => rw [List.takeWhile_cons_of_neg (by simp)]; rfl
theorem O0 (w : World) : Bytes w (.slice none 0 0) [] := ⟨none, 0, rfl, Nat.le_refl _, Nat.zero_le _, fun _ => rfl, fun _ h => by cases h⟩
theorem Oi {E : Nat → Addr} {B : Nat} {w : World} {ρ : Nat → jw} {d b k : Nat} {V : List (Str × List UInt8)} {t : TypeId} {nx la ba ru last mv : Value} {lo : Nat} {deg cl : Bool} (D : DW E B w ρ d V k) (H : Env E B w) (hlo : lo ≤ 9223372036854775807) {c : List UInt8} (hm : (j3 lo, c) ∈ V)
   (hb : w.heap[b]? = some (.cells (yl (.pointer (some ⟨d, 0, none⟩)) nx la (j4 lo) ba ru last mv deg cl) t (0, 0))) :
   Calls Tryz.prog 113 #[.pointer (some ⟨b, 0, none⟩)] w (Zp E B w ρ d V k) := by
 obtain ⟨S, h1, h2, h3, h4⟩ := D
 refine (Tj h1 H hlo hb).mono ?_
 intro e w' h
 obtain ⟨a, b, c⟩ := h2.sync h3 hm
 exact Zp.of h a b c (h4.Qq _)
theorem Cm (ys : Array Value) (w : World) : (callFunc 115 ys).run Tryz.prog w = .ok (.enter 115 ys) w := by kernel_rfl
theorem Co (ys : Array Value) (w : World) : (callFunc 116 ys).run Tryz.prog w = .ok (.enter 116 ys) w := by kernel_rfl
theorem sw (ys : Array Value) (w : World) : (callFunc 118 ys).run Tryz.prog w = .ok (.enter 118 ys) w := by kernel_rfl
theorem Z0 (w : World) (o : Obj) : ((w.alloc o).alloc o).drew.heap[w.heap.size]? = some o ∧ ((w.alloc o).alloc o).drew.heap[w.heap.size + 1]? = some o ∧ ja w ((w.alloc o).alloc o).drew (fun _ => False) := by
 refine ⟨(ja.alloc (w.alloc o) o (fun _ => False)).same (jd w o) id, ?_, ((ja.alloc w o _).more o).draw⟩
 have := jd (w.alloc o) o
 rw [World.size_alloc] at this
 exact this
theorem yf.row {w w' : World} {ρ ρ' : Nat → jw} (g : yf w ρ w' ρ') {b : Nat} {o : Obj} (h : w.heap[b]? = some o) (hb : ρ b = .none) : w'.heap[b]? = some o ∧ ρ' b = .none := ⟨g.keeps.same h (fun t => t hb), (g.role b (lt_of_heap h)).trans hb⟩
set_option maxHeartbeats 1000000 in
set_option maxRecDepth 100000 in
theorem jf9 {E : Nat → Addr} {B : Nat} {w : World} {ρ : Nat → jw} {d b k : Nat} {s : Ref.St} {rv mv : Value} (S : x8 E B w ρ d b s k rv mv) (hk : k < 530000000000) (hbs : s.bs ≠ []) (hn : s.m.next + 2 ≤ 2000000000) (hr : s.m.runs.length + 1 < 60000)
   (hs : (s.m.xz s.last).bytes.length + (Ref.ql s.mem).length + qm s.files ≤ 20000) :
   Calls Tryz.prog 68 #[.pointer (some ⟨b, 0, none⟩)] w fun e w' => e = .returned .nilIface ∧ Xe E B w ρ d b rv mv s.flush (k + 50000) w' := by
 obtain ⟨pr, cr, hrv, hv'⟩ := id S.runs
 have hrv2 : ∃ n, rv = .slice pr n cr := ⟨_, hrv⟩
 clear hrv hv'
 obtain ⟨nr, rfl⟩ := hrv2
 have HNR : Hid (nr = s.m.runs.length) := by
   obtain ⟨p', c', e, _⟩ := S.runs
   cases e
   rfl
 obtain ⟨j0, hj, hy0, hy1, hy2⟩ := info_parts Tryz.Ic
 obtain ⟨n1, hn1e⟩ : ∃ n1, n1 = s.m.next + 1 := ⟨_, rfl⟩
 obtain ⟨n2, hn2e⟩ : ∃ n2, n2 = n1 + 1 := ⟨_, rfl⟩
 have HN1 := hide hn1e
 have HN2 := hide hn2e
 clear hn1e hn2e
 have hrow := S.row
 have c1 := cell_of_heap (o := 1) hrow
 have c2 := cell_of_heap (o := 2) hrow
 have c3 := cell_of_heap (o := 3) hrow
 have c4 := cell_of_heap (o := 4) hrow
 have c5 := cell_of_heap (o := 5) hrow
 simp at c1 c2 c3 c4 c5
 have a1 : ∀ o1, (w.alloc o1).cell? ⟨b, 1, none⟩ = some (jf s.m.next) := fun o1 => (ja.alloc w o1 (fun _ => False)).cell c1 id
 have b1 : ∀ o1 o2, ((w.alloc o1).alloc o2).cell? ⟨b, 1, none⟩ = some (jf s.m.next) := fun o1 o2 => ((ja.alloc w o1 (fun _ => False)).more o2).cell c1 id
 have a2 : ∀ o1, (w.alloc o1).cell? ⟨b, 2, none⟩ = some (jf s.m.last) := fun o1 => (ja.alloc w o1 (fun _ => False)).cell c2 id
 have b2 : ∀ o1 o2, ((w.alloc o1).alloc o2).cell? ⟨b, 2, none⟩ = some (jf s.m.last) := fun o1 o2 => ((ja.alloc w o1 (fun _ => False)).more o2).cell c2 id
 have a3 : ∀ o1, (w.alloc o1).cell? ⟨b, 3, none⟩ = some (jf s.m.log) := fun o1 => (ja.alloc w o1 (fun _ => False)).cell c3 id
 have b3 : ∀ o1 o2, ((w.alloc o1).alloc o2).cell? ⟨b, 3, none⟩ = some (jf s.m.log) := fun o1 o2 => ((ja.alloc w o1 (fun _ => False)).more o2).cell c3 id
 have a4 : ∀ o1, (w.alloc o1).cell? ⟨b, 4, none⟩ = some (jf s.m.base) := fun o1 => (ja.alloc w o1 (fun _ => False)).cell c4 id
 have b4 : ∀ o1 o2, ((w.alloc o1).alloc o2).cell? ⟨b, 4, none⟩ = some (jf s.m.base) := fun o1 o2 => ((ja.alloc w o1 (fun _ => False)).more o2).cell c4 id
 have a5 : ∀ o1, (w.alloc o1).cell? ⟨b, 5, none⟩ = some (.slice pr nr cr) := fun o1 => (ja.alloc w o1 (fun _ => False)).cell c5 id
 have b5 : ∀ o1 o2, ((w.alloc o1).alloc o2).cell? ⟨b, 5, none⟩ = some (.slice pr nr cr) := fun o1 o2 => ((ja.alloc w o1 (fun _ => False)).more o2).cell c5 id
 have HN := hide hn
 have HR := hide hr
 have HS := hide hs
 have HK := hide hk
 have HROW := hide hrow
 clear hrow hn hr hs hk
 go_enter Tryz.func68, Tryz.ntmps68
 go_wp2_with fail
 go_cut [3, 4] from 12 (fun s3 s4 wc => ∃ (x y : Nat), s3 = .pointer (some ⟨x, 0, none⟩) ∧ s4 = .pointer (some ⟨y, 0, none⟩) ∧ x ≠ y ∧ w.heap.size ≤ x ∧ w.heap.size ≤ y ∧ wc.heap[x]? = some (.cells #[jf s.m.next, jf s.m.last, jf s.m.log, jf s.m.base, .slice pr nr cr] 117 (0, 0)) ∧
   wc.heap[y]? = some (.cells #[jf s.m.next, jf s.m.last, jf s.m.log, jf s.m.base, .slice pr nr cr] 117 (0, 0)) ∧ ja w wc (fun _ => False))
 case first =>
   go_region
   all_goals
     go_wp2
     go_meet
   case rel =>
     obtain ⟨h1, h2, h3⟩ := Z0 w (.cells #[jf s.m.next, jf s.m.last, jf s.m.log, jf s.m.base, .slice pr nr cr] 117)
     first
       | exact ⟨_, _, rfl, rfl, by omega, by omega, by omega, h1, h2, h3⟩
       | exact ⟨_, _, rfl, rfl, by omega, by omega, by omega, h2, h1, h3⟩
   case rel =>
     obtain ⟨h1, h2, h3⟩ := Z0 w (.cells #[jf s.m.next, jf s.m.last, jf s.m.log, jf s.m.base, .slice pr nr cr] 117)
     first
       | exact ⟨_, _, rfl, rfl, by omega, by omega, by omega, h1, h2, h3⟩
       | exact ⟨_, _, rfl, rfl, by omega, by omega, by omega, h2, h1, h3⟩
 case rest =>
   obtain ⟨x, y, rfl, rfl, hxy, hx, hy, hX, hY, kc⟩ := hcut
   clear a1 a2 a3 a4 a5 b1 b2 b3 b4 b5 c1 c2 c3 c4 c5
   have HX := hide hX
   have hn1 : s.m.next < 2000000000 := by have := HN.out; omega
   have htk1 := gu hY hn1
   rw [← HN1.out] at htk1
   have HTK1 := hide htk1
   clear htk1 hX hY hn1
   go_wp2_with fail
   refine HTK1.out.mono ?_
   rintro e w2 ⟨rfl, hY2, k2⟩
   have kc2 : ja w w2 (fun _ => False) := kc.trans k2 (fun i hi e => by omega)
   have HX2 := hide (k2.same HX.out hxy)
   have hn2 : n1 < 2000000000 := by have := HN.out; have := HN1.out; omega
   have htk2 := gu hY2 hn2
   rw [← HN2.out] at htk2
   have HTK2 := hide htk2
   clear htk2 hY2 hn2
   go_wp2_with fail
   refine HTK2.out.mono ?_
   rintro e w3 ⟨rfl, hY3, k3⟩
   have kc3 : ja w w3 (fun _ => False) := kc2.trans k3 (fun i hi e => by omega)
   have HX3 := hide (k3.same HX2.out hxy)
   have y2 := cell_of_heap (o := 2) hY3
   have g2 := frozen_of_heap (o := 2) hY3
   simp at y2
   have HY3 := hide hY3
   clear hY3
   go_wp2_with fail
   obtain ⟨w4, hw4⟩ : ∃ w4, w4 = w3.setCell ⟨y, 2, none⟩ (jf n1) := ⟨_, rfl⟩
   rw [← hw4]
   have kc4 : ja w w4 (fun _ => False) := by rw [hw4]; exact kc3.Xk hy _
   have hY4 : w4.heap[y]? = some (.cells #[jf n2, jf s.m.last, jf n1, jf s.m.base, .slice pr nr cr] 117 (0, 0)) := by rw [hw4]; exact (jb HY3.out _).trans rfl
   have HX4 : Hid (w4.heap[x]? = some (.cells #[jf s.m.next, jf s.m.last, jf s.m.log, jf s.m.base, .slice pr nr cr] 117 (0, 0))) := by rw [hw4]; exact (ja.setCell w3 ⟨y, 2, none⟩ _).same HX3.out hxy
   have HY4 := hide hY4
   have HROW4 := hide (kc4.same HROW.out id)
   have l6 := cell_of_heap (o := 6) HROW4.out
   have y4 := cell_of_heap (o := 4) hY4
   simp at l6 y4
   have l6a : ∀ o1, (w4.alloc o1).cell? ⟨b, 6, none⟩ = some (jf s.last) := fun o1 => (ja.alloc w4 o1 (fun _ => False)).cell l6 id
   have y4a : ∀ o1, (w4.alloc o1).cell? ⟨y, 4, none⟩ = some (.slice pr nr cr) := fun o1 => (ja.alloc w4 o1 (fun _ => False)).cell y4 id
   have kc5 : ja w4 (w4.alloc (.cells #[jf s.m.next] 3)).drew (fun _ => False) := (ja.alloc w4 _ _).draw
   have hlit : (w4.alloc (.cells #[jf s.m.next] 3)).drew.ownsRow w.heap.size 3 1 (.slice (some ⟨w4.heap.size, 0, none⟩) 1 1) 1 [jf s.m.next] := (ja.drew _ (fun _ => False)).row (World.ownsRow_lit (base := w.heap.size) (e := 3) (size := 1) w4 #[jf s.m.next] 1 kc4.size (by unfold maxLen; omega) rfl) (fun _ _ h => h)
   have hsrc : Src Tryz.prog 1 39 (.slice pr nr cr) nr (s.m.runs.map jf) (w4.alloc (.cells #[jf s.m.next] 3)).drew := by
     have := (S.runs.same (kc4.trans kc5 (fun _ _ h => h))).src
     rw [← HNR.out] at this
     exact this
   have HLIT := hide hlit
   have HSRC := hide hsrc
   have h63 : Hid (1 + nr ≤ maxLen) := (show 1 + nr ≤ maxLen from by have := HR.out; have := HNR.out; unfold maxLen; omega)
   have hbs2 : Hid ((1 + nr) * 8 ≤ 140737488355328) := (show (1 + nr) * 8 ≤ 140737488355328 from by have := HR.out; have := HNR.out; omega)
   have hb5 : w.heap.size ≤ (w4.alloc (.cells #[jf s.m.next] 3)).drew.heap.size := Nat.le_trans kc4.size kc5.size
   have hX5 := kc5.same HX4.out id
   have hY5 := kc5.same HY4.out id
   have HX5 := hide hX5
   have HY5 := hide hY5
   have hltx : x < w4.heap.size := lt_of_heap HX4.out
   have hlty : y < w4.heap.size := lt_of_heap HY4.out
   have hltb : b < w4.heap.size := lt_of_heap HROW4.out
   clear hw4 hlit hsrc hY4 hX5 hY5 y2 g2
   go_cut [] from 12 (fun wc => ∃ (p : Option Addr) (c : Nat), wc.heap[y]? = some (.cells #[jf n2, jf s.last, jf n1, jf s.m.base, .slice p (1 + nr) c] 117 (0, 0)) ∧ wc.ownsRow w.heap.size 3 1 (.slice p (1 + nr) c) (1 + nr) ((s.m.next :: s.m.runs).map jf) ∧
     wc.heap[x]? = some (.cells #[jf s.m.next, jf s.m.last, jf s.m.log, jf s.m.base, .slice pr nr cr] 117 (0, 0)) ∧ (∀ g, (Value.slice p (1 + nr) c).ownBlock = some g → w4.heap.size ≤ g) ∧ ja w wc (fun _ => False))
   case first =>
     go_region_law (
       refine Xq rfl (.tmp 40) (.tmp 42) 39 39 rfl w.heap.size 3 j0 (.int .i64 0) 1 8 Tryz.underlying39 hj hy0 hy1 hy2 rfl Nat.zero_lt_one (.slice (some ⟨w4.heap.size, 0, none⟩) 1 1) 1 [jf s.m.next] (by simp [Act.eval, Act.put]) HLIT.out (.slice pr nr cr) nr (s.m.runs.map jf) (by simp [Act.eval, Act.put]) HSRC.out h63.out hbs2.out hb5 ?_
       intro p6 c6 w6 hr6 hg6 hl6
       have k6 : ja w4 w6 (fun i => w4.heap.size ≤ i) := (kc5.mono (fun _ _ h => h.elim)).trans (ja.grown hg6) (fun i _ e => by cases e; exact Nat.le_refl _)
       have hY6 := k6.same HY4.out (Nat.not_le.2 hlty)
       have HX6 := hide (k6.same HX4.out (Nat.not_le.2 hltx))
       have l66 := k6.cell l6 (Nat.not_le.2 hltb)
       have z1 := cell_of_heap (o := 1) hY6
       have z4 := cell_of_heap (o := 4) hY6
       have q1 := frozen_of_heap (o := 1) hY6
       have q4 := frozen_of_heap (o := 4) hY6
       simp at z1 z4
       have HY6 := hide hY6
       have HR6 := hide hr6
       have HL6 := hide hl6
       clear hY6 hr6 hl6)
     all_goals
       go_wp2
       go_meet
     all_goals
       have hown6 : ∀ g, (Value.slice p6 (1 + nr) c6).ownBlock = some g → w4.heap.size ≤ g := fun g hg => by
         rcases HL6.out with h | h
         · rw [h] at hg
           cases hg
           exact Nat.le_refl _
         · rw [h] at hg
           cases hg
           exact kc5.size
       have kw6 : ja w w6 (fun _ => False) := kc4.trans k6 (fun i hi h => by have := kc4.size; omega)
       first
         | exact ⟨p6, c6, (jb (jb HY6.out _) _).trans rfl, ((ja.setCell w6 ⟨y, 1, none⟩ _).set (p := ⟨y, 4, none⟩) rfl _).row HR6.out (fun g hg e => by have := hown6 g hg; have e' : g = y := e; omega), ((ja.setCell w6 ⟨y, 1, none⟩ _).set (p := ⟨y, 4, none⟩) rfl _).same HX6.out hxy, hown6, (kw6.Xk (p := ⟨y, 1, none⟩) hy _).Xk (p := ⟨y, 4, none⟩) hy _⟩
         | exact ⟨p6, c6, (jb (jb HY6.out _) _).trans rfl, ((ja.setCell w6 ⟨y, 4, none⟩ _).set (p := ⟨y, 1, none⟩) rfl _).row HR6.out (fun g hg e => by have := hown6 g hg; have e' : g = y := e; omega), ((ja.setCell w6 ⟨y, 4, none⟩ _).set (p := ⟨y, 1, none⟩) rfl _).same HX6.out hxy, hown6, (kw6.Xk (p := ⟨y, 4, none⟩) hy _).Xk (p := ⟨y, 1, none⟩) hy _⟩
   case rest =>
     obtain ⟨p7, c7, hY7, hr7, hX7, hown7, kc7⟩ := hcut
     clear l6 y4 l6a y4a kc5 HLIT HSRC h63 hbs2 hb5 HX5 HY5
     have hsmem := S.few
     have S7 := S.same kc7
     have hrow7 := S7.row
     have hcs7 := Jk S7.mem
     have hfm := Ve b 7 _ 121 mv s.mem [] wc hrow7 rfl hcs7 (Ref.yn _) (by omega)
     rw [jc4, List.drop_zero] at hfm
     have HFM := hide hfm
     have HY7 := hide hY7
     have HX7 := hide hX7
     have HR7 := hide hr7
     have HROW7 := hide hrow7
     have nx0 : ρ x = .none := Classical.byContradiction (fun hn => by have := (S.disk.yt x hn).2; omega)
     have ny0 : ρ y = .none := Classical.byContradiction (fun hn => by have := (S.disk.yt y hn).2; omega)
     have nr0 : ∀ g, (Value.slice p7 (1 + nr) c7).ownBlock = some g → ρ g = .none ∧ w4.heap.size ≤ g := fun g hg => ⟨Classical.byContradiction (fun hn => by have := (S.disk.yt g hn).2; have := hown7 g hg; have := kc4.size; omega), hown7 g hg⟩
     clear hfm hY7 hX7 hr7 hrow7 hcs7 hown7
     go_wp2_with fail
     refine HFM.out.mono ?_
     rintro e w8 ⟨v8, rfl, hc8, k8, ho8⟩
     have D8 := S7.disk.same k8
     have hga := Vd D8 v8 s.mem hc8 (by omega) (fun p n c e => by
       obtain ⟨ad', n', c', e1, e2⟩ := ho8 p n c e
       have hb' : mv.ownBlock = some ad'.block := by rw [e1]; rfl
       rw [← e2]
       exact ⟨(S7.nm _ hb').1, Nat.lt_of_lt_of_le (S7.mem.lt _ hb').2 k8.size⟩)
     have HGA := hide hga
     clear hga hc8 ho8
     go_wp2_with fail
     refine HGA.out.mono ?_
     rintro e w9 ⟨v9, rfl, hr9, g9, D9⟩
     have g79 : yf wc ρ w9 ρ := (yf.of k8 (fun _ _ h => h.elim)).trans g9
     have hsome := Ref.Gh S.ok.log hbs
     obtain ⟨g0, cp9, hv9⟩ : ∃ g0 cp9, v9 = .slice (some ⟨g0, 0, none⟩) s.mem.length cp9 := by
       rcases hr9.2 with ⟨_, h0⟩ | ⟨g, cap, cur, e, _⟩
       · exact (hsome (List.eq_nil_of_length_eq_zero h0)).elim
       · exact ⟨g, cap, e⟩
     subst hv9
     have hE9 := S7.env.keep g79.keeps (fun i t => (S7.disk.yt i t).1)
     obtain ⟨hrow9, hb9⟩ := g79.row HROW7.out S7.nb.1
     obtain ⟨lo, hlo⟩ : ∃ lo, lo = s.m.log := ⟨_, rfl⟩
     have hlog := S.ok.good.log
     have hnx := S.ok.good.1
     have hlog2 : lo ≤ 9223372036854775807 := by omega
     have hmlog : (j3 lo, Ref.jy s.m.last s.bs) ∈ s.files := yj.2 (.inr (.inl (by rw [hlo])))
     have hsl := Oi D9 hE9 (lo := lo) hlog2 hmlog (by rw [hlo]; exact hrow9)
     have HSL := hide hsl
     have HLO := hide hlo
     have HR9 := hide hr9
     have HLOG2 := hide hlog2
     have hg09 : wc.heap.size ≤ g0 := Nat.le_trans k8.size (hr9.lt g0 rfl).1
     have hml : s.mem.length < 60000 := hsmem
     obtain ⟨ml, hmle⟩ : ∃ ml, ml = s.mem.length := ⟨_, rfl⟩
     rw [← hmle]
     have HML := hide hmle
     have HMS := hide hml
     clear hsl hlo hr9 hlog hnx hlog2 hmlog hrow9 hE9 hmle hml hsmem hsome
     go_wp2_with fail
     refine HSL.out.mono ?_
     rintro e w10 ⟨rfl, ρ10, g10, D10⟩
     have gA : yf wc ρ w10 ρ10 := g79.trans g10
     obtain ⟨hrow10, hb10⟩ := gA.row HROW7.out S7.nb.1
     have d0 := cell_of_heap (o := 0) hrow10
     simp at d0
     have d0 : w10.drew.cell? ⟨b, 0, none⟩ = some (.pointer (some ⟨d, 0, none⟩)) := d0
     obtain ⟨RB, hRB⟩ : ∃ RB, RB = Ref.ql s.mem := ⟨_, rfl⟩
     have hokr := Ref.St.jeg S.ok hbs (by have := HMS.out; omega)
     have hE10 := S7.env.keep gA.keeps (fun i t => (S7.disk.yt i t).1)
     have hrow10m := g10.keeps.row HR9.out (fun g hg t => t (Classical.byContradiction (fun hn => by
       have h1 := (D8.yt g hn).2
       have h2 := (HR9.out.lt g hg).1
       omega)))
     have hrn : ∀ W, ja w10 W (fun _ => False) → Calls Tryz.prog 115 #[j4 s.m.next] W fun e w' => e = .returned (jc (jq s.m.next)) ∧ ja W w' (fun _ => False) := fun W kk => ed s.m.next (by have := HN.out; omega) (hE10.same kk)
     have hmk : ∀ W, ja w10 W (fun _ => False) → Calls Tryz.prog 116 #[.slice (some ⟨g0, 0, none⟩) ml cp9] W fun e w' => ∃ p c, e = .returned (.slice p RB.length c) ∧ w'.ownsRow w10.heap.size 5 1 (.slice p RB.length c) RB.length (RB.map qg) ∧ ja W w' (fun _ => False) := fun W kk => by
       have hch : Chs W (.slice (some ⟨g0, 0, none⟩) s.mem.length cp9) s.mem := (Jk hrow10m).same kk
       rw [HML.out, hRB]
       refine (Gi g0 0 cp9 s.mem W hch hokr.some hokr.allowed hokr.few).mono ?_
       rintro e w' ⟨p, c, rfl, h, k'⟩
       exact ⟨p, c, rfl, xx h kk.size, k'⟩
     have hnl : (jq s.m.next).length < 100 := by have := Jf (n := s.m.next) (by have := HN.out; omega); unfold jq; simp only [List.length_append, List.length_cons, List.length_nil]; omega
     have hly : ∀ (W : World) (v : Value), ja w10 W (fun _ => False) → W.ownsRow w10.heap.size 5 1 v RB.length (RB.map qg) → Calls Tryz.prog 114 #[.pointer (some ⟨d, 0, none⟩), jc (jq s.m.next), v] W fun e w' => e = .returned .nilIface ∧ ∃ ρ', yf w10 ρ10 w' ρ' ∧ DW E B w' ρ' d (yu s.files (jq s.m.next) RB) (k + 20200) := fun W v kk hrw => by
       have hsz := HS.out
       rw [← hRB] at hsz
       refine (Uy (D10.same kk) (jq s.m.next) (Kc _) v RB (bytes_of_row hrw) (Rh (fun i hi => (D10.yt i hi).2) hrw) (by have := HK.out; omega) (by have := yx s.files (jq s.m.next); omega)).mono ?_
       rintro e w' ⟨rfl, ρ', g, D'⟩
       exact ⟨rfl, ρ', (yf.of kk (fun _ _ h => h.elim)).trans g, D'.mono (by omega)⟩
     have HRN := hide hrn
     have HMK := hide hmk
     have HLY := hide hly
     have HRB := hide hRB
     have kd : ja w10 w10.drew (fun _ => False) := ja.drew _ _
     clear hrn hmk hly hRB hokr hE10 hrow10m hnl hrow10
     obtain ⟨rn, hrne⟩ : ∃ rn, rn = jq s.m.next := ⟨_, rfl⟩
     rw [← hrne] at HRN HLY
     have HRNE := hide hrne
     clear hrne
     go_wp2_with fail
     go_cut [9] from 12 (fun s9 wd => s9 = .nilIface ∧ ∃ ρ', yf w10 ρ10 wd ρ' ∧ DW E B wd ρ' d (yu s.files rn RB) (k + 20200))
     case first =>
       go_region_law (first
         | (refine jo rfl 115 [.tmp 66] _ rfl Cm [j4 s.m.next] (by simp [Act.eval, Act.put]) (HRN.out _ kd) ?_
            rintro e w11 ⟨rfl, k11⟩
            try have hrw := k11.row hrw (fun _ _ h => h)
            have d0 := k11.cell d0 id
            have kd := kd.trans k11 (fun _ _ h => h)
            refine ⟨_, rfl, ?_⟩)
         | (refine jo rfl 116 [.tmp 68] _ rfl Co [.slice (some ⟨g0, 0, none⟩) ml cp9] (by simp [Act.eval, Act.put]) (HMK.out _ kd) ?_
            rintro e w11 ⟨pb, cb, rfl, hrw, k11⟩
            have d0 := k11.cell d0 id
            have kd := kd.trans k11 (fun _ _ h => h)
            refine ⟨_, rfl, ?_⟩)
         | (refine jo rfl 114 [.tmp 65, .tmp 67, .tmp 69] _ rfl nk [.pointer (some ⟨d, 0, none⟩), jc rn, .slice pb RB.length cb] (by simp [Act.eval, Act.put]) (HLY.out _ _ kd hrw) ?_
            rintro e w12 ⟨rfl, ρ12, g12, D12⟩
            refine ⟨_, rfl, ?_⟩))
       all_goals
         go_wp2
         go_meet
       all_goals exact ⟨rfl, _, g12, D12⟩
     case rest =>
       obtain ⟨rfl, ρ12, g12, D12⟩ := hcut
       have gB := gA.trans g12
       obtain ⟨hrow12, hb12⟩ := gB.row HROW7.out S7.nb.1
       obtain ⟨hY12, _⟩ := gB.row HY7.out ny0
       have d0 := cell_of_heap (o := 0) hrow12
       have z2 := cell_of_heap (o := 2) hY12
       simp at d0 z2
       have d0 : wc.drew.cell? ⟨b, 0, none⟩ = some (.pointer (some ⟨d, 0, none⟩)) := d0
       have z2 : wc.drew.cell? ⟨y, 2, none⟩ = some (jf n1) := z2
       have hE12 := S7.env.keep gB.keeps (fun i t => (S7.disk.yt i t).1)
       have hn1b : n1 ≤ 9223372036854775807 := by have := HN.out; have := HN1.out; omega
       have hln : ∀ W, ja wc W (fun _ => False) → Calls Tryz.prog 63 #[j4 n1] W fun e w' => e = .returned (jc (j3 n1)) ∧ ja W w' (fun _ => False) := fun W kk => Q9 n1 hn1b (hE12.same kk)
       have hnl : (j3 n1).length < 100 := by have := Jf hn1b; unfold j3; simp only [List.length_append, List.length_cons, List.length_nil]; omega
       have hly2 : ∀ W, ja wc W (fun _ => False) → Calls Tryz.prog 114 #[.pointer (some ⟨d, 0, none⟩), jc (j3 n1), .slice none 0 0] W fun e w' => e = .returned .nilIface ∧ ∃ ρ', yf wc ρ12 w' ρ' ∧ DW E B w' ρ' d (yu (yu s.files rn RB) (j3 n1) []) (k + 20400) := fun W kk => by
         have hsz := HS.out
         rw [← HRB.out] at hsz
         refine (Uy (D12.same kk) (j3 n1) (Lc _) _ [] (O0 W) (fun p n c e => by cases e) (by have := HK.out; simp only [List.length_nil]; omega) (by
           have h1 := yx (yu s.files rn RB) (j3 n1)
           have h2 := Yv s.files rn RB
           simp only [List.length_nil]
           omega)).mono ?_
         rintro e w' ⟨rfl, ρ', g, D'⟩
         exact ⟨rfl, ρ', (yf.of kk (fun _ _ h => h.elim)).trans g, D'.mono (by simp only [List.length_nil]; omega)⟩
       have HLN := hide hln
       have HLY2 := hide hly2
       have kd2 : ja wc wc.drew (fun _ => False) := ja.drew _ _
       clear hln hly2 hE12 hnl hn1b hrow12 hY12
       obtain ⟨ln, hlne⟩ : ∃ ln, ln = j3 n1 := ⟨_, rfl⟩
       rw [← hlne] at HLN HLY2
       have HLNE := hide hlne
       clear hlne HRN HMK HLY kd
       go_wp2_with fail
       go_cut [10] from 12 (fun s10 wd => s10 = .nilIface ∧ ∃ ρ', yf wc ρ12 wd ρ' ∧ DW E B wd ρ' d (yu (yu s.files rn RB) ln []) (k + 20400))
       case first =>
         go_region_law (first
           | (refine jo rfl 63 [.tmp 79] _ rfl Qm [j4 n1] (by simp [Act.eval, Act.put]) (HLN.out _ kd2) ?_
              rintro e w13 ⟨rfl, k13⟩
              have d0 := k13.cell d0 id
              have kd2 := kd2.trans k13 (fun _ _ h => h)
              refine ⟨_, rfl, ?_⟩)
           | (refine jo rfl 114 [.tmp 77, .tmp 80, .const (.slice none 0 0)] _ rfl nk [.pointer (some ⟨d, 0, none⟩), jc ln, .slice none 0 0] (by simp [Act.eval, Act.put]) (HLY2.out _ kd2) ?_
              rintro e w14 ⟨rfl, ρ14, g14, D14⟩
              refine ⟨_, rfl, ?_⟩))
         all_goals
           go_wp2
           go_meet
         all_goals exact ⟨rfl, _, g14, D14⟩
       case rest =>
         obtain ⟨rfl, ρ14, g14, D14⟩ := hcut
         have gC := gB.trans g14
         obtain ⟨hrow14, hb14⟩ := gC.row HROW7.out S7.nb.1
         obtain ⟨hY14, ny14⟩ := gC.row HY7.out ny0
         obtain ⟨hX14, nx14⟩ := gC.row HX7.out nx0
         have t0 := cell_of_heap (o := 0) hY14
         have t1 := cell_of_heap (o := 1) hY14
         have t2 := cell_of_heap (o := 2) hY14
         have t3 := cell_of_heap (o := 3) hY14
         have t4 := cell_of_heap (o := 4) hY14
         simp at t0 t1 t2 t3 t4
         have hE14 := S7.env.keep gC.keeps (fun i t => (S7.disk.yt i t).1)
         have hr14 := gC.keeps.row HR7.out (fun g hg t => t (nr0 g hg).1)
         have hbt : b < w4.heap.size := hltb
         have hnums : J2 wc (.slice p7 (1 + nr) c7) (s.m.next :: s.m.runs) := by
           have h1 : (s.m.next :: s.m.runs).length = 1 + nr := by rw [List.length_cons, ← HNR.out]; omega
           exact Qh hr14 h1
         have hgood := S.ok.good.xz (last := s.last) S.ok.cap HN.out (by have := S.ok.good.log; omega)
         have hmv : mo (s.m.xz s.last) (.slice p7 (1 + nr) c7) = .agg #[jf n2, jf s.last, jf n1, jf s.m.base, .slice p7 (1 + nr) c7] := by
           have e2 : n2 = s.m.next + 2 := by have := HN1.out; have := HN2.out; omega
           rw [e2, HN1.out]
           rfl
         have hset := Ref.Man.Qx s.m s.last
         have hins := Bg D14 hE14 (s.m.xz s.last) hgood (by show (s.m.next :: s.m.runs).length < 65536; have := HR.out; simp; omega) (.slice p7 (1 + nr) c7) hnums (fun p n c e => by
             have hb' : (Value.slice p7 (1 + nr) c7).ownBlock = some p.block := by rw [e]; rfl
             have h1 := nr0 _ hb'
             have h2 := (HR7.out.lt _ hb').2
             rw [gC.role _ h2]
             exact ⟨h1.1, by omega⟩) hrow14 hb14 S7.nb.2 (fun n hn => by
             unfold qi at hn
             rw [hset] at hn
             rcases List.mem_append.1 hn with hn | hn
             · rw [List.map_cons] at hn
               rcases List.mem_cons.1 hn with e | hn
               · rw [e, ← HRNE.out]
                 by_cases he : rn = ln
                 · exact ⟨[], y9.2 (.inl (by rw [he]))⟩
                 · exact ⟨RB, y9.2 (.inr ⟨y9.2 (.inl rfl), he⟩)⟩
               · obtain ⟨c, hc⟩ := S.ok.there n (List.mem_append.2 (.inl hn))
                 by_cases he : n = ln
                 · exact ⟨[], y9.2 (.inl (by rw [he]))⟩
                 · by_cases he2 : n = rn
                   · exact ⟨RB, y9.2 (.inr ⟨y9.2 (.inl (by rw [he2])), he⟩)⟩
                   · exact ⟨c, y9.2 (.inr ⟨y9.2 (.inr ⟨hc, he2⟩), he⟩)⟩
             · have e : n = ln := by rw [List.mem_singleton.1 hn, HLNE.out, HN1.out]; rfl
               exact ⟨[], y9.2 (.inl (by rw [e]))⟩) (by
             have hsz := HS.out
             rw [← HRB.out] at hsz
             have h1 := yx (yu (yu s.files rn RB) ln []) yh
             have h2 := Yv (yu s.files rn RB) ln []
             have h3 := Yv s.files rn RB
             simp only [List.length_nil] at h2
             omega) (by have := HK.out; omega)
         rw [hmv] at hins
         have HINS := hide hins
         have HX14 := hide hX14
         clear hins hnums hr14 hgood hmv hset hE14 hrow14 hY14 hX14 d0 z2
         go_wp2_with fail
         refine HINS.out.mono ?_
         rintro e w15 ⟨rfl, ρ15, k15, hρ15, D15, hrow15⟩
         have c7b := cell_of_heap (o := 7) hrow15
         have f7b := frozen_of_heap (o := 7) hrow15
         simp at c7b
         obtain ⟨w16, hw16⟩ : ∃ w16, w16 = w15.setCell ⟨b, 7, none⟩ (.slice none 0 0) := ⟨_, rfl⟩
         have k16 : ja w15 w16 (fun i => i = b) := by rw [hw16]; exact ja.setCell w15 ⟨b, 7, none⟩ _
         have hrow16 : w16.heap[b]? = some (.cells (yl (.pointer (some ⟨d, 0, none⟩)) (jf (s.m.xz s.last).next) (jf (s.m.xz s.last).last) (jf (s.m.xz s.last).log) (jf (s.m.xz s.last).base) (.slice p7 (1 + nr) c7) (jf s.last) (.slice none 0 0) false false) 121 (0, 0)) := by rw [hw16]; exact (jb hrow15 _).trans rfl
         have hxb : x ≠ b := fun e => by have := S.blt; omega
         have hX16 : w16.heap[x]? = some (.cells #[jf s.m.next, jf s.m.last, jf s.m.log, jf s.m.base, .slice pr nr cr] 117 (0, 0)) := k16.same (k15.same HX14.out (fun t => t.elim (fun t => t nx14) hxb)) hxb
         have hblt14 : b < wc.heap.size := Nat.lt_of_lt_of_le S.blt (Nat.le_trans kc7.size gC.keeps.size)
         have hb15 : ρ15 b = .none := (hρ15 b hblt14).trans hb14
         have D16 : DW E B w16 ρ15 d (yu (without (yu (yu s.files rn RB) ln []) yh) qd (s.m.xz s.last).bytes) (k + 20400 + 22 + (s.m.xz s.last).bytes.length) := D15.keep k16 (fun i _ e => by rw [e]; exact ⟨hb15, S.nb.2⟩)
         have kCw : ja w w16 (StF ρ b mv) := by
           refine (((kc7.mono (fun _ _ h => h.elim)).trans gC.keeps (fun i _ h => .inl h)).trans k15 (fun i hi h => ?_)).trans k16 (fun i _ e => .inr (.inl e))
           rcases h with h | h
           · exact .inl (by rw [← gC.role i (Nat.lt_of_lt_of_le hi kc7.size)]; exact h)
           · exact .inr (.inl h)
         have hE16 : Env E B w16 := S.env.keep (kCw.mono (fun i hi h => (show B ≤ i from (StF.old S h).1))) (fun i h => h)
         have d0 := cell_of_heap (o := 0) hrow16
         have z2 := cell_of_heap (o := 2) hX16
         simp at d0 z2
         rw [← HLO.out] at z2
         have d0 : w16.drew.cell? ⟨b, 0, none⟩ = some (.pointer (some ⟨d, 0, none⟩)) := d0
         have z2 : w16.drew.cell? ⟨x, 2, none⟩ = some (jf lo) := z2
         have hln : ∀ W, ja w16 W (fun _ => False) → Calls Tryz.prog 63 #[j4 lo] W fun e w' => e = .returned (jc (j3 lo)) ∧ ja W w' (fun _ => False) := fun W kk => Q9 lo HLOG2.out (hE16.same kk)
         have hV3 : (j3 lo, Ref.jy s.m.last s.bs) ∈ yu (without (yu (yu s.files rn RB) ln []) yh) qd (s.m.xz s.last).bytes := by
           refine y9.2 (.inr ⟨xu.2 ⟨y9.2 (.inr ⟨y9.2 (.inr ⟨yj.2 (.inr (.inl (by rw [HLO.out]))), ?_⟩), ?_⟩), ?_⟩, ?_⟩)
           · rw [HRNE.out]; exact Ye _ _
           · intro e
             rw [HLNE.out] at e
             have h1 := Gj e
             have h2 := HLO.out
             have h3 := HN1.out
             have h4 := S.ok.good.log
             omega
           · exact fun e => Dl _ e.symm
           · exact fun e => fq _ e.symm
         have hmbl := zt (s.m.xz s.last)
         have hrl2 : (s.m.xz s.last).runs.length < 65000 := by show (s.m.next :: s.m.runs).length < 65000; have := HR.out; simp; omega
         have hbyt : (s.m.xz s.last).bytes.length ≤ 20000 := by have := HS.out; omega
         have hrm : ∀ (W : World) (v : Value), ja w16 W (fun _ => False) → W.ownsRow w16.heap.size 9 1 v 1 ([j3 lo].map jc) → Calls Tryz.prog 118 #[.pointer (some ⟨d, 0, none⟩), v] W fun e w' => e = .returned .nilIface ∧ ∃ ρ', yf w16 ρ15 w' ρ' ∧ DW E B w' ρ' d (Lm s) (k + 50000) := fun W v kk hrow => by
           refine (Kj (D16.same kk) (by have := HK.out; omega) v [j3 lo] w16.heap.size hrow (fun g hg => Classical.byContradiction (fun hn => by have := (hrow.lt g hg).1; have := (D16.yt g hn).2; omega)) (fun n hn => by rw [List.mem_singleton.1 hn]; exact Xl HLOG2.out) (by simp) (by simp) (fun n hn => by rw [List.mem_singleton.1 hn]; exact ⟨_, hV3⟩)).mono ?_
           rintro e w' ⟨rfl, ρ', g, D'⟩
           refine ⟨rfl, ρ', (yf.of kk (fun _ _ h => h.elim)).trans g, ?_⟩
           have D'' := D'.mono (m := k + 50000) (by simp only [List.length_singleton]; omega)
           have ev : (yu (without (yu (yu s.files rn RB) ln []) yh) qd (s.m.xz s.last).bytes).filter (fun p => decide (p.1 ∉ [j3 lo])) = Lm s := by
             unfold Lm
             rw [HLO.out, HRNE.out, HRB.out, HLNE.out, HN1.out]
           rw [ev] at D''
           exact D''
         have HLN3 := hide hln
         have HRM := hide hrm
         have HROW16 := hide hrow16
         have kd3 : ja w16 w16.drew (fun _ => False) := ja.drew _ _
         clear hln hrm hV3 hmbl hrl2 hbyt hrow15 hX16 hrow16 t0 t1 t2 t3 t4
         go_wp2_with fail
         rw [← hw16]
         clear hw16 c7b f7b
         go_region_law (first
           | (refine jo rfl 63 [.tmp 100] _ rfl Qm [j4 lo] (by simp [Act.eval, Act.put]) (HLN3.out _ kd3) ?_
              rintro e w17 ⟨rfl, k17⟩
              have d0 := k17.cell d0 id
              have kd3 := kd3.trans k17 (fun _ _ h => h)
              have d0a : ∀ o1, (w17.alloc o1).cell? ⟨b, 0, none⟩ = some (.pointer (some ⟨d, 0, none⟩)) := fun o1 => (ja.alloc w17 o1 (fun _ => False)).cell d0 id
              have HLT := hide (World.ownsRow_lit (base := w16.heap.size) (e := 9) (size := 1) w17 #[jc (j3 lo)] 1 kd3.size (by unfold maxLen; omega) rfl)
              refine ⟨_, rfl, ?_⟩)
           | (refine jo rfl 118 [.tmp 98, .tmp 102] _ rfl sw [.pointer (some ⟨d, 0, none⟩), .slice (some ⟨w17.heap.size, 0, none⟩) 1 1] (by simp [Act.eval, Act.put]) (HRM.out _ _ (kd3.more _) HLT.out) ?_
              rintro e w18 ⟨rfl, ρ18, g18, D18⟩
              refine ⟨_, rfl, ?_⟩))
         all_goals
           go_wp2
           go_ret
           have hokf := S.ok.flush (by have := S.few; omega) HN.out (by have := S.ok.good.log; omega) (by have := HR.out; omega)
           have D19 := D18.perm (Vj S.ok hbs hokf)
           have ef : s.flush = ⟨s.m.xz s.last, [], s.mem :: s.bls⟩ := by unfold Ref.St.flush; rw [if_neg hbs]
           have sz7 := kc7.size
           have szC := gC.keeps.size
           have sz15 := k15.size
           have sz16 := k16.size
           have kfin := (((gC.keeps.mono (fun i _ h => (Or.inl h : ρ i ≠ .none ∨ i = b))).trans k15 (fun i hi h => h.imp (fun h => by rw [← gC.role i hi]; exact h) id)).trans k16 (fun i _ e => .inr e)).trans g18.keeps (fun i hi t => .inl (by rw [← gC.role i hi, ← hρ15 i (Nat.lt_of_lt_of_le hi szC)]; exact t))
           have hro : ∀ i, i < w.heap.size → ρ18 i = ρ i := fun i hi => (g18.role i (by omega)).trans ((hρ15 i (by omega)).trans (gC.role i (by omega)))
           have hrr := kfin.row HR7.out (fun g hg t => t.elim (fun t => t (nr0 g hg).1) (fun e => by have := (nr0 g hg).2; omega))
           have h1 : (s.m.next :: s.m.runs).length = 1 + nr := by rw [List.length_cons, ← HNR.out]; omega
           obtain ⟨hrow18, hb18⟩ := g18.row HROW16.out hb15
           refine ⟨rfl, ρ18, .slice p7 (1 + nr) c7, .slice none 0 0, ⟨hE16.keep g18.keeps (fun i t => (D16.yt i t).1), D19, ?_, ?_, ?_, ⟨hb18, S.nb.2⟩, ?_, fun g hg => (by cases hg), hokf, ?_⟩, kCw.trans g18.keeps (fun i hi t => .inl ?_), hro, fun g hg => (by cases hg), fun p n c e => .inr (by have h2 := (nr0 p.block (by rw [e]; rfl)).2; have h6 := kc4.size; omega)⟩
           · rw [ef]
             exact hrow18
           · rw [ef]
             exact Qh hrr h1
           · rw [ef]
             exact World.ownsRow_nil _ _ _ _
           · intro p n c e
             have hb' : (Value.slice p7 (1 + nr) c7).ownBlock = some p.block := by rw [e]; rfl
             have h2 := nr0 _ hb'
             have h3 := (HR7.out.lt _ hb').2
             have h4 := kfin.size
             have h5 := S.disk.size
             have h6 := kc4.size
             refine ⟨?_, by omega, by omega, fun h => (by cases h), by omega⟩
             rw [g18.role _ (by omega), hρ15 _ (by omega), gC.role _ h3]
             exact h2.1
           · rw [ef]
             exact Nat.zero_lt_succ _
           · rw [← gC.role i (by omega), ← hρ15 i (by omega)]
             exact t
end Go.Proofs.YtnipbplghijdmaaGreatDoor
namespace Go.Proofs.YtnipbplghijdmaaGreatDoor
open Go.RowKit Go.Maps Go.WideShapes
set_option linter.unusedVariables false
def nu (V : List (Str × List UInt8)) (k : Nat) (S : je) : Prop := J6 S ∧ View S V ∧ Fit k S
theorem nu.called {V : List (Str × List UInt8)} {k : Nat} {S : je} (h : nu V k S) : nu V k (S.called false) := ⟨h.1.called _, h.2.1.called _, h.2.2.called _⟩
theorem Ky {l : List Ref.Ch} (h : Ref.jbt l) : Ref.Laid (Ref.chunks l) := by
 refine Ref.Uz h.some h.allowed h.rising ?_ (by have := h.few; omega)
 have h1 := Ref.Xx h.allowed ((l.length + 3) / 4)
 unfold Ref.zq at h1
 rw [← Ref.Y0, List.take_length] at h1
 have h2 := Ref.Y0 l
 have := h.few
 omega
theorem jdd {α β : Type} : ∀ {l : List α} {m : List β} {k : Nat} {a : α} {b : β}, l[k]? = some a → m[k]? = some b → (a, b) ∈ l.zip m
 | x :: r, y :: q, 0, a, b, h1, h2 => by cases h1; cases h2; simp
 | x :: r, y :: q, k + 1, a, b, h1, h2 => by
   rw [List.getElem?_cons_succ] at h1 h2
   exact List.mem_cons_of_mem _ (jdd h1 h2)
 | [], _, _, _, _, h1, _ => by cases h1
 | x :: r, [], _, _, _, _, h2 => by cases h2
theorem Dv {s : Ref.St} (h : s.Ok) {V : List (Str × List UInt8)} (hV : ∀ p ∈ yo s.m.settled s.bls, p ∈ V) {k : Nat} (hk : k < 549755813888) : cz (nu V k) s.m.settled (s.bls.map Ref.chunks) := by
 refine ⟨by rw [List.length_map]; exact h.len, fun n hn => ?_, fun bl hbl => ?_, fun i n bl hn hbl S hS => ?_, fun S hS => ⟨hS.called, hS.2.2.small hk⟩⟩
 · have h1 := h.Z6 hn
   have h2 := h.good.1
   omega
 · obtain ⟨l, hl, rfl⟩ := List.mem_map.1 hbl
   have h0 := h.bl l hl
   have h1 := Ref.Xr h0.allowed
   have h2 := h0.few
   refine ⟨?_, ?_, Ky h0⟩
   · have h3 : (Ref.Je (Ref.chunks l)).length ≤ 67 * l.length + 300 := h1
     omega
   · rw [Ref.Ya]
     omega
 · rw [List.getElem?_map] at hbl
   obtain ⟨l, hl, rfl⟩ := Option.map_eq_some_iff.1 hbl
   obtain ⟨f, a, h1, h2, h3⟩ := hS.2.1.get (hV _ (rq.2 ⟨(n, l), jdd hn hl, rfl⟩))
   exact ⟨Ky (h.bl l (List.mem_of_getElem? hl)), f, a, h1, h2, h3⟩
theorem N9 (hi : Str) (st : Jz) (r : List Jz) (S : je) : gathered hi (st :: r) S =
   (match Zb hi (st S) with
    | none => ((st S).1, .inr ((st S).2.2.getD false))
    | some l => match gathered hi r (st S).1 with | (S2, .inl ls) => (S2, .inl (l :: ls)) | (S2, .inr b) => (S2, .inr b)) := rfl
theorem Ll (hi lo : Str) (bls : List (List (List Ref.Ch))) {V : List (Str × List UInt8)} {k : Nat} : ∀ {S : je}, nu V k S → ∃ S', nu V k S' ∧ gathered hi (y7 bls lo) S = (S', .inl (bls.map (fun bl => upTo hi (bl.flatten.filter (Ref.qh lo))))) := by
 induction bls with
 | nil => intro S h; exact ⟨S, h, rfl⟩
 | cons bl r ih =>
   intro S h
   obtain ⟨S', h', e⟩ := ih h.called
   refine ⟨S', h', ?_⟩
   have hb := h.1.bad
   have e1 : l7 bl lo S = (S.called false, bl.flatten.filter (Ref.qh lo), none) := by
     unfold l7 E9 gz
     rw [hb]
     rfl
   show gathered hi (l7 bl lo :: y7 r lo) S = _
   unfold gathered
   rw [e1]
   have e2 : Zb hi (S.called false, bl.flatten.filter (Ref.qh lo), none) = some (upTo hi (bl.flatten.filter (Ref.qh lo))) := by unfold Zb; rw [if_pos (.inl rfl)]
   rw [e2]
   simp only [e]
   rfl
theorem jc1 (lo : Str) (bls : List (List (List Ref.Ch))) {V : List (Str × List UInt8)} {k : Nat} : ∀ {S : je}, nu V k S → (Xv (y7 bls lo) S).2 = none := by
 induction bls with
 | nil => intro S h; rfl
 | cons bl r ih =>
   intro S h
   have hb := h.1.bad
   show (Xv (l7 bl lo :: y7 r lo) S).2 = none
   rw [tq]
   have e1 : (l7 bl lo S).2.2 = none := by unfold l7 gz; rw [hb]; rfl
   rw [e1]
   exact ih h.called
def Y6 (lo hi k : Str) : Bool := decide (¬ k < lo) && (decide (hi = []) || decide (k < hi))
theorem Te {l : List Ref.Ch} (h : Ref.ji l) (hi : Str) : upTo hi l = l.filter (Ej hi) := Ref.takeWhile_filter h hi
theorem Gg {l : List Ref.Ch} (h : Ref.ji l) (lo hi : Str) : upTo hi (l.filter (Ref.qh lo)) = l.filter (fun c => Y6 lo hi c.key) := by
 rw [Te (Ref.Qy h _), List.filter_filter]
 refine List.filter_congr (fun c _ => ?_)
 unfold Ej Ref.qh Y6
 rw [Bool.and_comm]
theorem jab (l : List Ref.Ch) : kept l = Ref.there l := rfl
theorem jd9 {s : Ref.St} (h : s.Ok) : ∀ l ∈ s.bls, Ref.ji l := fun l hl => (h.bl l hl).rising
theorem jbd {s : Ref.St} (h : s.Ok) (lo hi : Str) : (s.bls.map Ref.chunks).map (fun bl => upTo hi (bl.flatten.filter (Ref.qh lo))) = s.bls.map (fun l => l.filter (fun c => Y6 lo hi c.key)) := by
 rw [List.map_map]
 refine List.map_congr_left (fun l hl => ?_)
 show upTo hi ((Ref.chunks l).flatten.filter (Ref.qh lo)) = _
 rw [Ref.Ya, Gg (jd9 h l hl)]
theorem je9 {s : Ref.St} (h : s.Ok) (lo hi : Str) (most : Nat) : (kept (Ref.merged (s.mem.filter (fun c => Y6 lo hi c.key) :: s.bls.map (fun l => l.filter (fun c => Y6 lo hi c.key))))).take most = Ref.wu s.all lo hi most := by
 have e := Ref.Cb (ls := s.mem :: s.bls) (fun l hl => by
   rcases List.mem_cons.1 hl with rfl | hl
   · exact Ref.yn _
   · exact jd9 h l hl) (Y6 lo hi)
 rw [List.map_cons] at e
 rw [e, jab]
 unfold Ref.wu Ref.there Ref.Sa Ref.St.all
 rw [List.filter_filter, List.filter_filter]
 congr 1
 refine List.filter_congr (fun c _ => ?_)
 unfold Y6
 rw [Bool.and_comm]
theorem Uh {s : Ref.St} (h : s.Ok) (lo hi : Str) : (Ref.merged (s.mem.filter (fun c => Y6 lo hi c.key) :: s.bls.map (fun l => l.filter (fun c => Y6 lo hi c.key)))).length ≤ s.all.length := by
 have e := Ref.Cb (ls := s.mem :: s.bls) (fun l hl => by
   rcases List.mem_cons.1 hl with rfl | hl
   · exact Ref.yn _
   · exact jd9 h l hl) (Y6 lo hi)
 rw [List.map_cons] at e
 rw [e]
 exact List.length_filter_le _ _
theorem Ou {s : Ref.St} (h : s.Ok) (hl : s.mem.length < 60000) : oh s.mem := by
 refine ⟨Ref.yn _, fun c hc e => ?_, by omega⟩
 obtain ⟨b, hb, hcb⟩ := Ref.ry hc
 have := (Ref.Jo c).1 (((Ref.Jb b).1 (h.log b hb)).2.2 c hcb)
 rw [e] at this
 exact absurd this.1 (by decide)
theorem jem {E : Nat → Addr} {B : Nat} {w : World} {ρ : Nat → jw} {d b k : Nat} {s : Ref.St} {rv mv : Value} (S : x8 E B w ρ d b s k rv mv) (hk : k < 549755813888) (hl : (Ref.merged s.bls).length < 60000) :
   Calls Tryz.prog 119 #[.pointer (some ⟨b, 0, none⟩)] w fun e w' => ∃ v, e = .returned (.tuple #[v, .nilIface]) ∧ w'.ownsRow w.heap.size 88 3 v s.live.length (jg s.live) ∧ yf w ρ w' ρ ∧ DW E B w' ρ d s.files k := by
 obtain ⟨T, D, h2, h3, h4⟩ := S.disk
 have hP : nu s.files k T := ⟨h2, h3, h4⟩
 have R := Dv S.ok (V := s.files) (fun p hp => yj.2 (.inr (.inr hp))) hk
 obtain ⟨T', hT', e⟩ := Ll [] [] (s.bls.map Ref.chunks) hP
 have e2 : (s.bls.map Ref.chunks).map (fun bl => upTo [] (bl.flatten.filter (Ref.qh []))) = s.bls := by
   rw [jbd S.ok]
   have : ∀ l ∈ s.bls, l.filter (fun c => Y6 [] [] c.key) = l := fun l _ => List.filter_eq_self.2 (fun c _ => by simp [Y6])
   rw [List.map_congr_left this, List.map_id']
 rw [e2] at e
 have hm : Q6 (gathered [] (y7 (s.bls.map Ref.chunks) []) T) = Ref.merged s.bls := by rw [e]; rfl
 have he : Hr (gathered [] (y7 (s.bls.map Ref.chunks) []) T) = none := by rw [e]; rfl
 have hrl := S.ok.runs
 refine (jen s.m rv (jf s.last) mv false false (s.bls.map Ref.chunks) S.env D hP R S.row S.runs (by omega) (by rw [hm]; omega)).mono ?_
 rintro e' w' ⟨v, ev, rfl, kk, D', ⟨rfl, _, hr⟩ | ⟨bad, hbad, _⟩⟩
 · rw [hm] at hr
   refine ⟨v, rfl, hr, ⟨kk, fun _ _ => rfl⟩, T', ?_, hT'.1, hT'.2.1, hT'.2.2⟩
   rw [e] at D'
   exact D'
 · rw [he] at hbad
   cases hbad
theorem x8.read {E : Nat → Addr} {B : Nat} {w w' : World} {ρ : Nat → jw} {d b k : Nat} {s : Ref.St} {rv mv : Value} (S : x8 E B w ρ d b s k rv mv) (kk : ja w w' (fun i => j6 ρ i ∨ i = b)) (D : DW E B w' ρ d s.files k) (hrow : w'.heap[b]? = some (.cells (I5 d s.m rv s.last mv) 121 (0, 0))) :
   x8 E B w' ρ d b s k rv mv ∧ ja w w' (StF ρ b mv) := by
 have kS : ja w w' (StF ρ b mv) := kk.mono (fun i _ h => h.imp id .inl)
 refine ⟨⟨S.env.keep (kS.mono (fun i hi h => (show B ≤ i from (StF.old S h).1))) (fun i h => h), D, hrow, S.runs.keep kk (fun _ p n c e t => ?_), kk.row S.mem (fun g hg t => ?_), S.nb, fun p n c e => ?_, S.nm, S.ok, S.few⟩, kS⟩
 · obtain ⟨a1, a2, a3, a4, a5⟩ := S.nr p n c e
   exact t.elim (fun t => t a1) a2
 · exact t.elim (fun t => t (S.nm g hg).1) (S.nm g hg).2
 · obtain ⟨a1, a2, a3, a4, a5⟩ := S.nr p n c e
   exact ⟨a1, a2, a3, a4, Nat.lt_of_lt_of_le a5 kk.size⟩
theorem jgw {E : Nat → Addr} {B : Nat} {w : World} {ρ : Nat → jw} {d b k : Nat} {s : Ref.St} {rv mv : Value} (S : x8 E B w ρ d b s k rv mv) (hk : k < 549755813888) (hl : s.all.length < 1048576) (lo hi : Str) (most : Nat) (hmost : most < 9223372036854775808) :
   Calls Tryz.prog 29 #[.pointer (some ⟨b, 0, none⟩), jc lo, jc hi, j4 most] w fun e w' => (∃ v, e = .returned (.tuple #[v, .int .i64 0]) ∧ w'.ownsRow w.heap.size 65 2 v (Ref.wu s.all lo hi most).length (qj (Ref.wu s.all lo hi most))) ∧ x8 E B w' ρ d b s k rv mv ∧ ja w w' (StF ρ b mv) := by
 obtain ⟨T, D, h2, h3, h4⟩ := S.disk
 have hP : nu s.files k T := ⟨h2, h3, h4⟩
 have R := Dv S.ok (V := s.files) (fun p hp => yj.2 (.inr (.inr hp))) hk
 obtain ⟨T', hT', e⟩ := Ll hi lo (s.bls.map Ref.chunks) hP
 rw [jbd S.ok] at e
 have hdr : s.mem.drop (Ref.below s.mem lo) = s.mem.filter (Ref.qh lo) := Ref.Db (Ref.yn _) lo
 have eG : gathered hi (Yc (s.mem.drop (Ref.below s.mem lo)) :: y7 (s.bls.map Ref.chunks) lo) T = (T', .inl (s.mem.filter (fun c => Y6 lo hi c.key) :: s.bls.map (fun l => l.filter (fun c => Y6 lo hi c.key)))) := by
   rw [N9]
   have e1 : Zb hi (Yc (s.mem.drop (Ref.below s.mem lo)) T) = some (s.mem.filter (fun c => Y6 lo hi c.key)) := by
     unfold Zb Yc
     rw [if_pos (.inl rfl), hdr]
     show some (upTo hi (s.mem.filter (Ref.qh lo))) = _
     rw [Gg (l := s.mem) (Ref.yn _)]
   have e3 : (Yc (s.mem.drop (Ref.below s.mem lo)) T).1 = T := rfl
   rw [e1, e3, e]
 have hrl := S.ok.runs
 have hm : Q6 (gathered hi (Yc (s.mem.drop (Ref.below s.mem lo)) :: y7 (s.bls.map Ref.chunks) lo) T) = Ref.merged (s.mem.filter (fun c => Y6 lo hi c.key) :: s.bls.map (fun l => l.filter (fun c => Y6 lo hi c.key))) := by rw [eG]; rfl
 have he : Hr (gathered hi (Yc (s.mem.drop (Ref.below s.mem lo)) :: y7 (s.bls.map Ref.chunks) lo) T) = none := by rw [eG]; rfl
 have hlen := Uh S.ok lo hi
 refine (jdo s.m rv (jf s.last) mv s.mem false (s.bls.map Ref.chunks) S.env D hP R S.row (fun h => h S.nb.1) S.nb.2 S.runs (by omega) (Jk S.mem) (Ou S.ok S.few) (fun p n c e => ?_) lo hi most hmost (by rw [hm]; omega)).mono ?_
 · have hb' : mv.ownBlock = some p.block := by rw [e]; rfl
   exact ⟨fun t => t (S.nm _ hb').1, (S.mem.lt _ hb').2⟩
 · rintro e' w' ⟨kk, D', ⟨v, rfl, _, hr, hrow⟩ | ⟨hne, _, _⟩⟩
   · rw [hm, je9 S.ok] at hr
     rw [eG] at D'
     exact ⟨⟨v, rfl, hr⟩, S.read kk ⟨T', D', hT'.1, hT'.2.1, hT'.2.2⟩ hrow⟩
   · exact (hne he).elim
theorem jct {l : List Ref.Ch} (h : Ref.ji l) (key : Str) : (l.filter (Ref.qh key)).head?.filter (fun c => decide (c.key = key)) = Ref.xw l key := by
 have e : l.filter (Ref.qh key) = l.drop (Ref.below l key) := (Ref.Db h key).symm
 rw [e, List.head?_drop, Ref.jcu h]
theorem Gn {key : Str} {st : Jz} {r : List Jz} {S : je} {l : List Ref.Ch} {T : je} (h : Ref.ji l) (e : st S = (T, l.filter (Ref.qh key), none)) :
   Jp key (st :: r) S = (match Ref.xw l key with | some c => (T, .inl (some c)) | none => Jp key r T) := by
 have hp := jct h key
 rw [fw, e]
 cases hc : l.filter (Ref.qh key) with
 | nil =>
   rw [hc] at hp
   rw [← hp]
   rfl
 | cons c q =>
   rw [hc] at hp
   rw [← hp]
   by_cases hk : c.key = key
   · simp [hk, Option.filter]
   · simp [hk, Option.filter]
theorem jak (key : Str) {V : List (Str × List UInt8)} {k : Nat} : ∀ (ls : List (List Ref.Ch)), (∀ l ∈ ls, Ref.ji l) → ∀ {S : je}, nu V k S → (Jp key (y7 (ls.map Ref.chunks) key) S).2 = .inl (Ref.su ls key) := by
 intro ls
 induction ls with
 | nil => intro _ S _; rfl
 | cons l r ih =>
   intro hr S h
   have hb := h.1.bad
   have e1 : l7 (Ref.chunks l) key S = (S.called false, l.filter (Ref.qh key), none) := by
     unfold l7 E9 gz
     rw [hb, Ref.Ya]
     rfl
   show (Jp key (l7 (Ref.chunks l) key :: y7 (r.map Ref.chunks) key) S).2 = _
   rw [Gn (hr l List.mem_cons_self) e1, Ref.Xh]
   cases hg : Ref.xw l key with
   | some c => rfl
   | none => exact ih (fun x hx => hr x (List.mem_cons_of_mem _ hx)) h.called
theorem jez {s : Ref.St} (h : s.Ok) (key : Str) {V : List (Str × List UInt8)} {k : Nat} {S : je} (hS : nu V k S) : (Jp key (Yc (s.mem.drop (Ref.below s.mem key)) :: y7 (s.bls.map Ref.chunks) key) S).2 = .inl (Ref.xw s.all key) := by
 have hdr : s.mem.drop (Ref.below s.mem key) = s.mem.filter (Ref.qh key) := Ref.Db (Ref.yn _) key
 have hall : ∀ l ∈ s.mem :: s.bls, Ref.ji l := fun l hl => by
   rcases List.mem_cons.1 hl with rfl | hl
   · exact Ref.yn _
   · exact jd9 h l hl
 rw [Gn (l := s.mem) (T := S) (Ref.yn _) (by unfold Yc; rw [hdr])]
 unfold Ref.St.all
 rw [Ref.Yj hall, Ref.Xh]
 cases hg : Ref.xw s.mem key with
 | some c => rfl
 | none => exact jak key s.bls (jd9 h) hS
theorem jhl {E : Nat → Addr} {B : Nat} {w : World} {ρ : Nat → jw} {d b k : Nat} {s : Ref.St} {rv mv : Value} (S : x8 E B w ρ d b s k rv mv) (hk : k < 549755813888) (key : Str) :
   Calls Tryz.prog 33 #[.pointer (some ⟨b, 0, none⟩), jc key] w fun e w' => e = .returned (.tuple #[jc (Hm (Ref.xw s.all key)).1, .bool (Hm (Ref.xw s.all key)).2, .int .i64 0]) ∧ x8 E B w' ρ d b s k rv mv ∧ ja w w' (StF ρ b mv) := by
 obtain ⟨T, D, h2, h3, h4⟩ := S.disk
 have hP : nu s.files k T := ⟨h2, h3, h4⟩
 have R := Dv S.ok (V := s.files) (fun p hp => yj.2 (.inr (.inr hp))) hk
 have hrl := S.ok.runs
 refine (jf8 s.m rv (jf s.last) mv s.mem false (s.bls.map Ref.chunks) S.env D hP R S.row (fun h => h S.nb.1) S.nb.2 S.runs (by omega) (Jk S.mem) (Ou S.ok S.few) (fun p n c e => ?_) key).mono ?_
 · have hb' : mv.ownBlock = some p.block := by rw [e]; rfl
   exact ⟨fun t => t (S.nm _ hb').1, (S.mem.lt _ hb').2⟩
 · rintro e' w' ⟨kk, D', hG, ⟨o, ho, rfl, hrow⟩ | ⟨bad, ho, _⟩⟩
   · rw [jez S.ok key hP] at ho
     cases ho
     exact ⟨rfl, S.read kk ⟨_, D', hG.1, hG.2.1, hG.2.2⟩ hrow⟩
   · rw [jez S.ok key hP] at ho
     cases ho
end Go.Proofs.YtnipbplghijdmaaGreatDoor
namespace Go.Proofs.YtnipbplghijdmaaGreatDoor
open Go.RowKit Go.Maps Go.WideShapes
set_option linter.unusedVariables false
set_option linter.unusedSimpArgs false
set_option maxHeartbeats 1000000 in
set_option maxRecDepth 100000 in
theorem L8 {E : Nat → Addr} {B : Nat} {w : World} {ρ : Nat → jw} {d b k : Nat} {s : Ref.St} {rv mv : Value} (S : x8 E B w ρ d b s k rv mv) (hk : k < 530000000000) (hrs : s.m.runs ≠ []) (hn : s.m.next + 1 ≤ 2000000000) (hl : (Ref.merged s.bls).length < 60000)
   (hle : s.live = [])
   (hs : 42 + (Ref.ql s.live).length + qm s.files ≤ 20000) :
   Calls Tryz.prog 69 #[.pointer (some ⟨b, 0, none⟩)] w fun e w' => e = .returned .nilIface ∧ Xe E B w ρ d b rv mv s.compact (k + 100000) w' := by
 obtain ⟨pr, cr, hrv, hv'⟩ := id S.runs
 have hrv2 : ∃ n, rv = .slice pr n cr := ⟨_, hrv⟩
 clear hrv hv'
 obtain ⟨nr, rfl⟩ := hrv2
 obtain ⟨n1, hn1e⟩ : ∃ n1, n1 = s.m.next + 1 := ⟨_, rfl⟩
 have HN1 := hide hn1e
 clear hn1e
 have hrow := S.row
 have c1 := cell_of_heap (o := 1) hrow
 have c2 := cell_of_heap (o := 2) hrow
 have c3 := cell_of_heap (o := 3) hrow
 have c4 := cell_of_heap (o := 4) hrow
 have c5 := cell_of_heap (o := 5) hrow
 simp at c1 c2 c3 c4 c5
 have a1 : ∀ o1, (w.alloc o1).cell? ⟨b, 1, none⟩ = some (jf s.m.next) := fun o1 => (ja.alloc w o1 (fun _ => False)).cell c1 id
 have b1 : ∀ o1 o2, ((w.alloc o1).alloc o2).cell? ⟨b, 1, none⟩ = some (jf s.m.next) := fun o1 o2 => ((ja.alloc w o1 (fun _ => False)).more o2).cell c1 id
 have a2 : ∀ o1, (w.alloc o1).cell? ⟨b, 2, none⟩ = some (jf s.m.last) := fun o1 => (ja.alloc w o1 (fun _ => False)).cell c2 id
 have b2 : ∀ o1 o2, ((w.alloc o1).alloc o2).cell? ⟨b, 2, none⟩ = some (jf s.m.last) := fun o1 o2 => ((ja.alloc w o1 (fun _ => False)).more o2).cell c2 id
 have a3 : ∀ o1, (w.alloc o1).cell? ⟨b, 3, none⟩ = some (jf s.m.log) := fun o1 => (ja.alloc w o1 (fun _ => False)).cell c3 id
 have b3 : ∀ o1 o2, ((w.alloc o1).alloc o2).cell? ⟨b, 3, none⟩ = some (jf s.m.log) := fun o1 o2 => ((ja.alloc w o1 (fun _ => False)).more o2).cell c3 id
 have a4 : ∀ o1, (w.alloc o1).cell? ⟨b, 4, none⟩ = some (jf s.m.base) := fun o1 => (ja.alloc w o1 (fun _ => False)).cell c4 id
 have b4 : ∀ o1 o2, ((w.alloc o1).alloc o2).cell? ⟨b, 4, none⟩ = some (jf s.m.base) := fun o1 o2 => ((ja.alloc w o1 (fun _ => False)).more o2).cell c4 id
 have a5 : ∀ o1, (w.alloc o1).cell? ⟨b, 5, none⟩ = some (.slice pr nr cr) := fun o1 => (ja.alloc w o1 (fun _ => False)).cell c5 id
 have b5 : ∀ o1 o2, ((w.alloc o1).alloc o2).cell? ⟨b, 5, none⟩ = some (.slice pr nr cr) := fun o1 o2 => ((ja.alloc w o1 (fun _ => False)).more o2).cell c5 id
 have HLL : Hid (s.live.length < 60000) := by
   have h1 := List.length_filter_le (fun c : Ref.Ch => !c.gone) (Ref.merged s.bls)
   show (Ref.there (Ref.merged s.bls)).length < 60000
   unfold Ref.there
   omega
 have HN := hide hn
 have HL := hide hl
 have HS := hide hs
 have HK := hide hk
 have HRS := hide hrs
 have HROW := hide hrow
 have h0 : s.live.length = 0 := by rw [hle]; rfl
 have HLE := hide hle
 have H0 := hide h0
 clear hrow hn hl hs hk hrs hle h0
 go_enter Tryz.func69, Tryz.ntmps69
 go_wp2_with fail
 go_cut [3, 4] from 10 (fun s3 s4 wc => ∃ (x y : Nat), s3 = .pointer (some ⟨x, 0, none⟩) ∧ s4 = .pointer (some ⟨y, 0, none⟩) ∧ x ≠ y ∧ w.heap.size ≤ x ∧ w.heap.size ≤ y ∧ wc.heap[x]? = some (.cells #[jf s.m.next, jf s.m.last, jf s.m.log, jf s.m.base, .slice pr nr cr] 117 (0, 0)) ∧
   wc.heap[y]? = some (.cells #[jf s.m.next, jf s.m.last, jf s.m.log, jf s.m.base, .slice pr nr cr] 117 (0, 0)) ∧ ja w wc (fun _ => False))
 case first =>
   go_region
   all_goals
     go_wp2
     go_meet
   case rel =>
     obtain ⟨h1, h2, h3⟩ := Z0 w (.cells #[jf s.m.next, jf s.m.last, jf s.m.log, jf s.m.base, .slice pr nr cr] 117)
     first
       | exact ⟨_, _, rfl, rfl, by omega, by omega, by omega, h1, h2, h3⟩
       | exact ⟨_, _, rfl, rfl, by omega, by omega, by omega, h2, h1, h3⟩
   case rel =>
     obtain ⟨h1, h2, h3⟩ := Z0 w (.cells #[jf s.m.next, jf s.m.last, jf s.m.log, jf s.m.base, .slice pr nr cr] 117)
     first
       | exact ⟨_, _, rfl, rfl, by omega, by omega, by omega, h1, h2, h3⟩
       | exact ⟨_, _, rfl, rfl, by omega, by omega, by omega, h2, h1, h3⟩
 case rest =>
   obtain ⟨x, y, rfl, rfl, hxy, hx, hy, hX, hY, kc⟩ := hcut
   clear a1 a2 a3 a4 a5 b1 b2 b3 b4 b5 c1 c2 c3 c4 c5
   have S1 := S.same kc
   have hlv := jem S1 (by have := HK.out; omega) HL.out
   have HLV := hide hlv
   have HX := hide hX
   have HY := hide hY
   have nx0 : ρ x = .none := Classical.byContradiction (fun hn => by have := (S.disk.yt x hn).2; omega)
   have ny0 : ρ y = .none := Classical.byContradiction (fun hn => by have := (S.disk.yt y hn).2; omega)
   clear hlv hX hY
   go_wp2_with fail
   refine HLV.out.mono ?_
   rintro e w2 ⟨v2, rfl, hr2, g2, D2⟩
   obtain ⟨hrow2, _⟩ := g2.row S1.row S1.nb.1
   obtain ⟨S2, _⟩ := S1.read (g2.keeps.mono (fun i _ h => .inl h)) D2 hrow2
   have hY2 := (g2.row HY.out ny0).1
   have hX2 := (g2.row HX.out nx0).1
   have y0 := cell_of_heap (o := 0) hY2
   have y1 := cell_of_heap (o := 1) hY2
   have y2 := cell_of_heap (o := 2) hY2
   have y3 := cell_of_heap (o := 3) hY2
   have y4 := cell_of_heap (o := 4) hY2
   have q3 := frozen_of_heap (o := 3) hY2
   have q4 := frozen_of_heap (o := 4) hY2
   simp at y0 y1 y2 y3 y4
   obtain ⟨w3, hw3⟩ : ∃ w3, w3 = (w2.setCell ⟨y, 3, none⟩ (.int .i64 0)).setCell ⟨y, 4, none⟩ (.slice none 0 0) := ⟨_, rfl⟩
   have k3 : ja w2 w3 (fun i => i = y) := by rw [hw3]; exact (ja.setCell w2 ⟨y, 3, none⟩ _).set (p := ⟨y, 4, none⟩) rfl _
   have hBy : B ≤ y := Nat.le_trans S.disk.size hy
   have hyS : ¬ StF ρ b mv y := fun h => by have := (StF.old S h).2; omega
   have hyr : ∀ p n c, (Value.slice pr nr cr) = .slice (some p) n c → y ≠ p.block := fun p n c e h => by
     have := (S.nr p n c e).2.2.2.2
     omega
   have S3 : x8 E B w3 ρ d b s k (.slice pr nr cr) mv := S2.keep k3 (fun i hi e => by rw [e]; exact ⟨hBy, hyS, hyr⟩)
   have hY3 : w3.heap[y]? = some (.cells #[jf s.m.next, jf s.m.last, jf s.m.log, .int .i64 0, .slice none 0 0] 117 (0, 0)) := by rw [hw3]; exact (jb (jb hY2 _) _).trans rfl
   have hX3 := k3.same hX2 hxy
   have kw3 : ja w w3 (StF ρ b mv) := ((kc.mono (fun _ _ h => h.elim)).trans g2.keeps (fun i _ h => .inl h)).trans k3 (fun i hi e => by omega)
   have hry : v2.ownBlock ≠ some y := fun e => by have := (hr2.lt y e).1; have := lt_of_heap HY.out; omega
   have hr3 := k3.row hr2 (fun g hg e => hry (by rw [← (show g = y from e)]; exact hg))
   have hnv2 : ∀ g, v2.ownBlock = some g → ρ g = .none ∧ w.heap.size ≤ g := fun g hg => by
     have h1 := (hr2.lt g hg).1
     have h2 := kc.size
     exact ⟨Classical.byContradiction (fun hn => by have := (S.disk.yt g hn).2; omega), by omega⟩
   have HKW2 : Hid (ja w w3 (fun i => ρ i ≠ .none ∨ i = b)) := (show ja w w3 _ from ((kc.mono (fun _ _ h => h.elim)).trans g2.keeps (fun i _ h => .inl h)).trans k3 (fun i hi e => by omega))
   have sz3 := kw3.size
   have HX3 := hide hX3
   have HY3 := hide hY3
   have HR3 := hide hr3
   obtain ⟨pv, cv, rfl⟩ := jh hr3
   have hlo := S.ok.good.log
   have hnx := S.ok.good.1
   have HLOB : Hid (s.m.log ≤ 9223372036854775807) := (show s.m.log ≤ 9223372036854775807 from by omega)
   clear hX2 hY2 hX3 hY3 hr2 hr3 hrow2 hlo hnx D2 g2 S2 hry
   rw [H0.out]
   have hkw2 : ja w w3 (fun i => ρ i ≠ .none ∨ i = b) := HKW2.out
   go_wp2_with fail
   rw [← hw3]
   clear hw3 y0 y1 y2 y3 y4 q3 q4
   have hmv : mo s.m.bare (.slice none 0 0) = .agg #[jf s.m.next, jf s.m.last, jf s.m.log, .int .i64 0, .slice none 0 0] := rfl
   have hgood : Ref.Man.Good s.m.bare := S.ok.good.bare
   have hmb : Ref.Man.bytes s.m.bare = Ref.Man.bytes s.m.bare := rfl
   have hmbl : (Ref.Man.bytes s.m.bare).length = 42 := by rw [zt]; rfl
   have hins := Bg S3.disk S3.env s.m.bare hgood (by show ([] : List Nat).length < 65536; decide) (.slice none 0 0) (J2.nil _) (fun p n c e => by cases e) S3.row S3.nb.1 S.nb.2 (fun n hn => by
     unfold qi at hn
     rw [Ref.Man.Eu] at hn
     have e : n = j3 s.m.bare.log := by simpa using hn
     rw [e]
     exact ⟨_, yj.2 (.inr (.inl rfl))⟩) (by rw [hmbl]; have := HS.out; have := yx s.files yh; omega) (by have := HK.out; omega)
   rw [hmv] at hins
   have HINS := hide hins
   clear hins hmv
   refine HINS.out.mono ?_
   rintro e w15 ⟨rfl, ρ15, k15, hρ15, D15, hrow15⟩
   have hxb : x ≠ b := fun e => by have := S.blt; omega
   have hX15 := k15.same HX3.out (fun t => t.elim (fun t => t nx0) hxb)
   have szW := kw3.size
   have sz15 := k15.size
   have hb15 : ρ15 b = .none := (hρ15 b (by have := S.blt; omega)).trans S3.nb.1
   have kw15 : ja w w15 (StF ρ b mv) := kw3.trans k15 (fun i hi h => h.elim (fun h => .inl (by rw [← (fun (i : Nat) (hi : i < w.heap.size) => (rfl : ρ i = ρ i)) i hi]; exact h)) (fun h => .inr (.inl h)))
   have hE15 : Env E B w15 := S.env.keep (kw15.mono (fun i hi h => (show B ≤ i from (StF.old S h).1))) (fun i h => h)
   have hN15 : J2 w15 (.slice pr nr cr) s.m.runs := S.runs.keep kw15 (fun _ p n c e t => by
     obtain ⟨a1, a2, a3, a4, a5⟩ := S.nr p n c e
     rcases t with t | t | t
     · exact t a1
     · exact a2 t
     · exact a4 t)
   have d0 := cell_of_heap (o := 0) hrow15
   have x0 := cell_of_heap (o := 0) hX15
   have x1 := cell_of_heap (o := 1) hX15
   have x2 := cell_of_heap (o := 2) hX15
   have x3 := cell_of_heap (o := 3) hX15
   have x4 := cell_of_heap (o := 4) hX15
   simp at d0 x0 x1 x2 x3 x4
   have d0 : w15.drew.cell? ⟨b, 0, none⟩ = some (.pointer (some ⟨d, 0, none⟩)) := d0
   have x0 : w15.drew.cell? ⟨x, 0, none⟩ = some (jf s.m.next) := x0
   have x1 : w15.drew.cell? ⟨x, 1, none⟩ = some (jf s.m.last) := x1
   have x2 : w15.drew.cell? ⟨x, 2, none⟩ = some (jf s.m.log) := x2
   have x3 : w15.drew.cell? ⟨x, 3, none⟩ = some (jf s.m.base) := x3
   have x4 : w15.drew.cell? ⟨x, 4, none⟩ = some (.slice pr nr cr) := x4
   obtain ⟨ns, hns⟩ : ∃ ns, ns = s.m.settled.length := ⟨_, rfl⟩
   have hsl := ym s.m
   have hrl := S.ok.runs
   have hst : ∀ W, ja w15 W (fun _ => False) → Calls Tryz.prog 121 #[mo s.m (.slice pr nr cr)] W fun e w' => ∃ p c, e = .returned (.slice p ns c) ∧ w'.ownsRow w15.heap.size 3 1 (.slice p ns c) ns (s.m.settled.map jf) ∧ ja W w' (fun _ => False) := fun W kk => by
     rw [hns]
     refine (Y2 W s.m _ (hN15.same kk) (by omega)).mono ?_
     rintro e w' ⟨p, c, rfl, h, k'⟩
     exact ⟨p, c, rfl, xx h kk.size, k'⟩
   have hrns : ∀ (W : World) (v : Value), ja w15 W (fun _ => False) → W.ownsRow w15.heap.size 3 1 v ns (s.m.settled.map jf) → Calls Tryz.prog 120 #[v] W fun e w' => ∃ p c, e = .returned (.slice p ns c) ∧ w'.ownsRow w15.heap.size 9 1 (.slice p ns c) ns ((s.m.settled.map jq).map jc) ∧ ja W w' (fun _ => False) := fun W v kk hr => by
     rw [hns] at hr ⊢
     refine (o6 v s.m.settled (hE15.same kk) (Qh hr rfl) (by omega) (fun n hn => by have := S.ok.Z6 hn; have := S.ok.good.1; omega)).mono ?_
     rintro e w' ⟨p, c, rfl, h, k'⟩
     exact ⟨p, c, rfl, xx h kk.size, k'⟩
   have hrm : ∀ (W : World) (v : Value), ja w15 W (fun _ => False) → W.ownsRow w15.heap.size 9 1 v ns ((s.m.settled.map jq).map jc) → Calls Tryz.prog 118 #[.pointer (some ⟨d, 0, none⟩), v] W fun e w' => e = .returned .nilIface ∧ ∃ ρ', yf w15 ρ15 w' ρ' ∧ DW E B w' ρ' d (Ze s) (k + 100000) := fun W v kk hr => by
     have hnl : (s.m.settled.map jq).length = ns := by rw [List.length_map, hns]
     have hnd : (s.m.settled.map jq).Nodup := by
       refine List.pairwise_map.2 (List.Pairwise.imp ?_ S.ok.oz)
       intro a b hab e
       exact hab (Y4 e)
     refine (Kj (D15.same kk) (by have := HK.out; omega) v (s.m.settled.map jq) w15.heap.size (by rw [hnl]; exact hr) (fun g hg => Classical.byContradiction (fun hn => by have := (hr.lt g hg).1; have := (D15.yt g hn).2; omega)) (fun n hn => Yd S.ok.good n (List.mem_append.2 (.inl hn))) (by rw [hnl]; omega) hnd (fun n hn => ?_)).mono ?_
     · obtain ⟨q, hq, rfl⟩ := List.mem_map.1 hn
       obtain ⟨c, hc⟩ := S.ok.there (jq q) (List.mem_append.2 (.inl hn))
       exact ⟨c, y9.2 (.inr ⟨xu.2 ⟨hc, fun e => Ba _ e.symm⟩, fun e => Zw _ e.symm⟩)⟩
     · rintro e w' ⟨rfl, ρ', g, D'⟩
       refine ⟨rfl, ρ', (yf.of kk (fun _ _ h => h.elim)).trans g, ?_⟩
       have D'' := D'.mono (m := k + 100000) (by rw [hnl, hmbl]; omega)
       have ev : (yu (without s.files yh) qd (Ref.Man.bytes s.m.bare)).filter (fun p => decide (p.1 ∉ s.m.settled.map jq)) = Ze s := by
         unfold Ze
         rw [if_pos HLE.out]
       rw [ev] at D''
       exact D''
   have HST := hide hst
   have HRNS := hide hrns
   have HRM := hide hrm
   have HROW15 := hide hrow15
   have kd : ja w15 w15.drew (fun _ => False) := ja.drew _ _
   clear hst hrns hrm hns hsl hrl hrow15 hX15 hN15
   go_wp2_with fail
   go_region_law (first
     | (refine jo rfl 121 [.tmp 67] _ rfl Xn [mo s.m (.slice pr nr cr)] (by simp [Act.eval, Act.put]) (HST.out _ kd) ?_
        rintro e w16 ⟨p16, c16, rfl, hr16, k16⟩
        have d0 := k16.cell d0 id
        have kd := kd.trans k16 (fun _ _ h => h)
        refine ⟨_, rfl, ?_⟩)
     | (refine jo rfl 120 [.tmp 68] _ rfl bq [.slice p16 ns c16] (by simp [Act.eval, Act.put]) (HRNS.out _ _ kd hr16) ?_
        rintro e w17 ⟨p17, c17, rfl, hr17, k17⟩
        have d0 := k17.cell d0 id
        have kd := kd.trans k17 (fun _ _ h => h)
        refine ⟨_, rfl, ?_⟩)
     | (refine jo rfl 118 [.tmp 66, .tmp 69] _ rfl sw [.pointer (some ⟨d, 0, none⟩), .slice p17 ns c17] (by simp [Act.eval, Act.put]) (HRM.out _ _ kd hr17) ?_
        rintro e w18 ⟨rfl, ρ18, g18, D18⟩
        refine ⟨_, rfl, ?_⟩))
   all_goals
     go_wp2
     go_ret
     have hokc := S.ok.compact (by have := HLL.out; omega) HN.out
     have D19 := D18.perm (Ck S.ok HRS.out hokc)
     have ec : s.compact = ⟨s.m.bare, s.bs, []⟩ := by unfold Ref.St.compact; rw [if_neg HRS.out, if_pos HLE.out]
     obtain ⟨hrow18, hb18⟩ := g18.row HROW15.out hb15
     have hro : ∀ i, i < w.heap.size → ρ18 i = ρ i := fun i hi => (g18.role i (by omega)).trans ((hρ15 i (by omega)).trans ((fun (i : Nat) (hi : i < w.heap.size) => (rfl : ρ i = ρ i)) i (by omega)))
     have kw18 : ja w w18 (StF ρ b mv) := kw15.trans g18.keeps (fun i hi t => .inl (by rw [← (fun (i : Nat) (hi : i < w.heap.size) => (rfl : ρ i = ρ i)) i hi, ← hρ15 i (by omega)]; exact t))
     have kown : w18.ownsRow B 88 3 mv s.mem.length (jg s.mem) := by
       have kk : ja w w18 (fun i => ρ i ≠ .none ∨ i = b) := (hkw2.trans k15 (fun i hi h => h.imp (fun h => by rw [← (fun (i : Nat) (hi : i < w.heap.size) => (rfl : ρ i = ρ i)) i hi]; exact h) id)).trans g18.keeps (fun i hi t => .inl (by rw [← (fun (i : Nat) (hi : i < w.heap.size) => (rfl : ρ i = ρ i)) i hi, ← hρ15 i (by omega)]; exact t))
       exact kk.row S.mem (fun g hg t => t.elim (fun t => t (S.nm g hg).1) (S.nm g hg).2)
     refine ⟨rfl, ρ18, .slice none 0 0, mv, ⟨hE15.keep g18.keeps (fun i t => (D15.yt i t).1), D19, ?_, ?_, ?_, ⟨hb18, S.nb.2⟩, fun p n c e => (by cases e), fun g hg => ⟨by rw [hro g (S.mem.lt g hg).2]; exact (S.nm g hg).1, (S.nm g hg).2⟩, hokc, ?_⟩, kw18, hro, fun g hg => .inl hg, fun p n c e => (by cases e)⟩
     · rw [ec]
       exact hrow18
     · rw [ec]
       exact J2.nil _
     · rw [ec]
       exact kown
     · rw [ec]
       exact S.few
end Go.Proofs.YtnipbplghijdmaaGreatDoor
