/-
  Pa: OpenW OwnW KeepA KeepB KeepC Fine SureW ScanNeg.
-/
import Derived.Defers
import Derived.Test.YtnipbplghijdmaaGreatDoorPa34
import Derived.Test.YtnipbplghijdmaaGreatDoorPa15
import Derived.Test.YtnipbplghijdmaaGreatDoorPa14
import Derived.Test.YtnipbplghijdmaaGreatDoorPa12
import Derived.Test.YtnipbplghijdmaaGreatDoorPa19
import Derived.Test.YtnipbplghijdmaaGreatDoorPa32
import Derived.Test.YtnipbplghijdmaaGreatDoorPa33
namespace Go.Proofs.YtnipbplghijdmaaGreatDoor
open Go.RowKit Go.Maps Go.WideShapes
set_option linter.unusedVariables false
set_option linter.unusedSimpArgs false
set_option maxRecDepth 100000 in
theorem shutAfter_nil (b x : Nat) (u : FrameMode) (w : World) (h : w.cell? ⟨x, 0, none⟩ = some .nilIface) :
   CallsD Tryz.prog 127 #[.pointer (some ⟨b, 0, none⟩), .pointer (some ⟨x, 0, none⟩)] u w fun e u' w' => u' = u ∧ e = .returned (.tuple #[]) ∧ w' = w := by
 go_enter_d Tryz.func127, Tryz.ntmps127
 go_wp2
 go_end0
 exact ⟨rfl, rfl⟩
set_option maxHeartbeats 1000000 in
set_option maxRecDepth 100000 in
theorem open_none_w {E : Nat → Addr} {B : Nat} {w : World} {ρ : Nat → Role} {d b k : Nat} {V : List (Str × List UInt8)} (D : DW E B w ρ d V k) (H : Env E B w) (hk : k + V.length < 530000000000) (hno : ∀ c, (manifestName, c) ∉ V) (hb : w.heap[b]? = some (.cells (newRow d) 121 (0, 0))) (hρb : ρ b = .none) (hBb : B ≤ b) :
   Calls Tryz.prog 83 #[.pointer (some ⟨b, 0, none⟩)] w fun e w' => e = .returned .nilIface ∧ OpenedAs E B w ρ d b Ref.St.first (k + V.length + 1000) w' := by
 obtain ⟨x, hx⟩ : ∃ x, x = w.heap.size := ⟨_, rfl⟩
 obtain ⟨w1, hw1⟩ : ∃ w1, w1 = w.alloc (.cells #[.nilIface] 128) := ⟨_, rfl⟩
 have k1 : Keeps w w1 (fun _ => False) := by rw [hw1]; exact Keeps.alloc _ _ _
 have hX1 : w1.heap[x]? = some (.cells #[.nilIface] 128 (0, 0)) := by rw [hw1, hx]; exact heap_alloc_top _ _
 have hb1 := k1.same hb id
 have hblt := lt_of_heap hb
 have nx0 : ρ x = .none := Classical.byContradiction (fun hn => by have := (D.roles x hn).2; omega)
 have D1 := D.same k1
 have hrd := read_none_w D1 (by omega) manifestName (by decide) hno
 have c0 := cell_of_heap (o := 0) hb1
 simp at c0
 have c0a : ∀ o, (w.alloc o).cell? ⟨b, 0, none⟩ = some (.pointer (some ⟨d, 0, none⟩)) := fun o => by
   have := cell_of_heap (o := 0) ((Keeps.alloc w o (fun _ => False)).same hb id)
   simpa using this
 have HRD := hide hrd
 have HX := hide hx
 have HX1 := hide hX1
 have HB1 := hide hb1
 have HK := hide hk
 clear hrd hx hX1 hb1 hb hk
 go_enter_defers Tryz.func83, Tryz.ntmps83
 go_wp2_with fail
 rw [← hw1, ← HX.out]
 clear hw1 c0a
 refine HRD.out.mono ?_
 rintro e w2 ⟨g2, D2, v2, rfl, hv2⟩
 obtain ⟨tv, av, rfl⟩ := hv2.shape
 have hX2 := (g2.row HX1.out nx0).1
 have hb2 := (g2.row HB1.out hρb).1
 have hxb : x ≠ b := by have := HX.out; omega
 obtain ⟨w3, hw3⟩ : ∃ w3, w3 = w2.setCell ⟨x, 0, none⟩ (.iface tv (.pointer (some av))) := ⟨_, rfl⟩
 have k3 : Keeps w2 w3 (fun i => i = x) := by rw [hw3]; exact Keeps.setCell w2 ⟨x, 0, none⟩ _
 have hX3 : w3.heap[x]? = some (.cells #[.iface tv (.pointer (some av))] 128 (0, 0)) := by rw [hw3]; exact (heap_setCell_at hX2 _).trans rfl
 have hb3 := k3.same hb2 (Ne.symm hxb)
 have hBx : B ≤ x := by rw [HX.out]; exact D.size
 have D3 : DW E B w3 ρ d V k := D2.keep k3 (fun i _ e => by rw [e]; exact ⟨nx0, hBx⟩)
 have hv3 : Err E w3 (.iface tv (.pointer (some av))) 2 := hv2.keep k3 (fun i c e hc => by rw [e, hX2] at hc; cases hc)
 have his := is_any D3.sent hv3 2 (by decide)
 rw [decide_eq_true rfl] at his
 have gc := D3.sent.cell 2 (by decide)
 have gc2 := D2.sent.cell 2 (by decide)
 have hgl := D2.sent.lt 2 (by decide)
 have hne1 : ¬ x = 2 := by omega
 have hne2 : ¬ 2 = x := by omega
 have x2 := cell_of_heap (o := 0) hX2
 have f2 := frozen_of_heap (o := 0) hX2
 have x3 := cell_of_heap (o := 0) hX3
 simp at x2 x3
 have kw3 : Keeps w w3 (fun i => ρ i ≠ .none ∨ i = b) := ((k1.mono (fun _ _ h => h.elim)).trans g2.keeps (fun i _ h => .inl h)).trans k3 (fun i hi e => by have := HX.out; omega)
 have E3 : Env E B w3 := H.keep (kw3.mono (fun i hi h => (show B ≤ i from h.elim (fun h => (D.roles i h).1) (fun h => by rw [h]; exact hBb)))) (fun i h => h)
 have hbg := begin_w D3 E3 HK.out hb3 hρb hBb
 have HIS := hide his
 have HBG := hide hbg
 have HX3 := hide hX3
 clear his hbg hX2 hX3 hb2 hb3 hv2 hv3 c0
 go_wp2_with fail
 rw [← hw3]
 clear hw3
 refine HIS.out.mono ?_
 rintro e w4 ⟨rfl, rfl⟩
 go_wp2_with fail
 refine HBG.out.mono ?_
 rintro e w5 ⟨rfl, ρ5, rv5, mv5, S5, k5, hρ5, hm5, hrv5⟩
 have hX5 := k5.same HX3.out (fun t => t.elim (fun t => t nx0) hxb)
 have x5 := cell_of_heap (o := 0) hX5
 have f5 := frozen_of_heap (o := 0) hX5
 simp at x5
 obtain ⟨w6, hw6⟩ : ∃ w6, w6 = w5.setCell ⟨x, 0, none⟩ .nilIface := ⟨_, rfl⟩
 have k6 : Keeps w5 w6 (fun i => i = x) := by rw [hw6]; exact Keeps.setCell w5 ⟨x, 0, none⟩ _
 have hX6 : w6.heap[x]? = some (.cells #[.nilIface] 128 (0, 0)) := by rw [hw6]; exact (heap_setCell_at hX5 _).trans rfl
 have x6 := cell_of_heap (o := 0) hX6
 simp at x6
 have hxlt : x < w4.heap.size := lt_of_heap HX3.out
 have S6 : StoreAt E B w6 ρ5 d b Ref.St.first (k + V.length + 1000) rv5 mv5 := S5.keep k6 (fun i _ e => by
   rw [e]
   refine ⟨hBx, fun t => ?_, fun p n c e2 e3 => ?_⟩
   · rcases t with t | t | t
     · rw [hρ5 x hxlt] at t; exact t nx0
     · exact hxb t
     · have := hm5 x t; omega
   · have := hrv5 p n c e2; omega)
 have hfin : OpenedAs E B w ρ d b Ref.St.first (k + V.length + 1000) w6 := by
   have sz3 := kw3.size
   refine ⟨ρ5, rv5, mv5, S6, (kw3.trans k5 (fun i hi h => h)).trans k6 (fun i hi e => by have := HX.out; omega), fun i hi => hρ5 i (by omega), fun g hg => by have := hm5 g hg; omega, fun p n c e => by have := hrv5 p n c e; omega⟩
 have HFIN := hide hfin
 have HX6 := hide hX6
 clear hfin hX5 hX6
 go_wp2
 rw [← hw6]
 refine leaves_cons (f := 127) (args := #[.pointer (some ⟨b, 0, none⟩), .pointer (some ⟨x, 0, none⟩)]) (by simp) (by simp [go_sem]) ?_
 refine (shutAfter_nil b x .returning _ x6).mono ?_
 rintro e u' w' ⟨rfl, rfl, rfl⟩
 exact ⟨.nilIface, results_err rfl rfl HX6.out, rfl, HFIN.out⟩
set_option maxHeartbeats 1000000 in
set_option maxRecDepth 100000 in
theorem open_some_w {E : Nat → Addr} {B : Nat} {w : World} {ρ : Nat → Role} {d b k : Nat} {V : List (Str × List UInt8)} (D : DW E B w ρ d V k) (H : Env E B w) (hk : k + V.length < 530000000000) (s : Ref.St) (ok : s.Ok) (hV : ∀ p ∈ s.files, p ∈ V) (hsz : vsize V ≤ 20000) (hfew : s.mem.length < 60000)
   (hb : w.heap[b]? = some (.cells (newRow d) 121 (0, 0))) (hρb : ρ b = .none) (hBb : B ≤ b) :
   Calls Tryz.prog 83 #[.pointer (some ⟨b, 0, none⟩)] w fun e w' => e = .returned .nilIface ∧ OpenedAs E B w ρ d b s (k + V.length) w' := by
 obtain ⟨x, hx⟩ : ∃ x, x = w.heap.size := ⟨_, rfl⟩
 obtain ⟨w1, hw1⟩ : ∃ w1, w1 = w.alloc (.cells #[.nilIface] 128) := ⟨_, rfl⟩
 have k1 : Keeps w w1 (fun _ => False) := by rw [hw1]; exact Keeps.alloc _ _ _
 have hX1 : w1.heap[x]? = some (.cells #[.nilIface] 128 (0, 0)) := by rw [hw1, hx]; exact heap_alloc_top _ _
 have hb1 := k1.same hb id
 have hblt := lt_of_heap hb
 have nx0 : ρ x = .none := Classical.byContradiction (fun hn => by have := (D.roles x hn).2; omega)
 have D1 := D.same k1
 have hrd := read_w D1 (by omega) manifestName (by decide) (hV _ (mem_files.2 (.inl rfl)))
 have c0 := cell_of_heap (o := 0) hb1
 simp at c0
 have c0a : ∀ o, (w.alloc o).cell? ⟨b, 0, none⟩ = some (.pointer (some ⟨d, 0, none⟩)) := fun o => by
   have := cell_of_heap (o := 0) ((Keeps.alloc w o (fun _ => False)).same hb id)
   simpa using this
 have HRD := hide hrd
 have HX := hide hx
 have HX1 := hide hX1
 have HB1 := hide hb1
 have HK := hide hk
 have HSZ := hide hsz
 have HFEW := hide hfew
 clear hrd hx hX1 hb1 hb hk hsz hfew
 go_enter_defers Tryz.func83, Tryz.ntmps83
 go_wp2_with fail
 rw [← hw1, ← HX.out]
 clear hw1 c0a
 refine HRD.out.mono ?_
 rintro e w2 ⟨g2, D2, v2, rfl, hr2⟩
 obtain ⟨p2, c2, rfl⟩ := slice_of_row hr2
 have hX2 := (g2.row HX1.out nx0).1
 have hb2 := (g2.row HB1.out hρb).1
 have hxb : x ≠ b := by have := HX.out; omega
 obtain ⟨w3, hw3⟩ : ∃ w3, w3 = w2.setCell ⟨x, 0, none⟩ .nilIface := ⟨_, rfl⟩
 have k3 : Keeps w2 w3 (fun i => i = x) := by rw [hw3]; exact Keeps.setCell w2 ⟨x, 0, none⟩ _
 have hX3 : w3.heap[x]? = some (.cells #[.nilIface] 128 (0, 0)) := by rw [hw3]; exact (heap_setCell_at hX2 _).trans rfl
 have hb3 := k3.same hb2 (Ne.symm hxb)
 have hBx : B ≤ x := by rw [HX.out]; exact D.size
 have D3 : DW E B w3 ρ d V k := D2.keep k3 (fun i _ e => by rw [e]; exact ⟨nx0, hBx⟩)
 have gc2 := D2.sent.cell 2 (by decide)
 have gc3 := D3.sent.cell 2 (by decide)
 have hgl := D2.sent.lt 2 (by decide)
 have hne1 : ¬ x = 2 := by omega
 have hne2 : ¬ 2 = x := by omega
 have x2 := cell_of_heap (o := 0) hX2
 have f2 := frozen_of_heap (o := 0) hX2
 have x3 := cell_of_heap (o := 0) hX3
 simp at x2 x3
 have kw3 : Keeps w w3 (fun i => ρ i ≠ .none ∨ i = b) := ((k1.mono (fun _ _ h => h.elim)).trans g2.keeps (fun i _ h => .inl h)).trans k3 (fun i hi e => by have := HX.out; omega)
 have E3 : Env E B w3 := H.keep (kw3.mono (fun i hi h => (show B ≤ i from h.elim (fun h => (D.roles i h).1) (fun h => by rw [h]; exact hBb)))) (fun i h => h)
 have hr3 := k3.row hr2 (fun g hg e => by have h1 := (hr2.lt g hg).1; have h2 := lt_of_heap HX1.out; have e' : g = x := e; omega)
 have hld := load_w D3 E3 HK.out s ok hV HSZ.out HFEW.out hb3 hρb hBb (.slice p2 s.m.bytes.length c2) (bytes_of_row hr3)
 obtain ⟨nb, hnb⟩ : ∃ nb, nb = s.m.bytes.length := ⟨_, rfl⟩
 rw [← hnb] at hld ⊢
 have HLD := hide hld
 have HX3 := hide hX3
 clear hld hX2 hX3 hb2 hb3 hr2 hr3 c0 hnb
 go_wp2_with fail
 rw [← hw3]
 refine (is_nil _ _).mono ?_
 rintro e w4 ⟨rfl, h4⟩
 subst h4
 clear hw3
 go_wp2_with fail
 refine HLD.out.mono ?_
 rintro e w5 ⟨rfl, ρ5, rv5, mv5, S5, k5, hρ5, hm5, hrv5⟩
 have hX5 := k5.same HX3.out (fun t => t.elim (fun t => t nx0) hxb)
 have x5 := cell_of_heap (o := 0) hX5
 have f5 := frozen_of_heap (o := 0) hX5
 simp at x5
 obtain ⟨w6, hw6⟩ : ∃ w6, w6 = w5.setCell ⟨x, 0, none⟩ .nilIface := ⟨_, rfl⟩
 have k6 : Keeps w5 w6 (fun i => i = x) := by rw [hw6]; exact Keeps.setCell w5 ⟨x, 0, none⟩ _
 have hX6 : w6.heap[x]? = some (.cells #[.nilIface] 128 (0, 0)) := by rw [hw6]; exact (heap_setCell_at hX5 _).trans rfl
 have x6 := cell_of_heap (o := 0) hX6
 simp at x6
 have hxlt : x < w4.heap.size := lt_of_heap HX3.out
 have S6 : StoreAt E B w6 ρ5 d b s (k + V.length) rv5 mv5 := S5.keep k6 (fun i _ e => by
   rw [e]
   refine ⟨hBx, fun t => ?_, fun p n c e2 e3 => ?_⟩
   · rcases t with t | t | t
     · rw [hρ5 x hxlt] at t; exact t nx0
     · exact hxb t
     · have := hm5 x t; omega
   · have := hrv5 p n c e2; omega)
 have hfin : OpenedAs E B w ρ d b s (k + V.length) w6 := by
   have sz3 := kw3.size
   refine ⟨ρ5, rv5, mv5, S6, (kw3.trans k5 (fun i hi h => h)).trans k6 (fun i hi e => by have := HX.out; omega), fun i hi => hρ5 i (by omega), fun g hg => by have := hm5 g hg; omega, fun p n c e => by have := hrv5 p n c e; omega⟩
 have HFIN := hide hfin
 have HX6 := hide hX6
 clear hfin hX5 hX6
 go_wp2
 rw [← hw6]
 refine leaves_cons (f := 127) (args := #[.pointer (some ⟨b, 0, none⟩), .pointer (some ⟨x, 0, none⟩)]) (by simp) (by simp [go_sem]) ?_
 refine (shutAfter_nil b x .returning _ x6).mono ?_
 rintro e u' w' ⟨rfl, rfl, rfl⟩
 exact ⟨.nilIface, results_err rfl rfl HX6.out, rfl, HFIN.out⟩
set_option maxHeartbeats 1000000 in
set_option maxRecDepth 100000 in
theorem Open_of {E : Nat → Addr} {B : Nat} {w : World} {ρ : Nat → Role} {d k : Nat} {V : List (Str × List UInt8)} (D : DW E B w ρ d V k) (s : Ref.St) (m : Nat)
   (h : ∀ W, Keeps w W (fun _ => False) → ∀ b, W.heap[b]? = some (.cells (newRow d) 121 (0, 0)) → ρ b = .none → B ≤ b → Calls Tryz.prog 83 #[.pointer (some ⟨b, 0, none⟩)] W fun e w' => e = .returned .nilIface ∧ OpenedAs E B W ρ d b s m w') :
   Calls Tryz.prog 45 #[.pointer (some ⟨d, 0, none⟩)] w fun e w' => ∃ b, e = .returned (.tuple #[.pointer (some ⟨b, 0, none⟩), .int .i64 0]) ∧ w.heap.size ≤ b ∧ ∃ ρ' rv mv, StoreAt E B w' ρ' d b s m rv mv ∧ Keeps w w' (fun i => ρ i ≠ .none) ∧ (∀ i, i < w.heap.size → ρ' i = ρ i) ∧ (∀ g, mv.ownBlock = some g → w.heap.size ≤ g) ∧ (∀ p n c, rv = .slice (some p) n c → w.heap.size ≤ p.block) := by
 obtain ⟨b, hbe⟩ : ∃ b, b = w.heap.size := ⟨_, rfl⟩
 obtain ⟨w1, hw1⟩ : ∃ w1, w1 = w.alloc (.cells (newRow d) 121) := ⟨_, rfl⟩
 have k1 : Keeps w w1 (fun _ => False) := by rw [hw1]; exact Keeps.alloc _ _ _
 have hb1 : w1.heap[b]? = some (.cells (newRow d) 121 (0, 0)) := by rw [hw1, hbe]; exact heap_alloc_top _ _
 have hop := h w1 k1 b hb1 (Classical.byContradiction (fun hn => by have := (D.roles b hn).2; omega)) (by rw [hbe]; exact D.size)
 have HOP := hide hop
 have HBE := hide hbe
 clear hop hb1 h hbe
 go_enter Tryz.func45, Tryz.ntmps45
 go_wp2_with fail
 rw [← hw1, ← HBE.out]
 clear hw1
 refine HOP.out.mono ?_
 rintro e w2 ⟨rfl, ρ2, rv2, mv2, S2, k2, hρ2, hm2, hrv2⟩
 go_wp2
 go_ret2
 have sz := k1.size
 refine ⟨b, rfl, by rw [HBE.out]; exact Nat.le_refl _, ρ2, rv2, mv2, S2, (k1.mono (fun _ _ h => h.elim)).trans k2 (fun i hi h => h.elim id (fun e => by have := HBE.out; omega)), fun i hi => hρ2 i (by omega), fun g hg => by have := hm2 g hg; omega, fun p n c e => by have := hrv2 p n c e; omega⟩
end Go.Proofs.YtnipbplghijdmaaGreatDoor
namespace Go.Proofs.YtnipbplghijdmaaGreatDoor
open Go.RowKit Go.Maps Go.WideShapes
set_option linter.unusedVariables false
def Own (E : Nat → Addr) (B : Nat) (w : World) (d b : Nat) (s : Ref.St) (k : Nat) (F : Nat → Prop) : Prop :=
 ∃ ρ rv mv, StoreAt E B w ρ d b s k rv mv ∧ ∀ i, F i ↔ (StF ρ b mv i ∨ ∃ p n c, rv = .slice (some p) n c ∧ p.block = i)
def OwnPost (E : Nat → Addr) (B : Nat) (w : World) (d b : Nat) (s : Ref.St) (k : Nat) (F : Nat → Prop) (w' : World) : Prop :=
 ∃ F', Own E B w' d b s k F' ∧ Keeps w w' F ∧ ∀ i, F' i → F i ∨ w.heap.size ≤ i
variable {E : Nat → Addr} {B : Nat} {w w' : World} {d b k : Nat} {s : Ref.St} {F : Nat → Prop}
theorem Own.old (h : Own E B w d b s k F) {i : Nat} (hi : F i) : B ≤ i ∧ i < w.heap.size := by
 obtain ⟨ρ, rv, mv, S, hF⟩ := h
 rcases (hF i).1 hi with t | ⟨p, n, c, e, rfl⟩
 · exact StF.old S t
 · obtain ⟨a1, a2, a3, a4, a5⟩ := S.nr p n c e
   exact ⟨a3, a5⟩
theorem Own.keep (h : Own E B w d b s k F) {T : Nat → Prop} (kk : Keeps w w' T) (hT : ∀ i, i < w.heap.size → T i → B ≤ i ∧ ¬ F i) : Own E B w' d b s k F := by
 obtain ⟨ρ, rv, mv, S, hF⟩ := h
 exact ⟨ρ, rv, mv, S.keep kk (fun i hi t => ⟨(hT i hi t).1, fun f => (hT i hi t).2 ((hF i).2 (.inl f)), fun p n c e e2 => (hT i hi t).2 ((hF i).2 (.inr ⟨p, n, c, e, e2.symm⟩))⟩), hF⟩
theorem Own.same (h : Own E B w d b s k F) (kk : Keeps w w' (fun _ => False)) : Own E B w' d b s k F := h.keep kk (fun _ _ h => h.elim)
theorem Own.mono (h : Own E B w d b s k F) {m : Nat} (hm : k ≤ m) : Own E B w d b s m F := by
 obtain ⟨ρ, rv, mv, S, hF⟩ := h
 exact ⟨ρ, rv, mv, S.mono hm, hF⟩
theorem Own.env (h : Own E B w d b s k F) : Env E B w := by
 obtain ⟨ρ, rv, mv, S, hF⟩ := h
 exact S.env
theorem Own.ok (h : Own E B w d b s k F) : s.Ok := by
 obtain ⟨ρ, rv, mv, S, hF⟩ := h
 exact S.ok
theorem Own.size (h : Own E B w d b s k F) : B ≤ w.heap.size := by
 obtain ⟨ρ, rv, mv, S, hF⟩ := h
 exact S.disk.size
theorem Own.disk (h : Own E B w d b s k F) : ∃ ρ, DW E B w ρ d s.files k ∧ ∀ i, ρ i ≠ .none → F i := by
 obtain ⟨ρ, rv, mv, S, hF⟩ := h
 exact ⟨ρ, S.disk, fun i hi => (hF i).2 (.inl (.inl hi))⟩
theorem OwnPost.of {ρ : Nat → Role} {rv mv : Value} {s' : Ref.St} {k' : Nat} (S : StoreAt E B w ρ d b s k rv mv) (hF : ∀ i, F i ↔ (StF ρ b mv i ∨ ∃ p n c, rv = .slice (some p) n c ∧ p.block = i)) (h : StPost E B w ρ d b rv mv s' k' w') : OwnPost E B w d b s' k' F w' := by
 obtain ⟨ρ', rv', mv', S', kk, hρ, hm, hrv⟩ := h
 refine ⟨fun i => StF ρ' b mv' i ∨ ∃ p n c, rv' = .slice (some p) n c ∧ p.block = i, ⟨ρ', rv', mv', S', fun _ => Iff.rfl⟩, kk.mono (fun i _ t => (hF i).2 (.inl t)), fun i hi => ?_⟩
 rcases Nat.lt_or_ge i w.heap.size with hlt | hge
 · refine .inl ((hF i).2 ?_)
   rcases hi with (t | t | t) | ⟨p, n, c, e, rfl⟩
   · exact .inl (.inl (by rw [← hρ i hlt]; exact t))
   · exact .inl (.inr (.inl t))
   · rcases hm i t with t | t
     · exact .inl (.inr (.inr t))
     · omega
   · rcases hrv p n c e with ⟨n', c', t⟩ | t
     · exact .inr ⟨p, n', c', t, rfl⟩
     · omega
 · exact .inr hge
theorem write_o (h : Own E B w d b s k F) (hk : k < 530000000000) (ev : Value) (es : List Ref.Ch) (hok : Ref.okBatch es = true) (hev : Chs w ev es) (hevo : ∀ p n c, ev = .slice (some p) n c → ¬ F p.block) (hlast : s.last < 1000000000) (hfew : s.mem.length + 8 < 60000) (hs : (Ref.batchBytes (s.last + 1) es).length + vsize s.files ≤ 20000) :
   Calls Tryz.prog 24 #[.pointer (some ⟨b, 0, none⟩), ev] w fun e w' => e = .returned (.int .i64 0) ∧ OwnPost E B w d b (s.write es) (k + 20000) F w' := by
 obtain ⟨ρ, rv, mv, S, hF⟩ := h
 refine (write_w S (by omega) ev es hok hev (fun p n c e t => hevo p n c e ((hF _).2 (.inl t))) hlast hfew hs).mono ?_
 rintro e w' ⟨rfl, ρ', rv', mv', S', rest⟩
 exact ⟨rfl, OwnPost.of S hF ⟨ρ', rv', mv', S'.mono (by omega), rest⟩⟩
theorem flush_o (h : Own E B w d b s k F) (hk : k < 530000000000) (hn : s.m.next + 2 ≤ 2000000000) (hr : s.m.runs.length + 1 < 60000) (hs : (s.m.flushed s.last).bytes.length + (Ref.runBytes s.mem).length + vsize s.files ≤ 20000) :
   Calls Tryz.prog 26 #[.pointer (some ⟨b, 0, none⟩)] w fun e w' => e = .returned (.int .i64 0) ∧ OwnPost E B w d b s.flush (k + 50000) F w' := by
 obtain ⟨ρ, rv, mv, S, hF⟩ := h
 refine (Flush_w S hk hn hr hs).mono ?_
 rintro e w' ⟨rfl, h⟩
 exact ⟨rfl, OwnPost.of S hF h⟩
theorem compact_o (h : Own E B w d b s k F) (hk : k < 530000000000) (hn : s.m.next + 1 ≤ 2000000000) (hl : (Ref.merged s.bls).length < 60000) (hs : 42 + (Ref.runBytes s.live).length + vsize s.files ≤ 20000) :
   Calls Tryz.prog 27 #[.pointer (some ⟨b, 0, none⟩)] w fun e w' => e = .returned (.int .i64 0) ∧ OwnPost E B w d b s.compact (k + 100000) F w' := by
 obtain ⟨ρ, rv, mv, S, hF⟩ := h
 refine (Compact_w S hk hn hl hs).mono ?_
 rintro e w' ⟨rfl, h⟩
 exact ⟨rfl, OwnPost.of S hF h⟩
theorem scan_o (h : Own E B w d b s k F) (hk : k < 540000000000) (hl : s.all.length < 1048576) (lo hi : Str) (most : Nat) (hmost : most < 9223372036854775808) :
   Calls Tryz.prog 29 #[.pointer (some ⟨b, 0, none⟩), strV lo, strV hi, natI most] w fun e w' => (∃ v, e = .returned (.tuple #[v, .int .i64 0]) ∧ w'.ownsRow w.heap.size 65 2 v (Ref.scanIn s.all lo hi most).length (prCells (Ref.scanIn s.all lo hi most))) ∧ Own E B w' d b s k F ∧ Keeps w w' F := by
 obtain ⟨ρ, rv, mv, S, hF⟩ := h
 refine (scan_w S (by omega) hl lo hi most hmost).mono ?_
 rintro e w' ⟨h1, S', kk⟩
 exact ⟨h1, ⟨ρ, rv, mv, S', hF⟩, kk.mono (fun i _ t => (hF i).2 (.inl t))⟩
theorem get_o (h : Own E B w d b s k F) (hk : k < 540000000000) (key : Str) :
   Calls Tryz.prog 33 #[.pointer (some ⟨b, 0, none⟩), strV key] w fun e w' => e = .returned (.tuple #[strV (getA (Ref.getIn s.all key)).1, .bool (getA (Ref.getIn s.all key)).2, .int .i64 0]) ∧ Own E B w' d b s k F ∧ Keeps w w' F := by
 obtain ⟨ρ, rv, mv, S, hF⟩ := h
 refine (get_w S (by omega) key).mono ?_
 rintro e w' ⟨h1, S', kk⟩
 exact ⟨h1, ⟨ρ, rv, mv, S', hF⟩, kk.mono (fun i _ t => (hF i).2 (.inl t))⟩
def OpenO (E : Nat → Addr) (B : Nat) (w : World) (ρ : Nat → Role) (d : Nat) (s : Ref.St) (k : Nat) (e : Ending) (w' : World) : Prop :=
 ∃ b F, e = .returned (.tuple #[.pointer (some ⟨b, 0, none⟩), .int .i64 0]) ∧ w.heap.size ≤ b ∧ Own E B w' d b s k F ∧ Keeps w w' (fun i => ρ i ≠ .none) ∧ ∀ i, F i → ρ i ≠ .none ∨ w.heap.size ≤ i
theorem OpenO.of {ρ : Nat → Role} {V : List (Str × List UInt8)} {k0 : Nat} (D : DW E B w ρ d V k0) (h : ∀ W, Keeps w W (fun _ => False) → ∀ b, W.heap[b]? = some (.cells (newRow d) 121 (0, 0)) → ρ b = .none → B ≤ b → Calls Tryz.prog 83 #[.pointer (some ⟨b, 0, none⟩)] W fun e w' => e = .returned .nilIface ∧ OpenedAs E B W ρ d b s k w') :
   Calls Tryz.prog 45 #[.pointer (some ⟨d, 0, none⟩)] w (OpenO E B w ρ d s k) := by
 refine (Open_of D s k h).mono ?_
 rintro e w' ⟨b, rfl, hb, ρ', rv, mv, S, kk, hρ, hm, hrv⟩
 refine ⟨b, fun i => StF ρ' b mv i ∨ ∃ p n c, rv = .slice (some p) n c ∧ p.block = i, rfl, hb, ⟨ρ', rv, mv, S, fun _ => Iff.rfl⟩, kk, fun i hi => ?_⟩
 rcases Nat.lt_or_ge i w.heap.size with hlt | hge
 · refine .inl ?_
   rcases hi with (t | t | t) | ⟨p, n, c, e, rfl⟩
   · rw [← hρ i hlt]; exact t
   · omega
   · have := hm i t; omega
   · have := hrv p n c e; omega
 · exact .inr hge
theorem open_new_o {ρ : Nat → Role} (D : DW E B w ρ d [] k) (H : Env E B w) (hk : k < 520000000000) : Calls Tryz.prog 45 #[.pointer (some ⟨d, 0, none⟩)] w (OpenO E B w ρ d Ref.St.first (k + 1000)) := by
 refine OpenO.of D (fun W kk b hb hρ hB => ?_)
 exact open_none_w (D.same kk) (H.same kk) (by simp only [List.length_nil]; omega) (fun c h => by cases h) hb hρ hB
theorem open_again_o {ρ : Nat → Role} (D : DW E B w ρ d s.files k) (H : Env E B w) (hk : k + s.files.length < 530000000000) (ok : s.Ok) (hsz : vsize s.files ≤ 20000) (hfew : s.mem.length < 60000) : Calls Tryz.prog 45 #[.pointer (some ⟨d, 0, none⟩)] w (OpenO E B w ρ d s (k + s.files.length)) := by
 refine OpenO.of D (fun W kk b hb hρ hB => ?_)
 exact open_some_w (D.same kk) (H.same kk) hk s ok (fun p hp => hp) hsz hfew hb hρ hB
theorem new_o (H : Env E B w) (hB : B ≤ w.heap.size) : Calls Tryz.prog 16 #[] w fun e w' => ∃ d ρ, e = .returned (.pointer (some ⟨d, 0, none⟩)) ∧ DW E B w' ρ d [] 0 ∧ Keeps w w' (fun _ => False) ∧ ∀ i, ρ i ≠ .none → w.heap.size ≤ i := by
 refine (new_any w).mono ?_
 rintro e w' ⟨rfl, R, kk⟩
 have hr : ∀ i, newRole w.heap.size i ≠ .none → w.heap.size ≤ i := fun i hi => by
   unfold newRole at hi
   rcases Nat.lt_or_ge i w.heap.size with h | h
   · exfalso
     apply hi
     repeat' split
     all_goals first | rfl | omega
   · exact h
 refine ⟨_, _, rfl, ⟨DiskA.new, ⟨R, H.sent.keep kk (fun _ h => h.elim), fun i hi => Nat.le_trans hB (hr i hi), Nat.le_trans hB kk.size⟩, Well.new, ?_, Fit.new⟩, kk, hr⟩
 exact ⟨[], ⟨Toks.nil, fun p hp => (by cases hp), List.Pairwise.nil⟩, List.Perm.refl _⟩
end Go.Proofs.YtnipbplghijdmaaGreatDoor
namespace Go.Proofs.YtnipbplghijdmaaGreatDoor
open Go.RowKit Go.Maps Go.WideShapes
set_option linter.unusedVariables false
set_option linter.unusedSimpArgs false
def pickA (c : Int) (n : Nat) : Nat := (if c < 0 then -(c + 1) else c).toNat % n
theorem pickA_lt (c : Int) {n : Nat} (h : 0 < n) : pickA c n < n := Nat.mod_lt _ h
set_option maxRecDepth 100000 in
theorem pick_any (c : Int) (h1 : -9223372036854775808 ≤ c) (h2 : c ≤ 9223372036854775807) (n : Nat) (hn : 0 < n) (hn2 : n < 1000) (w : World) :
   Calls Tryz.prog 25 #[.int .i64 c, .int .i64 n] w fun e w' => e = .returned (.int .i64 (pickA c n)) ∧ w' = w := by
 have hn0 : ¬ (n : Int) = 0 := by omega
 have hnb : ((n : Int) == 0) = false := by simp; omega
 rcases (by omega : c < 0 ∨ 0 ≤ c) with hc | hc
 · have hw1 : IntKind.i64.wrap (c + 1) = c + 1 := wrap_i64 (by omega) (by omega)
   have hw2 : IntKind.i64.wrap (-(c + 1)) = -(c + 1) := wrap_i64 (by omega) (by omega)
   have hres : (pickA c n : Int) = (-(c + 1)).tmod n := by
     unfold pickA
     rw [if_pos hc, Int.tmod_eq_emod_of_nonneg (by omega), Int.natCast_emod, Int.toNat_of_nonneg (by omega)]
   have hlt := pickA_lt c hn
   have hw3 : IntKind.i64.wrap ((-(c + 1)).tmod n) = (-(c + 1)).tmod n := by rw [← hres]; exact wrap_i64 (by omega) (by omega)
   have HRES := hide hres
   clear hres
   go_enter Tryz.func25, Tryz.ntmps25
   go_wp2
   go_ret
   refine ⟨?_, rfl⟩
   rw [HRES.out, Int.neg_tmod]
   rfl
 · have hc2 : ¬ c < 0 := by omega
   have hres : (pickA c n : Int) = c.tmod n := by
     unfold pickA
     rw [if_neg hc2, Int.tmod_eq_emod_of_nonneg (by omega), Int.natCast_emod, Int.toNat_of_nonneg (by omega)]
   have hlt := pickA_lt c hn
   have hw3 : IntKind.i64.wrap (c.tmod n) = c.tmod n := by rw [← hres]; exact wrap_i64 (by omega) (by omega)
   have HRES := hide hres
   clear hres
   go_enter Tryz.func25, Tryz.ntmps25
   go_wp2
   go_ret
   refine ⟨?_, rfl⟩
   rw [HRES.out, Int.tmod_eq_emod_of_nonneg hc]
   rfl
def SmallCh (x : Ref.Ch) : Prop := 1 ≤ x.key.length ∧ x.key.length ≤ 5 ∧ x.value.length ≤ 23 ∧ (x.gone = true → x.value = [])
theorem new_string {w : World} (b : Nat) (zs : List Value) (l : List UInt8) (h : w.heap[b]? = some (.cells zs.toArray 5 (0, 0))) (hz : zs = l.map byteV) (hl : l.length < 1000) : (convert 84 9 (.slice (some ⟨b, 0, none⟩) l.length l.length)).run Tryz.prog w = .ok (strV l) w := by
 refine Bytes.string ⟨some ⟨b, 0, none⟩, l.length, rfl, Nat.le_refl _, by unfold maxLen; omega, (fun h => by cases h), fun ad had => ?_⟩
 cases had
 refine ⟨rfl, fun j u hu => ?_⟩
 rw [add_at]
 have := cell_of_heap (o := 0 + j) h
 rw [this, hz]
 simp [hu]
theorem u8_of {k : Nat} (h : k < 256) : byteV (UInt8.ofNat k) = .int .u8 (k : Int) := by
 unfold byteV
 rw [UInt8.toNat_ofNat', Nat.mod_eq_of_lt h]
theorem results_one {fn : Func} {t : Tmp} (h : fn.results = #[.cell t 88]) {tmps : Array Value} {w : World} {b : Nat} {c : Ref.Ch} (ht : tmps.getD t undef = .pointer (some ⟨b, 0, none⟩))
   (hb : w.heap[b]? = some (.cells #[strV c.key, strV c.value, .bool c.gone] 88 (0, 0))) : (results fn tmps).run Tryz.prog w = .ok (chV c) w := by
 have hl := load_ch hb
 have ht' : tmps[t]?.getD undef = .pointer (some ⟨b, 0, none⟩) := by simpa using ht
 simp [results, h, ht', asAddr, hl]
set_option maxHeartbeats 1000000 in
set_option maxRecDepth 100000 in
theorem change_any (c : Int) (h1 : -9223372036854775808 ≤ c) (h2 : c ≤ 9223372036854775807) (n : Nat) (hn : n < 1000000) (w : World) :
   Calls Tryz.prog 59 #[.int .i64 c, .int .i64 n] w fun e w' => ∃ x, e = .returned (chV x) ∧ SmallCh x ∧ Keeps w w' (fun _ => False) := by
 have tb : ∀ m : Int, 1 ≤ m → -9223372036854775808 ≤ c.tdiv m ∧ c.tdiv m ≤ 9223372036854775807 := fun m hm => by
   have h := Int.natAbs_tdiv c m
   have hle : (c.tdiv m).natAbs ≤ c.natAbs := by rw [h]; exact Nat.div_le_self _ _
   rcases (by omega : c < 0 ∨ 0 ≤ c) with hc | hc
   · have : c.tdiv m ≤ 0 := by
       have h5 : c.tdiv m = -((-c).tdiv m) := by rw [Int.neg_tdiv, Int.neg_neg]
       have h6 := Int.tdiv_nonneg (a := -c) (b := m) (by omega) (by omega)
       omega
     omega
   · have : 0 ≤ c.tdiv m := Int.tdiv_nonneg hc (by omega)
     omega
 have hp1 := fun W => pick_any c h1 h2 9 (by decide) (by decide) W
 have hp2 := fun W => pick_any (c.tdiv 9) (tb 9 (by decide)).1 (tb 9 (by decide)).2 4 (by decide) (by decide) W
 have hp3 := fun W => pick_any (c.tdiv 36) (tb 36 (by decide)).1 (tb 36 (by decide)).2 4 (by decide) (by decide) W
 have hp4 := fun W => pick_any (c.tdiv 144) (tb 144 (by decide)).1 (tb 144 (by decide)).2 5 (by decide) (by decide) W
 have hq9 : IntKind.i64.wrap (c.tdiv 9) = c.tdiv 9 := wrap_i64 (tb 9 (by decide)).1 (tb 9 (by decide)).2
 have hq36 : IntKind.i64.wrap (c.tdiv 36) = c.tdiv 36 := wrap_i64 (tb 36 (by decide)).1 (tb 36 (by decide)).2
 have hq144 : IntKind.i64.wrap (c.tdiv 144) = c.tdiv 144 := wrap_i64 (tb 144 (by decide)).1 (tb 144 (by decide)).2
 have hl9 := pickA_lt c (n := 9) (by decide)
 have hl5 := pickA_lt (c.tdiv 144) (n := 5) (by decide)
 obtain ⟨C9, hC9⟩ : ∃ C9, C9 = c.tdiv 9 := ⟨_, rfl⟩
 obtain ⟨C36, hC36⟩ : ∃ C36, C36 = c.tdiv 36 := ⟨_, rfl⟩
 obtain ⟨C144, hC144⟩ : ∃ C144, C144 = c.tdiv 144 := ⟨_, rfl⟩
 rw [← hC9] at hq9
 rw [← hC36] at hq36
 rw [← hC144] at hq144 hl5
 simp only [← hC9] at hp2
 simp only [← hC36] at hp3
 simp only [← hC144] at hp4
 have e9 := hC9.symm
 have e36 := hC36.symm
 have e144 := hC144.symm
 obtain ⟨P9, hP9⟩ : ∃ P9, P9 = pickA c 9 := ⟨_, rfl⟩
 obtain ⟨P4, hP4⟩ : ∃ P4, P4 = pickA C9 4 := ⟨_, rfl⟩
 obtain ⟨R4, hR4⟩ : ∃ R4, R4 = pickA C36 4 := ⟨_, rfl⟩
 obtain ⟨P5, hP5⟩ : ∃ P5, P5 = pickA C144 5 := ⟨_, rfl⟩
 rw [← hP9] at hl9
 rw [← hP5] at hl5
 simp only [← hP9] at hp1
 simp only [← hP4] at hp2
 simp only [← hR4] at hp3
 simp only [← hP5] at hp4
 have HP1 := hide hp1
 have HP2 := hide hp2
 have HP3 := hide hp3
 have HP4 := hide hp4
 have hw1 : IntKind.i64.wrap (97 + (P9 : Int)) = 97 + (P9 : Int) := wrap_i64 (by omega) (by omega)
 obtain ⟨b0, hb0⟩ : ∃ b0, b0 = UInt8.ofNat (97 + P9) := ⟨_, rfl⟩
 have hcv1 : (convert 84 9 (.slice (some ⟨w.heap.size + 1, 0, none⟩) 1 1)).run Tryz.prog ((w.alloc (.cells #[.string ⟨#[]⟩, .string ⟨#[]⟩, .bool false] 88)).alloc (.cells #[.int .u8 (97 + (P9 : Int))] 5)) = .ok (strV [b0]) ((w.alloc (.cells #[.string ⟨#[]⟩, .string ⟨#[]⟩, .bool false] 88)).alloc (.cells #[.int .u8 (97 + (P9 : Int))] 5)) := by
   refine new_string (w.heap.size + 1) [.int .u8 (97 + (P9 : Int))] [b0] ?_ ?_ (by simp)
   · have := heap_alloc_top (w.alloc (.cells #[.string ⟨#[]⟩, .string ⟨#[]⟩, .bool false] 88)) (.cells #[.int .u8 (97 + (P9 : Int))] 5)
     rw [World.size_alloc] at this
     exact this
   · rw [List.map_singleton, hb0, u8_of (by omega)]
     simp
 obtain ⟨ds, hds⟩ : ∃ ds, ds = [UInt8.ofNat (48 + n % 10), UInt8.ofNat (48 + n / 10 % 10), UInt8.ofNat (48 + n / 100 % 10)] := ⟨_, rfl⟩
 have hds3 : ds.length = 3 := by rw [hds]; rfl
 have hcv3 : (convert 84 9 (.slice (some ⟨w.heap.size + 1 + 1, 0, none⟩) 3 3)).run Tryz.prog (((w.alloc (.cells #[.string ⟨#[]⟩, .string ⟨#[]⟩, .bool false] 88)).alloc (.cells #[.int .u8 (97 + (P9 : Int))] 5)).alloc (.cells #[.int .u8 (48 + (n : Int) % 10), .int .u8 (48 + (n : Int) / 10 % 10), .int .u8 (48 + (n : Int) / 100 % 10)] 5)) = .ok (strV ds) (((w.alloc (.cells #[.string ⟨#[]⟩, .string ⟨#[]⟩, .bool false] 88)).alloc (.cells #[.int .u8 (97 + (P9 : Int))] 5)).alloc (.cells #[.int .u8 (48 + (n : Int) % 10), .int .u8 (48 + (n : Int) / 10 % 10), .int .u8 (48 + (n : Int) / 100 % 10)] 5)) := by
   have := new_string (w := (((w.alloc (.cells #[.string ⟨#[]⟩, .string ⟨#[]⟩, .bool false] 88)).alloc (.cells #[.int .u8 (97 + (P9 : Int))] 5)).alloc (.cells #[.int .u8 (48 + (n : Int) % 10), .int .u8 (48 + (n : Int) / 10 % 10), .int .u8 (48 + (n : Int) / 100 % 10)] 5))) (w.heap.size + 1 + 1) [.int .u8 (48 + (n : Int) % 10), .int .u8 (48 + (n : Int) / 10 % 10), .int .u8 (48 + (n : Int) / 100 % 10)] ds ?_ ?_ (by omega)
   · rw [hds3] at this
     exact this
   · have h := heap_alloc_top ((w.alloc (.cells #[.string ⟨#[]⟩, .string ⟨#[]⟩, .bool false] 88)).alloc (.cells #[.int .u8 (97 + (P9 : Int))] 5)) (.cells #[.int .u8 (48 + (n : Int) % 10), .int .u8 (48 + (n : Int) / 10 % 10), .int .u8 (48 + (n : Int) / 100 % 10)] 5)
     rw [World.size_alloc, World.size_alloc] at h
     exact h
   · rw [hds]
     simp only [List.map_cons, List.map_nil, u8_of (show 48 + n % 10 < 256 by omega), u8_of (show 48 + n / 10 % 10 < 256 by omega), u8_of (show 48 + n / 100 % 10 < 256 by omega)]
     simp
 have HD3 := hide hds3
 clear hds hds3
 clear hp1 hp2 hp3 hp4 hP9 hP4 hR4 hP5 hC9 hC36 hC144 hb0
 have hlong : ((⟨#[b0]⟩ : ByteArray) ++ (⟨#[108, 111, 110, 103]⟩ : ByteArray)) = ⟨#[b0, 108, 111, 110, 103]⟩ := rfl
 have hval : ∀ V : List UInt8, ((⟨V.toArray⟩ : ByteArray) ++ (⟨#[118, 97, 108, 117, 101]⟩ : ByteArray)) = ⟨(V ++ [118, 97, 108, 117, 101]).toArray⟩ := fun V => by
   ext1
   simp [ByteArray.data_append]
 rcases Nat.eq_zero_or_pos P4 with h4 | h4 <;> rcases Nat.eq_zero_or_pos R4 with r4 | r4
 all_goals
   first
     | (have f4 : ((P4 : Int) == 0) = true := by simp; omega)
     | (have f4 : ((P4 : Int) == 0) = false := by simp; omega)
   first
     | (have q4 : ((R4 : Int) == 0) = true := by simp; omega)
     | (have q4 : ((R4 : Int) == 0) = false := by simp; omega)
   clear h4 r4
   go_enter Tryz.func59, Tryz.ntmps59
   go_wp2_with fail
   refine (HP1.out _).mono ?_
   rintro e w1 ⟨rfl, h1⟩
   subst h1
   go_wp2_with fail
   refine (HP2.out _).mono ?_
   rintro e w2 ⟨rfl, h2⟩
   subst h2
   go_wp2_with fail
   refine (HP3.out _).mono ?_
   rintro e w3 ⟨rfl, h3⟩
   subst h3
 · go_wp2
   refine bodyPost_ret (results_one rfl rfl (c := ⟨[b0, 108, 111, 110, 103], [], true⟩) ?_) rfl ?_
   · exact (Keeps.alloc _ _ (fun _ => False)).same (heap_alloc_top w _) id
   · exact ⟨_, rfl, ⟨by simp, by simp, by simp, fun _ => rfl⟩, (Keeps.alloc w _ _).more _⟩
 · go_wp2_with fail
   go_loopw [6, 7] (fun v6 v7 wr => ∃ (j : Nat) (V : List UInt8), v6 = strV V ∧ v7 = .int .i64 j ∧ V.length = 3 + 5 * j ∧ j ≤ P5 ∧ wr = (((w.alloc (.cells #[.string ⟨#[]⟩, .string ⟨#[]⟩, .bool false] 88)).alloc (.cells #[.int .u8 (97 + (P9 : Int))] 5)).alloc (.cells #[.int .u8 (48 + (n : Int) % 10), .int .u8 (48 + (n : Int) / 10 % 10), .int .u8 (48 + (n : Int) / 100 % 10)] 5))) (fun _ v7 _ => P5 - (intOf v7).toNat)
   case atStart => exact ⟨0, ds, rfl, rfl, by rw [HD3.out], Nat.zero_le _, rfl⟩
   case round =>
     obtain ⟨j, V, rfl, rfl, hVl, hj, rfl⟩ := hrel
     have HVL := hide hVl
     rcases Nat.lt_or_ge j P5 with hlt | hge
     · have hjl : (j : Int) < (P5 : Int) := by omega
       have hwj : IntKind.i64.wrap ((j : Int) + 1) = (j : Int) + 1 := wrap_i64 (by omega) (by omega)
       have hv30 : V.length ≤ 30 := by omega
       clear hVl
       go_wp2_with fail
       refine (HP4.out _).mono ?_
       rintro e w4 ⟨rfl, h4⟩
       subst h4
       go_wp2
       exact ⟨⟨j + 1, V ++ [118, 97, 108, 117, 101], rfl, by simp, by rw [List.length_append, HVL.out]; simp; omega, by omega, trivial⟩, by simp [intOf]; omega⟩
     · have hjl : ¬ (j : Int) < (P5 : Int) := by omega
       have hje : P5 ≤ j := hge
       clear hVl
       go_wp2_with fail
       refine (HP4.out _).mono ?_
       rintro e w4 ⟨rfl, h4⟩
       subst h4
       go_wp2
       refine bodyPost_ret (results_one rfl rfl (c := ⟨[b0, 108, 111, 110, 103], V, false⟩) ?_) rfl ?_
       · exact ((Keeps.alloc _ _ (fun _ => False)).more _).same (heap_alloc_top w _) id
       · exact ⟨_, rfl, ⟨by simp, by simp, by show V.length ≤ 23; have := HVL.out; omega, fun h => (by cases h)⟩, ((Keeps.alloc w _ _).more _).more _⟩
 · go_wp2
   refine bodyPost_ret (results_one rfl rfl (c := ⟨[b0], [], true⟩) ?_) rfl ?_
   · exact (Keeps.alloc _ _ (fun _ => False)).same (heap_alloc_top w _) id
   · exact ⟨_, rfl, ⟨by simp, by simp, by simp, fun _ => rfl⟩, (Keeps.alloc w _ _).more _⟩
 · go_wp2_with fail
   go_loopw [6, 7] (fun v6 v7 wr => ∃ (j : Nat) (V : List UInt8), v6 = strV V ∧ v7 = .int .i64 j ∧ V.length = 3 + 5 * j ∧ j ≤ P5 ∧ wr = (((w.alloc (.cells #[.string ⟨#[]⟩, .string ⟨#[]⟩, .bool false] 88)).alloc (.cells #[.int .u8 (97 + (P9 : Int))] 5)).alloc (.cells #[.int .u8 (48 + (n : Int) % 10), .int .u8 (48 + (n : Int) / 10 % 10), .int .u8 (48 + (n : Int) / 100 % 10)] 5))) (fun _ v7 _ => P5 - (intOf v7).toNat)
   case atStart => exact ⟨0, ds, rfl, rfl, by rw [HD3.out], Nat.zero_le _, rfl⟩
   case round =>
     obtain ⟨j, V, rfl, rfl, hVl, hj, rfl⟩ := hrel
     have HVL := hide hVl
     rcases Nat.lt_or_ge j P5 with hlt | hge
     · have hjl : (j : Int) < (P5 : Int) := by omega
       have hwj : IntKind.i64.wrap ((j : Int) + 1) = (j : Int) + 1 := wrap_i64 (by omega) (by omega)
       have hv30 : V.length ≤ 30 := by omega
       clear hVl
       go_wp2_with fail
       refine (HP4.out _).mono ?_
       rintro e w4 ⟨rfl, h4⟩
       subst h4
       go_wp2
       exact ⟨⟨j + 1, V ++ [118, 97, 108, 117, 101], rfl, by simp, by rw [List.length_append, HVL.out]; simp; omega, by omega, trivial⟩, by simp [intOf]; omega⟩
     · have hjl : ¬ (j : Int) < (P5 : Int) := by omega
       have hje : P5 ≤ j := hge
       clear hVl
       go_wp2_with fail
       refine (HP4.out _).mono ?_
       rintro e w4 ⟨rfl, h4⟩
       subst h4
       go_wp2
       refine bodyPost_ret (results_one rfl rfl (c := ⟨[b0], V, false⟩) ?_) rfl ?_
       · exact ((Keeps.alloc _ _ (fun _ => False)).more _).same (heap_alloc_top w _) id
       · exact ⟨_, rfl, ⟨by simp, by simp, by show V.length ≤ 23; have := HVL.out; omega, fun h => (by cases h)⟩, ((Keeps.alloc w _ _).more _).more _⟩
def Zs (w : World) (v : Value) (zs : List Int) : Prop :=
 ∃ p c, v = .slice p zs.length c ∧ (p = none → zs = []) ∧ (∀ z ∈ zs, -9223372036854775808 ≤ z ∧ z ≤ 9223372036854775807) ∧ zs.length < 1000000000000000 ∧ ∀ j z, zs[j]? = some z → ∃ b o, p = some ⟨b, o, none⟩ ∧ w.cell? ⟨b, o + j, none⟩ = some (.int .i64 z)
theorem Zs.same {w w' : World} {v : Value} {zs : List Int} (h : Zs w v zs) (k : Keeps w w' (fun _ => False)) : Zs w' v zs := by
 obtain ⟨p, c, rfl, h1, h2, h3, h4⟩ := h
 refine ⟨p, c, rfl, h1, h2, h3, fun j z hz => ?_⟩
 obtain ⟨b, o, e, h5⟩ := h4 j z hz
 exact ⟨b, o, e, k.cell h5 id⟩
theorem Zs.at {w : World} {p : Option Addr} {c : Nat} {zs : List Int} (h : Zs w (.slice p zs.length c) zs) {j : Nat} (hj : j < zs.length) : ∃ b o, p = some ⟨b, o, none⟩ ∧ w.cell? ⟨b, o + j, none⟩ = some (.int .i64 zs[j]) := by
 obtain ⟨p', c', e, h1, h2, h3, h4⟩ := h
 cases e
 exact h4 j _ (List.getElem?_eq_getElem hj)
theorem enter_change (ys : Array Value) (w : World) : (callFunc 59 ys).run Tryz.prog w = .ok (.enter 59 ys) w := by kernel_rfl
theorem ch_lit (w : World) (x : Ref.Ch) {base : Nat} (hb : base ≤ w.heap.size) : (w.alloc (.cells #[strV x.key, strV x.value, .bool x.gone] 88)).ownsRow base 88 3 (.slice (some ⟨w.heap.size, 0, none⟩) 1 1) 1 (chCells [x]) := by
 have := World.ownsRow_lit (base := base) (e := 88) (size := 3) w #[strV x.key, strV x.value, .bool x.gone] 1 hb (by unfold maxLen; omega) rfl
 exact this
def BatchPost (w : World) (e : Ending) (w' : World) : Prop := ∃ v es, e = .returned v ∧ w'.ownsRow w.heap.size 88 3 v es.length (chCells es) ∧ 1 ≤ es.length ∧ es.length ≤ 8 ∧ (∀ x ∈ es, SmallCh x) ∧ Keeps w w' (fun _ => False)
set_option maxHeartbeats 1000000 in
set_option maxRecDepth 100000 in
theorem batch_raw {w : World} {kb nw : Nat} {pw : Option Addr} {cw : Nat} (hw : w.cell? ⟨kb, 2, none⟩ = some (.slice pw nw cw)) (hnw : nw < 1000000) (rv : Value) (zs : List Int) (hz : Zs w rv zs) :
   Calls Tryz.prog 23 #[.pointer (some ⟨kb, 0, none⟩), rv] w (BatchPost w) := by
 obtain ⟨j0, hj, hy0, hy1, hy2⟩ := info_parts Tryz.infoApiCh
 obtain ⟨p, c, rfl, _, hzb, hzl, _⟩ := id hz
 have HZ := hide hz
 have HZB := hide hzb
 have HZL := hide hzl
 clear hz hzb hzl
 go_enter Tryz.func23, Tryz.ntmps23
 go_wp2_with fail
 go_loopw [5, 6] (fun v5 v6 wr => ∃ (i : Nat) (es : List Ref.Ch), v6 = .int .i64 i ∧ es.length = i ∧ i ≤ 8 ∧ i ≤ zs.length ∧ wr.ownsRow w.heap.size 88 3 v5 i (chCells es) ∧ (∀ x ∈ es, SmallCh x) ∧ Keeps w wr (fun _ => False)) (fun _ v6 _ => 8 - (intOf v6).toNat)
 case atStart => exact ⟨0, [], rfl, rfl, Nat.zero_le _, Nat.zero_le _, World.ownsRow_nil _ _ _ _, fun x hx => (by cases hx), Keeps.refl _ _⟩
 case round =>
   obtain ⟨i, es, rfl, hel, hi8, hil, hrow, hsm, kk⟩ := hrel
   have HEL := hide hel
   have HROW := hide hrow
   have HSM := hide hsm
   obtain ⟨pv, cv, rfl⟩ := slice_of_row hrow
   have hzz := HZL.out
   clear hel hrow hsm
   rcases Nat.lt_or_ge i zs.length with hlt | hge
   · have hb1 : (i : Int) < (zs.length : Int) := by omega
     rcases Nat.lt_or_ge i 8 with h8 | h8
     · have hb2 : (i : Int) < 8 := by omega
       obtain ⟨b, o, rfl, hc⟩ := (HZ.out.same kk).at hlt
       have hzi := HZB.out zs[i] (List.getElem_mem hlt)
       generalize zs[i] = z at hc hzi
       have hcw := kk.cell hw id
       have hcd : wr.drew.cell? ⟨b, o + i, none⟩ = some (.int .i64 z) := hc
       have hwd : wr.drew.cell? ⟨kb, 2, none⟩ = some (.slice pw nw cw) := hcw
       have kd : Keeps wr wr.drew (fun _ => False) := Keeps.drew _ _
       have HCH : Hid (∀ W, Calls Tryz.prog 59 #[.int .i64 z, .int .i64 nw] W fun e w' => ∃ x, e = .returned (chV x) ∧ SmallCh x ∧ Keeps W w' (fun _ => False)) := fun W => change_any z hzi.1 hzi.2 nw hnw W
       have hwi : IntKind.i64.wrap ((i : Int) + 1) = (i : Int) + 1 := wrap_i64 (by omega) (by omega)
       have h63 : Hid (i + 1 ≤ maxLen) := (show i + 1 ≤ maxLen from by unfold maxLen; omega)
       have hbs : Hid ((i + 1) * 40 ≤ 140737488355328) := (show (i + 1) * 40 ≤ 140737488355328 from by omega)
       have hok1 : i < zs.length := hlt
       clear hzi
       go_wp2_with fail
       go_region_law (first
         | (refine step_call rfl 59 [.tmp 21, .tmp 26] _ rfl enter_change [.int .i64 z, .int .i64 nw] (by simp [Act.eval, Act.put]) (HCH.out _) ?_
            rintro e w2 ⟨x, rfl, hx, k2⟩
            have kc := kd.trans k2 (fun _ _ h => h)
            have HLIT := hide (ch_lit w2 x (base := w.heap.size) (Nat.le_trans kk.size kc.size))
            have HSRC := hide ((chs_of_row HLIT.out).src)
            have HR2 := hide (((kc.row HROW.out (fun _ _ h => h)).alloc (.cells #[strV x.key, strV x.value, .bool x.gone] 88)))
            have hbase : w.heap.size ≤ (w2.alloc (.cells #[strV x.key, strV x.value, .bool x.gone] 88)).heap.size := Nat.le_trans kk.size (Nat.le_trans kc.size (Keeps.alloc w2 _ (fun _ => False)).size)
            obtain ⟨xk, xv, xg⟩ := x
            refine ⟨_, rfl, ?_⟩)
         | (refine step_append_src rfl (.tmp 17) (.tmp 28) 38 38 rfl w.heap.size 88 j0 apiChZ 3 40 Tryz.underlying38 hj hy0 hy1 hy2 rfl (Nat.zero_lt_succ 2) (.slice pv i cv) i (chCells es) (by simp [Act.eval, Act.put]) HR2.out (.slice (some ⟨w2.heap.size, 0, none⟩) 1 1) 1 (chCells [⟨xk, xv, xg⟩]) (by simp [Act.eval, Act.put]) HSRC.out h63.out hbs.out hbase ?_
            intro p3 c3 w3 hr3 hg3 hl3))
       all_goals
         go_wp2
         have k3 : Keeps w w3 (fun _ => False) := ((kk.trans kc (fun _ _ h => h)).more _).grow hg3 (fun j e hj => by have := (HROW.out.lt j e).1; omega)
         rw [← chCells_snoc] at hr3
         exact ⟨⟨i + 1, es ++ [⟨xk, xv, xg⟩], by simp, by rw [List.length_append, HEL.out]; rfl, by omega, by omega, hr3, fun y hy => by
           rcases List.mem_append.1 hy with hy | hy
           · exact HSM.out y hy
           · rw [List.mem_singleton.1 hy]; exact hx, k3⟩, by simp [intOf]; omega⟩
     · have hb2 : ¬ (i : Int) < 8 := by omega
       rcases Nat.eq_zero_or_pos i with h0 | h0
       · have hi0 : ((i : Int) == 0) = true := by simp; omega
         have hz0 : es.length = 0 := by rw [HEL.out]; exact h0
         clear h0
         go_wp2
         go_ret
         exact ⟨_, [⟨[97], [49], false⟩], rfl, ch_lit wr ⟨[97], [49], false⟩ kk.size, by simp, by simp, fun x hx => (by rw [List.mem_singleton.1 hx]; exact ⟨by simp, by simp, by simp, fun h => (by cases h)⟩), kk.more _⟩
       · have hi0 : ((i : Int) == 0) = false := by simp; omega
         have H0 := hide h0
         clear h0
         go_wp2
         go_ret
         refine ⟨_, es, rfl, ?_, ?_, ?_, HSM.out, kk⟩
         · rw [HEL.out]
           exact HROW.out
         · rw [HEL.out]
           exact H0.out
         · rw [HEL.out]
           exact hi8
   · have hb1 : ¬ (i : Int) < (zs.length : Int) := by omega
     rcases Nat.eq_zero_or_pos i with h0 | h0
     · have hi0 : ((i : Int) == 0) = true := by simp; omega
       have hz0 : es.length = 0 := by rw [HEL.out]; exact h0
       clear h0
       go_wp2
       go_ret
       exact ⟨_, [⟨[97], [49], false⟩], rfl, ch_lit wr ⟨[97], [49], false⟩ kk.size, by simp, by simp, fun x hx => (by rw [List.mem_singleton.1 hx]; exact ⟨by simp, by simp, by simp, fun h => (by cases h)⟩), kk.more _⟩
     · have hi0 : ((i : Int) == 0) = false := by simp; omega
       have H0 := hide h0
       clear h0
       go_wp2
       go_ret
       refine ⟨_, es, rfl, ?_, ?_, ?_, HSM.out, kk⟩
       · rw [HEL.out]
         exact HROW.out
       · rw [HEL.out]
         exact H0.out
       · rw [HEL.out]
         exact hi8
theorem smallBatch {es : List Ref.Ch} (h1 : 1 ≤ es.length) (h8 : es.length ≤ 8) (h : ∀ x ∈ es, SmallCh x) : Ref.okBatch es = true ∧ ∀ n, (Ref.batchBytes n es).length ≤ 265 := by
 have hall : ∀ c ∈ es, Ref.allowed c = true := fun c hc => by
   obtain ⟨a1, a2, a3, a4⟩ := h c hc
   exact (Ref.allowed_iff c).2 ⟨a1, by omega, by omega, a4⟩
 refine ⟨(Ref.okBatch_iff es).2 ⟨h1, h8, hall⟩, fun n => ?_⟩
 have H : ∀ l : List Ref.Ch, (∀ x ∈ l, SmallCh x) → (l.flatMap Ref.entry).length ≤ 31 * l.length := by
   intro l
   induction l with
   | nil => intro _; simp
   | cons x r ih =>
     intro hl
     have h2 := ih (fun y hy => hl y (List.mem_cons_of_mem _ hy))
     obtain ⟨a1, a2, a3, a4⟩ := hl x List.mem_cons_self
     have h3 : (Ref.entry x).length ≤ 31 := by
       unfold Ref.entry
       split
       · simp [Ref.text, Ref.big_length]; omega
       · simp [Ref.text, Ref.big_length]; omega
     rw [List.flatMap_cons, List.length_append, List.length_cons]
     omega
 have h4 := H es h
 simp only [Ref.batchBytes, Ref.frame, List.length_append, Ref.big_length]
 omega
abbrev bookRow (d b : Nat) (wv : Value) : Array Value := #[.pointer (some ⟨d, 0, none⟩), .pointer (some ⟨b, 0, none⟩), wv, .bool false, .int .i64 0, .bool false]
def BegunPost (E : Nat → Addr) (B : Nat) (w : World) (e : Ending) (w' : World) : Prop :=
 ∃ kb d b F, e = .returned (.pointer (some ⟨kb, 0, none⟩)) ∧ w'.heap[kb]? = some (.cells (bookRow d b (.slice none 0 0)) 51 (0, 0)) ∧ Own E B w' d b Ref.St.first 1000 F ∧ Keeps w w' (fun _ => False) ∧ (∀ i, F i → w.heap.size ≤ i) ∧ ¬ F kb ∧ w.heap.size ≤ kb
set_option maxHeartbeats 1000000 in
set_option maxRecDepth 100000 in
theorem begun_o {E : Nat → Addr} {B : Nat} {w : World} (H : Env E B w) (hB : B ≤ w.heap.size) : Calls Tryz.prog 22 #[] w (BegunPost E B w) := by
 have HNEW := hide (new_o H hB)
 go_enter Tryz.func22, Tryz.ntmps22
 go_wp2_with fail
 refine HNEW.out.mono ?_
 rintro e w1 ⟨d, ρ, rfl, D1, k1, hρ⟩
 obtain ⟨kb, hkb⟩ : ∃ kb, kb = w1.heap.size := ⟨_, rfl⟩
 obtain ⟨w2, hw2⟩ : ∃ w2, w2 = w1.alloc (.cells #[.pointer (some ⟨d, 0, none⟩), .pointer none, .slice none 0 0, .bool false, .int .i64 0, .bool false] 51) := ⟨_, rfl⟩
 have k2 : Keeps w1 w2 (fun _ => False) := by rw [hw2]; exact Keeps.alloc _ _ _
 have hK2 : w2.heap[kb]? = some (.cells #[.pointer (some ⟨d, 0, none⟩), .pointer none, .slice none 0 0, .bool false, .int .i64 0, .bool false] 51 (0, 0)) := by rw [hw2, hkb]; exact heap_alloc_top _ _
 have kw2 : Keeps w w2 (fun _ => False) := k1.trans k2 (fun _ _ h => h)
 have HOP := hide (open_new_o (D1.same k2) (H.same kw2) (by omega))
 have nkb : ρ kb = .none := Classical.byContradiction (fun hn => by have := (D1.roles kb hn).2; omega)
 have HKB := hide hkb
 have HK2 := hide hK2
 have sz1 := k1.size
 clear hkb hK2
 go_wp2_with fail
 rw [← hw2]
 clear hw2
 refine HOP.out.mono ?_
 rintro e w3 ⟨b, F, rfl, hb, O3, k3, hF⟩
 have hK3 := k3.same HK2.out (fun t => t nkb)
 have c1 := cell_of_heap (o := 1) hK3
 have f1 := frozen_of_heap (o := 1) hK3
 simp at c1
 have HK3 := hide hK3
 have hnF : ¬ F kb := fun h => by
   rcases hF kb h with t | t
   · exact t nkb
   · have := lt_of_heap HK2.out; omega
 have hBk : B ≤ kb := by have := HKB.out; omega
 rw [← HKB.out]
 clear hK3
 go_wp2
 go_ret
 have k4 := Keeps.setCell w3 ⟨kb, 1, none⟩ (.pointer (some ⟨b, 0, none⟩))
 refine ⟨kb, d, b, F, rfl, (heap_setCell_at HK3.out _).trans rfl, (O3.mono (by omega)).keep k4 (fun i _ e => by rw [e]; exact ⟨hBk, hnF⟩), (kw2.trans k3 (fun i hi t => by have := hρ i t; omega)).trans k4 (fun i hi e => by have e' : i = kb := e; have := HKB.out; omega), fun i hi => ?_, hnF, by have := HKB.out; omega⟩
 rcases hF i hi with t | t
 · exact hρ i t
 · have := kw2.size
   omega
def Prs (w : World) (v : Value) (l : List Ref.Ch) : Prop := ∃ base, w.ownsRow base 65 2 v l.length (prCells l)
theorem Prs.same {w w' : World} {v : Value} {l : List Ref.Ch} (h : Prs w v l) (k : Keeps w w' (fun _ => False)) : Prs w' v l := by
 obtain ⟨base, h⟩ := h
 exact ⟨base, k.row h (fun _ _ h => h)⟩
theorem prCells_at {l : List Ref.Ch} {k : Nat} (h : k < l.length) : (prCells l)[k * 2]? = some (strV l[k].key) ∧ (prCells l)[k * 2 + 1]? = some (strV l[k].value) := by
 induction l generalizing k with
 | nil => simp at h
 | cons x r ih =>
   cases k with
   | zero => simp [prCells]
   | succ k =>
     have := ih (k := k) (by simpa using h)
     have e : prCells (x :: r) = strV x.key :: strV x.value :: prCells r := by simp [prCells]
     rw [e, show (k + 1) * 2 = k * 2 + 1 + 1 by omega]
     simpa using this
theorem Prs.at {w : World} {v : Value} {l : List Ref.Ch} (h : Prs w v l) {k : Nat} (hk : k < l.length) : ∃ g c, v = .slice (some ⟨g, 0, none⟩) l.length c ∧ w.cell? ⟨g, k * 2, none⟩ = some (strV l[k].key) ∧ w.cell? ⟨g, k * 2 + 1, none⟩ = some (strV l[k].value) := by
 obtain ⟨base, h⟩ := h
 have hat := prCells_at hk
 rcases h.2 with ⟨_, h0⟩ | ⟨g, cap, cur, e, _, hgg, h1, h2, h3, h4⟩
 · omega
 · refine ⟨g, cap, e, ?_, ?_⟩
   · rw [cell_of_heap hgg]
     have : (cur.toList.take (l.length * 2))[k * 2]? = some (strV l[k].key) := by rw [h4]; exact hat.1
     rw [List.getElem?_take] at this
     split at this
     · simpa using this
     · cases this
   · rw [cell_of_heap hgg]
     have : (cur.toList.take (l.length * 2))[k * 2 + 1]? = some (strV l[k].value) := by rw [h4]; exact hat.2
     rw [List.getElem?_take] at this
     split at this
     · simpa using this
     · cases this
def prOf (c : Ref.Ch) : Str × Str := (c.key, c.value)
set_option maxHeartbeats 1000000 in
set_option maxRecDepth 100000 in
theorem same_any {w : World} (va vb : Value) (la lb : List Ref.Ch) (ha : Prs w va la) (hb : Prs w vb lb) (he : la.map prOf = lb.map prOf) (hl : la.length < 1048576) :
   Calls Tryz.prog 31 #[va, vb] w fun e w' => e = .returned (.bool true) ∧ Keeps w w' (fun _ => False) := by
 have hlen : la.length = lb.length := by have := congrArg List.length he; simpa using this
 obtain ⟨pa, ca, hva⟩ : ∃ p c, va = .slice p la.length c := by obtain ⟨_, h⟩ := ha; obtain ⟨p, c, e⟩ := slice_of_row h; exact ⟨p, c, e⟩
 obtain ⟨pb, cb, hvb⟩ : ∃ p c, vb = .slice p lb.length c := by obtain ⟨_, h⟩ := hb; obtain ⟨p, c, e⟩ := slice_of_row h; exact ⟨p, c, e⟩
 rw [← hlen] at hvb
 obtain ⟨n, hn⟩ : ∃ n, n = la.length := ⟨_, rfl⟩
 rw [← hn] at hva hvb hl
 have HA := hide ha
 have HB := hide hb
 have HE := hide he
 have HN := hide hn
 have HLEN := hide hlen
 subst hva
 subst hvb
 clear ha hb he hn hlen
 go_enter Tryz.func31, Tryz.ntmps31
 go_wp2_with fail
 go_loopw [5] (fun i wr => ∃ k : Nat, k ≤ n ∧ i = .int .i64 k ∧ Keeps w wr (fun _ => False)) (fun i _ => n - (intOf i).toNat)
 case atStart => exact ⟨0, Nat.zero_le _, rfl, Keeps.refl _ _⟩
 case round =>
   obtain ⟨k, hk, rfl, kk⟩ := hrel
   rcases Nat.lt_or_ge k n with hlt | hge
   · have h1 : k < la.length := by rw [← HN.out]; exact hlt
     have h2 : k < lb.length := by rw [← HLEN.out]; exact h1
     obtain ⟨ga, ca', ea, a0, a1⟩ := (HA.out.same kk).at h1
     obtain ⟨gb, cb', eb, b0, b1⟩ := (HB.out.same kk).at h2
     have hee : prOf la[k] = prOf lb[k] := by
       have := congrArg (fun l => l[k]?) HE.out
       simp only [List.getElem?_map, List.getElem?_eq_getElem h1, List.getElem?_eq_getElem h2, Option.map_some] at this
       exact Option.some.inj this
     unfold prOf at hee
     injection hee with e1 e2
     rw [← e1] at b0
     rw [← e2] at b1
     generalize la[k].key = K at a0 b0
     generalize la[k].value = U at a1 b1
     injection ea with ea1 ea2 ea3
     injection eb with eb1 eb2 eb3
     subst ea1
     subst eb1
     clear ea2 ea3 eb2 eb3
     have hki : (k : Int) < (n : Int) := by omega
     have hwk : IntKind.i64.wrap ((k : Int) + 1) = (k : Int) + 1 := wrap_i64 (by omega) (by omega)
     clear h1 h2 e1 e2
     go_wp2_with fail
     go_quiet (fail)
     go_wp2
     exact ⟨⟨k + 1, by omega, by simp, kk.trans (Keeps.drewN wr nq _) (fun _ _ h => h)⟩, by simp [intOf]; omega⟩
   · have hki : ¬ (k : Int) < (n : Int) := by omega
     go_wp2
     go_ret
     exact ⟨rfl, kk⟩
end Go.Proofs.YtnipbplghijdmaaGreatDoor
namespace Go.Proofs.YtnipbplghijdmaaGreatDoor
open Go.RowKit Go.Maps Go.WideShapes
set_option linter.unusedVariables false
def lens (ls : List (List Ref.Ch)) : Nat := (ls.map List.length).sum
theorem lens_cons (l : List Ref.Ch) (ls : List (List Ref.Ch)) : lens (l :: ls) = l.length + lens ls := by simp [lens]
structure Fine (i : Nat) (s : Ref.St) : Prop where
 ok : s.Ok
 last : s.last = i
 base : s.m.base = 0
 next : s.m.next ≤ 2 + 2 * s.m.last
 next1 : 1 ≤ s.m.next
 len : s.bls.length = s.m.runs.length
 runs : s.m.runs.length ≤ s.m.last
 all : lens s.bls ≤ 8 * s.m.last
 log : (Ref.logBytes s.m.last s.bs).length ≤ 265 * s.bs.length
 mem : s.mem.length ≤ 8 * s.bs.length
theorem Fine.first : Fine 0 Ref.St.first := ⟨Ref.St.Ok.first, rfl, rfl, by decide, by decide, rfl, by decide, by decide, by decide, by decide⟩
theorem Fine.write {i : Nat} {s : Ref.St} (h : Fine i s) {es : List Ref.Ch} (h1 : 1 ≤ es.length) (h8 : es.length ≤ 8) (hs : ∀ x ∈ es, SmallCh x) (hi : i < 1000000) : Fine (i + 1) (s.write es) := by
 obtain ⟨hb, hl⟩ := smallBatch h1 h8 hs
 have hlast := h.last
 refine ⟨h.ok.write hb (by omega), ?_, h.base, h.next, h.next1, h.len, h.runs, h.all, ?_, ?_⟩
 · show s.m.last + (s.bs ++ [es]).length = i + 1
   rw [List.length_append, List.length_singleton]
   unfold Ref.St.last at hlast
   omega
 · show (Ref.logBytes s.m.last (s.bs ++ [es])).length ≤ 265 * (s.bs ++ [es]).length
   rw [Ref.logBytes_snoc, List.length_append, List.length_append, List.length_singleton]
   have := h.log
   have := hl (s.m.last + s.bs.length + 1)
   omega
 · show (Ref.memory (s.bs ++ [es])).length ≤ 8 * (s.bs ++ [es]).length
   rw [Ref.memory_snoc, List.length_append, List.length_singleton]
   have h2 := (Ref.length_over (more := es) (Ref.memory_rising s.bs)).1
   have h3 : (Ref.memory s.bs).length ≤ 8 * s.bs.length := h.mem
   omega
theorem Fine.flush {i : Nat} {s : Ref.St} (h : Fine i s) (hi : i < 5000) : Fine i s.flush := by
 by_cases hb : s.bs = []
 · have e : s.flush = s := by unfold Ref.St.flush; rw [if_pos hb]
   rw [e]
   exact h
 · have e : s.flush = ⟨s.m.flushed s.last, [], s.mem :: s.bls⟩ := by unfold Ref.St.flush; rw [if_neg hb]
   have hpos := List.length_pos_iff.2 hb
   have hlast := h.last
   have hn := h.next
   have hm := h.mem
   have hr := h.runs
   have ha := h.all
   unfold Ref.St.last at hlast
   have ok := h.ok.flush (by omega) (by omega) h.next1 (by omega)
   rw [e] at ok ⊢
   refine ⟨ok, ?_, h.base, ?_, by show 1 ≤ s.m.next + 2; omega, ?_, ?_, ?_, by simp [Ref.logBytes], by show (Ref.memory []).length ≤ _; simp [Ref.memory]⟩
   · show s.last + 0 = i
     exact h.last
   · show s.m.next + 2 ≤ 2 + 2 * s.last
     unfold Ref.St.last
     omega
   · show (s.mem :: s.bls).length = (s.m.next :: s.m.runs).length
     rw [List.length_cons, List.length_cons, h.len]
   · show (s.m.next :: s.m.runs).length ≤ s.last
     rw [List.length_cons]
     unfold Ref.St.last
     omega
   · show lens (s.mem :: s.bls) ≤ 8 * s.last
     rw [lens_cons]
     unfold Ref.St.last
     omega
theorem vsize_runs : ∀ (ns : List Nat) (ls : List (List Ref.Ch)), (∀ l ∈ ls, ∀ c ∈ l, Ref.allowed c = true) → vsize (runFiles ns ls) ≤ 67 * lens ls + 300 * ls.length
 | [], ls, _ => by simp [runFiles, vsize]
 | n :: r, [], _ => by simp [runFiles, vsize]
 | n :: r, l :: q, h => by
   have h1 := vsize_runs r q (fun x hx => h x (List.mem_cons_of_mem _ hx))
   have h2 := Ref.runBytes_length (h l List.mem_cons_self)
   have e : runFiles (n :: r) (l :: q) = (runName n, Ref.runBytes l) :: runFiles r q := rfl
   rw [e, vsize_cons, lens_cons, List.length_cons]
   show (Ref.runBytes l).length + _ ≤ _
   omega
theorem vsize_files {s : Ref.St} (h : s.Ok) : vsize s.files ≤ 42 + 8 * s.m.runs.length + (Ref.logBytes s.m.last s.bs).length + 67 * lens s.bls + 300 * s.bls.length := by
 unfold Ref.St.files
 rw [vsize_cons, vsize_cons]
 have h1 := vsize_runs s.m.settled s.bls (fun l hl => (h.bl l hl).allowed)
 have h2 := manBytes_length s.m
 show s.m.bytes.length + ((Ref.logBytes s.m.last s.bs).length + _) ≤ _
 omega
theorem Fine.size {i : Nat} {s : Ref.St} (h : Fine i s) : vsize s.files ≤ 42 + 265 * s.bs.length + 844 * s.m.last := by
 have h1 := vsize_files h.ok
 have := h.log
 have := h.all
 have := h.runs
 have := h.len
 omega
theorem Fine.split {i : Nat} {s : Ref.St} (h : Fine i s) : s.m.last + s.bs.length = i := h.last
theorem Fine.room {i : Nat} {s : Ref.St} (h : Fine i s) (hi : i ≤ 20) : (s.m.flushed s.last).bytes.length + (Ref.runBytes s.mem).length + vsize s.files ≤ 20000 := by
 have h1 := h.size
 have h2 := manBytes_length (s.m.flushed s.last)
 have h3 : (s.m.flushed s.last).runs.length = s.m.runs.length + 1 := rfl
 have h4 := h.runs
 have h5 := h.split
 have h6 : (Ref.runBytes s.mem).length ≤ 67 * s.mem.length + 300 := Ref.runBytes_length (fun c hc => by
   obtain ⟨b, hb, hcb⟩ := Ref.mem_memory hc
   exact ((Ref.okBatch_iff b).1 (h.ok.log b hb)).2.2 c hcb)
 have h7 := h.mem
 omega
theorem lens_all {i : Nat} {s : Ref.St} (h : Fine i s) : s.all.length ≤ 8 * i := by
 have h1 := Ref.length_merged (s.mem :: s.bls)
 have h2 : ((s.mem :: s.bls).map List.length).sum = s.mem.length + lens s.bls := by simp [lens]
 have h3 := h.mem
 have h4 := h.all
 have h5 := h.split
 unfold Ref.St.all
 omega
end Go.Proofs.YtnipbplghijdmaaGreatDoor
namespace Go.Proofs.YtnipbplghijdmaaGreatDoor
open Go.RowKit Go.Maps Go.WideShapes
set_option linter.unusedVariables false
set_option linter.unusedSimpArgs false
theorem OwnPost.new {E : Nat → Addr} {B : Nat} {w W W' : World} {d b k : Nat} {s : Ref.St} {F : Nat → Prop} (kW : Keeps w W (fun _ => False)) (hF : ∀ i, F i → w.heap.size ≤ i) (h : OwnPost E B W d b s k F W') :
   ∃ F', Own E B W' d b s k F' ∧ (∀ i, F' i → w.heap.size ≤ i) ∧ Keeps w W' (fun _ => False) ∧ Keeps W W' F ∧ (∀ i, F' i → F i ∨ W.heap.size ≤ i) := by
 obtain ⟨F', O, kk, hF'⟩ := h
 refine ⟨F', O, fun i hi => ?_, kW.trans kk (fun i hi t => by have := hF i t; omega), kk, hF'⟩
 rcases hF' i hi with t | t
 · exact hF i t
 · exact Nat.le_trans kW.size t
theorem getA_there {l : List Ref.Ch} (h : Ref.Rising l) (k : Str) : getA (Ref.getIn l k) = (match Ref.getIn (Ref.there l) k with | some c => (c.value, true) | none => ([], false)) := by
 rw [Ref.getIn_there h]
 cases Ref.getIn l k with
 | none => rfl
 | some c => by_cases hg : c.gone = true <;> simp [getA, Option.filter, hg]
set_option maxRecDepth 100000 in
theorem compact_size {s : Ref.St} (h : s.compact.Ok) (hs : s.Ok) : vsize s.compact.files ≤ 42 + 8 * s.m.runs.length + (Ref.logBytes s.m.last s.bs).length + 67 * lens s.bls + 300 * (s.bls.length + 1) := by
 have h1 := vsize_files h
 have hl : s.live.length ≤ lens s.bls := by
   have h2 := List.length_filter_le (fun c : Ref.Ch => !c.gone) (Ref.merged s.bls)
   have h3 := Ref.length_merged s.bls
   show (Ref.there (Ref.merged s.bls)).length ≤ (s.bls.map List.length).sum
   unfold Ref.there
   omega
 unfold Ref.St.compact at h1 ⊢
 split at h1
 · rename_i hr
   rw [if_pos hr]
   omega
 · rename_i hr
   rw [if_neg hr]
   split at h1
   · rename_i hr2
     rw [if_pos hr2]
     have e1 : (⟨s.m.bare, s.bs, []⟩ : Ref.St).m.runs.length = 0 := rfl
     have e2 : lens (⟨s.m.bare, s.bs, []⟩ : Ref.St).bls = 0 := rfl
     have e3 : (⟨s.m.bare, s.bs, []⟩ : Ref.St).bls.length = 0 := rfl
     have e4 : (Ref.logBytes (⟨s.m.bare, s.bs, []⟩ : Ref.St).m.last (⟨s.m.bare, s.bs, []⟩ : Ref.St).bs) = Ref.logBytes s.m.last s.bs := rfl
     rw [e1, e2, e3, e4] at h1
     generalize (Ref.logBytes s.m.last s.bs).length = L at h1 ⊢
     generalize vsize _ = X at h1 ⊢
     omega
   · rename_i hr2
     rw [if_neg hr2]
     have e1 : (⟨s.m.pressed, s.bs, [s.live]⟩ : Ref.St).m.runs.length = 0 := rfl
     have e2 : lens (⟨s.m.pressed, s.bs, [s.live]⟩ : Ref.St).bls = s.live.length := by show lens [s.live] = _; rw [lens_cons]; rfl
     have e3 : (⟨s.m.pressed, s.bs, [s.live]⟩ : Ref.St).bls.length = 1 := rfl
     have e4 : (Ref.logBytes (⟨s.m.pressed, s.bs, [s.live]⟩ : Ref.St).m.last (⟨s.m.pressed, s.bs, [s.live]⟩ : Ref.St).bs) = Ref.logBytes s.m.last s.bs := rfl
     rw [e1, e2, e3, e4] at h1
     generalize (Ref.logBytes s.m.last s.bs).length = L at h1 ⊢
     generalize vsize _ = X at h1 ⊢
     omega
theorem compact_mem (s : Ref.St) : s.compact.mem = s.mem := by
 unfold Ref.St.compact
 split
 · rfl
 · split <;> rfl
theorem compact_files (s : Ref.St) : s.compact.files.length ≤ s.bls.length + 3 := by
 have H : ∀ (ns : List Nat) (ls : List (List Ref.Ch)), (runFiles ns ls).length ≤ ls.length := fun ns ls => by unfold runFiles; rw [List.length_map, List.length_zip]; omega
 unfold Ref.St.files
 rw [List.length_cons, List.length_cons]
 have h1 := H s.compact.m.settled s.compact.bls
 have h2 : s.compact.bls.length ≤ s.bls.length + 1 := by
   unfold Ref.St.compact
   split
   · omega
   · split
     · simp
     · simp
 omega
def esA : List Ref.Ch := [⟨[107], [118], false⟩, ⟨[108], [119], false⟩]
def esB : List Ref.Ch := [⟨[108], [], true⟩]
theorem small_esA : ∀ x ∈ esA, SmallCh x := by
 intro x hx
 simp [esA] at hx
 rcases hx with rfl | rfl <;> exact ⟨by simp, by simp, by simp, fun h => (by cases h)⟩
theorem small_esB : ∀ x ∈ esB, SmallCh x := by
 intro x hx
 simp [esB] at hx
 rw [hx]
 exact ⟨by simp, by simp, by simp, fun _ => rfl⟩
def sureSt : Ref.St := (((Ref.St.first.write esA).flush).write esB).compact
theorem fine3 : Fine 2 ((Ref.St.first.write esA).flush.write esB) := ((Fine.first.write (by decide) (by decide) small_esA (by decide)).flush (by decide)).write (by decide) (by decide) small_esB (by decide)
theorem sure_get : getA (Ref.getIn sureSt.all [107]) = ([118], true) ∧ getA (Ref.getIn sureSt.all [108]) = ([], false) := by
 have ht : Ref.there sureSt.all = Ref.there (Ref.over (Ref.over (Ref.merged [[]]) esA) esB) := by
   have h1 : sureSt.tell = ((Ref.St.first.write esA).flush.write esB).tell := Ref.St.tell_compact fine3.ok
   have h2 : ((Ref.St.first.write esA).flush.write esB).all = Ref.over (Ref.over (Ref.merged [[]]) esA) esB := by
     rw [Ref.St.all_write, Ref.St.all_flush, Ref.St.all_write]
     rfl
   show sureSt.tell = _
   rw [h1]
   unfold Ref.St.tell
   rw [h2]
 rw [getA_there (Ref.St.all_rising _), getA_there (Ref.St.all_rising _), ht]
 constructor <;> decide +kernel
set_option maxHeartbeats 1000000 in
set_option maxRecDepth 100000 in
theorem sure_o {E : Nat → Addr} {B : Nat} {w : World} (H : Env E B w) (hB : B ≤ w.heap.size) : Calls Tryz.prog 21 #[] w fun e w' => e = .returned (.bool true) ∧ Keeps w w' (fun _ => False) := by
 have HNEW := hide (new_o H hB)
 have f1 := Fine.first.write (by decide) (by decide) small_esA (by decide)
 have f2 := f1.flush (by decide)
 have f3 := fine3
 have hsA := smallBatch (by decide) (by decide) small_esA
 have hsB := smallBatch (by decide) (by decide) small_esB
 obtain ⟨s1, e1⟩ : ∃ s1, s1 = Ref.St.first.write esA := ⟨_, rfl⟩
 obtain ⟨s2, e2⟩ : ∃ s2, s2 = s1.flush := ⟨_, rfl⟩
 obtain ⟨s3, e3⟩ : ∃ s3, s3 = s2.write esB := ⟨_, rfl⟩
 obtain ⟨s4, e4⟩ : ∃ s4, s4 = s3.compact := ⟨_, rfl⟩
 rw [← e1] at f1 f2 f3
 rw [← e2] at f2 f3
 rw [← e3] at f3
 have hg := sure_get
 unfold sureSt at hg
 rw [← e1, ← e2, ← e3, ← e4] at hg
 have F1 := hide f1
 have F2 := hide f2
 have F3 := hide f3
 have HSA := hide hsA
 have HSB := hide hsB
 have HG := hide hg
 have H1 := hide e1
 have H2 := hide e2
 have H3 := hide e3
 have H4 := hide e4
 clear f1 f2 f3 hsA hsB hg e1 e2 e3 e4
 go_enter Tryz.func21, Tryz.ntmps21
 go_wp2_with fail
 refine HNEW.out.mono ?_
 rintro e w1 ⟨d, ρ, rfl, D1, k1, hρ⟩
 have HOP := hide (open_new_o D1 (H.same k1) (by omega))
 go_wp2_with fail
 refine HOP.out.mono ?_
 rintro e w2 ⟨b, G2, rfl, hb, O2, k2, hG2⟩
 have kw2 : Keeps w w2 (fun _ => False) := k1.trans k2 (fun i hi t => by have := hρ i t; omega)
 have hF2 : ∀ i, G2 i → w.heap.size ≤ i := fun i hi => by
   rcases hG2 i hi with t | t
   · exact hρ i t
   · have := k1.size; omega
 have hrow3 := World.ownsRow_lit (base := w.heap.size) (e := 88) (size := 3) w2 #[.string ⟨#[107]⟩, .string ⟨#[118]⟩, .bool false, .string ⟨#[108]⟩, .string ⟨#[119]⟩, .bool false] 2 kw2.size (by unfold maxLen; omega) rfl
 have hch3 : Chs (w2.alloc (.cells #[.string ⟨#[107]⟩, .string ⟨#[118]⟩, .bool false, .string ⟨#[108]⟩, .string ⟨#[119]⟩, .bool false] 88)) (.slice (some ⟨w2.heap.size, 0, none⟩) 2 2) esA := chs_of_row hrow3
 have kA := Keeps.alloc w2 (.cells #[.string ⟨#[107]⟩, .string ⟨#[118]⟩, .bool false, .string ⟨#[108]⟩, .string ⟨#[119]⟩, .bool false] 88) (fun _ => False)
 have HW := hide (write_o (O2.same kA) (by omega) _ esA HSA.out.1 hch3 (fun p n c e t => by cases e; have := (O2.old t).2; simp at this) (by decide) (by decide) (by
   have h1 := Fine.first.size
   have h2 := HSA.out.2 (Ref.St.first.last + 1)
   have h3 : Ref.St.first.bs.length = 0 := rfl
   have h4 : Ref.St.first.m.last = 0 := rfl
   omega))
 clear hrow3 hch3
 go_wp2_with fail
 refine HW.out.mono ?_
 rintro e w3 ⟨rfl, h3⟩
 obtain ⟨G3, O3, hF3, kw3, _, _⟩ := OwnPost.new (kw2.trans kA (fun _ _ h => h)) hF2 h3
 rw [← H1.out] at O3
 have HFL := hide (flush_o O3 (by omega) (by have := F1.out.next; have := F1.out.split; omega) (by have := F1.out.runs; have := F1.out.split; omega) (F1.out.room (by decide)))
 clear h3
 go_wp2_with fail
 refine HFL.out.mono ?_
 rintro e w4 ⟨rfl, h4⟩
 obtain ⟨G4, O4, hF4, kw4, _, _⟩ := OwnPost.new kw3 hF3 h4
 rw [← H2.out] at O4
 have hrow5 := World.ownsRow_lit (base := w.heap.size) (e := 88) (size := 3) w4 #[.string ⟨#[108]⟩, .string ⟨#[]⟩, .bool true] 1 kw4.size (by unfold maxLen; omega) rfl
 have hch5 : Chs (w4.alloc (.cells #[.string ⟨#[108]⟩, .string ⟨#[]⟩, .bool true] 88)) (.slice (some ⟨w4.heap.size, 0, none⟩) 1 1) esB := chs_of_row hrow5
 have kB := Keeps.alloc w4 (.cells #[.string ⟨#[108]⟩, .string ⟨#[]⟩, .bool true] 88) (fun _ => False)
 have HW2 := hide (write_o (O4.same kB) (by omega) _ esB HSB.out.1 hch5 (fun p n c e t => by cases e; have := (O4.old t).2; simp at this) (by have := F2.out.last; omega) (by have := F2.out.mem; have := F2.out.split; omega) (by
   have h1 := F2.out.size
   have h2 := HSB.out.2 (s2.last + 1)
   have h3 := F2.out.split
   omega))
 clear hrow5 hch5 h4
 go_wp2_with fail
 refine HW2.out.mono ?_
 rintro e w5 ⟨rfl, h5⟩
 obtain ⟨G5, O5, hF5, kw5, _, _⟩ := OwnPost.new (kw4.trans kB (fun _ _ h => h)) hF4 h5
 rw [← H3.out] at O5
 have hml : (Ref.merged s3.bls).length ≤ 16 := by
   have h1 := Ref.length_merged s3.bls
   have h2 := F3.out.all
   have h3 := F3.out.split
   unfold lens at h2
   omega
 have hlv : s3.live.length ≤ 16 := by
   have h2 := List.length_filter_le (fun c : Ref.Ch => !c.gone) (Ref.merged s3.bls)
   show (Ref.there (Ref.merged s3.bls)).length ≤ 16
   unfold Ref.there
   omega
 have hrb : (Ref.runBytes s3.live).length ≤ 67 * s3.live.length + 300 := Ref.runBytes_length (fun c hc => by
   obtain ⟨l, hm, hcl⟩ := Ref.mem_merged (fun l hl => (F3.out.ok.bl l hl).rising) (Ref.there_sub _ c hc)
   exact (F3.out.ok.bl l hm).allowed c hcl)
 have HCP := hide (compact_o O5 (by omega) (by have := F3.out.next; have := F3.out.split; omega) (by omega) (by have := F3.out.size; have := F3.out.split; omega))
 clear h5 hml hlv hrb
 go_wp2_with fail
 refine HCP.out.mono ?_
 rintro e w6 ⟨rfl, h6⟩
 obtain ⟨G6, O6, hF6, kw6, _, _⟩ := OwnPost.new kw5 hF5 h6
 obtain ⟨ρ6, D6, hD6⟩ := O6.disk
 have hsz6 := compact_size O6.ok F3.out.ok
 have hfl6 := compact_files s3
 have HOP2 := hide (open_again_o D6 O6.env (by have := F3.out.len; have := F3.out.runs; have := F3.out.split; omega) O6.ok (by have := F3.out.log; have := F3.out.all; have := F3.out.len; have := F3.out.runs; have := F3.out.split; omega) (by rw [compact_mem]; have := F3.out.mem; have := F3.out.split; omega))
 clear h6 hsz6 hfl6
 go_wp2_with fail
 refine HOP2.out.mono ?_
 rintro e w7 ⟨b7, G7, rfl, hb7, O7, k7, hG7⟩
 have kw7 : Keeps w w7 (fun _ => False) := kw6.trans k7 (fun i hi t => by have := hF6 i (hD6 i t); omega)
 have hF7 : ∀ i, G7 i → w.heap.size ≤ i := fun i hi => by
   rcases hG7 i hi with t | t
   · exact hF6 i (hD6 i t)
   · have := kw6.size; omega
 have hfl7 := compact_files s3
 rw [← H4.out] at O7 hfl7
 have hk7 : 0 + 1000 + 20000 + 50000 + 20000 + 100000 + s4.files.length < 540000000000 := by have := F3.out.len; have := F3.out.runs; have := F3.out.split; omega
 have HG1 := hide (get_o O7 hk7 [107])
 have HG2 : Hid (∀ W F, Own E B W d b7 s4 (0 + 1000 + 20000 + 50000 + 20000 + 100000 + s4.files.length) F → Calls Tryz.prog 33 #[.pointer (some ⟨b7, 0, none⟩), strV [108]] W fun e w' => e = .returned (.tuple #[strV (getA (Ref.getIn s4.all [108])).1, .bool (getA (Ref.getIn s4.all [108])).2, .int .i64 0]) ∧ Own E B w' d b7 s4 (0 + 1000 + 20000 + 50000 + 20000 + 100000 + s4.files.length) F ∧ Keeps W w' F) := fun W F hO => get_o hO hk7 [108]
 rw [HG.out.1] at HG1
 rw [HG.out.2] at HG2
 clear hk7 hfl7
 go_wp2_with fail
 refine HG1.out.mono ?_
 rintro e w8 ⟨rfl, O8, k8⟩
 go_wp2_with fail
 refine (HG2.out _ _ O8).mono ?_
 rintro e w9 ⟨rfl, O9, k9⟩
 go_wp2
 go_ret
 exact ⟨rfl, (kw7.trans k8 (fun i hi t => by have := hF7 i t; omega)).trans k9 (fun i hi t => by have := hF7 i t; omega)⟩
end Go.Proofs.YtnipbplghijdmaaGreatDoor
namespace Go.Proofs.YtnipbplghijdmaaGreatDoor
open Go.RowKit Go.Maps Go.WideShapes Go.Shelf
set_option linter.unusedVariables false
set_option linter.unusedSimpArgs false
set_option maxRecDepth 100000 in
set_option maxHeartbeats 1000000 in
theorem scan_neg {w : World} {b : Nat} {t : TypeId} {c0 c1 c2 c3 c4 c5 c6 c7 c8 : Value} (hb : w.heap[b]? = some (.cells #[c0, c1, c2, c3, c4, c5, c6, c7, c8, .bool false] t (0, 0))) (lo hi : Str) (most : Int) (hm : most < 0) :
   Calls Tryz.prog 29 #[.pointer (some ⟨b, 0, none⟩), strV lo, strV hi, .int .i64 most] w fun e w' => e = .returned (.tuple #[.slice none 0 0, .int .i64 5]) ∧ Keeps w w' (fun _ => False) := by
 obtain ⟨wA, hwA⟩ : ∃ wA, wA = (((w.alloc (.cells #[.pointer (some ⟨b, 0, none⟩)] 49)).alloc (.cells #[.int .i64 most] 3)).alloc (.cells #[.slice none 0 0] 55)).alloc (.cells #[.int .i64 0] 48) := ⟨_, rfl⟩
 have kA : Keeps w wA (fun _ => False) := by rw [hwA]; exact (((Keeps.alloc w _ _).more _).more _).more _
 have d9 := cell_of_heap (o := 9) (kA.same hb id)
 simp at d9
 have d9' := d9
 rw [hwA] at d9'
 clear hb hwA d9 kA
 go_enter Tryz.func29, Tryz.ntmps29
 go_wp2
 refine bodyPost_ret (v := .tuple #[.slice none 0 0, .int .i64 5]) (by simp [results, Tryz.results29, go_sem]) rfl ?_
 exact ⟨rfl, (((Keeps.alloc w _ _).more _).more _).more _⟩
end Go.Proofs.YtnipbplghijdmaaGreatDoor
