/-
  La: OpenW OwnW KeepA KeepB KeepC Fine SureW PartsB LayP.
-/
import Derived.Defers
import Derived.Test.YtnipbplghijdmaaGreatDoorLa34
import Derived.Test.YtnipbplghijdmaaGreatDoorLa15
import Derived.Test.YtnipbplghijdmaaGreatDoorLa14
import Derived.Test.YtnipbplghijdmaaGreatDoorLa12
import Derived.Test.YtnipbplghijdmaaGreatDoorLa19
import Derived.Test.YtnipbplghijdmaaGreatDoorLa32
import Derived.Test.YtnipbplghijdmaaGreatDoorLa33
import Derived.Test.YtnipbplghijdmaaGreatDoorLa29
namespace Go.Proofs.YtnipbplghijdmaaGreatDoor
open Go.RowKit Go.Maps Go.WideShapes
set_option linter.unusedVariables false
set_option linter.unusedSimpArgs false
set_option maxRecDepth 100000 in
theorem Bu (b x : Nat) (u : FrameMode) (w : World) (h : w.cell? ⟨x, 0, none⟩ = some .nilIface) :
   CallsD Tryz.prog 127 #[.pointer (some ⟨b, 0, none⟩), .pointer (some ⟨x, 0, none⟩)] u w fun e u' w' => u' = u ∧ e = .returned (.tuple #[]) ∧ w' = w := by
 go_enter_d Tryz.func127, Tryz.ntmps127
 go_wp2
 go_end0
 exact ⟨rfl, rfl⟩
set_option maxHeartbeats 1000000 in
set_option maxRecDepth 100000 in
theorem Uk {E : Nat → Addr} {B : Nat} {w : World} {ρ : Nat → jw} {d b k : Nat} {V : List (Str × List UInt8)} (D : DW E B w ρ d V k) (H : Env E B w) (hk : k + V.length < 530000000000) (hno : ∀ c, (qd, c) ∉ V) (hb : w.heap[b]? = some (.cells (newRow d) 121 (0, 0))) (hρb : ρ b = .none) (hBb : B ≤ b) :
   Calls Tryz.prog 83 #[.pointer (some ⟨b, 0, none⟩)] w fun e w' => e = .returned .nilIface ∧ Zg E B w ρ d b Ref.St.first (k + V.length + 1000) w' := by
 obtain ⟨x, hx⟩ : ∃ x, x = w.heap.size := ⟨_, rfl⟩
 obtain ⟨w1, hw1⟩ : ∃ w1, w1 = w.alloc (.cells #[.nilIface] 128) := ⟨_, rfl⟩
 have k1 : ja w w1 (fun _ => False) := by rw [hw1]; exact ja.alloc _ _ _
 have hX1 : w1.heap[x]? = some (.cells #[.nilIface] 128 (0, 0)) := by rw [hw1, hx]; exact jd _ _
 have hb1 := k1.same hb id
 have hblt := lt_of_heap hb
 have nx0 : ρ x = .none := Classical.byContradiction (fun hn => by have := (D.yt x hn).2; omega)
 have D1 := D.same k1
 have hrd := Ud D1 (by omega) qd (by decide) hno
 have c0 := cell_of_heap (o := 0) hb1
 simp at c0
 have c0a : ∀ o, (w.alloc o).cell? ⟨b, 0, none⟩ = some (.pointer (some ⟨d, 0, none⟩)) := fun o => by
   have := cell_of_heap (o := 0) ((ja.alloc w o (fun _ => False)).same hb id)
   simpa using this
 have HRD := hide hrd
 have HX := hide hx
 have HX1 := hide hX1
 have HB1 := hide hb1
 have HK := hide hk
 clear hrd hx hX1 hb1 hb hk
 go_enter_defers Tryz.func83, Tryz.ntmps83
 go_wp2_with fail
 rw [← hw1, ← HX.out]
 clear hw1 c0a
 refine HRD.out.mono ?_
 rintro e w2 ⟨g2, D2, v2, rfl, hv2⟩
 obtain ⟨tv, av, rfl⟩ := hv2.shape
 have hX2 := (g2.row HX1.out nx0).1
 have hb2 := (g2.row HB1.out hρb).1
 have hxb : x ≠ b := by have := HX.out; omega
 obtain ⟨w3, hw3⟩ : ∃ w3, w3 = w2.setCell ⟨x, 0, none⟩ (.iface tv (.pointer (some av))) := ⟨_, rfl⟩
 have k3 : ja w2 w3 (fun i => i = x) := by rw [hw3]; exact ja.setCell w2 ⟨x, 0, none⟩ _
 have hX3 : w3.heap[x]? = some (.cells #[.iface tv (.pointer (some av))] 128 (0, 0)) := by rw [hw3]; exact (jb hX2 _).trans rfl
 have hb3 := k3.same hb2 (Ne.symm hxb)
 have hBx : B ≤ x := by rw [HX.out]; exact D.size
 have D3 : DW E B w3 ρ d V k := D2.keep k3 (fun i _ e => by rw [e]; exact ⟨nx0, hBx⟩)
 have hv3 : Err E w3 (.iface tv (.pointer (some av))) 2 := hv2.keep k3 (fun i c e hc => by rw [e, hX2] at hc; cases hc)
 have his := jg4 D3.sent hv3 2 (by decide)
 rw [decide_eq_true rfl] at his
 have gc := D3.sent.cell 2 (by decide)
 have gc2 := D2.sent.cell 2 (by decide)
 have hgl := D2.sent.lt 2 (by decide)
 have hne1 : ¬ x = 2 := by omega
 have hne2 : ¬ 2 = x := by omega
 have x2 := cell_of_heap (o := 0) hX2
 have f2 := frozen_of_heap (o := 0) hX2
 have x3 := cell_of_heap (o := 0) hX3
 simp at x2 x3
 have kw3 : ja w w3 (fun i => ρ i ≠ .none ∨ i = b) := ((k1.mono (fun _ _ h => h.elim)).trans g2.keeps (fun i _ h => .inl h)).trans k3 (fun i hi e => by have := HX.out; omega)
 have E3 : Env E B w3 := H.keep (kw3.mono (fun i hi h => (show B ≤ i from h.elim (fun h => (D.yt i h).1) (fun h => by rw [h]; exact hBb)))) (fun i h => h)
 have hbg := jge D3 E3 HK.out hb3 hρb hBb
 have HIS := hide his
 have HBG := hide hbg
 have HX3 := hide hX3
 clear his hbg hX2 hX3 hb2 hb3 hv2 hv3 c0
 go_wp2_with fail
 rw [← hw3]
 clear hw3
 refine HIS.out.mono ?_
 rintro e w4 ⟨rfl, rfl⟩
 go_wp2_with fail
 refine HBG.out.mono ?_
 rintro e w5 ⟨rfl, ρ5, rv5, mv5, S5, k5, hρ5, hm5, hrv5⟩
 have hX5 := k5.same HX3.out (fun t => t.elim (fun t => t nx0) hxb)
 have x5 := cell_of_heap (o := 0) hX5
 have f5 := frozen_of_heap (o := 0) hX5
 simp at x5
 obtain ⟨w6, hw6⟩ : ∃ w6, w6 = w5.setCell ⟨x, 0, none⟩ .nilIface := ⟨_, rfl⟩
 have k6 : ja w5 w6 (fun i => i = x) := by rw [hw6]; exact ja.setCell w5 ⟨x, 0, none⟩ _
 have hX6 : w6.heap[x]? = some (.cells #[.nilIface] 128 (0, 0)) := by rw [hw6]; exact (jb hX5 _).trans rfl
 have x6 := cell_of_heap (o := 0) hX6
 simp at x6
 have hxlt : x < w4.heap.size := lt_of_heap HX3.out
 have S6 : x8 E B w6 ρ5 d b Ref.St.first (k + V.length + 1000) rv5 mv5 := S5.keep k6 (fun i _ e => by
   rw [e]
   refine ⟨hBx, fun t => ?_, fun p n c e2 e3 => ?_⟩
   · rcases t with t | t | t
     · rw [hρ5 x hxlt] at t; exact t nx0
     · exact hxb t
     · have := hm5 x t; omega
   · have := hrv5 p n c e2; omega)
 have hfin : Zg E B w ρ d b Ref.St.first (k + V.length + 1000) w6 := by
   have sz3 := kw3.size
   refine ⟨ρ5, rv5, mv5, S6, (kw3.trans k5 (fun i hi h => h)).trans k6 (fun i hi e => by have := HX.out; omega), fun i hi => hρ5 i (by omega), fun g hg => by have := hm5 g hg; omega, fun p n c e => by have := hrv5 p n c e; omega⟩
 have HFIN := hide hfin
 have HX6 := hide hX6
 clear hfin hX5 hX6
 go_wp2
 rw [← hw6]
 refine leaves_cons (f := 127) (args := #[.pointer (some ⟨b, 0, none⟩), .pointer (some ⟨x, 0, none⟩)]) (by simp) (by simp [go_sem]) ?_
 refine (Bu b x .returning _ x6).mono ?_
 rintro e u' w' ⟨rfl, rfl, rfl⟩
 exact ⟨.nilIface, fe rfl rfl HX6.out, rfl, HFIN.out⟩
set_option maxHeartbeats 1000000 in
set_option maxRecDepth 100000 in
theorem Uj {E : Nat → Addr} {B : Nat} {w : World} {ρ : Nat → jw} {d b k : Nat} {V : List (Str × List UInt8)} (D : DW E B w ρ d V k) (H : Env E B w) (hk : k + V.length < 530000000000) (s : Ref.St) (ok : s.Ok) (hV : ∀ p ∈ s.files, p ∈ V) (hsz : qm V ≤ 20000) (hfew : s.mem.length < 60000)
   (hb : w.heap[b]? = some (.cells (newRow d) 121 (0, 0))) (hρb : ρ b = .none) (hBb : B ≤ b) :
   Calls Tryz.prog 83 #[.pointer (some ⟨b, 0, none⟩)] w fun e w' => e = .returned .nilIface ∧ Zg E B w ρ d b s (k + V.length) w' := by
 obtain ⟨x, hx⟩ : ∃ x, x = w.heap.size := ⟨_, rfl⟩
 obtain ⟨w1, hw1⟩ : ∃ w1, w1 = w.alloc (.cells #[.nilIface] 128) := ⟨_, rfl⟩
 have k1 : ja w w1 (fun _ => False) := by rw [hw1]; exact ja.alloc _ _ _
 have hX1 : w1.heap[x]? = some (.cells #[.nilIface] 128 (0, 0)) := by rw [hw1, hx]; exact jd _ _
 have hb1 := k1.same hb id
 have hblt := lt_of_heap hb
 have nx0 : ρ x = .none := Classical.byContradiction (fun hn => by have := (D.yt x hn).2; omega)
 have D1 := D.same k1
 have hrd := jdu D1 (by omega) qd (by decide) (hV _ (yj.2 (.inl rfl)))
 have c0 := cell_of_heap (o := 0) hb1
 simp at c0
 have c0a : ∀ o, (w.alloc o).cell? ⟨b, 0, none⟩ = some (.pointer (some ⟨d, 0, none⟩)) := fun o => by
   have := cell_of_heap (o := 0) ((ja.alloc w o (fun _ => False)).same hb id)
   simpa using this
 have HRD := hide hrd
 have HX := hide hx
 have HX1 := hide hX1
 have HB1 := hide hb1
 have HK := hide hk
 have HSZ := hide hsz
 have HFEW := hide hfew
 clear hrd hx hX1 hb1 hb hk hsz hfew
 go_enter_defers Tryz.func83, Tryz.ntmps83
 go_wp2_with fail
 rw [← hw1, ← HX.out]
 clear hw1 c0a
 refine HRD.out.mono ?_
 rintro e w2 ⟨g2, D2, v2, rfl, hr2⟩
 obtain ⟨p2, c2, rfl⟩ := jh hr2
 have hX2 := (g2.row HX1.out nx0).1
 have hb2 := (g2.row HB1.out hρb).1
 have hxb : x ≠ b := by have := HX.out; omega
 obtain ⟨w3, hw3⟩ : ∃ w3, w3 = w2.setCell ⟨x, 0, none⟩ .nilIface := ⟨_, rfl⟩
 have k3 : ja w2 w3 (fun i => i = x) := by rw [hw3]; exact ja.setCell w2 ⟨x, 0, none⟩ _
 have hX3 : w3.heap[x]? = some (.cells #[.nilIface] 128 (0, 0)) := by rw [hw3]; exact (jb hX2 _).trans rfl
 have hb3 := k3.same hb2 (Ne.symm hxb)
 have hBx : B ≤ x := by rw [HX.out]; exact D.size
 have D3 : DW E B w3 ρ d V k := D2.keep k3 (fun i _ e => by rw [e]; exact ⟨nx0, hBx⟩)
 have gc2 := D2.sent.cell 2 (by decide)
 have gc3 := D3.sent.cell 2 (by decide)
 have hgl := D2.sent.lt 2 (by decide)
 have hne1 : ¬ x = 2 := by omega
 have hne2 : ¬ 2 = x := by omega
 have x2 := cell_of_heap (o := 0) hX2
 have f2 := frozen_of_heap (o := 0) hX2
 have x3 := cell_of_heap (o := 0) hX3
 simp at x2 x3
 have kw3 : ja w w3 (fun i => ρ i ≠ .none ∨ i = b) := ((k1.mono (fun _ _ h => h.elim)).trans g2.keeps (fun i _ h => .inl h)).trans k3 (fun i hi e => by have := HX.out; omega)
 have E3 : Env E B w3 := H.keep (kw3.mono (fun i hi h => (show B ≤ i from h.elim (fun h => (D.yt i h).1) (fun h => by rw [h]; exact hBb)))) (fun i h => h)
 have hr3 := k3.row hr2 (fun g hg e => by have h1 := (hr2.lt g hg).1; have h2 := lt_of_heap HX1.out; have e' : g = x := e; omega)
 have hld := jg2 D3 E3 HK.out s ok hV HSZ.out HFEW.out hb3 hρb hBb (.slice p2 s.m.bytes.length c2) (bytes_of_row hr3)
 obtain ⟨nb, hnb⟩ : ∃ nb, nb = s.m.bytes.length := ⟨_, rfl⟩
 rw [← hnb] at hld ⊢
 have HLD := hide hld
 have HX3 := hide hX3
 clear hld hX2 hX3 hb2 hb3 hr2 hr3 c0 hnb
 go_wp2_with fail
 rw [← hw3]
 refine (jg3 _ _).mono ?_
 rintro e w4 ⟨rfl, h4⟩
 subst h4
 clear hw3
 go_wp2_with fail
 refine HLD.out.mono ?_
 rintro e w5 ⟨rfl, ρ5, rv5, mv5, S5, k5, hρ5, hm5, hrv5⟩
 have hX5 := k5.same HX3.out (fun t => t.elim (fun t => t nx0) hxb)
 have x5 := cell_of_heap (o := 0) hX5
 have f5 := frozen_of_heap (o := 0) hX5
 simp at x5
 obtain ⟨w6, hw6⟩ : ∃ w6, w6 = w5.setCell ⟨x, 0, none⟩ .nilIface := ⟨_, rfl⟩
 have k6 : ja w5 w6 (fun i => i = x) := by rw [hw6]; exact ja.setCell w5 ⟨x, 0, none⟩ _
 have hX6 : w6.heap[x]? = some (.cells #[.nilIface] 128 (0, 0)) := by rw [hw6]; exact (jb hX5 _).trans rfl
 have x6 := cell_of_heap (o := 0) hX6
 simp at x6
 have hxlt : x < w4.heap.size := lt_of_heap HX3.out
 have S6 : x8 E B w6 ρ5 d b s (k + V.length) rv5 mv5 := S5.keep k6 (fun i _ e => by
   rw [e]
   refine ⟨hBx, fun t => ?_, fun p n c e2 e3 => ?_⟩
   · rcases t with t | t | t
     · rw [hρ5 x hxlt] at t; exact t nx0
     · exact hxb t
     · have := hm5 x t; omega
   · have := hrv5 p n c e2; omega)
 have hfin : Zg E B w ρ d b s (k + V.length) w6 := by
   have sz3 := kw3.size
   refine ⟨ρ5, rv5, mv5, S6, (kw3.trans k5 (fun i hi h => h)).trans k6 (fun i hi e => by have := HX.out; omega), fun i hi => hρ5 i (by omega), fun g hg => by have := hm5 g hg; omega, fun p n c e => by have := hrv5 p n c e; omega⟩
 have HFIN := hide hfin
 have HX6 := hide hX6
 clear hfin hX5 hX6
 go_wp2
 rw [← hw6]
 refine leaves_cons (f := 127) (args := #[.pointer (some ⟨b, 0, none⟩), .pointer (some ⟨x, 0, none⟩)]) (by simp) (by simp [go_sem]) ?_
 refine (Bu b x .returning _ x6).mono ?_
 rintro e u' w' ⟨rfl, rfl, rfl⟩
 exact ⟨.nilIface, fe rfl rfl HX6.out, rfl, HFIN.out⟩
set_option maxHeartbeats 1000000 in
set_option maxRecDepth 100000 in
theorem jgh {E : Nat → Addr} {B : Nat} {w : World} {ρ : Nat → jw} {d k : Nat} {V : List (Str × List UInt8)} (D : DW E B w ρ d V k) (s : Ref.St) (m : Nat)
   (h : ∀ W, ja w W (fun _ => False) → ∀ b, W.heap[b]? = some (.cells (newRow d) 121 (0, 0)) → ρ b = .none → B ≤ b → Calls Tryz.prog 83 #[.pointer (some ⟨b, 0, none⟩)] W fun e w' => e = .returned .nilIface ∧ Zg E B W ρ d b s m w') :
   Calls Tryz.prog 45 #[.pointer (some ⟨d, 0, none⟩)] w fun e w' => ∃ b, e = .returned (.tuple #[.pointer (some ⟨b, 0, none⟩), .int .i64 0]) ∧ w.heap.size ≤ b ∧ ∃ ρ' rv mv, x8 E B w' ρ' d b s m rv mv ∧ ja w w' (fun i => ρ i ≠ .none) ∧ (∀ i, i < w.heap.size → ρ' i = ρ i) ∧ (∀ g, mv.ownBlock = some g → w.heap.size ≤ g) ∧ (∀ p n c, rv = .slice (some p) n c → w.heap.size ≤ p.block) := by
 obtain ⟨b, hbe⟩ : ∃ b, b = w.heap.size := ⟨_, rfl⟩
 obtain ⟨w1, hw1⟩ : ∃ w1, w1 = w.alloc (.cells (newRow d) 121) := ⟨_, rfl⟩
 have k1 : ja w w1 (fun _ => False) := by rw [hw1]; exact ja.alloc _ _ _
 have hb1 : w1.heap[b]? = some (.cells (newRow d) 121 (0, 0)) := by rw [hw1, hbe]; exact jd _ _
 have hop := h w1 k1 b hb1 (Classical.byContradiction (fun hn => by have := (D.yt b hn).2; omega)) (by rw [hbe]; exact D.size)
 have HOP := hide hop
 have HBE := hide hbe
 clear hop hb1 h hbe
 go_enter Tryz.func45, Tryz.ntmps45
 go_wp2_with fail
 rw [← hw1, ← HBE.out]
 clear hw1
 refine HOP.out.mono ?_
 rintro e w2 ⟨rfl, ρ2, rv2, mv2, S2, k2, hρ2, hm2, hrv2⟩
 go_wp2
 go_ret2
 have sz := k1.size
 refine ⟨b, rfl, by rw [HBE.out]; exact Nat.le_refl _, ρ2, rv2, mv2, S2, (k1.mono (fun _ _ h => h.elim)).trans k2 (fun i hi h => h.elim id (fun e => by have := HBE.out; omega)), fun i hi => hρ2 i (by omega), fun g hg => by have := hm2 g hg; omega, fun p n c e => by have := hrv2 p n c e; omega⟩
end Go.Proofs.YtnipbplghijdmaaGreatDoor
namespace Go.Proofs.YtnipbplghijdmaaGreatDoor
open Go.RowKit Go.Maps Go.WideShapes
set_option linter.unusedVariables false
def Own (E : Nat → Addr) (B : Nat) (w : World) (d b : Nat) (s : Ref.St) (k : Nat) (F : Nat → Prop) : Prop :=
 ∃ ρ rv mv, x8 E B w ρ d b s k rv mv ∧ ∀ i, F i ↔ (StF ρ b mv i ∨ ∃ p n c, rv = .slice (some p) n c ∧ p.block = i)
def Qp (E : Nat → Addr) (B : Nat) (w : World) (d b : Nat) (s : Ref.St) (k : Nat) (F : Nat → Prop) (w' : World) : Prop :=
 ∃ F', Own E B w' d b s k F' ∧ ja w w' F ∧ ∀ i, F' i → F i ∨ w.heap.size ≤ i
variable {E : Nat → Addr} {B : Nat} {w w' : World} {d b k : Nat} {s : Ref.St} {F : Nat → Prop}
theorem Own.old (h : Own E B w d b s k F) {i : Nat} (hi : F i) : B ≤ i ∧ i < w.heap.size := by
 obtain ⟨ρ, rv, mv, S, hF⟩ := h
 rcases (hF i).1 hi with t | ⟨p, n, c, e, rfl⟩
 · exact StF.old S t
 · obtain ⟨a1, a2, a3, a4, a5⟩ := S.nr p n c e
   exact ⟨a3, a5⟩
theorem Own.keep (h : Own E B w d b s k F) {T : Nat → Prop} (kk : ja w w' T) (hT : ∀ i, i < w.heap.size → T i → B ≤ i ∧ ¬ F i) : Own E B w' d b s k F := by
 obtain ⟨ρ, rv, mv, S, hF⟩ := h
 exact ⟨ρ, rv, mv, S.keep kk (fun i hi t => ⟨(hT i hi t).1, fun f => (hT i hi t).2 ((hF i).2 (.inl f)), fun p n c e e2 => (hT i hi t).2 ((hF i).2 (.inr ⟨p, n, c, e, e2.symm⟩))⟩), hF⟩
theorem Own.same (h : Own E B w d b s k F) (kk : ja w w' (fun _ => False)) : Own E B w' d b s k F := h.keep kk (fun _ _ h => h.elim)
theorem Own.mono (h : Own E B w d b s k F) {m : Nat} (hm : k ≤ m) : Own E B w d b s m F := by
 obtain ⟨ρ, rv, mv, S, hF⟩ := h
 exact ⟨ρ, rv, mv, S.mono hm, hF⟩
theorem Own.env (h : Own E B w d b s k F) : Env E B w := by
 obtain ⟨ρ, rv, mv, S, hF⟩ := h
 exact S.env
theorem Own.ok (h : Own E B w d b s k F) : s.Ok := by
 obtain ⟨ρ, rv, mv, S, hF⟩ := h
 exact S.ok
theorem Own.size (h : Own E B w d b s k F) : B ≤ w.heap.size := by
 obtain ⟨ρ, rv, mv, S, hF⟩ := h
 exact S.disk.size
theorem Own.disk (h : Own E B w d b s k F) : ∃ ρ, DW E B w ρ d s.files k ∧ ∀ i, ρ i ≠ .none → F i := by
 obtain ⟨ρ, rv, mv, S, hF⟩ := h
 exact ⟨ρ, S.disk, fun i hi => (hF i).2 (.inl (.inl hi))⟩
theorem Qp.of {ρ : Nat → jw} {rv mv : Value} {s' : Ref.St} {k' : Nat} (S : x8 E B w ρ d b s k rv mv) (hF : ∀ i, F i ↔ (StF ρ b mv i ∨ ∃ p n c, rv = .slice (some p) n c ∧ p.block = i)) (h : Xe E B w ρ d b rv mv s' k' w') : Qp E B w d b s' k' F w' := by
 obtain ⟨ρ', rv', mv', S', kk, hρ, hm, hrv⟩ := h
 refine ⟨fun i => StF ρ' b mv' i ∨ ∃ p n c, rv' = .slice (some p) n c ∧ p.block = i, ⟨ρ', rv', mv', S', fun _ => Iff.rfl⟩, kk.mono (fun i _ t => (hF i).2 (.inl t)), fun i hi => ?_⟩
 rcases Nat.lt_or_ge i w.heap.size with hlt | hge
 · refine .inl ((hF i).2 ?_)
   rcases hi with (t | t | t) | ⟨p, n, c, e, rfl⟩
   · exact .inl (.inl (by rw [← hρ i hlt]; exact t))
   · exact .inl (.inr (.inl t))
   · rcases hm i t with t | t
     · exact .inl (.inr (.inr t))
     · omega
   · rcases hrv p n c e with ⟨n', c', t⟩ | t
     · exact .inr ⟨p, n', c', t, rfl⟩
     · omega
 · exact .inr hge
theorem H7 (h : Own E B w d b s k F) (hk : k < 530000000000) (ev : Value) (es : List Ref.Ch) (hok : Ref.Ji es = true) (hev : Chs w ev es) (hevo : ∀ p n c, ev = .slice (some p) n c → ¬ F p.block) (hlast : s.last < 1000000000) (hfew : s.mem.length + 8 < 60000) (hs : (Ref.j5 (s.last + 1) es).length + qm s.files ≤ 20000) :
   Calls Tryz.prog 24 #[.pointer (some ⟨b, 0, none⟩), ev] w fun e w' => e = .returned (.int .i64 0) ∧ Qp E B w d b (s.write es) (k + 20000) F w' := by
 obtain ⟨ρ, rv, mv, S, hF⟩ := h
 refine (jfp S (by omega) ev es hok hev (fun p n c e t => hevo p n c e ((hF _).2 (.inl t))) hlast hfew hs).mono ?_
 rintro e w' ⟨rfl, ρ', rv', mv', S', rest⟩
 exact ⟨rfl, Qp.of S hF ⟨ρ', rv', mv', S'.mono (by omega), rest⟩⟩
theorem Si (h : Own E B w d b s k F) (hk : k < 530000000000) (hn : s.m.next + 2 ≤ 2000000000) (hr : s.m.runs.length + 1 < 60000) (hs : (s.m.xz s.last).bytes.length + (Ref.ql s.mem).length + qm s.files ≤ 20000) :
   Calls Tryz.prog 26 #[.pointer (some ⟨b, 0, none⟩)] w fun e w' => e = .returned (.int .i64 0) ∧ Qp E B w d b s.flush (k + 50000) F w' := by
 obtain ⟨ρ, rv, mv, S, hF⟩ := h
 refine (jgk S hk hn hr hs).mono ?_
 rintro e w' ⟨rfl, h⟩
 exact ⟨rfl, Qp.of S hF h⟩
theorem Fy (h : Own E B w d b s k F) (hk : k < 530000000000) (hn : s.m.next + 1 ≤ 2000000000) (hl : (Ref.merged s.bls).length < 60000) (hs : 42 + (Ref.ql s.live).length + qm s.files ≤ 20000) :
   Calls Tryz.prog 27 #[.pointer (some ⟨b, 0, none⟩)] w fun e w' => e = .returned (.int .i64 0) ∧ Qp E B w d b s.compact (k + 100000) F w' := by
 obtain ⟨ρ, rv, mv, S, hF⟩ := h
 refine (jc9 S hk hn hl hs).mono ?_
 rintro e w' ⟨rfl, h⟩
 exact ⟨rfl, Qp.of S hF h⟩
theorem jdn (h : Own E B w d b s k F) (hk : k < 540000000000) (hl : s.all.length < 1048576) (lo hi : Str) (most : Nat) (hmost : most < 9223372036854775808) :
   Calls Tryz.prog 29 #[.pointer (some ⟨b, 0, none⟩), jc lo, jc hi, j4 most] w fun e w' => (∃ v, e = .returned (.tuple #[v, .int .i64 0]) ∧ w'.ownsRow w.heap.size 65 2 v (Ref.wu s.all lo hi most).length (qj (Ref.wu s.all lo hi most))) ∧ Own E B w' d b s k F ∧ ja w w' F := by
 obtain ⟨ρ, rv, mv, S, hF⟩ := h
 refine (jgw S (by omega) hl lo hi most hmost).mono ?_
 rintro e w' ⟨h1, S', kk⟩
 exact ⟨h1, ⟨ρ, rv, mv, S', hF⟩, kk.mono (fun i _ t => (hF i).2 (.inl t))⟩
theorem jgp (h : Own E B w d b s k F) (hk : k < 540000000000) (key : Str) :
   Calls Tryz.prog 33 #[.pointer (some ⟨b, 0, none⟩), jc key] w fun e w' => e = .returned (.tuple #[jc (Hm (Ref.xw s.all key)).1, .bool (Hm (Ref.xw s.all key)).2, .int .i64 0]) ∧ Own E B w' d b s k F ∧ ja w w' F := by
 obtain ⟨ρ, rv, mv, S, hF⟩ := h
 refine (jhl S (by omega) key).mono ?_
 rintro e w' ⟨h1, S', kk⟩
 exact ⟨h1, ⟨ρ, rv, mv, S', hF⟩, kk.mono (fun i _ t => (hF i).2 (.inl t))⟩
def Pe (E : Nat → Addr) (B : Nat) (w : World) (ρ : Nat → jw) (d : Nat) (s : Ref.St) (k : Nat) (e : Ending) (w' : World) : Prop :=
 ∃ b F, e = .returned (.tuple #[.pointer (some ⟨b, 0, none⟩), .int .i64 0]) ∧ w.heap.size ≤ b ∧ Own E B w' d b s k F ∧ ja w w' (fun i => ρ i ≠ .none) ∧ ∀ i, F i → ρ i ≠ .none ∨ w.heap.size ≤ i
theorem Pe.of {ρ : Nat → jw} {V : List (Str × List UInt8)} {k0 : Nat} (D : DW E B w ρ d V k0) (h : ∀ W, ja w W (fun _ => False) → ∀ b, W.heap[b]? = some (.cells (newRow d) 121 (0, 0)) → ρ b = .none → B ≤ b → Calls Tryz.prog 83 #[.pointer (some ⟨b, 0, none⟩)] W fun e w' => e = .returned .nilIface ∧ Zg E B W ρ d b s k w') :
   Calls Tryz.prog 45 #[.pointer (some ⟨d, 0, none⟩)] w (Pe E B w ρ d s k) := by
 refine (jgh D s k h).mono ?_
 rintro e w' ⟨b, rfl, hb, ρ', rv, mv, S, kk, hρ, hm, hrv⟩
 refine ⟨b, fun i => StF ρ' b mv i ∨ ∃ p n c, rv = .slice (some p) n c ∧ p.block = i, rfl, hb, ⟨ρ', rv, mv, S, fun _ => Iff.rfl⟩, kk, fun i hi => ?_⟩
 rcases Nat.lt_or_ge i w.heap.size with hlt | hge
 · refine .inl ?_
   rcases hi with (t | t | t) | ⟨p, n, c, e, rfl⟩
   · rw [← hρ i hlt]; exact t
   · omega
   · have := hm i t; omega
   · have := hrv p n c e; omega
 · exact .inr hge
theorem Kw {ρ : Nat → jw} (D : DW E B w ρ d [] k) (H : Env E B w) (hk : k < 520000000000) : Calls Tryz.prog 45 #[.pointer (some ⟨d, 0, none⟩)] w (Pe E B w ρ d Ref.St.first (k + 1000)) := by
 refine Pe.of D (fun W kk b hb hρ hB => ?_)
 exact Uk (D.same kk) (H.same kk) (by simp only [List.length_nil]; omega) (fun c h => by cases h) hb hρ hB
theorem Rc {ρ : Nat → jw} (D : DW E B w ρ d s.files k) (H : Env E B w) (hk : k + s.files.length < 530000000000) (ok : s.Ok) (hsz : qm s.files ≤ 20000) (hfew : s.mem.length < 60000) : Calls Tryz.prog 45 #[.pointer (some ⟨d, 0, none⟩)] w (Pe E B w ρ d s (k + s.files.length)) := by
 refine Pe.of D (fun W kk b hb hρ hB => ?_)
 exact Uj (D.same kk) (H.same kk) hk s ok (fun p hp => hp) hsz hfew hb hρ hB
theorem jgo (H : Env E B w) (hB : B ≤ w.heap.size) : Calls Tryz.prog 16 #[] w fun e w' => ∃ d ρ, e = .returned (.pointer (some ⟨d, 0, none⟩)) ∧ DW E B w' ρ d [] 0 ∧ ja w w' (fun _ => False) ∧ ∀ i, ρ i ≠ .none → w.heap.size ≤ i := by
 refine (jf0 w).mono ?_
 rintro e w' ⟨rfl, R, kk⟩
 have hr : ∀ i, pz w.heap.size i ≠ .none → w.heap.size ≤ i := fun i hi => by
   unfold pz at hi
   rcases Nat.lt_or_ge i w.heap.size with h | h
   · exfalso
     apply hi
     repeat' split
     all_goals first | rfl | omega
   · exact h
 refine ⟨_, _, rfl, ⟨je.new, ⟨R, H.sent.keep kk (fun _ h => h.elim), fun i hi => Nat.le_trans hB (hr i hi), Nat.le_trans hB kk.size⟩, J6.new, ?_, Fit.new⟩, kk, hr⟩
 exact ⟨[], ⟨di.nil, fun p hp => (by cases hp), List.Pairwise.nil⟩, List.Perm.refl _⟩
end Go.Proofs.YtnipbplghijdmaaGreatDoor
namespace Go.Proofs.YtnipbplghijdmaaGreatDoor
open Go.RowKit Go.Maps Go.WideShapes
set_option linter.unusedVariables false
set_option linter.unusedSimpArgs false
def uy (c : Int) (n : Nat) : Nat := (if c < 0 then -(c + 1) else c).toNat % n
theorem Ai (c : Int) {n : Nat} (h : 0 < n) : uy c n < n := Nat.mod_lt _ h
set_option maxRecDepth 100000 in
theorem Ah (c : Int) (h1 : -9223372036854775808 ≤ c) (h2 : c ≤ 9223372036854775807) (n : Nat) (hn : 0 < n) (hn2 : n < 1000) (w : World) :
   Calls Tryz.prog 25 #[.int .i64 c, .int .i64 n] w fun e w' => e = .returned (.int .i64 (uy c n)) ∧ w' = w := by
 have hn0 : ¬ (n : Int) = 0 := by omega
 have hnb : ((n : Int) == 0) = false := by simp; omega
 rcases (by omega : c < 0 ∨ 0 ≤ c) with hc | hc
 · have hw1 : IntKind.i64.wrap (c + 1) = c + 1 := wrap_i64 (by omega) (by omega)
   have hw2 : IntKind.i64.wrap (-(c + 1)) = -(c + 1) := wrap_i64 (by omega) (by omega)
   have hres : (uy c n : Int) = (-(c + 1)).tmod n := by
     unfold uy
     rw [if_pos hc, Int.tmod_eq_emod_of_nonneg (by omega), Int.natCast_emod, Int.toNat_of_nonneg (by omega)]
   have hlt := Ai c hn
   have hw3 : IntKind.i64.wrap ((-(c + 1)).tmod n) = (-(c + 1)).tmod n := by rw [← hres]; exact wrap_i64 (by omega) (by omega)
   have HRES := hide hres
   clear hres
   go_enter Tryz.func25, Tryz.ntmps25
   go_wp2
   go_ret
   refine ⟨?_, rfl⟩
   rw [HRES.out, Int.neg_tmod]
   rfl
 · have hc2 : ¬ c < 0 := by omega
   have hres : (uy c n : Int) = c.tmod n := by
     unfold uy
     rw [if_neg hc2, Int.tmod_eq_emod_of_nonneg (by omega), Int.natCast_emod, Int.toNat_of_nonneg (by omega)]
   have hlt := Ai c hn
   have hw3 : IntKind.i64.wrap (c.tmod n) = c.tmod n := by rw [← hres]; exact wrap_i64 (by omega) (by omega)
   have HRES := hide hres
   clear hres
   go_enter Tryz.func25, Tryz.ntmps25
   go_wp2
   go_ret
   refine ⟨?_, rfl⟩
   rw [HRES.out, Int.tmod_eq_emod_of_nonneg hc]
   rfl
def Y1 (x : Ref.Ch) : Prop := 1 ≤ x.key.length ∧ x.key.length ≤ 5 ∧ x.value.length ≤ 23 ∧ (x.gone = true → x.value = [])
theorem K6 {w : World} (b : Nat) (zs : List Value) (l : List UInt8) (h : w.heap[b]? = some (.cells zs.toArray 5 (0, 0))) (hz : zs = l.map qg) (hl : l.length < 1000) : (convert 84 9 (.slice (some ⟨b, 0, none⟩) l.length l.length)).run Tryz.prog w = .ok (jc l) w := by
 refine Bytes.string ⟨some ⟨b, 0, none⟩, l.length, rfl, Nat.le_refl _, by unfold maxLen; omega, (fun h => by cases h), fun ad had => ?_⟩
 cases had
 refine ⟨rfl, fun j u hu => ?_⟩
 rw [X7]
 have := cell_of_heap (o := 0 + j) h
 rw [this, hz]
 simp [hu]
theorem ja9 {k : Nat} (h : k < 256) : qg (UInt8.ofNat k) = .int .u8 (k : Int) := by
 unfold qg
 rw [UInt8.toNat_ofNat', Nat.mod_eq_of_lt h]
theorem eu {fn : Func} {t : Tmp} (h : fn.results = #[.cell t 88]) {tmps : Array Value} {w : World} {b : Nat} {c : Ref.Ch} (ht : tmps.getD t undef = .pointer (some ⟨b, 0, none⟩))
   (hb : w.heap[b]? = some (.cells #[jc c.key, jc c.value, .bool c.gone] 88 (0, 0))) : (results fn tmps).run Tryz.prog w = .ok (chV c) w := by
 have hl := Rp hb
 have ht' : tmps[t]?.getD undef = .pointer (some ⟨b, 0, none⟩) := by simpa using ht
 simp [results, h, ht', asAddr, hl]
set_option maxHeartbeats 1000000 in
set_option maxRecDepth 100000 in
theorem jav (c : Int) (h1 : -9223372036854775808 ≤ c) (h2 : c ≤ 9223372036854775807) (n : Nat) (hn : n < 1000000) (w : World) :
   Calls Tryz.prog 59 #[.int .i64 c, .int .i64 n] w fun e w' => ∃ x, e = .returned (chV x) ∧ Y1 x ∧ ja w w' (fun _ => False) := by
 have tb : ∀ m : Int, 1 ≤ m → -9223372036854775808 ≤ c.tdiv m ∧ c.tdiv m ≤ 9223372036854775807 := fun m hm => by
   have h := Int.natAbs_tdiv c m
   have hle : (c.tdiv m).natAbs ≤ c.natAbs := by rw [h]; exact Nat.div_le_self _ _
   rcases (by omega : c < 0 ∨ 0 ≤ c) with hc | hc
   · have : c.tdiv m ≤ 0 := by
       have h5 : c.tdiv m = -((-c).tdiv m) := by rw [Int.neg_tdiv, Int.neg_neg]
       have h6 := Int.tdiv_nonneg (a := -c) (b := m) (by omega) (by omega)
       omega
     omega
   · have : 0 ≤ c.tdiv m := Int.tdiv_nonneg hc (by omega)
     omega
 have hp1 := fun W => Ah c h1 h2 9 (by decide) (by decide) W
 have hp2 := fun W => Ah (c.tdiv 9) (tb 9 (by decide)).1 (tb 9 (by decide)).2 4 (by decide) (by decide) W
 have hp3 := fun W => Ah (c.tdiv 36) (tb 36 (by decide)).1 (tb 36 (by decide)).2 4 (by decide) (by decide) W
 have hp4 := fun W => Ah (c.tdiv 144) (tb 144 (by decide)).1 (tb 144 (by decide)).2 5 (by decide) (by decide) W
 have hq9 : IntKind.i64.wrap (c.tdiv 9) = c.tdiv 9 := wrap_i64 (tb 9 (by decide)).1 (tb 9 (by decide)).2
 have hq36 : IntKind.i64.wrap (c.tdiv 36) = c.tdiv 36 := wrap_i64 (tb 36 (by decide)).1 (tb 36 (by decide)).2
 have hq144 : IntKind.i64.wrap (c.tdiv 144) = c.tdiv 144 := wrap_i64 (tb 144 (by decide)).1 (tb 144 (by decide)).2
 have hl9 := Ai c (n := 9) (by decide)
 have hl5 := Ai (c.tdiv 144) (n := 5) (by decide)
 obtain ⟨C9, hC9⟩ : ∃ C9, C9 = c.tdiv 9 := ⟨_, rfl⟩
 obtain ⟨C36, hC36⟩ : ∃ C36, C36 = c.tdiv 36 := ⟨_, rfl⟩
 obtain ⟨C144, hC144⟩ : ∃ C144, C144 = c.tdiv 144 := ⟨_, rfl⟩
 rw [← hC9] at hq9
 rw [← hC36] at hq36
 rw [← hC144] at hq144 hl5
 simp only [← hC9] at hp2
 simp only [← hC36] at hp3
 simp only [← hC144] at hp4
 have e9 := hC9.symm
 have e36 := hC36.symm
 have e144 := hC144.symm
 obtain ⟨P9, hP9⟩ : ∃ P9, P9 = uy c 9 := ⟨_, rfl⟩
 obtain ⟨P4, hP4⟩ : ∃ P4, P4 = uy C9 4 := ⟨_, rfl⟩
 obtain ⟨R4, hR4⟩ : ∃ R4, R4 = uy C36 4 := ⟨_, rfl⟩
 obtain ⟨P5, hP5⟩ : ∃ P5, P5 = uy C144 5 := ⟨_, rfl⟩
 rw [← hP9] at hl9
 rw [← hP5] at hl5
 simp only [← hP9] at hp1
 simp only [← hP4] at hp2
 simp only [← hR4] at hp3
 simp only [← hP5] at hp4
 have HP1 := hide hp1
 have HP2 := hide hp2
 have HP3 := hide hp3
 have HP4 := hide hp4
 have hw1 : IntKind.i64.wrap (97 + (P9 : Int)) = 97 + (P9 : Int) := wrap_i64 (by omega) (by omega)
 obtain ⟨b0, hb0⟩ : ∃ b0, b0 = UInt8.ofNat (97 + P9) := ⟨_, rfl⟩
 have hcv1 : (convert 84 9 (.slice (some ⟨w.heap.size + 1, 0, none⟩) 1 1)).run Tryz.prog ((w.alloc (.cells #[.string ⟨#[]⟩, .string ⟨#[]⟩, .bool false] 88)).alloc (.cells #[.int .u8 (97 + (P9 : Int))] 5)) = .ok (jc [b0]) ((w.alloc (.cells #[.string ⟨#[]⟩, .string ⟨#[]⟩, .bool false] 88)).alloc (.cells #[.int .u8 (97 + (P9 : Int))] 5)) := by
   refine K6 (w.heap.size + 1) [.int .u8 (97 + (P9 : Int))] [b0] ?_ ?_ (by simp)
   · have := jd (w.alloc (.cells #[.string ⟨#[]⟩, .string ⟨#[]⟩, .bool false] 88)) (.cells #[.int .u8 (97 + (P9 : Int))] 5)
     rw [World.size_alloc] at this
     exact this
   · rw [List.map_singleton, hb0, ja9 (by omega)]
     simp
 obtain ⟨ds, hds⟩ : ∃ ds, ds = [UInt8.ofNat (48 + n % 10), UInt8.ofNat (48 + n / 10 % 10), UInt8.ofNat (48 + n / 100 % 10)] := ⟨_, rfl⟩
 have hds3 : ds.length = 3 := by rw [hds]; rfl
 have hcv3 : (convert 84 9 (.slice (some ⟨w.heap.size + 1 + 1, 0, none⟩) 3 3)).run Tryz.prog (((w.alloc (.cells #[.string ⟨#[]⟩, .string ⟨#[]⟩, .bool false] 88)).alloc (.cells #[.int .u8 (97 + (P9 : Int))] 5)).alloc (.cells #[.int .u8 (48 + (n : Int) % 10), .int .u8 (48 + (n : Int) / 10 % 10), .int .u8 (48 + (n : Int) / 100 % 10)] 5)) = .ok (jc ds) (((w.alloc (.cells #[.string ⟨#[]⟩, .string ⟨#[]⟩, .bool false] 88)).alloc (.cells #[.int .u8 (97 + (P9 : Int))] 5)).alloc (.cells #[.int .u8 (48 + (n : Int) % 10), .int .u8 (48 + (n : Int) / 10 % 10), .int .u8 (48 + (n : Int) / 100 % 10)] 5)) := by
   have := K6 (w := (((w.alloc (.cells #[.string ⟨#[]⟩, .string ⟨#[]⟩, .bool false] 88)).alloc (.cells #[.int .u8 (97 + (P9 : Int))] 5)).alloc (.cells #[.int .u8 (48 + (n : Int) % 10), .int .u8 (48 + (n : Int) / 10 % 10), .int .u8 (48 + (n : Int) / 100 % 10)] 5))) (w.heap.size + 1 + 1) [.int .u8 (48 + (n : Int) % 10), .int .u8 (48 + (n : Int) / 10 % 10), .int .u8 (48 + (n : Int) / 100 % 10)] ds ?_ ?_ (by omega)
   · rw [hds3] at this
     exact this
   · have h := jd ((w.alloc (.cells #[.string ⟨#[]⟩, .string ⟨#[]⟩, .bool false] 88)).alloc (.cells #[.int .u8 (97 + (P9 : Int))] 5)) (.cells #[.int .u8 (48 + (n : Int) % 10), .int .u8 (48 + (n : Int) / 10 % 10), .int .u8 (48 + (n : Int) / 100 % 10)] 5)
     rw [World.size_alloc, World.size_alloc] at h
     exact h
   · rw [hds]
     simp only [List.map_cons, List.map_nil, ja9 (show 48 + n % 10 < 256 by omega), ja9 (show 48 + n / 10 % 10 < 256 by omega), ja9 (show 48 + n / 100 % 10 < 256 by omega)]
     simp
 have HD3 := hide hds3
 clear hds hds3
 clear hp1 hp2 hp3 hp4 hP9 hP4 hR4 hP5 hC9 hC36 hC144 hb0
 have hlong : ((⟨#[b0]⟩ : ByteArray) ++ (⟨#[108, 111, 110, 103]⟩ : ByteArray)) = ⟨#[b0, 108, 111, 110, 103]⟩ := rfl
 have hval : ∀ V : List UInt8, ((⟨V.toArray⟩ : ByteArray) ++ (⟨#[118, 97, 108, 117, 101]⟩ : ByteArray)) = ⟨(V ++ [118, 97, 108, 117, 101]).toArray⟩ := fun V => by
   ext1
   simp [ByteArray.data_append]
 rcases Nat.eq_zero_or_pos P4 with h4 | h4 <;> rcases Nat.eq_zero_or_pos R4 with r4 | r4
 all_goals
   first
     | (have f4 : ((P4 : Int) == 0) = true := by simp; omega)
     | (have f4 : ((P4 : Int) == 0) = false := by simp; omega)
   first
     | (have q4 : ((R4 : Int) == 0) = true := by simp; omega)
     | (have q4 : ((R4 : Int) == 0) = false := by simp; omega)
   clear h4 r4
   go_enter Tryz.func59, Tryz.ntmps59
   go_wp2_with fail
   refine (HP1.out _).mono ?_
   rintro e w1 ⟨rfl, h1⟩
   subst h1
   go_wp2_with fail
   refine (HP2.out _).mono ?_
   rintro e w2 ⟨rfl, h2⟩
   subst h2
   go_wp2_with fail
   refine (HP3.out _).mono ?_
   rintro e w3 ⟨rfl, h3⟩
   subst h3
 · go_wp2
   refine bodyPost_ret (eu rfl rfl (c := ⟨[b0, 108, 111, 110, 103], [], true⟩) ?_) rfl ?_
   · exact (ja.alloc _ _ (fun _ => False)).same (jd w _) id
   · exact ⟨_, rfl, ⟨by simp, by simp, by simp, fun _ => rfl⟩, (ja.alloc w _ _).more _⟩
 · go_wp2_with fail
   go_loopw [6, 7] (fun v6 v7 wr => ∃ (j : Nat) (V : List UInt8), v6 = jc V ∧ v7 = .int .i64 j ∧ V.length = 3 + 5 * j ∧ j ≤ P5 ∧ wr = (((w.alloc (.cells #[.string ⟨#[]⟩, .string ⟨#[]⟩, .bool false] 88)).alloc (.cells #[.int .u8 (97 + (P9 : Int))] 5)).alloc (.cells #[.int .u8 (48 + (n : Int) % 10), .int .u8 (48 + (n : Int) / 10 % 10), .int .u8 (48 + (n : Int) / 100 % 10)] 5))) (fun _ v7 _ => P5 - (intOf v7).toNat)
   case atStart => exact ⟨0, ds, rfl, rfl, by rw [HD3.out], Nat.zero_le _, rfl⟩
   case round =>
     obtain ⟨j, V, rfl, rfl, hVl, hj, rfl⟩ := hrel
     have HVL := hide hVl
     rcases Nat.lt_or_ge j P5 with hlt | hge
     · have hjl : (j : Int) < (P5 : Int) := by omega
       have hwj : IntKind.i64.wrap ((j : Int) + 1) = (j : Int) + 1 := wrap_i64 (by omega) (by omega)
       have hv30 : V.length ≤ 30 := by omega
       clear hVl
       go_wp2_with fail
       refine (HP4.out _).mono ?_
       rintro e w4 ⟨rfl, h4⟩
       subst h4
       go_wp2
       exact ⟨⟨j + 1, V ++ [118, 97, 108, 117, 101], rfl, by simp, by rw [List.length_append, HVL.out]; simp; omega, by omega, trivial⟩, by simp [intOf]; omega⟩
     · have hjl : ¬ (j : Int) < (P5 : Int) := by omega
       have hje : P5 ≤ j := hge
       clear hVl
       go_wp2_with fail
       refine (HP4.out _).mono ?_
       rintro e w4 ⟨rfl, h4⟩
       subst h4
       go_wp2
       refine bodyPost_ret (eu rfl rfl (c := ⟨[b0, 108, 111, 110, 103], V, false⟩) ?_) rfl ?_
       · exact ((ja.alloc _ _ (fun _ => False)).more _).same (jd w _) id
       · exact ⟨_, rfl, ⟨by simp, by simp, by show V.length ≤ 23; have := HVL.out; omega, fun h => (by cases h)⟩, ((ja.alloc w _ _).more _).more _⟩
 · go_wp2
   refine bodyPost_ret (eu rfl rfl (c := ⟨[b0], [], true⟩) ?_) rfl ?_
   · exact (ja.alloc _ _ (fun _ => False)).same (jd w _) id
   · exact ⟨_, rfl, ⟨by simp, by simp, by simp, fun _ => rfl⟩, (ja.alloc w _ _).more _⟩
 · go_wp2_with fail
   go_loopw [6, 7] (fun v6 v7 wr => ∃ (j : Nat) (V : List UInt8), v6 = jc V ∧ v7 = .int .i64 j ∧ V.length = 3 + 5 * j ∧ j ≤ P5 ∧ wr = (((w.alloc (.cells #[.string ⟨#[]⟩, .string ⟨#[]⟩, .bool false] 88)).alloc (.cells #[.int .u8 (97 + (P9 : Int))] 5)).alloc (.cells #[.int .u8 (48 + (n : Int) % 10), .int .u8 (48 + (n : Int) / 10 % 10), .int .u8 (48 + (n : Int) / 100 % 10)] 5))) (fun _ v7 _ => P5 - (intOf v7).toNat)
   case atStart => exact ⟨0, ds, rfl, rfl, by rw [HD3.out], Nat.zero_le _, rfl⟩
   case round =>
     obtain ⟨j, V, rfl, rfl, hVl, hj, rfl⟩ := hrel
     have HVL := hide hVl
     rcases Nat.lt_or_ge j P5 with hlt | hge
     · have hjl : (j : Int) < (P5 : Int) := by omega
       have hwj : IntKind.i64.wrap ((j : Int) + 1) = (j : Int) + 1 := wrap_i64 (by omega) (by omega)
       have hv30 : V.length ≤ 30 := by omega
       clear hVl
       go_wp2_with fail
       refine (HP4.out _).mono ?_
       rintro e w4 ⟨rfl, h4⟩
       subst h4
       go_wp2
       exact ⟨⟨j + 1, V ++ [118, 97, 108, 117, 101], rfl, by simp, by rw [List.length_append, HVL.out]; simp; omega, by omega, trivial⟩, by simp [intOf]; omega⟩
     · have hjl : ¬ (j : Int) < (P5 : Int) := by omega
       have hje : P5 ≤ j := hge
       clear hVl
       go_wp2_with fail
       refine (HP4.out _).mono ?_
       rintro e w4 ⟨rfl, h4⟩
       subst h4
       go_wp2
       refine bodyPost_ret (eu rfl rfl (c := ⟨[b0], V, false⟩) ?_) rfl ?_
       · exact ((ja.alloc _ _ (fun _ => False)).more _).same (jd w _) id
       · exact ⟨_, rfl, ⟨by simp, by simp, by show V.length ≤ 23; have := HVL.out; omega, fun h => (by cases h)⟩, ((ja.alloc w _ _).more _).more _⟩
def Zs (w : World) (v : Value) (zs : List Int) : Prop :=
 ∃ p c, v = .slice p zs.length c ∧ (p = none → zs = []) ∧ (∀ z ∈ zs, -9223372036854775808 ≤ z ∧ z ≤ 9223372036854775807) ∧ zs.length < 1000000000000000 ∧ ∀ j z, zs[j]? = some z → ∃ b o, p = some ⟨b, o, none⟩ ∧ w.cell? ⟨b, o + j, none⟩ = some (.int .i64 z)
theorem Zs.same {w w' : World} {v : Value} {zs : List Int} (h : Zs w v zs) (k : ja w w' (fun _ => False)) : Zs w' v zs := by
 obtain ⟨p, c, rfl, h1, h2, h3, h4⟩ := h
 refine ⟨p, c, rfl, h1, h2, h3, fun j z hz => ?_⟩
 obtain ⟨b, o, e, h5⟩ := h4 j z hz
 exact ⟨b, o, e, k.cell h5 id⟩
theorem Zs.at {w : World} {p : Option Addr} {c : Nat} {zs : List Int} (h : Zs w (.slice p zs.length c) zs) {j : Nat} (hj : j < zs.length) : ∃ b o, p = some ⟨b, o, none⟩ ∧ w.cell? ⟨b, o + j, none⟩ = some (.int .i64 zs[j]) := by
 obtain ⟨p', c', e, h1, h2, h3, h4⟩ := h
 cases e
 exact h4 j _ (List.getElem?_eq_getElem hj)
theorem Su (ys : Array Value) (w : World) : (callFunc 59 ys).run Tryz.prog w = .ok (.enter 59 ys) w := by kernel_rfl
theorem jaw (w : World) (x : Ref.Ch) {base : Nat} (hb : base ≤ w.heap.size) : (w.alloc (.cells #[jc x.key, jc x.value, .bool x.gone] 88)).ownsRow base 88 3 (.slice (some ⟨w.heap.size, 0, none⟩) 1 1) 1 (jg [x]) := by
 have := World.ownsRow_lit (base := base) (e := 88) (size := 3) w #[jc x.key, jc x.value, .bool x.gone] 1 hb (by unfold maxLen; omega) rfl
 exact this
def jdc (w : World) (e : Ending) (w' : World) : Prop := ∃ v es, e = .returned v ∧ w'.ownsRow w.heap.size 88 3 v es.length (jg es) ∧ 1 ≤ es.length ∧ es.length ≤ 8 ∧ (∀ x ∈ es, Y1 x) ∧ ja w w' (fun _ => False)
set_option maxHeartbeats 1000000 in
set_option maxRecDepth 100000 in
theorem jc5 {w : World} {kb nw : Nat} {pw : Option Addr} {cw : Nat} (hw : w.cell? ⟨kb, 2, none⟩ = some (.slice pw nw cw)) (hnw : nw < 1000000) (rv : Value) (zs : List Int) (hz : Zs w rv zs) :
   Calls Tryz.prog 23 #[.pointer (some ⟨kb, 0, none⟩), rv] w (jdc w) := by
 obtain ⟨j0, hj, hy0, hy1, hy2⟩ := info_parts Tryz.Z8
 obtain ⟨p, c, rfl, _, hzb, hzl, _⟩ := id hz
 have HZ := hide hz
 have HZB := hide hzb
 have HZL := hide hzl
 clear hz hzb hzl
 go_enter Tryz.func23, Tryz.ntmps23
 go_wp2_with fail
 go_loopw [5, 6] (fun v5 v6 wr => ∃ (i : Nat) (es : List Ref.Ch), v6 = .int .i64 i ∧ es.length = i ∧ i ≤ 8 ∧ i ≤ zs.length ∧ wr.ownsRow w.heap.size 88 3 v5 i (jg es) ∧ (∀ x ∈ es, Y1 x) ∧ ja w wr (fun _ => False)) (fun _ v6 _ => 8 - (intOf v6).toNat)
 case atStart => exact ⟨0, [], rfl, rfl, Nat.zero_le _, Nat.zero_le _, World.ownsRow_nil _ _ _ _, fun x hx => (by cases hx), ja.refl _ _⟩
 case round =>
   obtain ⟨i, es, rfl, hel, hi8, hil, hrow, hsm, kk⟩ := hrel
   have HEL := hide hel
   have HROW := hide hrow
   have HSM := hide hsm
   obtain ⟨pv, cv, rfl⟩ := jh hrow
   have hzz := HZL.out
   clear hel hrow hsm
   rcases Nat.lt_or_ge i zs.length with hlt | hge
   · have hb1 : (i : Int) < (zs.length : Int) := by omega
     rcases Nat.lt_or_ge i 8 with h8 | h8
     · have hb2 : (i : Int) < 8 := by omega
       obtain ⟨b, o, rfl, hc⟩ := (HZ.out.same kk).at hlt
       have hzi := HZB.out zs[i] (List.getElem_mem hlt)
       generalize zs[i] = z at hc hzi
       have hcw := kk.cell hw id
       have hcd : wr.drew.cell? ⟨b, o + i, none⟩ = some (.int .i64 z) := hc
       have hwd : wr.drew.cell? ⟨kb, 2, none⟩ = some (.slice pw nw cw) := hcw
       have kd : ja wr wr.drew (fun _ => False) := ja.drew _ _
       have HCH : Hid (∀ W, Calls Tryz.prog 59 #[.int .i64 z, .int .i64 nw] W fun e w' => ∃ x, e = .returned (chV x) ∧ Y1 x ∧ ja W w' (fun _ => False)) := fun W => jav z hzi.1 hzi.2 nw hnw W
       have hwi : IntKind.i64.wrap ((i : Int) + 1) = (i : Int) + 1 := wrap_i64 (by omega) (by omega)
       have h63 : Hid (i + 1 ≤ maxLen) := (show i + 1 ≤ maxLen from by unfold maxLen; omega)
       have hbs : Hid ((i + 1) * 40 ≤ 140737488355328) := (show (i + 1) * 40 ≤ 140737488355328 from by omega)
       have hok1 : i < zs.length := hlt
       clear hzi
       go_wp2_with fail
       go_region_law (first
         | (refine jo rfl 59 [.tmp 21, .tmp 26] _ rfl Su [.int .i64 z, .int .i64 nw] (by simp [Act.eval, Act.put]) (HCH.out _) ?_
            rintro e w2 ⟨x, rfl, hx, k2⟩
            have kc := kd.trans k2 (fun _ _ h => h)
            have HLIT := hide (jaw w2 x (base := w.heap.size) (Nat.le_trans kk.size kc.size))
            have HSRC := hide ((Jk HLIT.out).src)
            have HR2 := hide (((kc.row HROW.out (fun _ _ h => h)).alloc (.cells #[jc x.key, jc x.value, .bool x.gone] 88)))
            have hbase : w.heap.size ≤ (w2.alloc (.cells #[jc x.key, jc x.value, .bool x.gone] 88)).heap.size := Nat.le_trans kk.size (Nat.le_trans kc.size (ja.alloc w2 _ (fun _ => False)).size)
            obtain ⟨xk, xv, xg⟩ := x
            refine ⟨_, rfl, ?_⟩)
         | (refine Xq rfl (.tmp 17) (.tmp 28) 38 38 rfl w.heap.size 88 j0 A8 3 40 Tryz.underlying38 hj hy0 hy1 hy2 rfl (Nat.zero_lt_succ 2) (.slice pv i cv) i (jg es) (by simp [Act.eval, Act.put]) HR2.out (.slice (some ⟨w2.heap.size, 0, none⟩) 1 1) 1 (jg [⟨xk, xv, xg⟩]) (by simp [Act.eval, Act.put]) HSRC.out h63.out hbs.out hbase ?_
            intro p3 c3 w3 hr3 hg3 hl3))
       all_goals
         go_wp2
         have k3 : ja w w3 (fun _ => False) := ((kk.trans kc (fun _ _ h => h)).more _).grow hg3 (fun j e hj => by have := (HROW.out.lt j e).1; omega)
         rw [← Zy] at hr3
         exact ⟨⟨i + 1, es ++ [⟨xk, xv, xg⟩], by simp, by rw [List.length_append, HEL.out]; rfl, by omega, by omega, hr3, fun y hy => by
           rcases List.mem_append.1 hy with hy | hy
           · exact HSM.out y hy
           · rw [List.mem_singleton.1 hy]; exact hx, k3⟩, by simp [intOf]; omega⟩
     · have hb2 : ¬ (i : Int) < 8 := by omega
       rcases Nat.eq_zero_or_pos i with h0 | h0
       · have hi0 : ((i : Int) == 0) = true := by simp; omega
         have hz0 : es.length = 0 := by rw [HEL.out]; exact h0
         clear h0
         go_wp2
         go_ret
         exact ⟨_, [⟨[97], [49], false⟩], rfl, jaw wr ⟨[97], [49], false⟩ kk.size, by simp, by simp, fun x hx => (by rw [List.mem_singleton.1 hx]; exact ⟨by simp, by simp, by simp, fun h => (by cases h)⟩), kk.more _⟩
       · have hi0 : ((i : Int) == 0) = false := by simp; omega
         have H0 := hide h0
         clear h0
         go_wp2
         go_ret
         refine ⟨_, es, rfl, ?_, ?_, ?_, HSM.out, kk⟩
         · rw [HEL.out]
           exact HROW.out
         · rw [HEL.out]
           exact H0.out
         · rw [HEL.out]
           exact hi8
   · have hb1 : ¬ (i : Int) < (zs.length : Int) := by omega
     rcases Nat.eq_zero_or_pos i with h0 | h0
     · have hi0 : ((i : Int) == 0) = true := by simp; omega
       have hz0 : es.length = 0 := by rw [HEL.out]; exact h0
       clear h0
       go_wp2
       go_ret
       exact ⟨_, [⟨[97], [49], false⟩], rfl, jaw wr ⟨[97], [49], false⟩ kk.size, by simp, by simp, fun x hx => (by rw [List.mem_singleton.1 hx]; exact ⟨by simp, by simp, by simp, fun h => (by cases h)⟩), kk.more _⟩
     · have hi0 : ((i : Int) == 0) = false := by simp; omega
       have H0 := hide h0
       clear h0
       go_wp2
       go_ret
       refine ⟨_, es, rfl, ?_, ?_, ?_, HSM.out, kk⟩
       · rw [HEL.out]
         exact HROW.out
       · rw [HEL.out]
         exact H0.out
       · rw [HEL.out]
         exact hi8
theorem ah {es : List Ref.Ch} (h1 : 1 ≤ es.length) (h8 : es.length ≤ 8) (h : ∀ x ∈ es, Y1 x) : Ref.Ji es = true ∧ ∀ n, (Ref.j5 n es).length ≤ 265 := by
 have hall : ∀ c ∈ es, Ref.allowed c = true := fun c hc => by
   obtain ⟨a1, a2, a3, a4⟩ := h c hc
   exact (Ref.Jo c).2 ⟨a1, by omega, by omega, a4⟩
 refine ⟨(Ref.Jb es).2 ⟨h1, h8, hall⟩, fun n => ?_⟩
 have H : ∀ l : List Ref.Ch, (∀ x ∈ l, Y1 x) → (l.flatMap Ref.entry).length ≤ 31 * l.length := by
   intro l
   induction l with
   | nil => intro _; simp
   | cons x r ih =>
     intro hl
     have h2 := ih (fun y hy => hl y (List.mem_cons_of_mem _ hy))
     obtain ⟨a1, a2, a3, a4⟩ := hl x List.mem_cons_self
     have h3 : (Ref.entry x).length ≤ 31 := by
       unfold Ref.entry
       split
       · simp [Ref.text, Ref.jk]; omega
       · simp [Ref.text, Ref.jk]; omega
     rw [List.flatMap_cons, List.length_append, List.length_cons]
     omega
 have h4 := H es h
 simp only [Ref.j5, Ref.frame, List.length_append, Ref.jk]
 omega
abbrev Er (d b : Nat) (wv : Value) : Array Value := #[.pointer (some ⟨d, 0, none⟩), .pointer (some ⟨b, 0, none⟩), wv, .bool false, .int .i64 0, .bool false]
def jdb (E : Nat → Addr) (B : Nat) (w : World) (e : Ending) (w' : World) : Prop :=
 ∃ kb d b F, e = .returned (.pointer (some ⟨kb, 0, none⟩)) ∧ w'.heap[kb]? = some (.cells (Er d b (.slice none 0 0)) 51 (0, 0)) ∧ Own E B w' d b Ref.St.first 1000 F ∧ ja w w' (fun _ => False) ∧ (∀ i, F i → w.heap.size ≤ i) ∧ ¬ F kb ∧ w.heap.size ≤ kb
set_option maxHeartbeats 1000000 in
set_option maxRecDepth 100000 in
theorem jbr {E : Nat → Addr} {B : Nat} {w : World} (H : Env E B w) (hB : B ≤ w.heap.size) : Calls Tryz.prog 22 #[] w (jdb E B w) := by
 have HNEW := hide (jgo H hB)
 go_enter Tryz.func22, Tryz.ntmps22
 go_wp2_with fail
 refine HNEW.out.mono ?_
 rintro e w1 ⟨d, ρ, rfl, D1, k1, hρ⟩
 obtain ⟨kb, hkb⟩ : ∃ kb, kb = w1.heap.size := ⟨_, rfl⟩
 obtain ⟨w2, hw2⟩ : ∃ w2, w2 = w1.alloc (.cells #[.pointer (some ⟨d, 0, none⟩), .pointer none, .slice none 0 0, .bool false, .int .i64 0, .bool false] 51) := ⟨_, rfl⟩
 have k2 : ja w1 w2 (fun _ => False) := by rw [hw2]; exact ja.alloc _ _ _
 have hK2 : w2.heap[kb]? = some (.cells #[.pointer (some ⟨d, 0, none⟩), .pointer none, .slice none 0 0, .bool false, .int .i64 0, .bool false] 51 (0, 0)) := by rw [hw2, hkb]; exact jd _ _
 have kw2 : ja w w2 (fun _ => False) := k1.trans k2 (fun _ _ h => h)
 have HOP := hide (Kw (D1.same k2) (H.same kw2) (by omega))
 have nkb : ρ kb = .none := Classical.byContradiction (fun hn => by have := (D1.yt kb hn).2; omega)
 have HKB := hide hkb
 have HK2 := hide hK2
 have sz1 := k1.size
 clear hkb hK2
 go_wp2_with fail
 rw [← hw2]
 clear hw2
 refine HOP.out.mono ?_
 rintro e w3 ⟨b, F, rfl, hb, O3, k3, hF⟩
 have hK3 := k3.same HK2.out (fun t => t nkb)
 have c1 := cell_of_heap (o := 1) hK3
 have f1 := frozen_of_heap (o := 1) hK3
 simp at c1
 have HK3 := hide hK3
 have hnF : ¬ F kb := fun h => by
   rcases hF kb h with t | t
   · exact t nkb
   · have := lt_of_heap HK2.out; omega
 have hBk : B ≤ kb := by have := HKB.out; omega
 rw [← HKB.out]
 clear hK3
 go_wp2
 go_ret
 have k4 := ja.setCell w3 ⟨kb, 1, none⟩ (.pointer (some ⟨b, 0, none⟩))
 refine ⟨kb, d, b, F, rfl, (jb HK3.out _).trans rfl, (O3.mono (by omega)).keep k4 (fun i _ e => by rw [e]; exact ⟨hBk, hnF⟩), (kw2.trans k3 (fun i hi t => by have := hρ i t; omega)).trans k4 (fun i hi e => by have e' : i = kb := e; have := HKB.out; omega), fun i hi => ?_, hnF, by have := HKB.out; omega⟩
 rcases hF i hi with t | t
 · exact hρ i t
 · have := kw2.size
   omega
def Prs (w : World) (v : Value) (l : List Ref.Ch) : Prop := ∃ base, w.ownsRow base 65 2 v l.length (qj l)
theorem Prs.same {w w' : World} {v : Value} {l : List Ref.Ch} (h : Prs w v l) (k : ja w w' (fun _ => False)) : Prs w' v l := by
 obtain ⟨base, h⟩ := h
 exact ⟨base, k.row h (fun _ _ h => h)⟩
theorem Wo {l : List Ref.Ch} {k : Nat} (h : k < l.length) : (qj l)[k * 2]? = some (jc l[k].key) ∧ (qj l)[k * 2 + 1]? = some (jc l[k].value) := by
 induction l generalizing k with
 | nil => simp at h
 | cons x r ih =>
   cases k with
   | zero => simp [qj]
   | succ k =>
     have := ih (k := k) (by simpa using h)
     have e : qj (x :: r) = jc x.key :: jc x.value :: qj r := by simp [qj]
     rw [e, show (k + 1) * 2 = k * 2 + 1 + 1 by omega]
     simpa using this
theorem Prs.at {w : World} {v : Value} {l : List Ref.Ch} (h : Prs w v l) {k : Nat} (hk : k < l.length) : ∃ g c, v = .slice (some ⟨g, 0, none⟩) l.length c ∧ w.cell? ⟨g, k * 2, none⟩ = some (jc l[k].key) ∧ w.cell? ⟨g, k * 2 + 1, none⟩ = some (jc l[k].value) := by
 obtain ⟨base, h⟩ := h
 have hat := Wo hk
 rcases h.2 with ⟨_, h0⟩ | ⟨g, cap, cur, e, _, hgg, h1, h2, h3, h4⟩
 · omega
 · refine ⟨g, cap, e, ?_, ?_⟩
   · rw [cell_of_heap hgg]
     have : (cur.toList.take (l.length * 2))[k * 2]? = some (jc l[k].key) := by rw [h4]; exact hat.1
     rw [List.getElem?_take] at this
     split at this
     · simpa using this
     · cases this
   · rw [cell_of_heap hgg]
     have : (cur.toList.take (l.length * 2))[k * 2 + 1]? = some (jc l[k].value) := by rw [h4]; exact hat.2
     rw [List.getElem?_take] at this
     split at this
     · simpa using this
     · cases this
def jd0 (c : Ref.Ch) : Str × Str := (c.key, c.value)
set_option maxHeartbeats 1000000 in
set_option maxRecDepth 100000 in
theorem Tx {w : World} (va vb : Value) (la lb : List Ref.Ch) (ha : Prs w va la) (hb : Prs w vb lb) (he : la.map jd0 = lb.map jd0) (hl : la.length < 1048576) :
   Calls Tryz.prog 31 #[va, vb] w fun e w' => e = .returned (.bool true) ∧ ja w w' (fun _ => False) := by
 have hlen : la.length = lb.length := by have := congrArg List.length he; simpa using this
 obtain ⟨pa, ca, hva⟩ : ∃ p c, va = .slice p la.length c := by obtain ⟨_, h⟩ := ha; obtain ⟨p, c, e⟩ := jh h; exact ⟨p, c, e⟩
 obtain ⟨pb, cb, hvb⟩ : ∃ p c, vb = .slice p lb.length c := by obtain ⟨_, h⟩ := hb; obtain ⟨p, c, e⟩ := jh h; exact ⟨p, c, e⟩
 rw [← hlen] at hvb
 obtain ⟨n, hn⟩ : ∃ n, n = la.length := ⟨_, rfl⟩
 rw [← hn] at hva hvb hl
 have HA := hide ha
 have HB := hide hb
 have HE := hide he
 have HN := hide hn
 have HLEN := hide hlen
 subst hva
 subst hvb
 clear ha hb he hn hlen
 go_enter Tryz.func31, Tryz.ntmps31
 go_wp2_with fail
 go_loopw [5] (fun i wr => ∃ k : Nat, k ≤ n ∧ i = .int .i64 k ∧ ja w wr (fun _ => False)) (fun i _ => n - (intOf i).toNat)
 case atStart => exact ⟨0, Nat.zero_le _, rfl, ja.refl _ _⟩
 case round =>
   obtain ⟨k, hk, rfl, kk⟩ := hrel
   rcases Nat.lt_or_ge k n with hlt | hge
   · have h1 : k < la.length := by rw [← HN.out]; exact hlt
     have h2 : k < lb.length := by rw [← HLEN.out]; exact h1
     obtain ⟨ga, ca', ea, a0, a1⟩ := (HA.out.same kk).at h1
     obtain ⟨gb, cb', eb, b0, b1⟩ := (HB.out.same kk).at h2
     have hee : jd0 la[k] = jd0 lb[k] := by
       have := congrArg (fun l => l[k]?) HE.out
       simp only [List.getElem?_map, List.getElem?_eq_getElem h1, List.getElem?_eq_getElem h2, Option.map_some] at this
       exact Option.some.inj this
     unfold jd0 at hee
     injection hee with e1 e2
     rw [← e1] at b0
     rw [← e2] at b1
     generalize la[k].key = K at a0 b0
     generalize la[k].value = U at a1 b1
     injection ea with ea1 ea2 ea3
     injection eb with eb1 eb2 eb3
     subst ea1
     subst eb1
     clear ea2 ea3 eb2 eb3
     have hki : (k : Int) < (n : Int) := by omega
     have hwk : IntKind.i64.wrap ((k : Int) + 1) = (k : Int) + 1 := wrap_i64 (by omega) (by omega)
     clear h1 h2 e1 e2
     go_wp2_with fail
     go_quiet (fail)
     go_wp2
     exact ⟨⟨k + 1, by omega, by simp, kk.trans (ja.drewN wr nq _) (fun _ _ h => h)⟩, by simp [intOf]; omega⟩
   · have hki : ¬ (k : Int) < (n : Int) := by omega
     go_wp2
     go_ret
     exact ⟨rfl, kk⟩
end Go.Proofs.YtnipbplghijdmaaGreatDoor
namespace Go.Proofs.YtnipbplghijdmaaGreatDoor
open Go.RowKit Go.Maps Go.WideShapes
set_option linter.unusedVariables false
def lens (ls : List (List Ref.Ch)) : Nat := (ls.map List.length).sum
theorem lens_cons (l : List Ref.Ch) (ls : List (List Ref.Ch)) : lens (l :: ls) = l.length + lens ls := by simp [lens]
structure Xf (i : Nat) (s : Ref.St) : Prop where
 ok : s.Ok
 last : s.last = i
 base : s.m.base = 0
 next : s.m.next ≤ 2 + 2 * s.m.last
 Al : 1 ≤ s.m.next
 len : s.bls.length = s.m.runs.length
 runs : s.m.runs.length ≤ s.m.last
 all : lens s.bls ≤ 8 * s.m.last
 log : (Ref.jy s.m.last s.bs).length ≤ 265 * s.bs.length
 mem : s.mem.length ≤ 8 * s.bs.length
theorem Xf.first : Xf 0 Ref.St.first := ⟨Ref.St.Ok.first, rfl, rfl, by decide, by decide, rfl, by decide, by decide, by decide, by decide⟩
theorem Xf.write {i : Nat} {s : Ref.St} (h : Xf i s) {es : List Ref.Ch} (h1 : 1 ≤ es.length) (h8 : es.length ≤ 8) (hs : ∀ x ∈ es, Y1 x) (hi : i < 1000000) : Xf (i + 1) (s.write es) := by
 obtain ⟨hb, hl⟩ := ah h1 h8 hs
 have hlast := h.last
 refine ⟨h.ok.write hb (by omega), ?_, h.base, h.next, h.Al, h.len, h.runs, h.all, ?_, ?_⟩
 · show s.m.last + (s.bs ++ [es]).length = i + 1
   rw [List.length_append, List.length_singleton]
   unfold Ref.St.last at hlast
   omega
 · show (Ref.jy s.m.last (s.bs ++ [es])).length ≤ 265 * (s.bs ++ [es]).length
   rw [Ref.il, List.length_append, List.length_append, List.length_singleton]
   have := h.log
   have := hl (s.m.last + s.bs.length + 1)
   omega
 · show (Ref.memory (s.bs ++ [es])).length ≤ 8 * (s.bs ++ [es]).length
   rw [Ref.Am, List.length_append, List.length_singleton]
   have h2 := (Ref.Ao (more := es) (Ref.yn s.bs)).1
   have h3 : (Ref.memory s.bs).length ≤ 8 * s.bs.length := h.mem
   omega
theorem Xf.flush {i : Nat} {s : Ref.St} (h : Xf i s) (hi : i < 5000) : Xf i s.flush := by
 by_cases hb : s.bs = []
 · have e : s.flush = s := by unfold Ref.St.flush; rw [if_pos hb]
   rw [e]
   exact h
 · have e : s.flush = ⟨s.m.xz s.last, [], s.mem :: s.bls⟩ := by unfold Ref.St.flush; rw [if_neg hb]
   have hpos := List.length_pos_iff.2 hb
   have hlast := h.last
   have hn := h.next
   have hm := h.mem
   have hr := h.runs
   have ha := h.all
   unfold Ref.St.last at hlast
   have ok := h.ok.flush (by omega) (by omega) h.Al (by omega)
   rw [e] at ok ⊢
   refine ⟨ok, ?_, h.base, ?_, by show 1 ≤ s.m.next + 2; omega, ?_, ?_, ?_, by simp [Ref.jy], by show (Ref.memory []).length ≤ _; simp [Ref.memory]⟩
   · show s.last + 0 = i
     exact h.last
   · show s.m.next + 2 ≤ 2 + 2 * s.last
     unfold Ref.St.last
     omega
   · show (s.mem :: s.bls).length = (s.m.next :: s.m.runs).length
     rw [List.length_cons, List.length_cons, h.len]
   · show (s.m.next :: s.m.runs).length ≤ s.last
     rw [List.length_cons]
     unfold Ref.St.last
     omega
   · show lens (s.mem :: s.bls) ≤ 8 * s.last
     rw [lens_cons]
     unfold Ref.St.last
     omega
theorem Ii : ∀ (ns : List Nat) (ls : List (List Ref.Ch)), (∀ l ∈ ls, ∀ c ∈ l, Ref.allowed c = true) → qm (yo ns ls) ≤ 67 * lens ls + 300 * ls.length
 | [], ls, _ => by simp [yo, qm]
 | n :: r, [], _ => by simp [yo, qm]
 | n :: r, l :: q, h => by
   have h1 := Ii r q (fun x hx => h x (List.mem_cons_of_mem _ hx))
   have h2 := Ref.Xr (h l List.mem_cons_self)
   have e : yo (n :: r) (l :: q) = (jq n, Ref.ql l) :: yo r q := rfl
   rw [e, yz, lens_cons, List.length_cons]
   show (Ref.ql l).length + _ ≤ _
   omega
theorem Ga {s : Ref.St} (h : s.Ok) : qm s.files ≤ 42 + 8 * s.m.runs.length + (Ref.jy s.m.last s.bs).length + 67 * lens s.bls + 300 * s.bls.length := by
 unfold Ref.St.files
 rw [yz, yz]
 have h1 := Ii s.m.settled s.bls (fun l hl => (h.bl l hl).allowed)
 have h2 := zt s.m
 show s.m.bytes.length + ((Ref.jy s.m.last s.bs).length + _) ≤ _
 omega
theorem Xf.size {i : Nat} {s : Ref.St} (h : Xf i s) : qm s.files ≤ 42 + 265 * s.bs.length + 844 * s.m.last := by
 have h1 := Ga h.ok
 have := h.log
 have := h.all
 have := h.runs
 have := h.len
 omega
theorem Xf.split {i : Nat} {s : Ref.St} (h : Xf i s) : s.m.last + s.bs.length = i := h.last
theorem Xf.room {i : Nat} {s : Ref.St} (h : Xf i s) (hi : i ≤ 20) : (s.m.xz s.last).bytes.length + (Ref.ql s.mem).length + qm s.files ≤ 20000 := by
 have h1 := h.size
 have h2 := zt (s.m.xz s.last)
 have h3 : (s.m.xz s.last).runs.length = s.m.runs.length + 1 := rfl
 have h4 := h.runs
 have h5 := h.split
 have h6 : (Ref.ql s.mem).length ≤ 67 * s.mem.length + 300 := Ref.Xr (fun c hc => by
   obtain ⟨b, hb, hcb⟩ := Ref.ry hc
   exact ((Ref.Jb b).1 (h.ok.log b hb)).2.2 c hcb)
 have h7 := h.mem
 omega
end Go.Proofs.YtnipbplghijdmaaGreatDoor
namespace Go.Proofs.YtnipbplghijdmaaGreatDoor
open Go.RowKit Go.Maps Go.WideShapes
set_option linter.unusedVariables false
set_option linter.unusedSimpArgs false
theorem Qp.new {E : Nat → Addr} {B : Nat} {w W W' : World} {d b k : Nat} {s : Ref.St} {F : Nat → Prop} (kW : ja w W (fun _ => False)) (hF : ∀ i, F i → w.heap.size ≤ i) (h : Qp E B W d b s k F W') :
   ∃ F', Own E B W' d b s k F' ∧ (∀ i, F' i → w.heap.size ≤ i) ∧ ja w W' (fun _ => False) ∧ ja W W' F ∧ (∀ i, F' i → F i ∨ W.heap.size ≤ i) := by
 obtain ⟨F', O, kk, hF'⟩ := h
 refine ⟨F', O, fun i hi => ?_, kW.trans kk (fun i hi t => by have := hF i t; omega), kk, hF'⟩
 rcases hF' i hi with t | t
 · exact hF i t
 · exact Nat.le_trans kW.size t
theorem Lj {l : List Ref.Ch} (h : Ref.ji l) (k : Str) : Hm (Ref.xw l k) = (match Ref.xw (Ref.there l) k with | some c => (c.value, true) | none => ([], false)) := by
 rw [Ref.Zc h]
 cases Ref.xw l k with
 | none => rfl
 | some c => by_cases hg : c.gone = true <;> simp [Hm, Option.filter, hg]
set_option maxRecDepth 100000 in
theorem Sw {s : Ref.St} (h : s.compact.Ok) (hs : s.Ok) : qm s.compact.files ≤ 42 + 8 * s.m.runs.length + (Ref.jy s.m.last s.bs).length + 67 * lens s.bls + 300 * (s.bls.length + 1) := by
 have h1 := Ga h
 have hl : s.live.length ≤ lens s.bls := by
   have h2 := List.length_filter_le (fun c : Ref.Ch => !c.gone) (Ref.merged s.bls)
   have h3 := Ref.Cc s.bls
   show (Ref.there (Ref.merged s.bls)).length ≤ (s.bls.map List.length).sum
   unfold Ref.there
   omega
 unfold Ref.St.compact at h1 ⊢
 split at h1
 · rename_i hr
   rw [if_pos hr]
   omega
 · rename_i hr
   rw [if_neg hr]
   split at h1
   · rename_i hr2
     rw [if_pos hr2]
     have e1 : (⟨s.m.bare, s.bs, []⟩ : Ref.St).m.runs.length = 0 := rfl
     have e2 : lens (⟨s.m.bare, s.bs, []⟩ : Ref.St).bls = 0 := rfl
     have e3 : (⟨s.m.bare, s.bs, []⟩ : Ref.St).bls.length = 0 := rfl
     have e4 : (Ref.jy (⟨s.m.bare, s.bs, []⟩ : Ref.St).m.last (⟨s.m.bare, s.bs, []⟩ : Ref.St).bs) = Ref.jy s.m.last s.bs := rfl
     rw [e1, e2, e3, e4] at h1
     generalize (Ref.jy s.m.last s.bs).length = L at h1 ⊢
     generalize qm _ = X at h1 ⊢
     omega
   · rename_i hr2
     rw [if_neg hr2]
     have e1 : (⟨s.m.zi, s.bs, [s.live]⟩ : Ref.St).m.runs.length = 0 := rfl
     have e2 : lens (⟨s.m.zi, s.bs, [s.live]⟩ : Ref.St).bls = s.live.length := by show lens [s.live] = _; rw [lens_cons]; rfl
     have e3 : (⟨s.m.zi, s.bs, [s.live]⟩ : Ref.St).bls.length = 1 := rfl
     have e4 : (Ref.jy (⟨s.m.zi, s.bs, [s.live]⟩ : Ref.St).m.last (⟨s.m.zi, s.bs, [s.live]⟩ : Ref.St).bs) = Ref.jy s.m.last s.bs := rfl
     rw [e1, e2, e3, e4] at h1
     generalize (Ref.jy s.m.last s.bs).length = L at h1 ⊢
     generalize qm _ = X at h1 ⊢
     omega
theorem Vq (s : Ref.St) : s.compact.mem = s.mem := by
 unfold Ref.St.compact
 split
 · rfl
 · split <;> rfl
theorem Cq (s : Ref.St) : s.compact.files.length ≤ s.bls.length + 3 := by
 have H : ∀ (ns : List Nat) (ls : List (List Ref.Ch)), (yo ns ls).length ≤ ls.length := fun ns ls => by unfold yo; rw [List.length_map, List.length_zip]; omega
 unfold Ref.St.files
 rw [List.length_cons, List.length_cons]
 have h1 := H s.compact.m.settled s.compact.bls
 have h2 : s.compact.bls.length ≤ s.bls.length + 1 := by
   unfold Ref.St.compact
   split
   · omega
   · split
     · simp
     · simp
 omega
def esA : List Ref.Ch := [⟨[107], [118], false⟩, ⟨[108], [119], false⟩]
def esB : List Ref.Ch := [⟨[108], [], true⟩]
theorem E5 : ∀ x ∈ esA, Y1 x := by
 intro x hx
 simp [esA] at hx
 rcases hx with rfl | rfl <;> exact ⟨by simp, by simp, by simp, fun h => (by cases h)⟩
theorem Oj : ∀ x ∈ esB, Y1 x := by
 intro x hx
 simp [esB] at hx
 rw [hx]
 exact ⟨by simp, by simp, by simp, fun _ => rfl⟩
def Ez : Ref.St := (((Ref.St.first.write esA).flush).write esB).compact
theorem jgq : Xf 2 ((Ref.St.first.write esA).flush.write esB) := ((Xf.first.write (by decide) (by decide) E5 (by decide)).flush (by decide)).write (by decide) (by decide) Oj (by decide)
theorem jdi : Hm (Ref.xw Ez.all [107]) = ([118], true) ∧ Hm (Ref.xw Ez.all [108]) = ([], false) := by
 have ht : Ref.there Ez.all = Ref.there (Ref.over (Ref.over (Ref.merged [[]]) esA) esB) := by
   have h1 : Ez.tell = ((Ref.St.first.write esA).flush.write esB).tell := Ref.St.om jgq.ok
   have h2 : ((Ref.St.first.write esA).flush.write esB).all = Ref.over (Ref.over (Ref.merged [[]]) esA) esB := by
     rw [Ref.St.F7, Ref.St.Pd, Ref.St.F7]
     rfl
   show Ez.tell = _
   rw [h1]
   unfold Ref.St.tell
   rw [h2]
 rw [Lj (Ref.St.De _), Lj (Ref.St.De _), ht]
 constructor <;> decide +kernel
set_option maxHeartbeats 1000000 in
set_option maxRecDepth 100000 in
theorem jgt {E : Nat → Addr} {B : Nat} {w : World} (H : Env E B w) (hB : B ≤ w.heap.size) : Calls Tryz.prog 21 #[] w fun e w' => e = .returned (.bool true) ∧ ja w w' (fun _ => False) := by
 have HNEW := hide (jgo H hB)
 have f1 := Xf.first.write (by decide) (by decide) E5 (by decide)
 have f2 := f1.flush (by decide)
 have f3 := jgq
 have hsA := ah (by decide) (by decide) E5
 have hsB := ah (by decide) (by decide) Oj
 obtain ⟨s1, e1⟩ : ∃ s1, s1 = Ref.St.first.write esA := ⟨_, rfl⟩
 obtain ⟨s2, e2⟩ : ∃ s2, s2 = s1.flush := ⟨_, rfl⟩
 obtain ⟨s3, e3⟩ : ∃ s3, s3 = s2.write esB := ⟨_, rfl⟩
 obtain ⟨s4, e4⟩ : ∃ s4, s4 = s3.compact := ⟨_, rfl⟩
 rw [← e1] at f1 f2 f3
 rw [← e2] at f2 f3
 rw [← e3] at f3
 have hg := jdi
 unfold Ez at hg
 rw [← e1, ← e2, ← e3, ← e4] at hg
 have F1 := hide f1
 have F2 := hide f2
 have F3 := hide f3
 have HSA := hide hsA
 have HSB := hide hsB
 have HG := hide hg
 have H1 := hide e1
 have H2 := hide e2
 have H3 := hide e3
 have H4 := hide e4
 clear f1 f2 f3 hsA hsB hg e1 e2 e3 e4
 go_enter Tryz.func21, Tryz.ntmps21
 go_wp2_with fail
 refine HNEW.out.mono ?_
 rintro e w1 ⟨d, ρ, rfl, D1, k1, hρ⟩
 have HOP := hide (Kw D1 (H.same k1) (by omega))
 go_wp2_with fail
 refine HOP.out.mono ?_
 rintro e w2 ⟨b, G2, rfl, hb, O2, k2, hG2⟩
 have kw2 : ja w w2 (fun _ => False) := k1.trans k2 (fun i hi t => by have := hρ i t; omega)
 have hF2 : ∀ i, G2 i → w.heap.size ≤ i := fun i hi => by
   rcases hG2 i hi with t | t
   · exact hρ i t
   · have := k1.size; omega
 have hrow3 := World.ownsRow_lit (base := w.heap.size) (e := 88) (size := 3) w2 #[.string ⟨#[107]⟩, .string ⟨#[118]⟩, .bool false, .string ⟨#[108]⟩, .string ⟨#[119]⟩, .bool false] 2 kw2.size (by unfold maxLen; omega) rfl
 have hch3 : Chs (w2.alloc (.cells #[.string ⟨#[107]⟩, .string ⟨#[118]⟩, .bool false, .string ⟨#[108]⟩, .string ⟨#[119]⟩, .bool false] 88)) (.slice (some ⟨w2.heap.size, 0, none⟩) 2 2) esA := Jk hrow3
 have kA := ja.alloc w2 (.cells #[.string ⟨#[107]⟩, .string ⟨#[118]⟩, .bool false, .string ⟨#[108]⟩, .string ⟨#[119]⟩, .bool false] 88) (fun _ => False)
 have HW := hide (H7 (O2.same kA) (by omega) _ esA HSA.out.1 hch3 (fun p n c e t => by cases e; have := (O2.old t).2; simp at this) (by decide) (by decide) (by
   have h1 := Xf.first.size
   have h2 := HSA.out.2 (Ref.St.first.last + 1)
   have h3 : Ref.St.first.bs.length = 0 := rfl
   have h4 : Ref.St.first.m.last = 0 := rfl
   omega))
 clear hrow3 hch3
 go_wp2_with fail
 refine HW.out.mono ?_
 rintro e w3 ⟨rfl, h3⟩
 obtain ⟨G3, O3, hF3, kw3, _, _⟩ := Qp.new (kw2.trans kA (fun _ _ h => h)) hF2 h3
 rw [← H1.out] at O3
 have HFL := hide (Si O3 (by omega) (by have := F1.out.next; have := F1.out.split; omega) (by have := F1.out.runs; have := F1.out.split; omega) (F1.out.room (by decide)))
 clear h3
 go_wp2_with fail
 refine HFL.out.mono ?_
 rintro e w4 ⟨rfl, h4⟩
 obtain ⟨G4, O4, hF4, kw4, _, _⟩ := Qp.new kw3 hF3 h4
 rw [← H2.out] at O4
 have hrow5 := World.ownsRow_lit (base := w.heap.size) (e := 88) (size := 3) w4 #[.string ⟨#[108]⟩, .string ⟨#[]⟩, .bool true] 1 kw4.size (by unfold maxLen; omega) rfl
 have hch5 : Chs (w4.alloc (.cells #[.string ⟨#[108]⟩, .string ⟨#[]⟩, .bool true] 88)) (.slice (some ⟨w4.heap.size, 0, none⟩) 1 1) esB := Jk hrow5
 have kB := ja.alloc w4 (.cells #[.string ⟨#[108]⟩, .string ⟨#[]⟩, .bool true] 88) (fun _ => False)
 have HW2 := hide (H7 (O4.same kB) (by omega) _ esB HSB.out.1 hch5 (fun p n c e t => by cases e; have := (O4.old t).2; simp at this) (by have := F2.out.last; omega) (by have := F2.out.mem; have := F2.out.split; omega) (by
   have h1 := F2.out.size
   have h2 := HSB.out.2 (s2.last + 1)
   have h3 := F2.out.split
   omega))
 clear hrow5 hch5 h4
 go_wp2_with fail
 refine HW2.out.mono ?_
 rintro e w5 ⟨rfl, h5⟩
 obtain ⟨G5, O5, hF5, kw5, _, _⟩ := Qp.new (kw4.trans kB (fun _ _ h => h)) hF4 h5
 rw [← H3.out] at O5
 have hml : (Ref.merged s3.bls).length ≤ 16 := by
   have h1 := Ref.Cc s3.bls
   have h2 := F3.out.all
   have h3 := F3.out.split
   unfold lens at h2
   omega
 have hlv : s3.live.length ≤ 16 := by
   have h2 := List.length_filter_le (fun c : Ref.Ch => !c.gone) (Ref.merged s3.bls)
   show (Ref.there (Ref.merged s3.bls)).length ≤ 16
   unfold Ref.there
   omega
 have hrb : (Ref.ql s3.live).length ≤ 67 * s3.live.length + 300 := Ref.Xr (fun c hc => by
   obtain ⟨l, hm, hcl⟩ := Ref.Cw (fun l hl => (F3.out.ok.bl l hl).rising) (Ref.Ex _ c hc)
   exact (F3.out.ok.bl l hm).allowed c hcl)
 have HCP := hide (Fy O5 (by omega) (by have := F3.out.next; have := F3.out.split; omega) (by omega) (by have := F3.out.size; have := F3.out.split; omega))
 clear h5 hml hlv hrb
 go_wp2_with fail
 refine HCP.out.mono ?_
 rintro e w6 ⟨rfl, h6⟩
 obtain ⟨G6, O6, hF6, kw6, _, _⟩ := Qp.new kw5 hF5 h6
 obtain ⟨ρ6, D6, hD6⟩ := O6.disk
 have hsz6 := Sw O6.ok F3.out.ok
 have hfl6 := Cq s3
 have HOP2 := hide (Rc D6 O6.env (by have := F3.out.len; have := F3.out.runs; have := F3.out.split; omega) O6.ok (by have := F3.out.log; have := F3.out.all; have := F3.out.len; have := F3.out.runs; have := F3.out.split; omega) (by rw [Vq]; have := F3.out.mem; have := F3.out.split; omega))
 clear h6 hsz6 hfl6
 go_wp2_with fail
 refine HOP2.out.mono ?_
 rintro e w7 ⟨b7, G7, rfl, hb7, O7, k7, hG7⟩
 have kw7 : ja w w7 (fun _ => False) := kw6.trans k7 (fun i hi t => by have := hF6 i (hD6 i t); omega)
 have hF7 : ∀ i, G7 i → w.heap.size ≤ i := fun i hi => by
   rcases hG7 i hi with t | t
   · exact hF6 i (hD6 i t)
   · have := kw6.size; omega
 have hfl7 := Cq s3
 rw [← H4.out] at O7 hfl7
 have hk7 : 0 + 1000 + 20000 + 50000 + 20000 + 100000 + s4.files.length < 540000000000 := by have := F3.out.len; have := F3.out.runs; have := F3.out.split; omega
 have HG1 := hide (jgp O7 hk7 [107])
 have HG2 : Hid (∀ W F, Own E B W d b7 s4 (0 + 1000 + 20000 + 50000 + 20000 + 100000 + s4.files.length) F → Calls Tryz.prog 33 #[.pointer (some ⟨b7, 0, none⟩), jc [108]] W fun e w' => e = .returned (.tuple #[jc (Hm (Ref.xw s4.all [108])).1, .bool (Hm (Ref.xw s4.all [108])).2, .int .i64 0]) ∧ Own E B w' d b7 s4 (0 + 1000 + 20000 + 50000 + 20000 + 100000 + s4.files.length) F ∧ ja W w' F) := fun W F hO => jgp hO hk7 [108]
 rw [HG.out.1] at HG1
 rw [HG.out.2] at HG2
 clear hk7 hfl7
 go_wp2_with fail
 refine HG1.out.mono ?_
 rintro e w8 ⟨rfl, O8, k8⟩
 go_wp2_with fail
 refine (HG2.out _ _ O8).mono ?_
 rintro e w9 ⟨rfl, O9, k9⟩
 go_wp2
 go_ret
 exact ⟨rfl, (kw7.trans k8 (fun i hi t => by have := hF7 i t; omega)).trans k9 (fun i hi t => by have := hF7 i t; omega)⟩
def ja0 (w : World) (v : Value) (rss : List (List Int)) : Prop :=
 ∃ p c, v = .slice p rss.length c ∧ (p = none → rss = []) ∧ rss.length < 1000000000000000 ∧ ∀ j (h : j < rss.length), ∃ b o rv, p = some ⟨b, o, none⟩ ∧ w.cell? ⟨b, o + j, none⟩ = some rv ∧ Zs w rv rss[j]
theorem ja0.same {w w' : World} {v : Value} {rss : List (List Int)} (h : ja0 w v rss) (k : ja w w' (fun _ => False)) : ja0 w' v rss := by
 obtain ⟨p, c, rfl, h1, h2, h4⟩ := h
 refine ⟨p, c, rfl, h1, h2, fun j hj => ?_⟩
 obtain ⟨b, o, rv, e, h6, h7⟩ := h4 j hj
 exact ⟨b, o, rv, e, k.cell h6 id, h7.same k⟩
theorem ja0.at {w : World} {p : Option Addr} {c : Nat} {rss : List (List Int)} (h : ja0 w (.slice p rss.length c) rss) {j : Nat} (hj : j < rss.length) : ∃ b o rv, p = some ⟨b, o, none⟩ ∧ w.cell? ⟨b, o + j, none⟩ = some rv ∧ Zs w rv rss[j] := by
 obtain ⟨p', c', e, h1, h2, h4⟩ := h
 cases e
 exact h4 j hj
theorem Tryz.jf7 : (Tryz.prog.info? 38).map (fun i => (i.zero, i.size, i.bytes)) = some (some (.slice none 0 0), 1, 24) := by kernel_rfl
end Go.Proofs.YtnipbplghijdmaaGreatDoor
namespace Go.Proofs.YtnipbplghijdmaaGreatDoor.Ref
set_option linter.unusedVariables false
def iq (l : List Ch) (c : Ch) : List Ch := ic c (l.foldl (zu c) ([], c.gone))
theorem Py {c : Ch} (l out : List Ch) : l.foldl (zu c) (out, true) = (out ++ l.filter (fun x => decide (x.key ≠ c.key)), true) := by
 induction l generalizing out with
 | nil => simp
 | cons x r ih =>
   rw [List.foldl_cons]
   by_cases h : x.key = c.key
   · have e : zu c (out, true) x = (out, true) := by simp [zu, h]
     rw [e, ih, List.filter_cons_of_neg (by simp [h])]
   · have e : zu c (out, true) x = (out ++ [x], true) := by simp [zu, h]
     rw [e, ih, List.filter_cons_of_pos (by simp [h])]
     simp
def Live (l : List Ch) : Prop := ∀ x ∈ l, x.gone = false
theorem Im {l : List Ch} (h : Live l) : there l = l := by
 unfold there
 rw [List.filter_eq_self]
 intro x hx
 simp [h x hx]
theorem Cx (l : List Ch) : Live (there l) := fun x hx => by
 have := (List.mem_filter.1 hx).2
 simpa using this
theorem jbn {l : List Ch} {c : Ch} (h : ji l) (hl : Live l) : iq l c = there (ins c l) := by
 unfold iq
 by_cases hg : c.gone = true
 · rw [hg, Py]
   simp only [ic, List.nil_append, Bool.true_eq_false, if_false]
   refine o7 (Qy h _) (Jg (Js h)) (fun k => ?_)
   have e := sj (l := l) (fun q => decide (q ≠ c.key)) k
   rw [e, Zc (Js h), Bi h]
   by_cases hk : c.key = k
   · have : (decide (k ≠ c.key)) = false := by simp [hk]
     rw [if_pos hk, this]
     simp [Option.filter, hg]
   · have hk2 : (decide (k ≠ c.key)) = true := by simp; exact fun e => hk e.symm
     rw [if_neg hk, hk2, if_pos rfl]
     cases hgi : xw l k with
     | none => rfl
     | some x =>
       have hx : x ∈ l := List.mem_of_find?_eq_some hgi
       simp [Option.filter, hl x hx]
 · have hg' : c.gone = false := by simpa using hg
   rw [hg']
   have e := Gf (c := c) (out := []) h
   rw [e, List.nil_append, Im]
   intro x hx
   rcases Rl hx with rfl | hx
   · exact hg'
   · exact hl x hx
def Xa (l : List Ch) (b : List Ch) : List Ch := b.foldl iq l
def Qr (bs : List (List Ch)) : List Ch := bs.foldl Xa []
theorem r9 (bs : List (List Ch)) (b : List Ch) : Qr (bs ++ [b]) = Xa (Qr bs) b := by simp [Qr, List.foldl_append]
theorem Wy {l : List Ch} {c : Ch} (h : ji l) : iq (there l) c = there (ins c l) := by
 rw [jbn (Jg h) (Cx l)]
 have e := Il (l := l) (m := [c]) h (List.pairwise_singleton _ _)
 have e1 : ∀ q : List Ch, ji q → over q [c] = ins c q := fun q hq => by
   show put q c = ins c q
   exact Xg hq
 rw [e1 _ (Jg h), e1 _ h] at e
 exact e
theorem U1 {l : List Ch} (h : ji l) (b : List Ch) : Xa (there l) b = there (over l b) := by
 induction b generalizing l with
 | nil => rfl
 | cons c r ih =>
   have e1 : over l (c :: r) = over (put l c) r := rfl
   have e2 : Xa (there l) (c :: r) = Xa (iq (there l) c) r := rfl
   rw [e1, e2, Xg h, Wy h, ih (Js h)]
theorem St.Ip (s : St) (b : List Ch) : (s.write b).tell = Xa s.tell b := by
 unfold St.tell
 rw [St.F7, U1 (St.De s)]
theorem St.Iq (s : St) : s.flush.tell = s.tell := by unfold St.tell; rw [St.Pd]
theorem Ol (s : St) {most : Nat} (h : s.tell.length ≤ most) : wu s.all [] [] most = s.tell := by
 unfold wu
 have e : (there s.all).filter (Sa [] []) = there s.all := by
   rw [List.filter_eq_self]
   intro x hx
   simp [Sa]
 rw [e]
 exact List.take_of_length_le h
def ew (c : Ch) : Nat := (entry c).length + 8
def mu (l : List Ch) : Nat := (l.map ew).sum
theorem Yx (c : Ch) (l : List Ch) : mu (c :: l) = ew c + mu l := by simp [mu]
theorem Rj (l : List Ch) : mu l = (l.flatMap entry).length + 8 * l.length := by
 induction l with
 | nil => rfl
 | cons c r ih =>
   rw [Yx, ih, List.flatMap_cons, List.length_append, List.length_cons]
   unfold ew
   omega
theorem jgz (c : Ch) (l : List Ch) : mu (ins c l) ≤ ew c + mu l := by
 induction l with
 | nil => simp [ins, mu]
 | cons x r ih =>
   unfold ins
   split
   · rw [Yx]; exact Nat.le_refl _
   · split
     · rw [Yx, Yx]; omega
     · rw [Yx, Yx]; omega
theorem jbh {l : List Ch} (h : ji l) (b : List Ch) : mu (over l b) ≤ mu l + mu b := by
 induction b generalizing l with
 | nil => exact Nat.le_add_right _ _
 | cons c r ih =>
   have e1 : over l (c :: r) = over (put l c) r := rfl
   rw [e1, Xg h, Yx]
   have h1 := ih (Js (c := c) h)
   have h2 := jgz c l
   omega
def mus (bs : List (List Ch)) : Nat := (bs.map mu).sum
theorem au (b : List Ch) (bs : List (List Ch)) : mus (b :: bs) = mu b + mus bs := by simp [mus]
theorem mh (bs : List (List Ch)) (b : List Ch) : mus (bs ++ [b]) = mus bs + mu b := by simp [mus]
theorem jef {l : List Ch} (h : ji l) (bs : List (List Ch)) : mu (bs.foldl over l) ≤ mu l + mus bs := by
 induction bs generalizing l with
 | nil => exact Nat.le_add_right _ _
 | cons b r ih =>
   rw [List.foldl_cons, au]
   have h1 := ih (zl (more := b) h)
   have h2 := jbh h b
   omega
theorem Be (bs : List (List Ch)) : mu (memory bs) ≤ mus bs := by
 have := jef (l := []) List.Pairwise.nil bs
 simpa [memory, mu] using this
theorem Oo (ls : List (List Ch)) : mu (merged ls) ≤ mus ls := by
 induction ls with
 | nil => exact Nat.le_refl _
 | cons l r ih =>
   rw [Qt, au]
   have := jbh (zg r) l
   omega
theorem jee (l : List Ch) : mu (there l) ≤ mu l := by
 induction l with
 | nil => exact Nat.le_refl _
 | cons c r ih =>
   unfold there at ih ⊢
   by_cases h : c.gone = true
   · rw [List.filter_cons_of_neg (by simp [h]), Yx]; omega
   · rw [List.filter_cons_of_pos (by simpa using h), Yx, Yx]; omega
theorem Fu (l : List Ch) : 8 * l.length ≤ mu l := by rw [Rj]; omega
theorem Oe (l : List Ch) (m : Nat) (hm : 4 * m < l.length + 4) : (zq l m).length = ((l.take (4 * m)).flatMap entry).length + 9 * m := by
 induction m with
 | zero => simp [zq]
 | succ m ih =>
   have h1 := ih (by omega)
   rw [Cr l m (by omega), List.length_append, h1]
   have e : l.take (4 * (m + 1)) = l.take (4 * m) ++ (l.drop (4 * m)).take 4 := by
     rw [show 4 * (m + 1) = 4 * m + 4 by omega, List.take_add]
   rw [e, List.flatMap_append, List.length_append]
   unfold jr frame
   simp only [List.length_append, jk]
   omega
theorem Ab {l : List Ch} (h : ∀ c ∈ l, allowed c = true) : (ql l).length ≤ mu l + 40 := by
 rw [Aa]
 have h1 := Oe l ((l.length + 3) / 4) (by omega)
 have h2 := Xt h ((l.length + 3) / 4) (by omega)
 rw [List.take_of_length_le (by omega)] at h1
 have h3 := Rj l
 simp only [List.length_append, jk, frame]
 omega
theorem kv (n : Nat) (b : List Ch) : (j5 n b).length + 8 * b.length = 17 + mu b := by
 have h3 := Rj b
 unfold j5 frame
 simp only [List.length_append, jk]
 omega
theorem Ut (last : Nat) (bs : List (List Ch)) : (jy last bs).length ≤ mus bs + 17 * bs.length := by
 induction bs generalizing last with
 | nil => simp [jy]
 | cons b r ih =>
   have e : jy last (b :: r) = j5 (last + 1) b ++ jy (last + 1) r := by simp [jy, j5]
   have h1 := ih (last + 1)
   have h2 := kv (last + 1) b
   rw [e, List.length_append, au, List.length_cons]
   omega
theorem jf1 (last : Nat) (bs : List (List Ch)) (h : ∀ b ∈ bs, Ji b = true) : mus bs ≤ (jy last bs).length + 47 * bs.length := by
 induction bs generalizing last with
 | nil => simp [mus]
 | cons b r ih =>
   have e : jy last (b :: r) = j5 (last + 1) b ++ jy (last + 1) r := by simp [jy, j5]
   have h1 := ih (last + 1) (fun x hx => h x (List.mem_cons_of_mem _ hx))
   have h2 := kv (last + 1) b
   have h3 := ((Jb b).1 (h b List.mem_cons_self)).2.1
   rw [e, List.length_append, au, List.length_cons]
   omega
end Go.Proofs.YtnipbplghijdmaaGreatDoor.Ref
namespace Go.Proofs.YtnipbplghijdmaaGreatDoor
set_option linter.unusedVariables false
structure J4 (i M nx : Nat) (s : Ref.St) : Prop where
 ok : s.Ok
 last : s.last = i
 next : s.m.next ≤ nx
 Al : 1 ≤ s.m.next
 runs : s.m.runs.length ≤ s.m.last
 wt : Ref.mus s.bls + Ref.mus s.bs ≤ M
theorem J4.split {i M nx : Nat} {s : Ref.St} (h : J4 i M nx s) : s.m.last + s.bs.length = i := h.last
theorem Po (m : Ref.Man) : m.settled.length ≤ m.runs.length + 1 := by
 unfold Ref.Man.settled
 split <;> simp
theorem J4.first : J4 0 0 2 Ref.St.first := ⟨Ref.St.Ok.first, rfl, by decide, by decide, by decide, by decide⟩
theorem J4.write {i M nx : Nat} {s : Ref.St} (h : J4 i M nx s) {es : List Ref.Ch} (hb : Ref.Ji es = true) (hi : i < 1000000) : J4 (i + 1) (M + Ref.mu es) nx (s.write es) := by
 have hlast := h.last
 refine ⟨h.ok.write hb (by omega), ?_, h.next, h.Al, h.runs, ?_⟩
 · show s.m.last + (s.bs ++ [es]).length = i + 1
   rw [List.length_append, List.length_singleton]
   unfold Ref.St.last at hlast
   omega
 · show Ref.mus s.bls + Ref.mus (s.bs ++ [es]) ≤ M + Ref.mu es
   rw [Ref.mh]
   have := h.wt
   omega
theorem J4.mem {i M nx : Nat} {s : Ref.St} (h : J4 i M nx s) : 8 * s.mem.length ≤ M := by
 have h1 := Ref.Fu s.mem
 have h2 : Ref.mu s.mem ≤ Ref.mus s.bs := Ref.Be s.bs
 have := h.wt
 omega
theorem J4.all {i M nx : Nat} {s : Ref.St} (h : J4 i M nx s) : 8 * s.all.length ≤ M := by
 have h1 := Ref.Fu s.all
 have h2 : Ref.mu s.all ≤ Ref.mus (s.mem :: s.bls) := Ref.Oo _
 have h3 : Ref.mu s.mem ≤ Ref.mus s.bs := Ref.Be s.bs
 rw [Ref.au] at h2
 have := h.wt
 omega
theorem J4.merged {i M nx : Nat} {s : Ref.St} (h : J4 i M nx s) : 8 * (Ref.merged s.bls).length ≤ M ∧ Ref.mu s.live ≤ Ref.mus s.bls := by
 have h1 := Ref.Fu (Ref.merged s.bls)
 have h2 := Ref.Oo s.bls
 have h3 := Ref.jee (Ref.merged s.bls)
 have := h.wt
 exact ⟨by omega, Nat.le_trans h3 h2⟩
theorem J4.tell {i M nx : Nat} {s : Ref.St} (h : J4 i M nx s) : 8 * s.tell.length ≤ M := by
 have h1 := h.all
 have h2 : s.tell.length ≤ s.all.length := List.length_filter_le _ _
 omega
theorem J4.flush {i M nx : Nat} {s : Ref.St} (h : J4 i M nx s) (hi : i < 60000) (hM : M < 400000) (hn : nx + 2 ≤ 2000000000) : J4 i M (nx + 2) s.flush := by
 by_cases hb : s.bs = []
 · have e : s.flush = s := by unfold Ref.St.flush; rw [if_pos hb]
   rw [e]
   exact ⟨h.ok, h.last, by have := h.next; omega, h.Al, h.runs, h.wt⟩
 · have e : s.flush = ⟨s.m.xz s.last, [], s.mem :: s.bls⟩ := by unfold Ref.St.flush; rw [if_neg hb]
   have hpos := List.length_pos_iff.2 hb
   have hlast := h.last
   have hnx := h.next
   have hm := h.mem
   have hr := h.runs
   unfold Ref.St.last at hlast
   have ok := h.ok.flush (by omega) (by omega) h.Al (by omega)
   rw [e] at ok ⊢
   refine ⟨ok, ?_, ?_, by show 1 ≤ s.m.next + 2; omega, ?_, ?_⟩
   · show s.last + 0 = i
     exact h.last
   · show s.m.next + 2 ≤ nx + 2
     omega
   · show (s.m.next :: s.m.runs).length ≤ s.last
     rw [List.length_cons]
     unfold Ref.St.last
     omega
   · show Ref.mus (s.mem :: s.bls) + Ref.mus [] ≤ M
     rw [Ref.au]
     have h1 : Ref.mu s.mem ≤ Ref.mus s.bs := Ref.Be s.bs
     have h2 := h.wt
     have h3 : Ref.mus [] = 0 := rfl
     omega
theorem J4.compact {i M nx : Nat} {s : Ref.St} (h : J4 i M nx s) (hM : M < 400000) (hn : nx + 1 ≤ 2000000000) : J4 i M (nx + 1) s.compact := by
 have hw := h.wt
 have hnx := h.next
 obtain ⟨m1, m2⟩ := h.merged
 have hl : s.live.length ≤ (Ref.merged s.bls).length := List.length_filter_le _ _
 have ok := h.ok.compact (by omega) (by omega)
 by_cases hr : s.m.runs = []
 · have e : s.compact = s := by unfold Ref.St.compact; rw [if_pos hr]
   rw [e]
   exact ⟨h.ok, h.last, by omega, h.Al, h.runs, h.wt⟩
 · by_cases hv : s.live = []
   · have e : s.compact = ⟨s.m.bare, s.bs, []⟩ := by unfold Ref.St.compact; rw [if_neg hr, if_pos hv]
     rw [e] at ok ⊢
     refine ⟨ok, h.last, by show s.m.next ≤ nx + 1; omega, h.Al, Nat.zero_le _, ?_⟩
     show Ref.mus [] + Ref.mus s.bs ≤ M
     have h3 : Ref.mus [] = 0 := rfl
     omega
   · have e : s.compact = ⟨s.m.zi, s.bs, [s.live]⟩ := by unfold Ref.St.compact; rw [if_neg hr, if_neg hv]
     rw [e] at ok ⊢
     refine ⟨ok, h.last, by show s.m.next + 1 ≤ nx + 1; omega, by show 1 ≤ s.m.next + 1; omega, Nat.zero_le _, ?_⟩
     show Ref.mus [s.live] + Ref.mus s.bs ≤ M
     have h3 : Ref.mus [s.live] = Ref.mu s.live := by simp [Ref.mus]
     omega
theorem Bo : ∀ (ns : List Nat) (ls : List (List Ref.Ch)), (∀ l ∈ ls, ∀ c ∈ l, Ref.allowed c = true) → qm (yo ns ls) ≤ Ref.mus ls + 40 * ls.length
 | [], ls, _ => by simp [yo, qm]
 | n :: r, [], _ => by simp [yo, qm]
 | n :: r, l :: q, h => by
   have h1 := Bo r q (fun x hx => h x (List.mem_cons_of_mem _ hx))
   have h2 := Ref.Ab (h l List.mem_cons_self)
   have e : yo (n :: r) (l :: q) = (jq n, Ref.ql l) :: yo r q := rfl
   rw [e, yz, Ref.au, List.length_cons]
   show (Ref.ql l).length + _ ≤ _
   omega
theorem J4.size {i M nx : Nat} {s : Ref.St} (h : J4 i M nx s) : qm s.files ≤ 82 + 65 * i + M := by
 unfold Ref.St.files
 rw [yz, yz]
 have h1 := Bo s.m.settled s.bls (fun l hl => (h.ok.bl l hl).allowed)
 have h2 := zt s.m
 have h3 := Ref.Ut s.m.last s.bs
 have h4 := h.ok.len
 have h5 := Po s.m
 have h6 := h.runs
 have h7 := h.split
 have h8 := h.wt
 show s.m.bytes.length + ((Ref.jy s.m.last s.bs).length + _) ≤ _
 omega
theorem J4.room {i M nx : Nat} {s : Ref.St} (h : J4 i M nx s) (hi : i ≤ 40) (hM : M ≤ 7200) : (s.m.xz s.last).bytes.length + (Ref.ql s.mem).length + qm s.files ≤ 20000 := by
 have h1 := h.size
 have h2 := zt (s.m.xz s.last)
 have h3 : (s.m.xz s.last).runs.length = s.m.runs.length + 1 := rfl
 have h4 := h.runs
 have h5 := h.split
 have h6 : (Ref.ql s.mem).length ≤ Ref.mu s.mem + 40 := Ref.Ab (fun c hc => by
   obtain ⟨b, hb, hcb⟩ := Ref.ry hc
   exact ((Ref.Jb b).1 (h.ok.log b hb)).2.2 c hcb)
 have h7 : Ref.mu s.mem ≤ Ref.mus s.bs := Ref.Be s.bs
 have h8 := h.wt
 omega
theorem J4.jgn {i M nx : Nat} {s : Ref.St} (h : J4 i M nx s) (hi : i ≤ 40) (hM : M ≤ 7200) : 42 + (Ref.ql s.live).length + qm s.files ≤ 20000 := by
 have h1 := h.size
 obtain ⟨m1, m2⟩ := h.merged
 have h6 : (Ref.ql s.live).length ≤ Ref.mu s.live + 40 := Ref.Ab (fun c hc => by
   obtain ⟨l, hl, hcl⟩ := Ref.Cw (fun l hl => (h.ok.bl l hl).rising) (Ref.Ex _ c hc)
   exact (h.ok.bl l hl).allowed c hcl)
 have h8 := h.wt
 omega
end Go.Proofs.YtnipbplghijdmaaGreatDoor
