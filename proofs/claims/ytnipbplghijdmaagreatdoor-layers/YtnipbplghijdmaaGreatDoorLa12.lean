/-
  La: FrameTake.
-/
import Derived.BigQuiet
import Derived.Test.YtnipbplghijdmaaGreatDoorLa11
namespace Go.Proofs.YtnipbplghijdmaaGreatDoor
open Go.RowKit Go.Maps Go.WideShapes
set_option linter.unusedVariables false
theorem ja.drewN (w : World) (n : Nat) (T : Nat → Prop) : ja w (w.drewN n) T := by
 induction n with
 | zero => exact ja.refl _ _
 | succ n ih => exact ih.trans (ja.drew _ T) (fun _ _ h => h)
theorem Xb {a b c : World} {r : Nat} (h : ja a b (fun i => i = r)) (k : ja b c (fun i => i = r)) : ja a c (fun i => i = r) := h.trans k (fun _ _ h => h)
theorem Qb {a b : World} {r : Nat} (h : ja a b (fun _ => False)) : ja a b (fun i => i = r) := h.mono (fun _ _ h => h.elim)
theorem Bytes.string {w : World} {v : Value} {l : List UInt8} (h : Bytes w v l) : (convert 84 9 v).run Tryz.prog w = .ok (jc l) w := by
 obtain ⟨p, c, rfl, h1, h2, h3, h4⟩ := h
 cases p with
 | none =>
   have : c = 0 := h3 rfl
   have hl : l = [] := List.eq_nil_of_length_eq_zero (by omega)
   subst hl
   rw [run_convert_bytes_string w _ _ _ none _ c Tryz.underlying84 Tryz.underlying5 Tryz.underlying9]
   simp [Conv.bytesToString]
   rfl
 | some ad => exact run_convert_bytes_back w _ _ _ ad c l Tryz.underlying84 Tryz.underlying5 Tryz.underlying9 (fun j hj => (h4 ad rfl).2 j l[j] (by simp [hj]))
set_option maxHeartbeats 400000 in
set_option maxRecDepth 100000 in
theorem dz {w : World} {r : Nat} {l t q : List UInt8} (hr : Rd w r l) (ht : Ref.x9 l = some (t, q)) :
   Calls Tryz.prog 276 #[.pointer (some ⟨r, 0, none⟩)] w fun e w' => e = .returned (.tuple #[jc t, .nilIface]) ∧ Rd w' r q ∧ ja w w' (fun i => i = r) := by
 cases l with
 | nil => cases ht
 | cons n m =>
   simp only [Ref.x9] at ht
   split at ht
   · rename_i hle
     cases ht
     have hn := n.toNat_lt
     go_enter Tryz.func276, Tryz.ntmps276
     go_wp2_with fail
     refine (y8 (n := 1) hr (by simp) (by omega)).mono ?_
     rintro e w1 ⟨rfl, hr1, k1⟩
     have e1 : Ref.number ((n :: m).take 1) = n.toNat := by simp [Ref.number]
     rw [e1]
     rw [show (n :: m).drop 1 = m from rfl] at hr1
     go_wp2_with fail
     refine (jba (n := n.toNat) hr1 hle).mono ?_
     rintro e w2 ⟨v1, rfl, hb, hr2, k2⟩
     have hs := hb.string
     obtain ⟨p, c, rfl, _⟩ := hb
     have hl : (m.take n.toNat).length = n.toNat := by simp; omega
     rw [hl] at hs ⊢
     go_wp2
     go_ret2
     exact ⟨rfl, hr2, Xb k1 k2⟩
   · cases ht
set_option maxHeartbeats 400000 in
set_option maxRecDepth 100000 in
theorem Io {E : Nat → Addr} {B : Nat} {w : World} {r : Nat} {l : List UInt8} (S : Q0 E B w) (hB : B ≤ r) (hr : Rd w r l) (ht : Ref.x9 l = none) :
   Calls Tryz.prog 276 #[.pointer (some ⟨r, 0, none⟩)] w fun e w' => ∃ v, e = .returned (.tuple #[jc [], v]) ∧ Err E w' v 7 ∧ ja w w' (fun i => i = r) := by
 cases l with
 | nil =>
   go_enter Tryz.func276, Tryz.ntmps276
   go_wp2_with fail
   refine (Qi (n := 1) S hr (by simp) (by omega)).mono ?_
   rintro e w1 ⟨v, rfl, he, hr1, k1⟩
   obtain ⟨t, a, rfl⟩ := he.shape
   go_wp2_with fail
   refine (Ja _ he).mono ?_
   rintro e w2 ⟨v2, rfl, he2, k2⟩
   go_wp2
   go_ret2
   exact ⟨_, rfl, he2, Xb (Qb k1) (Qb k2)⟩
 | cons n m =>
   simp only [Ref.x9] at ht
   split at ht
   · cases ht
   · rename_i hle
     have hn : n.toNat < 256 := n.toNat_lt
     go_enter Tryz.func276, Tryz.ntmps276
     go_wp2_with fail
     refine (y8 (n := 1) hr (by simp) (by omega)).mono ?_
     rintro e w1 ⟨rfl, hr1, k1⟩
     have e1 : Ref.number ((n :: m).take 1) = n.toNat := by simp [Ref.number]
     rw [e1]
     rw [show (n :: m).drop 1 = m from rfl] at hr1
     have S1 := S.keep k1 (fun i e => by rw [e]; exact hB)
     go_wp2_with fail
     refine (Ir (n := n.toNat) S1 hr1 (by omega) (by omega)).mono ?_
     rintro e w2 ⟨v, rfl, he, hr2, k2⟩
     obtain ⟨t, a, rfl⟩ := he.shape
     go_wp2_with fail
     refine (Ja _ he).mono ?_
     rintro e w3 ⟨v2, rfl, he2, k3⟩
     go_wp2
     go_ret2
     exact ⟨_, rfl, he2, Xb k1 (Xb (Qb k2) (Qb k3))⟩
theorem Ref.vo {l h q : List UInt8} (e : Ref.xh l = some (h, q)) : 8 ≤ l.length ∧ 8 + Ref.number (l.take 4) ≤ l.length ∧ Ref.sum h = Ref.number ((l.drop 4).take 4) ∧ h = (l.drop 8).take (Ref.number (l.take 4)) ∧ q = (l.drop 8).drop (Ref.number (l.take 4)) := by
 unfold Ref.xh at e
 split at e
 · rename_i hc
   cases e
   exact ⟨hc.1, hc.2.1, hc.2.2, rfl, by rw [List.drop_drop]⟩
 · cases e
set_option maxHeartbeats 1000000 in
set_option maxRecDepth 100000 in
theorem Dn {G : Nat → Prop} {w : World} {v : Value} {l h q : List UInt8} (hv : Bytes w v l) (hG : l ≠ [] → ∀ p n c, v = .slice (some p) n c → G p.block) (ht : Ref.xh l = some (h, q)) (hl : l.length < 1099511627776) :
   Calls Tryz.prog 240 #[v] w fun e w' => ∃ v1, Bytes w' v1 h ∧ (∃ v2, Bytes w' v2 q ∧ (q ≠ [] → ∀ p n c, v2 = .slice (some p) n c → G p.block) ∧ e = .returned (.tuple #[v1, v2, .nilIface])) ∧ ja w w' (fun _ => False) := by
 obtain ⟨h8, hn, hs, eh, eq⟩ := Ref.vo ht
 go_enter Tryz.func240, Tryz.ntmps240
 go_wp2_with fail
 refine (Ec v l w hv hG).mono ?_
 rintro e w1 ⟨r, rfl, hrs, hr1, k1⟩
 go_wp2_with fail
 refine (y8 (n := 4) hr1 (by omega) (by omega)).mono ?_
 rintro e w2 ⟨rfl, hr2, k2⟩
 go_wp2_with fail
 refine (y8 (n := 4) hr2 (by simp; omega) (by omega)).mono ?_
 rintro e w3 ⟨rfl, hr3, k3⟩
 rw [List.drop_drop] at hr3
 obtain ⟨u, hrr, hu, hg3⟩ := hr3
 obtain ⟨p, c, rfl, h1, h2, hx⟩ := id hu
 clear hx
 unfold maxLen at h2
 simp only [Nat.reduceAdd] at hrr hu h1 hg3
 have hml : (l.drop 8).length = l.length - 8 := by simp
 generalize l.drop 8 = m at hrr hu h1 hml eh eq hg3
 have HG3 : Hid (q ≠ [] → ∀ ad, p = some ad → G ad.block) := fun hq ad e => (hg3 (fun em => hq (by rw [eq, em]; simp)) ad _ _ (by rw [e])).2
 clear hg3
 have c0 := cell_of_heap (o := 0) hrr
 simp at c0
 rw [← hs]
 have hsl := Ref.sum_lt h
 generalize Ref.number (l.take 4) = N at hn eh eq ⊢
 have hNm : N ≤ m.length := by omega
 have hml2 : m.length < 1099511627776 := by omega
 have hsc : ((Ref.sum h : Nat) : Int) % 18446744073709551616 = (Ref.sum h : Nat) := by omega
 clear hml hn h8 ht
 have hb1 := hu.take N hNm
 have hb2 := hu.drop N hNm
 rw [← eh] at hb1
 rw [← eq] at hb2
 have k13 : ja w w3 (fun _ => False) := (k1.trans k2 (fun i hi e => by subst e; omega)).trans k3 (fun i hi e => by have h := e; omega)
 have hNc : N ≤ c := by omega
 have hcn : c = N ∨ ¬ c = N := by omega
 clear hu hrr eh eq hs
 rcases hcn with rfl | hcn
 · have hmc : m.length = c := by omega
   simp only [if_true, Nat.sub_self, hmc] at hb2
   clear hmc
   go_wp2_with fail
   go_quiet (fail)
   go_wp2_with fail
   have kd := k13.trans (ja.drewN w3 nq _) (fun _ _ h => h)
   refine (Ia _ h _ (hb1.same (ja.drewN w3 nq _))).mono ?_
   rintro e w' ⟨rfl, rfl⟩
   go_wp2
   go_ret3
   exact ⟨_, hb1.same (ja.drewN w3 nq _), ⟨_, hb2.same (ja.drewN w3 nq _), (fun hq p' n' c' e => by cases e; exact HG3.out hq _ rfl), rfl⟩, kd⟩
 · simp only [if_neg hcn] at hb2
   go_wp2_with fail
   go_quiet (fail)
   go_wp2_with fail
   have kd := k13.trans (ja.drewN w3 nq _) (fun _ _ h => h)
   refine (Ia _ h _ (hb1.same (ja.drewN w3 nq _))).mono ?_
   rintro e w' ⟨rfl, rfl⟩
   go_wp2
   go_ret3
   exact ⟨_, hb1.same (ja.drewN w3 nq _), ⟨_, hb2.same (ja.drewN w3 nq _), (fun hq p' n' c' e => by
     cases p with
     | none => cases e
     | some a => cases e; rw [add_block]; exact HG3.out hq _ rfl), rfl⟩, kd⟩
theorem Dm {w : World} {v : Value} {l h q : List UInt8} (hv : Bytes w v l) (ht : Ref.xh l = some (h, q)) (hl : l.length < 1099511627776) :
   Calls Tryz.prog 240 #[v] w fun e w' => ∃ v1, Bytes w' v1 h ∧ (∃ v2, Bytes w' v2 q ∧ e = .returned (.tuple #[v1, v2, .nilIface])) ∧ ja w w' (fun _ => False) := by
 refine (Dn (G := fun _ => True) hv (fun _ _ _ _ _ => trivial) ht hl).mono ?_
 rintro e w' ⟨v1, h1, ⟨v2, h2, _, h3⟩, k⟩
 exact ⟨v1, h1, ⟨v2, h2, h3⟩, k⟩
def Vg : List Nat := [7, 8, 4, 3]
def dh (E : Nat → Addr) (w : World) (v : Value) : Prop := ∃ k ∈ Vg, Err E w v k
theorem dh.same {E : Nat → Addr} {w w' : World} {v : Value} (h : dh E w v) (hk : ja w w' (fun _ => False)) : dh E w' v := by
 obtain ⟨k, h1, h2⟩ := h
 exact ⟨k, h1, h2.same hk⟩
theorem dh.shape {E : Nat → Addr} {w : World} {v : Value} (h : dh E w v) : ∃ t a, v = .iface t (.pointer (some a)) := h.choose_spec.2.shape
theorem dh.of {E : Nat → Addr} {w : World} {v : Value} {k : Nat} (h : Err E w v k) (hk : k ∈ Vg) : dh E w v := ⟨k, hk, h⟩
theorem ug {E : Nat → Addr} {w : World} {v : Value} (s : ByteArray) (h : dh E w v) :
   Calls Tryz.prog 128 #[.string s, v] w fun e w' => ∃ v', e = .returned v' ∧ dh E w' v' ∧ ja w w' (fun _ => False) := by
 obtain ⟨k, h1, h2⟩ := h
 refine (Ja s h2).mono ?_
 rintro e w' ⟨v', rfl, h3, h4⟩
 exact ⟨v', rfl, ⟨k, h1, h3⟩, h4⟩
theorem Yg {a b c : World} {r : Nat} (h : ja a b (fun _ => False)) (hr : a.heap.size ≤ r) (k : ja b c (fun i => i = r)) : ja a c (fun _ => False) := h.trans k (fun i hi e => by subst e; omega)
set_option maxHeartbeats 1000000 in
set_option maxRecDepth 100000 in
theorem Bq {E : Nat → Addr} {B : Nat} {w : World} {v : Value} {l : List UInt8} (S : Q0 E B w) (hB : B ≤ w.heap.size) (hv : Bytes w v l) (ht : Ref.xh l = none) (hl : l.length < 1099511627776) :
   Calls Tryz.prog 240 #[v] w fun e w' => ∃ v1, e = .returned (.tuple #[.slice none 0 0, .slice none 0 0, v1]) ∧ dh E w' v1 ∧ ja w w' (fun _ => False) := by
 go_enter Tryz.func240, Tryz.ntmps240
 go_wp2_with fail
 refine (Qz v l w hv).mono ?_
 rintro e w1 ⟨r, rfl, hrs, hr1, k1⟩
 have S1 := S.same k1
 rcases Nat.lt_or_ge l.length 4 with h4 | h4
 · go_wp2_with fail
   refine (Qi (n := 4) S1 hr1 (by omega) (by omega)).mono ?_
   rintro e w2 ⟨v2, rfl, he, hr2, k2⟩
   obtain ⟨t, a, rfl⟩ := he.shape
   go_wp2_with fail
   refine (Ja _ he).mono ?_
   rintro e w3 ⟨v3, rfl, he3, k3⟩
   go_wp2
   go_ret3
   exact ⟨_, rfl, ⟨_, by decide, he3⟩, (k1.trans k2 (fun _ _ h => h)).trans k3 (fun _ _ h => h)⟩
 · go_wp2_with fail
   refine (y8 (n := 4) hr1 (by omega) (by omega)).mono ?_
   rintro e w2 ⟨rfl, hr2, k2⟩
   have k12 := Yg k1 hrs k2
   have S2 := S.same k12
   rcases Nat.lt_or_ge l.length 8 with h8 | h8
   · go_wp2_with fail
     refine (Qi (n := 4) S2 hr2 (by simp; omega) (by omega)).mono ?_
     rintro e w3 ⟨v2, rfl, he, hr3, k3⟩
     obtain ⟨t, a, rfl⟩ := he.shape
     go_wp2_with fail
     refine (Ja _ he).mono ?_
     rintro e w4 ⟨v3, rfl, he3, k4⟩
     go_wp2
     go_ret3
     exact ⟨_, rfl, ⟨_, by decide, he3⟩, (k12.trans k3 (fun _ _ h => h)).trans k4 (fun _ _ h => h)⟩
   · go_wp2_with fail
     refine (y8 (n := 4) hr2 (by simp; omega) (by omega)).mono ?_
     rintro e w3 ⟨rfl, hr3, k3⟩
     have k13 := Yg k12 hrs k3
     have S3 := S.same k13
     have s7 := S3.cell 7 (by decide)
     have s8 := S3.cell 8 (by decide)
     rw [List.drop_drop] at hr3
     obtain ⟨u, hrr, hu, _⟩ := hr3
     obtain ⟨p, c, rfl, h1, h2, hx⟩ := id hu
     clear hx
     unfold maxLen at h2
     simp only [Nat.reduceAdd] at hrr hu h1
     have hml : (l.drop 8).length = l.length - 8 := by simp
     have hno : ¬ (Ref.number (l.take 4) ≤ (l.drop 8).length ∧ Ref.sum ((l.drop 8).take (Ref.number (l.take 4))) = Ref.number ((l.drop 4).take 4)) := by
       rintro ⟨e1, e2⟩
       unfold Ref.xh at ht
       rw [if_pos ⟨h8, by omega, e2⟩] at ht
       cases ht
     have hN4 := Ref.Yq (l.take 4)
     rw [show (l.take 4).length = 4 by simp; omega] at hN4
     have hM4 := Ref.Yq ((l.drop 4).take 4)
     rw [show ((l.drop 4).take 4).length = 4 by simp; omega] at hM4
     generalize l.drop 8 = m at hrr hu h1 hml hno
     have c0 := cell_of_heap (o := 0) hrr
     simp at c0
     generalize Ref.number (l.take 4) = N at hno hN4 ⊢
     generalize Ref.number ((l.drop 4).take 4) = M at hno hM4 ⊢
     have hml2 : m.length < 1099511627776 := by omega
     clear hml ht
     rcases Nat.lt_or_ge m.length N with hNm | hNm
     · clear hu hrr hno
       go_wp2_with fail
       refine (Ja _ (.base (E := E) 7 (by decide))).mono ?_
       rintro e w4 ⟨v3, rfl, he3, k4⟩
       go_wp2
       go_ret3
       exact ⟨_, rfl, ⟨_, by decide, he3⟩, k13.trans k4 (fun _ _ h => h)⟩
     · have hne : ¬ Ref.sum (m.take N) = M := fun e => hno ⟨hNm, e⟩
       have hb1 := hu.take N hNm
       have hsl := Ref.sum_lt (m.take N)
       have hsc : ((Ref.sum (m.take N) : Nat) : Int) % 18446744073709551616 = (Ref.sum (m.take N) : Nat) := by omega
       have hne2 : (((Ref.sum (m.take N) : Nat) : Int) == (M : Int)) = false := by simp; omega
       generalize m.take N = h at hb1 hsl hsc hne2 hne
       have hNc : N ≤ c := by omega
       have hcn : c = N ∨ ¬ c = N := by omega
       clear hu hrr hno
       rcases hcn with rfl | hcn
       all_goals
         go_wp2_with fail
         go_quiet (fail)
         go_wp2_with fail
         have kd := k13.trans (ja.drewN w3 nq _) (fun _ _ h => h)
         refine (Ia _ h _ (hb1.same (ja.drewN w3 nq _))).mono ?_
         rintro e w' ⟨rfl, rfl⟩
         go_wp2_with fail
         refine (Ja _ (.base (E := E) 8 (by decide))).mono ?_
         rintro e w4 ⟨v3, rfl, he3, k4⟩
         go_wp2
         go_ret3
         exact ⟨_, rfl, ⟨_, by decide, he3⟩, kd.trans k4 (fun _ _ h => h)⟩
end Go.Proofs.YtnipbplghijdmaaGreatDoor
