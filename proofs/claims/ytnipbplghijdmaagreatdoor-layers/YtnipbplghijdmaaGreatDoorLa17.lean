/-
  La: ManCheck ManAll Search.
-/
import Derived.Sort.OwnSortedInts
import Derived.Test.YtnipbplghijdmaaGreatDoorLa16
import Derived.Test.YtnipbplghijdmaaGreatDoorLa14
import Derived.Test.YtnipbplghijdmaaGreatDoorLa08
namespace Go.Proofs.YtnipbplghijdmaaGreatDoor
open Go.RowKit Go.Maps Go.WideShapes Go.Sort
set_option linter.unusedVariables false
def ui (zs : List Int) : Prop := ∀ j, ∀ h : j + 1 < zs.length, zs[j + 1] ≠ zs[j]
theorem Kz {zs : List Int} (hs : zs.Pairwise (· ≤ ·)) (ha : ui zs) : zs.Nodup := by
 induction zs with
 | nil => exact List.nodup_nil
 | cons x r ih =>
   rw [List.pairwise_cons] at hs
   have ha' : ui r := fun j h => by
     have := ha (j + 1) (by simpa using h)
     simpa using this
   refine List.nodup_cons.2 ⟨fun hx => ?_, ih hs.2 ha'⟩
   cases r with
   | nil => cases hx
   | cons y t =>
     have h1 := hs.1 y List.mem_cons_self
     have h2 : y ≠ x := by have := ha 0 (by simp); simpa using this
     rcases List.mem_cons.1 hx with e | hx
     · exact h2 e.symm
     · have h3 := (List.pairwise_cons.1 hs.2).1 x hx
       omega
theorem Mf {zs : List Int} (h : zs.Nodup) : ui zs := by
 intro j hj e
 have := (List.nodup_iff_pairwise_ne.1 h)
 rw [List.pairwise_iff_getElem] at this
 exact this j (j + 1) (by omega) hj (by omega) e.symm
def J3 (l : List Nat) : List Int := (l.map Int.ofNat).mergeSort fun x y => decide (x ≤ y)
theorem ow (l : List Nat) : (J3 l).Perm (l.map Int.ofNat) := List.mergeSort_perm _ _
theorem I9 (l : List Nat) : (J3 l).Pairwise (· ≤ ·) := by
 have := List.pairwise_mergeSort (le := fun x y : Int => decide (x ≤ y)) (fun a b c h1 h2 => by simp at *; omega) (fun a b => by simp; omega) (l.map Int.ofNat)
 exact this.imp (fun h => by simpa using h)
theorem vz (l : List Nat) : (J3 l).length = l.length := by rw [(ow l).length_eq]; simp
theorem Du (l : List Nat) (next : Nat) : ((∀ z ∈ J3 l, 1 ≤ z ∧ z < (next : Int)) ∧ ui (J3 l)) ↔ ((∀ n ∈ l, 1 ≤ n ∧ n < next) ∧ l.Nodup) := by
 have hm : ∀ z, z ∈ J3 l ↔ ∃ n ∈ l, (n : Int) = z := fun z => by rw [(ow l).mem_iff]; simp
 have hnd : (J3 l).Nodup ↔ l.Nodup := by
   rw [(ow l).nodup_iff]
   constructor
   · intro h
     rw [List.nodup_iff_pairwise_ne, List.pairwise_map] at h
     exact List.nodup_iff_pairwise_ne.2 (h.imp (fun hne e => hne (by rw [e])))
   · intro h
     rw [List.nodup_iff_pairwise_ne, List.pairwise_map]
     exact (List.nodup_iff_pairwise_ne.1 h).imp (fun hne e => hne (Int.ofNat.inj e))
 constructor
 · rintro ⟨h1, h2⟩
   refine ⟨fun n hn => ?_, hnd.1 (Kz (I9 l) h2)⟩
   have := h1 n ((hm _).2 ⟨n, hn, rfl⟩)
   omega
 · rintro ⟨h1, h2⟩
   refine ⟨fun z hz => ?_, Mf (hnd.2 h2)⟩
   obtain ⟨n, hn, rfl⟩ := (hm z).1 hz
   have := h1 n hn
   omega
def jda (E : Nat → Addr) (w : World) (good : Prop) (e : Ending) (w' : World) : Prop := ja w w' (fun _ => False) ∧ ((good ∧ e = .returned .nilIface) ∨ (¬ good ∧ ∃ v, e = .returned v ∧ dh E w' v))
theorem jdj {w : World} {v : Value} {l : List Nat} {base n : Nat} (hn : l.length = n) (hpos : 0 < n) (hsm : n < 1099511627776) (h : w.ownsRow base 3 1 v n (l.map jf)) :
   Calls Tryz.prog 245 #[v] w fun e w' => e = .returned (.tuple #[]) ∧ w'.ownsRow base 3 1 v n ((J3 l).map (Value.int .i64)) ∧ ja w w' (fun i => some i = v.ownBlock) := by
 subst hn
 rcases h.2 with ⟨_, h0⟩ | ⟨g, cap, cur, rfl, hbase, hb, h1, h2, h3, h4⟩
 · omega
 · have hz : (l.map Int.ofNat).length = l.length := by simp
   have ht : cur.toList.take (l.map Int.ofNat).length = (l.map Int.ofNat).map (Value.int .i64) := by
     rw [hz]
     have : (l.map Int.ofNat).map (Value.int .i64) = l.map jf := by simp
     rw [this]
     simpa using h4
   have hc := Tryz.slices_Sort_int g 0 cap (l.map Int.ofNat) w (holds_of_blockI hb ht) (lt_of_heap hb) (by rw [hz]; omega)
   rw [hz] at hc
   refine hc.mono ?_
   rintro e w' ⟨rfl, nn, os, rfl⟩
   refine ⟨rfl, ?_, ja.grown (grownBy_sortedI _)⟩
   have hr := ownsRow_sortedI (n := nn) (os := os) (ss := l.map Int.ofNat) (ts := J3 l) (by rw [vz, hz]) hbase hb (by rw [hz]; exact h1) h2 h3
   rw [hz] at hr
   exact hr
theorem Kg {w : World} {base n k : Nat} {v : Value} {zs : List Int} (h : w.ownsRow base 3 1 v n (zs.map (Value.int .i64))) (hk : k < zs.length) (hn : 0 < n) : ∃ g c, v = .slice (some ⟨g, 0, none⟩) n c ∧ w.cell? ⟨g, k, none⟩ = some (.int .i64 zs[k]) := by
 rcases h.2 with ⟨_, h0⟩ | ⟨g, cap, cur, e, _⟩
 · omega
 · refine ⟨g, cap, e, ?_⟩
   have := h.cells (g := g) (by rw [e]; rfl) k (.int .i64 zs[k]) (by rw [List.getElem?_map, List.getElem?_eq_getElem hk]; rfl)
   rwa [add_zero] at this
set_option maxHeartbeats 2000000 in
set_option maxRecDepth 100000 in
theorem jc0 {E : Nat → Addr} {B : Nat} {w : World} (m : Ref.Man) (rv : Value) (S : Q0 E B w) (hv : J2 w rv m.runs) (hl : m.runs.length < 1048576) (hi : (m.next : Int) ≤ 9223372036854775807 ∧ (m.last : Int) ≤ 9223372036854775807) :
   Calls Tryz.prog 218 #[mo m rv] w (jda E w (m.last ≤ 1000000000 ∧ (∀ n ∈ m.numbers, 1 ≤ n ∧ n < m.next) ∧ m.numbers.Nodup)) := by
 have hG : (m.last ≤ 1000000000 ∧ (∀ n ∈ m.numbers, 1 ≤ n ∧ n < m.next) ∧ m.numbers.Nodup) = (m.last ≤ 1000000000 ∧ (∀ z ∈ J3 m.numbers, 1 ≤ z ∧ z < (m.next : Int)) ∧ ui (J3 m.numbers)) := propext ⟨fun ⟨a, b⟩ => ⟨a, (Du _ _).2 b⟩, fun ⟨a, b⟩ => ⟨a, (Du _ _).1 b⟩⟩
 rw [hG]
 clear hG
 have hnum := fun w' (h : J2 w' rv m.runs) => Um w' m rv h hl
 have hnl : m.numbers.length ≤ m.runs.length + 2 ∧ 0 < m.numbers.length := by have := ym m; simp [Ref.Man.numbers]; omega
 have hsl := vz m.numbers
 generalize hNN : m.numbers = NN at hnum hnl hsl ⊢
 obtain ⟨next, last, log, base, runs⟩ := m
 simp only at hv hl hi hnum hnl ⊢
 clear hNN
 obtain ⟨i1, i2⟩ := hi
 obtain ⟨pr, cr, rfl, _⟩ := id hv
 have kA := ja.alloc w (.cells #[jf next, jf last, jf log, jf base, .slice pr runs.length cr] 117) (fun _ => False)
 have hT := jd w (.cells #[jf next, jf last, jf log, jf base, .slice pr runs.length cr] 117)
 have HT := hide hT
 clear hT
 rcases Nat.lt_or_ge 1000000000 last with hla | hla
 · have hd2 : (1000000000 : Int) < (last : Int) := by omega
   have hno : Hid (¬ (last ≤ 1000000000 ∧ (∀ z ∈ J3 NN, 1 ≤ z ∧ z < (next : Int)) ∧ ui (J3 NN))) := fun h => by have := h.1; omega
   clear hla
   have s4 := (S.same kA).cell 4 (by decide)
   go_enter Tryz.func218, Tryz.ntmps218
   go_wp2_with fail
   refine (Ja _ (.base (E := E) 4 (by decide))).mono ?_
   rintro e w2 ⟨v2, rfl, he2, k2⟩
   go_wp2
   go_ret
   exact ⟨kA.trans k2 (fun _ _ h => h), .inr ⟨hno.out, _, rfl, .of he2 (by decide)⟩⟩
 · have hd2 : (last : Int) ≤ (1000000000 : Int) := by omega
   have hgo : Hid (((∀ z ∈ J3 NN, 1 ≤ z ∧ z < (next : Int)) ∧ ui (J3 NN)) ↔ (last ≤ 1000000000 ∧ (∀ z ∈ J3 NN, 1 ≤ z ∧ z < (next : Int)) ∧ ui (J3 NN))) := ⟨fun h => ⟨hla, h⟩, fun h => h.2⟩
   generalize (last ≤ 1000000000 ∧ (∀ z ∈ J3 NN, 1 ≤ z ∧ z < (next : Int)) ∧ ui (J3 NN)) = GOOD at hgo ⊢
   clear hla
   go_enter Tryz.func218, Tryz.ntmps218
   go_wp2_with fail
   refine (hnum _ (hv.same kA)).mono ?_
   rintro e w1 ⟨p, c, rfl, hown1, k1⟩
   have K1 := kA.trans k1 (fun _ _ h => h)
   go_wp2_with fail
   refine (jdj rfl hnl.2 (by omega) hown1).mono ?_
   rintro e w2 ⟨rfl, hown2, k2⟩
   have hlt1 := hown1.lt
   have K2 : ja w w2 (fun _ => False) := K1.trans k2 (fun i hi e => by have := (hlt1 i e.symm).1; simp at this; omega)
   have hB2 := k2.same (k1.same HT.out id) (fun e => by have := (hlt1 _ e.symm).1; simp at this; omega)
   have b0 := cell_of_heap (o := 0) hB2
   simp at b0
   have S2 := S.same K2
   have s4 := S2.cell 4 (by decide)
   clear hB2 hown1 hlt1 hnum
   generalize J3 NN = ZS at hsl hgo hown2
   rw [← hsl] at hown2 ⊢
   have hpos : 0 < ZS.length := by omega
   have hzl : ZS.length < 1099511627776 := by omega
   clear hnl hsl
   obtain ⟨g, c2, ev, _⟩ := Kg hown2 hpos hpos
   cases ev
   go_wp2_with fail
   go_loopw [17] (fun i wr => ∃ (k : Nat), k ≤ ZS.length ∧ i = .int .i64 k ∧ wr = w2 ∧ (∀ z ∈ ZS.take k, 1 ≤ z ∧ z < (next : Int)) ∧ (∀ j, ∀ h : j + 1 < ZS.length, j + 1 < k → ZS[j + 1] ≠ ZS[j]))
     (fun i _ => ZS.length - (intOf i).toNat)
   case atStart => exact ⟨0, Nat.zero_le _, rfl, rfl, (fun z hz => by cases hz), fun j h h2 => by omega⟩
   case round =>
     obtain ⟨k, hk, rfl, rfl, hall, hap⟩ := hrel
     have HALL := hide hall
     have HAP := hide hap
     clear hall hap
     rcases Nat.lt_or_ge k ZS.length with hlt | hge
     · obtain ⟨g', c', ev, e0⟩ := Kg hown2 hlt hpos
       cases ev
       have hmem : ZS[k] ∈ ZS := List.getElem_mem hlt
       have hbad : ¬ (1 ≤ ZS[k] ∧ ZS[k] < (next : Int)) → Hid (¬ GOOD) := fun h hg => h ((hgo.out.2 hg).1 _ hmem)
       have hbad2 : ∀ j, ∀ h : j + 1 < ZS.length, ZS[j + 1] = ZS[j] → Hid (¬ GOOD) := fun j h e hg => (hgo.out.2 hg).2 j h e
       rcases Int.lt_or_le ZS[k] 1 with h1 | h1
       · have hno := hbad (by omega)
         clear hbad hbad2
         generalize ZS[k] = z at e0 h1 hmem
         go_wp2_with fail
         refine (Ja _ (.base (E := E) 4 (by decide))).mono ?_
         rintro e w3 ⟨v3, rfl, he3, k3⟩
         go_wp2
         go_ret
         exact ⟨K2.trans k3 (fun _ _ h => h), .inr ⟨hno.out, _, rfl, .of he3 (by decide)⟩⟩
       · rcases Int.lt_or_le ZS[k] (next : Int) with h2 | h2
         · rcases Nat.eq_zero_or_pos k with rfl | hkp
           · have hstep : ∀ z ∈ ZS.take 1, 1 ≤ z ∧ z < (next : Int) := by
               rw [List.take_succ_eq_append_getElem hlt]
               intro z hz
               simp at hz
               rw [hz]
               exact ⟨h1, h2⟩
             have HST := hide hstep
             clear hbad hbad2 hstep
             go_wp2
             exact ⟨⟨1, by omega, by simp, trivial, HST.out, fun j h h3 => by omega⟩, by simp [intOf]; omega⟩
           · obtain ⟨q, rfl⟩ : ∃ q, k = q + 1 := ⟨k - 1, by omega⟩
             obtain ⟨g'', c'', ev, e1⟩ := Kg (k := q) hown2 (by omega) hpos
             cases ev
             rcases Classical.em (ZS[q + 1] = ZS[q]'(by omega)) with h3 | h3
             · have hno := hbad2 q hlt h3
               clear hbad hbad2
               rw [← h3] at e1
               go_wp2_with fail
               refine (Ja _ (.base (E := E) 4 (by decide))).mono ?_
               rintro e w3 ⟨v3, rfl, he3, k3⟩
               go_wp2
               go_ret
               exact ⟨K2.trans k3 (fun _ _ h => h), .inr ⟨hno.out, _, rfl, .of he3 (by decide)⟩⟩
             · have hstep : ∀ z ∈ ZS.take (q + 1 + 1), 1 ≤ z ∧ z < (next : Int) := by
                 rw [List.take_succ_eq_append_getElem hlt]
                 intro z hz
                 rcases List.mem_append.1 hz with hz | hz
                 · exact HALL.out z hz
                 · rw [List.mem_singleton.1 hz]; exact ⟨h1, h2⟩
               have hap : ∀ j, ∀ h : j + 1 < ZS.length, j + 1 < q + 1 + 1 → ZS[j + 1] ≠ ZS[j] := by
                 intro j h hj
                 by_cases hjq : j = q
                 · subst hjq; exact h3
                 · exact HAP.out j h (by omega)
               have HST := hide hstep
               have HAP2 := hide hap
               have h3' : (ZS[q + 1] == ZS[q]'(by omega)) = false := by simpa using h3
               clear hbad hbad2 hstep hap
               go_wp2
               exact ⟨⟨q + 1 + 1, by omega, by simp, trivial, HST.out, HAP2.out⟩, by simp [intOf]; omega⟩
         · have hno := hbad (by omega)
           clear hbad hbad2
           generalize ZS[k] = z at e0 h1 h2 hmem
           go_wp2_with fail
           refine (Ja _ (.base (E := E) 4 (by decide))).mono ?_
           rintro e w3 ⟨v3, rfl, he3, k3⟩
           go_wp2
           go_ret
           exact ⟨K2.trans k3 (fun _ _ h => h), .inr ⟨hno.out, _, rfl, .of he3 (by decide)⟩⟩
     · have ek : k = ZS.length := by omega
       subst ek
       have hyes : GOOD := hgo.out.1 ⟨fun z hz => HALL.out z (by rw [List.take_length]; exact hz), fun j h => HAP.out j h h⟩
       have HY := hide hyes
       clear hyes
       go_wp2
       go_ret
       exact ⟨K2, .inl ⟨HY.out, rfl⟩⟩
set_option maxHeartbeats 2000000 in
set_option maxRecDepth 100000 in
theorem Ff {E : Nat → Addr} {B : Nat} {w : World} {v : Value} {l : List UInt8} (S : Q0 E B w) (hB : B ≤ w.heap.size) (hv : Bytes w v l) (hl : l.length < 8388608) :
   Calls Tryz.prog 178 #[v] w (Tc E w (fun _ => False) (Ref.Dx l)) := by
 rw [← Ref.jei]
 have hR : Ref.jbi l = match Ref.xh l with
   | some (h, []) => (match Ref.Ql h with | some m => if m.Good then some m else none | none => none)
   | _ => none := rfl
 have HR := hide hR
 clear hR
 generalize Ref.jbi l = RES at HR ⊢
 have kA := ja.alloc w (.cells #[jf 0, jf 0, jf 0, jf 0, .slice none 0 0] 117) (fun _ => False)
 have hRB := jd w (.cells #[jf 0, jf 0, jf 0, jf 0, .slice none 0 0] 117)
 have HRB := hide hRB
 clear hRB
 rcases Classical.em (∃ h, Ref.xh l = some (h, [])) with ⟨h, hf⟩ | hf
 · have HR2 : Hid (RES = (match Ref.Ql h with | some m => if m.Good then some m else none | none => none)) := by unfold Hid; rw [HR.out, hf]
   clear HR
   have hhl : h.length < 8388608 := by
     have h1 := congrArg List.length (Ref.Cj hf)
     simp [Ref.frame, Ref.jk] at h1
     omega
   go_enter Tryz.func178, Tryz.ntmps178
   go_wp2_with fail
   refine (oq (hv.same kA) hf (by omega)).mono ?_
   rintro e w1 ⟨v1, rfl, hb1, k1⟩
   have K1 := kA.trans k1 (fun _ _ h => h)
   go_wp2_with fail
   refine (Qz v1 h w1 hb1).mono ?_
   rintro e w2 ⟨r, rfl, hrs, hr2, k2⟩
   have K2 := K1.trans k2 (fun _ _ h => h)
   have S2 := S.same K2
   have hs1 : w.heap.size < w1.heap.size := by have := k1.size; simp at this; omega
   have hBr : B ≤ r := by omega
   go_wp2_with fail
   refine (Kk S2 hBr hr2).mono ?_
   rintro e w3 ⟨k3, ⟨m, p, c, hres, rfl, hown⟩ | ⟨v3, hres, rfl, he⟩⟩
   · obtain ⟨h34, hlen, hmm, hnx, hlx⟩ := Ref.uq hres
     have hrl : m.runs.length < 1048576 := by rw [hmm]; simp only [Ref.He]; omega
     have hRB3 := k3.same (k2.same (k1.same HRB.out id) id) (show ¬ w.heap.size = r by omega)
     have K3 : ja w w3 (fun _ => False) := Yg K2 (by omega) k3
     have S3 := S.same K3
     have HR3 : Hid (RES = if m.Good then some m else none) := by unfold Hid; rw [HR2.out, hres]
     have hG : m.Good ↔ (m.last ≤ 1000000000 ∧ (∀ n ∈ m.numbers, 1 ≤ n ∧ n < m.next) ∧ m.numbers.Nodup) := ⟨fun h => h.2, fun h => ⟨hnx, h⟩⟩
     have hlast : (m.last : Int) ≤ 9223372036854775807 := by omega
     have hnext : (m.next : Int) ≤ 9223372036854775807 := by omega
     have HG := hide hG
     have HRB3 := hide hRB3
     clear hG hRB3 HR2 hmm hres hnx hlx hlen
     have hnums := Qh hown rfl
     have hchk := fun w' (S' : Q0 E B w') (h' : J2 w' (.slice p m.runs.length c) m.runs) => jc0 m (.slice p m.runs.length c) S' h' hrl ⟨hnext, hlast⟩
     obtain ⟨next, last, log, base, runs⟩ := m
     simp only at hown hrl hnums hchk hlast hnext
     have kB := ja.alloc w3 (.cells #[jf next, jf last, jf log, jf base, .slice p runs.length c] 117) (fun _ => False)
     have hMB := jd w3 (.cells #[jf next, jf last, jf log, jf base, .slice p runs.length c] 117)
     have HMB := hide hMB
     clear hMB
     go_wp2_with fail
     refine (hchk _ (S3.same kB) (hnums.same kB)).mono ?_
     rintro e w4 ⟨k4, ⟨hgood, rfl⟩ | ⟨hbad, v4, rfl, he⟩⟩
     · have HN : Hid (RES = some ⟨next, last, log, base, runs⟩) := by unfold Hid; rw [HR3.out, if_pos (HG.out.2 hgood)]
       clear HR3 HG hgood hchk
       have hMB4 := k4.same HMB.out id
       have hRB4 := k4.same (kB.same HRB3.out id) id
       obtain ⟨⟨a0, a1, a2, a3, a4⟩, _⟩ := J9 hMB4
       obtain ⟨⟨q0, q1, q2', q3, q4⟩, qf⟩ := J9 hRB4
       have f0 := qf 0
       have f1 := qf 1
       have f2 := qf 2
       have f3 := qf 3
       have f4 := qf 4
       have HRB4 := hide hRB4
       clear hMB4 hRB4
       go_wp2
       have hb := wm HRB4.out (jf next) (jf last) (jf log) (jf base) (.slice p runs.length c)
       refine bodyPost_ret (Ad (n := next) (l := last) (g := log) (s := base) (p := p) (k := runs.length) (c := c) rfl rfl hb) rfl ?_
       have ks := Zu w4 w.heap.size (jf next) (jf last) (jf log) (jf base) (.slice p runs.length c)
       refine ⟨((K3.trans kB (fun _ _ h => h)).trans k4 (fun _ _ h => h)).trans ks (fun i hi e => by have e' : i = w.heap.size := e; omega), .inl ⟨⟨next, last, log, base, runs⟩, p, c, HN.out, rfl, ?_⟩⟩
       have hown4 := k4.row (kB.row hown (fun _ _ h => h)) (fun _ _ h => h)
       exact xx (ks.row hown4 (fun g hg e => by have h1 := (hown4.lt g hg).1; have e' : g = w.heap.size := e; have := k2.size; omega)) K2.size
     · have HN : Hid (RES = none) := by unfold Hid; rw [HR3.out, if_neg (fun h => hbad (HG.out.1 h))]
       clear HR3 HG hbad hchk
       obtain ⟨t, a, rfl⟩ := he.shape
       go_wp2_with fail
       refine (ug _ he).mono ?_
       rintro e w5 ⟨v5, rfl, he5, k5⟩
       have hRB5 := k5.same (k4.same (kB.same HRB3.out id) id) id
       obtain ⟨⟨q0, q1, q2', q3, q4⟩, qf⟩ := J9 hRB5
       have f0 := qf 0
       have f1 := qf 1
       have f2 := qf 2
       have f3 := qf 3
       have f4 := qf 4
       have H5 := hide hRB5
       clear hRB5
       go_wp2
       exact Yr (v := v5) rfl rfl rfl rfl HN.out H5.out (Nat.le_refl _) he5 (((K3.trans kB (fun _ _ h => h)).trans k4 (fun _ _ h => h)).trans k5 (fun _ _ h => h))
   · have HN : Hid (RES = none) := by unfold Hid; rw [HR2.out, hres]
     clear HR2
     have K3 : ja w w3 (fun _ => False) := Yg K2 (by omega) k3
     have hRB3 := k3.same (k2.same (k1.same HRB.out id) id) (show ¬ w.heap.size = r by omega)
     have HRB3 := hide hRB3
     clear hRB3
     obtain ⟨t, a, rfl⟩ := he.shape
     go_wp2_with fail
     refine (ug _ (he.same (ja.alloc w3 _ _))).mono ?_
     rintro e w5 ⟨v5, rfl, he5, k5⟩
     have hRB5 := k5.same ((ja.alloc w3 _ (fun _ => False)).same HRB3.out id) id
     obtain ⟨⟨q0, q1, q2', q3, q4⟩, qf⟩ := J9 hRB5
     have f0 := qf 0
     have f1 := qf 1
     have f2 := qf 2
     have f3 := qf 3
     have f4 := qf 4
     have H5 := hide hRB5
     clear hRB5
     go_wp2
     exact Yr (v := v5) rfl rfl rfl rfl HN.out H5.out (Nat.le_refl _) he5 ((K3.more _).trans k5 (fun _ _ h => h))
 · have hno : ∀ h, Ref.xh l ≠ some (h, []) := fun h e => hf ⟨h, e⟩
   have HN : Hid (RES = none) := by
     unfold Hid
     rw [HR.out]
     split
     · rename_i h e
       exact absurd e (hno h)
     · rfl
   clear HR
   go_enter Tryz.func178, Tryz.ntmps178
   go_wp2_with fail
   refine (Mm (S.same kA) (Nat.le_trans hB kA.size) (hv.same kA) hno (by omega)).mono ?_
   rintro e w1 ⟨v1, rfl, he, k1⟩
   obtain ⟨t, a, rfl⟩ := he.shape
   go_wp2_with fail
   refine (ug _ he).mono ?_
   rintro e w5 ⟨v5, rfl, he5, k5⟩
   have hRB5 := k5.same (k1.same HRB.out id) id
   obtain ⟨⟨q0, q1, q2', q3, q4⟩, qf⟩ := J9 hRB5
   have f0 := qf 0
   have f1 := qf 1
   have f2 := qf 2
   have f3 := qf 3
   have f4 := qf 4
   have H5 := hide hRB5
   clear hRB5
   go_wp2
   exact Yr (v := v5) rfl rfl rfl rfl HN.out H5.out (Nat.le_refl _) he5 ((kA.trans k1 (fun _ _ h => h)).trans k5 (fun _ _ h => h))
end Go.Proofs.YtnipbplghijdmaaGreatDoor
namespace Go.Proofs.YtnipbplghijdmaaGreatDoor
open Go.RowKit Go.Maps Go.WideShapes
set_option linter.unusedVariables false
abbrev j4 (n : Nat) : Value := .int .i64 n
def Fz (a b : List UInt8) : Int := Lib.compareBytes a b
set_option maxRecDepth 100000 in
theorem Yk (c : Ref.Ch) (key : Str) (w : World) :
   Calls Tryz.prog 154 #[chV c, jc key] w fun e w' => e = .returned (.int .i64 (Fz c.key key)) ∧ ja w w' (fun _ => False) := by
 obtain ⟨k, v, g⟩ := c
 go_enter Tryz.func154, Tryz.ntmps154
 go_wp2_with (go_at_call 190; refine (Tryz.strings_Compare ⟨k.toArray⟩ ⟨key.toArray⟩ _).mono ?_; rintro e w' ⟨rfl, rfl⟩)
 go_ret
 exact ⟨by simp [Fz], ja.alloc w _ _⟩
theorem bz (a b : List UInt8) : (a < b ∧ Fz a b = -1) ∨ (a = b ∧ Fz a b = 0) ∨ (b < a ∧ Fz a b = 1) := by
 unfold Fz
 induction a generalizing b with
 | nil =>
   cases b with
   | nil => exact .inr (.inl ⟨rfl, rfl⟩)
   | cons y t => exact .inl ⟨by simp, rfl⟩
 | cons x r ih =>
   cases b with
   | nil => exact .inr (.inr ⟨by simp, rfl⟩)
   | cons y t =>
     rw [Lib.compareBytes]
     by_cases h1 : x < y
     · rw [if_pos h1]
       exact .inl ⟨List.cons_lt_cons_iff.2 (.inl h1), rfl⟩
     · rw [if_neg h1]
       by_cases h2 : y < x
       · rw [if_pos h2]
         exact .inr (.inr ⟨List.cons_lt_cons_iff.2 (.inl h2), rfl⟩)
       · rw [if_neg h2]
         have e : x = y := UInt8.le_antisymm (UInt8.not_lt.1 h2) (UInt8.not_lt.1 h1)
         subst e
         rcases ih t with ⟨h, h'⟩ | ⟨h, h'⟩ | ⟨h, h'⟩
         · exact .inl ⟨List.cons_lt_cons_iff.2 (.inr ⟨rfl, h⟩), h'⟩
         · exact .inr (.inl ⟨by rw [h], h'⟩)
         · exact .inr (.inr ⟨List.cons_lt_cons_iff.2 (.inr ⟨rfl, h⟩), h'⟩)
theorem je6 {l : List Ref.Ch} {k : List UInt8} {n : Nat} (hn : n ≤ l.length) (h1 : ∀ j, ∀ h : j < l.length, j < n → l[j].key < k) (h2 : ∀ j, ∀ h : j < l.length, n ≤ j → ¬ l[j].key < k) : Ref.below l k = n := by
 unfold Ref.below
 induction l generalizing n with
 | nil => simp at hn; simp [hn]
 | cons x r ih =>
   cases n with
   | zero =>
     have := h2 0 (by simp) (Nat.le_refl _)
     simp only [List.getElem_cons_zero] at this
     simp [this]
   | succ n =>
     have h0 := h1 0 (by simp) (by omega)
     simp only [List.getElem_cons_zero] at h0
     have := ih (n := n) (by simpa using hn) (fun j h hj => by have := h1 (j + 1) (by simpa using h) (by omega); simpa using this) (fun j h hj => by have := h2 (j + 1) (by simpa using h) (by omega); simpa using this)
     simp [h0, this]
theorem Om {l : List Ref.Ch} (h : Ref.ji l) {i j : Nat} (hj : j < l.length) (hij : i < j) : (l[i]'(by omega)).key < l[j].key := by
 unfold Ref.ji at h
 rw [List.pairwise_iff_getElem] at h
 exact h i j (by omega) hj hij
set_option maxHeartbeats 2000000 in
set_option maxRecDepth 100000 in
theorem Kb (v : Value) (l : List Ref.Ch) (key : Str) (w : World) (hv : Chs w v l) (hr : Ref.ji l) (hl : l.length < 1099511627776) :
   Calls Tryz.prog 153 #[v, jc key, .func (.func 154) #[] #[]] w fun e w' =>
     e = .returned (.tuple #[j4 (Ref.below l key), .bool (decide ((l[Ref.below l key]?).map Ref.Ch.key = some key))]) ∧ ja w w' (fun _ => False) := by
 obtain ⟨p, c, rfl, _⟩ := id hv
 go_enter Tryz.func153, Tryz.ntmps153
 go_wp2_with fail
 go_loopw [9, 10] (fun a b wr => ∃ (lo hi : Nat), a = .int .i64 lo ∧ b = .int .i64 hi ∧ lo ≤ hi ∧ hi ≤ l.length ∧ (∀ j, ∀ h : j < l.length, j < lo → l[j].key < key) ∧ (∀ j, ∀ h : j < l.length, hi ≤ j → ¬ l[j].key < key) ∧ ja w wr (fun _ => False))
   (fun a b _ => (intOf b - intOf a).toNat)
 case atStart => exact ⟨0, l.length, rfl, rfl, Nat.zero_le _, Nat.le_refl _, (fun j h h2 => by omega), (fun j h h2 => by omega), ja.refl _ _⟩
 case round =>
   obtain ⟨lo, hi, rfl, rfl, h1, h2, hlo, hhi, hkw⟩ := hrel
   have HLO := hide hlo
   have HHI := hide hhi
   clear hlo hhi
   rcases Nat.lt_or_ge lo hi with hlt | hge
   · have hm : (lo + hi) / 2 < l.length := by omega
     have hvr := hv.same hkw
     obtain ⟨b, o, rfl, e0, e1, e2⟩ := hvr.at hm
     have hdv : ((lo : Int) + (hi : Int)) / 2 = (((lo + hi) / 2 : Nat) : Int) := by omega
     have hmd : ((lo : Int) + (hi : Int)) % 18446744073709551616 = (lo : Int) + (hi : Int) := by omega
     generalize hM : (lo + hi) / 2 = m at hm e0 e1 e2 hdv
     have hm1 : lo ≤ m := by omega
     have hm2 : m < hi := by omega
     have hnotlt : ¬ l[m].key < key → ∀ j, ∀ h : j < l.length, m ≤ j → ¬ l[j].key < key := by
       intro hn j h hj hc
       rcases Nat.eq_or_lt_of_le hj with e | hj
       · subst e; exact hn hc
       · exact hn (List.lt_trans (Om hr h hj) hc)
     have hless : l[m].key < key → ∀ j, ∀ h : j < l.length, j < m + 1 → l[j].key < key := by
       intro hn j h hj
       rcases Nat.lt_or_ge j m with hj | hj
       · exact List.lt_trans (Om hr hm hj) hn
       · have : j = m := by omega
         subst this; exact hn
     have HNL := hide hnotlt
     have HLS := hide hless
     clear hnotlt hless
     rcases bz l[m].key key with ⟨hc, ec⟩ | ⟨hc, ec⟩ | ⟨hc, ec⟩
     · have hl2 := HLS.out hc
       have HL2 := hide hl2
       clear hl2 hc HLS HNL
       go_wp2_with (go_at_call 154; refine (Yk l[m] key wr).mono ?_; rintro e w1 ⟨rfl, k1⟩; rw [ec])
       exact ⟨⟨m + 1, hi, by simp, by simp, by omega, by omega, HL2.out, HHI.out, hkw.trans k1 (fun _ _ h => h)⟩, by simp [intOf]; omega⟩
     · have hh2 := HNL.out (by rw [hc]; exact List.lt_irrefl _)
       have HH2 := hide hh2
       clear hh2 hc HLS HNL
       go_wp2_with (go_at_call 154; refine (Yk l[m] key wr).mono ?_; rintro e w1 ⟨rfl, k1⟩; rw [ec])
       exact ⟨⟨lo, m, by simp, by simp, by omega, by omega, HLO.out, HH2.out, hkw.trans k1 (fun _ _ h => h)⟩, by simp [intOf]; omega⟩
     · have hh2 := HNL.out (List.lt_asymm hc)
       have HH2 := hide hh2
       clear hh2 hc HLS HNL
       go_wp2_with (go_at_call 154; refine (Yk l[m] key wr).mono ?_; rintro e w1 ⟨rfl, k1⟩; rw [ec])
       exact ⟨⟨lo, m, by simp, by simp, by omega, by omega, HLO.out, HH2.out, hkw.trans k1 (fun _ _ h => h)⟩, by simp [intOf]; omega⟩
   · have eh : hi = lo := by omega
     subst eh
     have hb : Ref.below l key = hi := je6 h2 HLO.out HHI.out
     have HBB := hide hb
     clear HLO HHI hb
     rcases Nat.lt_or_ge hi l.length with hlt | hge2
     · have hvr := hv.same hkw
       obtain ⟨b, o, rfl, e0, e1, e2⟩ := hvr.at hlt
       have eg : (l[hi]?).map Ref.Ch.key = some l[hi].key := by rw [List.getElem?_eq_getElem hlt]; rfl
       have EG := hide eg
       clear eg
       rcases bz l[hi].key key with ⟨hc, ec⟩ | ⟨hc, ec⟩ | ⟨hc, ec⟩
       all_goals
         have hne : decide (some l[hi].key = some key) = (Fz l[hi].key key == 0) := by
           rw [ec]
           first
             | (have h3 : ¬ l[hi].key = key := fun e => by rw [e] at hc; exact List.lt_irrefl _ hc
                simp [h3])
             | simp [hc]
         rw [ec] at hne
         have HNE := hide hne
         clear hne hc
         go_wp2_with (go_at_call 154; refine (Yk l[hi] key wr).mono ?_; rintro e w1 ⟨rfl, k1⟩; rw [ec])
         go_ret2
         refine ⟨?_, hkw.trans k1 (fun _ _ h => h)⟩
         rw [HBB.out, EG.out, HNE.out]
         rfl
     · have eg : l[hi]? = none := List.getElem?_eq_none hge2
       have EG := hide eg
       clear eg
       go_wp2
       go_ret2
       refine ⟨?_, hkw⟩
       rw [HBB.out, EG.out]
       rfl
end Go.Proofs.YtnipbplghijdmaaGreatDoor
